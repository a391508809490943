import PyProof.Rows.All
import Wide.All
import OpenK.AllK
import Wide.FinOn
import HandS.ForMost
import HandS.WideBits
import HandS.IsInst
import HandS.Style
import HandS.AnyAll
import HandS.Nested
import HandS.Walk
import HandS.Evl
import HandS.EndTab
import HandS.SortInts
import HandS.SortRule
import HandS.Conv
import HandS.Star
import HandS.Codes
import HandS.Wide
import HandS.Zip
import HandS.DictComp
import HandS.SetFor
import HandS.SetKeys
import HandS.StrMore
import HandS.Replace
import PyProof.ReprRoads
import PyProof.ReprLen
import HandS.Small
import HandS.More
import KE.KDictPairs
import KE.GoesMore
import KE.GoesEnum
import PyProof.SumAny
import PyProof.WalksPairs
import PyProof.GenCompT
import HandS.Lambda
import KE.SortKeyHeap
import HandS.Sort
import HandS.Conv
import HandS.ExcValue
import HandS.ExcOwn
import HandS.GenList
import KE.SortData
import KE.DataMinMax
import KE.GoesEnumKw
import HandS.SortKw
import HandS.Deep
import HandS.TupAny
import PySem.Challenge.RW_tinrecall_k42_samples_spoilt_anywhere
set_option Elab.async false
set_option linter.all false
set_option maxRecDepth 100000
set_option maxHeartbeats 5000000
/-! ## sum(.. for a, b in ..): a generator expression over a list or a tuple of pairs of whole numbers -/
namespace GP
open PySem PySem.Spec PyProof.Rows L2 GxR

/-- a walk whose items are tuples that stand still -/
theorem asTuples {prog : Program} {w : World} {A : Around} {it : Addr} {foot : List Addr} {n : Nat} {Item : Nat → Value → Prop} {At : Nat → Heap → Prop} (W : Walks prog w A it foot [it] n Item At) (loc : Nat → Addr) (held : Nat → Array Value)
    (isT : ∀ j v, j < n → Item j v → v = .ref (loc j)) (apt : ∀ j, j < n → loc j ≠ it)
    (letGo : ∀ (es : List Expr) (k : Nat) (pos : Pos) (j : Nat) (T : Addr) (s : Shared) (Q : Unit → Shared → Prop) (E : Value → Shared → Prop), At j s.heap → Q () s → wpAny (model prog w) A (letOwnedTupleGo (.Tuple es k pos) (.ref it) (.ref T)) Q E s) :
    WalksU prog w A it (foot ++ (List.range n).map loc) [it] n (fun j xs => xs = held j) (fun j h => At j h ∧ ∀ m, m < n → h.IsTuple (loc m) (held m))
      (fun j T h => (j < n ∧ T = loc j) ∧ At (j + 1) h ∧ ∀ m, m < n → h.IsTuple (loc m) (held m)) := by
  have inFoot : ∀ m, m < n → loc m ∈ foot ++ (List.range n).map loc := fun m hm => List.mem_append.mpr (.inr (List.mem_map.mpr ⟨m, List.mem_range.mpr hm, rfl⟩))
  constructor
  case sub => exact fun b hb => List.mem_append.mpr (.inl (W.sub b hb))
  case frame =>
    intro j h h' ⟨a1, a2⟩ kept
    refine ⟨W.frame j h h' a1 fun b hb => kept b (List.mem_append.mpr (.inl hb)), fun m hm => ?_⟩
    obtain ⟨o, e, r⟩ := a2 m hm
    exact ⟨o, kept _ (inFoot m hm) o e, r⟩
  case item =>
    intro j s Q E hj ⟨a1, a2⟩ fin
    refine W.item j s Q E hj a1 fun v h' tk hv a1' kept => ?_
    have still : ∀ m, m < n → h'.IsTuple (loc m) (held m) := fun m hm => by
      obtain ⟨o, e, r⟩ := a2 m hm
      exact ⟨o, kept _ o (fun z => apt m hm (List.mem_singleton.mp z)) e, r⟩
    rw [isT j v hj hv]
    exact fin (loc j) (held j) h' tk rfl (still j hj) ⟨⟨hj, rfl⟩, a1', still⟩ kept
  case go =>
    intro es k pos j T s Q E hm fin
    exact letGo es k pos (j + 1) T s Q E hm.2.1 (fin s.heap hm.2 fun _ _ _ e => e)
  case apart =>
    intro j T h hm z
    rw [hm.1.2] at z
    exact apt j hm.1.1 (List.mem_singleton.mp z)
  case done => exact fun s Q E a fin => W.done s Q E a.1 fin
  case self => exact fun j s Q E a fin => W.self j s Q E a.1 fin

/-- the values vs are tuples that hold the pairs ps -/
def Prs (H : Hp) (vs : List V) (ps : List (Int × Int)) : Prop := vs.length = ps.length ∧ ∀ (i : Nat) p, ps[i]? = some p → ∃ a, vs[i]? = some (.ref a) ∧ H a = some (.tup [.int p.1, .int p.2])

/-- what is asked of the expression's own scope: the two names are its locals, its captured names are the def's -/
def OwnScope (env : Env) (sc : Scope) (xa xb : Str) : Prop :=
  (sc.kind = .function ∧ sc.isCoroutine = false ∧ xa ≠ xb) ∧ (sc.names.lookup (".0" : Str) = some .local ∧ sc.names.lookup xa = some .local ∧ sc.names.lookup xb = some .local) ∧
  (∀ y ∈ sc.names, y.2 ≠ NameKind.cell) ∧ ∀ y ∈ sc.names, y.2 = NameKind.free → ∃ c, env.cells.lookup y.1 = some c

section
variable {X : Cx} {s : Shared} {H : Hp} {σ : L2.St} {pins : List (Addr × Obj)}
/-- a tracked pair in the machine's heap -/
theorem pair_in {T : Addr} {p : Int × Int} (I : Inv X pins σ H s) (e : H T = some (.tup [.int p.1, .int p.2])) : ∃ ta tb, s.heap.IsTuple T #[.int p.1 ta, .int p.2 tb] := by
  obtain ⟨_, its, r, t⟩ := I.hok T _ e
  cases r with
  | cons q1 r =>
    cases r with
    | cons q2 r =>
      cases r
      obtain ⟨ta, rfl⟩ := q1
      obtain ⟨tb, rfl⟩ := q2
      exact ⟨ta, tb, t⟩
/-- the pairs by place: where they stand and what they hold -/
theorem pairs_in {vs : List V} {ps : List (Int × Int)} {its : List Value} (I : Inv X pins σ H s) (hp : Prs H vs ps) (r : Vals vs its) :
    ∃ (loc : Nat → Addr) (held : Nat → Array Value), ∀ j, j < ps.length → its[j]? = some (.ref (loc j)) ∧ s.heap.IsTuple (loc j) (held j) ∧ ∃ p ta tb, ps[j]? = some p ∧ held j = #[.int p.1 ta, .int p.2 tb] := by
  have one : ∀ j, ∃ (T : Addr) (xs : Array Value), j < ps.length → its[j]? = some (.ref T) ∧ s.heap.IsTuple T xs ∧ ∃ p ta tb, ps[j]? = some p ∧ xs = #[.int p.1 ta, .int p.2 tb] := fun j => by
    by_cases hj : j < ps.length
    · obtain ⟨T, e1, e2⟩ := hp.2 j ps[j] (List.getElem?_eq_getElem hj)
      obtain ⟨u, eu, ru⟩ := r.get e1
      cases ru
      obtain ⟨ta, tb, t⟩ := pair_in I e2
      exact ⟨T, _, fun _ => ⟨eu, t, ps[j], ta, tb, List.getElem?_eq_getElem hj, rfl⟩⟩
    · exact ⟨0, #[], fun z => absurd z hj⟩
  exact ⟨fun j => (one j).choose, fun j => (one j).choose_spec.choose, fun j hj => (one j).choose_spec.choose_spec hj⟩

/-- what a walk over the pairs is, begun at the new iterator that o is -/
def Begun (X : Cx) (s : Shared) (P : Addr) (ps : List (Int × Int)) (o : Obj) : Prop :=
  ∃ (foot : List Addr) (Hold : Nat → Array Value → Prop) (At : Nat → Heap → Prop) (Mid : Nat → Addr → Heap → Prop),
    (∀ A' : Around, A'.handled = none → WalksU X.prog X.w A' s.heap.objs.size foot [s.heap.objs.size] ps.length (fun j xs => j < ps.length ∧ Hold j xs) At Mid) ∧
    (∀ j xs, j < ps.length → Hold j xs → ∃ p ta tb, ps[j]? = some p ∧ xs = #[.int p.1 ta, .int p.2 tb]) ∧ At 0 (s.heap.push o) ∧ ∀ b ∈ foot, b < s.heap.objs.size + 1 ∧ b ≠ P
theorem begin_pairs {a P : Addr} {vs : List V} {ps : List (Int × Int)} {tb : Array Value} {Q' : Value → Shared → Prop} (I : Inv X pins σ H s) (hS : SqL X.K H a vs ∨ SqT X.K H a vs) (hp : Prs H vs ps) (hP : H P = some (.tbl tb))
    (fin : ∀ o, Begun X s P ps o → Q' (.ref s.heap.objs.size) { s with heap := s.heap.push o }) : wpAny (model X.prog X.w) X.A (pyIter (.ref a)) Q' X.xe s := by
  have hPo : s.heap.get? P = some { cls := .none, data := .fields tb } := I.hok P _ hP
  have notP : ∀ (b : Addr) (o : Obj) (xs : Array Value) (n : Nat), s.heap.get? b = some o → o.data = .seq xs n → b ≠ P := fun b o xs n e d z => by
    rw [z, hPo] at e
    rw [← Option.some.inj e] at d
    cases d
  have newP : s.heap.objs.size ≠ P := fun z => Nat.lt_irrefl _ (Nat.lt_of_lt_of_eq (Heap.lt_size hPo) z)
  -- from a walk over the items to the pairs
  have mk : ∀ (its : List Value) (o : Obj) (At : Nat → Heap → Prop), Vals vs its → a < s.heap.objs.size → a ≠ P → At 0 (s.heap.push o) →
      (∀ A' : Around, A'.handled = none → Walks X.prog X.w A' s.heap.objs.size [s.heap.objs.size, a] [s.heap.objs.size] its.toArray.size (fun i v => its.toArray[i]? = some v) At) →
      (∀ (A' : Around) (es : List Expr) (k : Nat) (pos : Pos) (j : Nat) (T : Addr) (s' : Shared) (Q : Unit → Shared → Prop) (E : Value → Shared → Prop), At j s'.heap → Q () s' → wpAny (model X.prog X.w) A' (letOwnedTupleGo (.Tuple es k pos) (.ref s.heap.objs.size) (.ref T)) Q E s') →
      Begun X s P ps o := by
    intro its o At r ha haP a0 W go
    obtain ⟨loc, held, hl⟩ := pairs_in I hp r
    have ln : its.toArray.size = ps.length := by rw [List.size_toArray, ← r.length, hp.1]
    have below : ∀ m, m < ps.length → loc m < s.heap.objs.size ∧ loc m ≠ P := fun m hm => by
      obtain ⟨_, ⟨ob, e, _, n, d⟩, _⟩ := hl m hm
      exact ⟨Heap.lt_size e, notP _ _ _ _ e d⟩
    refine ⟨_, _, _, _, fun A' hA => (asTuples (ln ▸ W A' hA) loc held (fun j v hj e => ?_) (fun j hj => Nat.ne_of_lt (below j hj).1) (fun es k pos j T s' Q E => go A' es k pos j T s' Q E)).bound, fun j xs hj e => ?_, ⟨a0, fun m hm => ?_⟩, fun b hb => ?_⟩
    · have e2 : its[j]? = some v := by simpa using e
      rw [(hl j hj).1] at e2
      exact (Option.some.inj e2).symm
    · obtain ⟨_, _, p, ta, tb', e1, e2⟩ := hl j hj
      exact ⟨p, ta, tb', e1, (show xs = held j from e).trans e2⟩
    · obtain ⟨_, ⟨ob, e, rest⟩, _⟩ := hl m hm
      exact ⟨ob, Heap.get?_push_of_some _ e, rest⟩
    · rcases List.mem_append.mp hb with z | z
      · rcases List.mem_cons.mp z with e | e
        · rw [e]; exact ⟨Nat.lt_succ_self _, newP⟩
        · rw [List.mem_singleton.mp e]; exact ⟨Nat.lt_succ_of_lt ha, haP⟩
      · obtain ⟨m, hm, e⟩ := List.mem_map.mp z
        obtain ⟨h1, h2⟩ := below m (List.mem_range.mp hm)
        rw [← e]; exact ⟨Nat.lt_succ_of_lt h1, h2⟩
  rcases hS with hS | hS
  · obtain ⟨its, r, hl, _⟩ := I.list hS
    obtain ⟨o, e, c, n, d⟩ := hl.isList
    refine wpAny_pyIter_list hl.isList (fin _ (mk its _ _ r (Heap.lt_size e) (notP _ _ _ _ e d) ⟨⟨_, Heap.get?_push_size _ rfl, rfl, rfl⟩, ⟨o, Heap.get?_push_of_some _ e, c, n, d⟩⟩ (fun A' hA => Walks.list hA _ a (Nat.ne_of_lt (Heap.lt_size e)) its.toArray) ?_))
    exact fun A' es k pos j T s' Q E at_ q => wpAny_letOwnedTupleGo_listiter at_.1 q
  · obtain ⟨its, r, ⟨o, e, c, n, d⟩, _⟩ := I.tuple hS
    refine wpAny_pyIter_tuple (items := its.toArray) ⟨o, e, c, n, d⟩ (fin _ (mk its _ _ r (Heap.lt_size e) (notP _ _ _ _ e d) ⟨⟨_, Heap.get?_push_size _ rfl, rfl, rfl⟩, ⟨o, Heap.get?_push_of_some _ e, c, n, d⟩⟩ (fun A' hA => Walks.tuple hA _ a (Nat.ne_of_lt (Heap.lt_size e)) its.toArray) ?_))
    exact fun A' es k pos j T s' Q E at_ q => letGo_tupleiter at_.1 q

/-- the expression's code object is made, or found: the table may grow, all else stands -/
theorem code_there {c P : Addr} {gpos : Pos} {qual : Str} {sc : Scope} {tb : Array Value} {Q' : Value → Shared → Prop} {E : Value → Shared → Prop} (hcode : X.env.code = .ref c) (C : PySem.W.CodeHd s.heap c P) (hP : s.heap.get? P = some { cls := .none, data := .fields tb }) (ok : TriplesOk tb.toList)
    (fin : ∀ (code : Value) (h' : Heap) (tk : Nat) (more : Array Value), Heap.ExtBut P s.heap h' → s.heap.objs.size ≤ h'.objs.size → h'.get? P = some { cls := .none, data := .fields (tb ++ more) } → TriplesOk (tb ++ more).toList → Q' code { s with heap := h', toks := tk }) :
    wpAny (model X.prog X.w) X.A (genexprCode X.env gpos qual sc) Q' E s := by
  cases found : codeAmong gpos tb.toList with
  | some old =>
    refine wpAny_genexprCode_hit hcode (C.code hP ok) found ?_
    have e : tb ++ #[] = tb := by simp
    exact fin old s.heap s.toks #[] (Heap.ExtBut.refl _ _) (Nat.le_refl _) (by rw [e]; exact hP) (by rw [e]; exact ok)
  | none =>
    refine wpAny_genexprCodeX hcode (C.code hP ok) (C.tab hP) found fun c' h' tk ext le lt isC _ tab _ => ?_
    obtain ⟨_, _, _, _, _, _, _, _, _, _, _, _, _, _, _, _, _, _, _, okT, _⟩ := isC
    exact fin _ h' tk _ ext (Nat.le_trans le (Nat.le_of_lt lt)) tab.2 okT

/-- the element at a pair of whole numbers: what it gives, wherever the expression runs later -/
def EltAt (X : Cx) (s₁ : Shared) (P : Addr) (sc : Scope) (xa xb : Str) (elt : Expr) (Gives : Int → Int → Value → Prop) : Prop :=
  ∀ (L : Addr) (code : Value) (A' : Around) (E' : Value → Shared → Prop) (a b : Int) (ta tb : Tok) (s₂ : Shared) (m : Str → Option Value), A'.handled = none →
    (∀ x o, x ≠ P → s₁.heap.get? x = some o → s₂.heap.get? x = some o) → s₂.heap.Ns L m → m xa = some (.int a ta) → m xb = some (.int b tb) →
    wpAny (model X.prog X.w) A' (eval elt (genEnv sc (cloFrom X.env.cells sc.names []) L code builtinsNs X.env)) (fun y s₃ => Gives a b y ∧ Keeps s₂ s₃) E' s₂

/-- the generator at g, in the state s₅, before its first item; H₁: what was held when it was made -/
def Fresh (X : Cx) (pins : List (Addr × Obj)) (σ : L2.St) (H₁ : Hp) (P : Addr) (ps : List (Int × Int)) (Gives : Int → Int → Value → Prop) (g : Addr) (s₅ : Shared) : Prop :=
  ∃ (foot writes : List Addr) (Gens : Array GenState → Array GenState → Prop) (Item : Nat → Value → Prop) (At : Nat → Shared → Prop),
    (WalksS X.prog X.w X.A.in1 g foot writes Gens ps.length Item At ∧ At 0 s₅ ∧ ∀ b ∈ foot, b < s₅.heap.objs.size) ∧
    (∀ j v, Item j v → ∃ p, ps[j]? = some p ∧ Gives p.1 p.2 v) ∧ ∀ s₆, Moved writes Gens s₅ s₆ → ∃ H₂, Tabbed P H₁ H₂ ∧ Inv X pins σ H₂ s₆

theorem gen_made {c P : Addr} {elt iter : Expr} {xa xb : Str} {pa pb pt gpos : Pos} {kt : Nat} {sc : Scope} {te : TE} {k : Nat} {Q' : Value → Shared → Prop} {Want : List (Int × Int) → Hp → Prop} {Gives : Int → Int → Value → Prop}
    (room : Room k X.A) (TB : TabB X.base X.mg c P) (hcode : X.env.code = .ref c) (own : OwnScope X.env sc xa xb) (walked : PE X iter te) (plain : ∀ v, genFold iter X.env v = pure v) (I : Inv X pins σ H s)
    (each : ∀ s₁ H₁, Inv X pins σ H₁ s₁ → TabG H₁ P → EltAt X s₁ P sc xa xb elt Gives)
    (h : te σ H fun v H₁ => ∃ (a : Addr) (vs : List V) (ps : List (Int × Int)), v = .ref a ∧ (SqL X.K H₁ a vs ∨ SqT X.K H₁ a vs) ∧ Prs H₁ vs ps ∧ TabG H₁ P ∧ Want ps H₁)
    (fin : ∀ ps H₁ g s₅, Want ps H₁ → Fresh X pins σ H₁ P ps Gives g s₅ → Q' (.ref g) s₅) :
    wpAny (model X.prog X.w) X.A (eval (.GeneratorExp elt [⟨.Tuple [.Name xa pa, .Name xb pb] kt pt, iter, [], 0⟩] sc gpos) X.env) Q' X.xe s := by
  obtain ⟨⟨o1, o2, o3⟩, ⟨o4, o5, o6⟩, o7, o8⟩ := own
  have deep : X.A.depth < recursionLimit := by have := room.dp; omega
  refine wpAny_GeneratorExp_walksQT room.hd o2 (closure_ok o8) o7 o4 o5 o6 o3 o1 deep (thn (walked.run pins s σ H _ I h) fun u s₁ had => ?_) plain
  obtain ⟨_, H₁, I₁, rel, a, vs, ps, rfl, hS, hp, ⟨tb, hP, ok⟩, want⟩ := had
  cases rel
  have tabAt : s₁.heap.get? P = some { cls := .none, data := .fields tb } := I₁.hok P _ hP
  refine begin_pairs I₁ hS hp hP fun o beg => ?_
  obtain ⟨foot, Hold, At, Mid, W, holds, at0, low⟩ := beg
  have statics : cStatics < s₁.heap.objs.size ∧ cStatics ≠ P := by
    obtain ⟨_, ns, _⟩ := I₁.nolimit
    refine ⟨ns.lt, fun z => ?_⟩
    obtain ⟨ob, _, _, e, d, _⟩ := ns
    rw [z, tabAt] at e
    rw [← Option.some.inj e] at d
    cases d
  have quiet : (s₁.heap.push o).NoLimit := I₁.nolimit.push o
  refine ⟨quiet, code_there hcode (TB.code.keeps fun b u e => Heap.get?_push_of_some _ (I₁.bk b u e)) (Heap.get?_push_of_some _ tabAt) ok fun code h₃ tk more ext le tab₃ ok₃ => ?_⟩
  rw [Heap.size_push] at le
  have stays : ∀ b u, b ≠ P → s₁.heap.get? b = some u → h₃.get? b = some u := fun b u hb e => ext b u hb (Heap.get?_push_of_some _ e)
  obtain ⟨bm, ob, f1, f2, f3, f4, f5, f6, f7, f8⟩ := TB.bm
  have globals : Heap.Ns h₃ X.env.globals X.mg := by
    rw [I₁.ok.glob]
    exact ((I₁.mod.glob.keeps I₁.bk).push o).extBut ext TB.gP
  refine wpAny_builtinsFor (m := X.mg) globals f1 f2 (stays bm ob f4 (I₁.bk bm ob f5)) f6 f7 f8 ?_
  have later : ∀ b u, s₁.heap.get? b = some u → b ∉ [h₃.objs.size, s₁.heap.objs.size] := fun b u e z => by
    have lt := Heap.lt_size e
    rcases List.mem_cons.mp z with z' | z'
    · exact Nat.lt_irrefl _ (Nat.lt_of_lt_of_le (z' ▸ lt) (Nat.le_of_succ_le le))
    · exact Nat.lt_irrefl _ (List.mem_singleton.mp z' ▸ lt)
  refine ⟨_, _, _, _, _, _, _, fun _ => true, fun i y => i < ps.length → ∃ p, ps[i]? = some p ∧ Gives p.1 p.2 y, rfl, W, fun i xs hx => ?_, ?_, fun b hb => Nat.lt_of_lt_of_le (low b hb).1 le, quiet.extBut ext statics.2, fun z => Nat.ne_of_lt statics.1 (List.mem_singleton.mp z), fun ref kept => ⟨?_, ?_⟩, ?_⟩
  · obtain ⟨p, ta, tb', _, e⟩ := holds i xs hx.1 hx.2
    exact ⟨_, _, e⟩
  · exact (W X.A room.hd).frame _ _ _ at0 fun b hb u e => ext b u (low b hb).2 e
  · intro A' E' i va vb s₂ m _ _ _ _ _ _
    rw [List.forIn_nil]
    exact wpAny_pure ⟨rfl, _, _, rfl, fun _ _ e => e⟩
  · intro A' E' i va vb s₂ m calm hx _ ns ea eb still
    obtain ⟨p, ta, tb', ep, e⟩ := holds i _ hx.1 hx.2
    have e1 : va = .int p.1 ta := by have z := congrArg (·[0]?) e; simpa using z
    have e2 : vb = .int p.2 tb' := by have z := congrArg (·[1]?) e; simpa using z
    subst e1 e2
    refine wpAny_mono (each s₁ H₁ I₁ ⟨tb, hP, ok⟩ _ code A' E' p.1 p.2 ta tb' s₂ m calm (fun b u hb q => ?_) ns ea eb) (fun y s₃ r => ⟨fun _ => ⟨p, ep, r.1⟩, r.2⟩) fun _ _ q => q
    have q3 := stays b u hb q
    exact still b (List.mem_range.mpr (Heap.lt_size q3)) (fun z => later b u q (List.mem_cons_of_mem _ z)) u (kept b u q3)
  · intro g h₅ tk₅ gs bare above size kept W₅ at₅
    rw [GxR.passing_true, List.length_range] at W₅
    have above' : h₃.objs.size < g := above
    have size' : h₅.objs.size = g + 1 := size
    refine fin ps H₁ g _ want ⟨_, _, _, _, _, ⟨W₅.in4_1, at₅, fun b hb => ?_⟩, fun j v it => ?_, fun s₆ mv => ?_⟩
    · show b < h₅.objs.size
      rw [size']
      rcases List.mem_cons.mp hb with eg | e
      · rw [eg]; exact Nat.lt_succ_self g
      · refine Nat.lt_succ_of_le (Nat.le_trans ?_ (Nat.le_of_lt above'))
        rcases List.mem_cons.mp e with e' | e'
        · rw [e']; exact Nat.le_refl _
        · exact Nat.le_of_lt (List.mem_range.mp e')
    · obtain ⟨i, ei, hg⟩ := it
      have lt : j < ps.length := by
        have z := (List.getElem?_eq_some_iff.mp ei).1
        rwa [List.length_range] at z
      rw [List.getElem?_range lt] at ei
      cases ei
      exact hg lt
    · have all : ∀ b u, b ≠ P → s₁.heap.get? b = some u → s₆.heap.get? b = some u := fun b u hb e => mv.heap b u (later b u e) (kept b u (stays b u hb e))
      have tab₆ := mv.heap P _ (later P _ tabAt) (kept P _ tab₃)
      have J := inv_tab (more := more) (d' := s₆.drawn) (t' := s₆.toks) I₁ hP all tab₆ (AllBare.movedS (I₁.bare.push bare) mv)
      rw [sh_eta s₁ s₆ mv.os] at J
      exact ⟨_, ⟨⟨tb ++ more, upd_same, ok₃⟩, fun b hb => upd_ne hb⟩, J⟩

/-- the sum of g over the pairs -/
def sumP (g : Int → Int → Int) (ps : List (Int × Int)) : Int := (ps.map fun p => g p.1 p.2).sum
theorem preSum_is (g : Int → Int → Int) (ps : List (Int × Int)) (val : Nat → Int) (h : ∀ i p, ps[i]? = some p → val i = g p.1 p.2) : ∀ n, n ≤ ps.length → preSum val n = sumP g (ps.take n)
  | 0, _ => rfl
  | n + 1, hn => by
    have e : ps[n]? = some ps[n] := List.getElem?_eq_getElem hn
    show preSum val n + val n = _
    rw [preSum_is g ps val h n (by omega), h n _ e]
    unfold sumP
    rw [List.take_add_one, e, List.map_append, List.sum_append]
    show _ = _ + (g ps[n].1 ps[n].2 + 0)
    rw [Int.add_zero]
/-- what the reading of sum(..), any(..) over pairs asks: what is captured (Cap), the pairs, the table; then the answer -/
def tOver {α : Type} (K : PySem.W.Frag) (P : Addr) (Cap : L2.St → α → Prop) (ans : α → List (Int × Int) → V) (te : TE) : TE := fun σ H Q => ∃ x : α, Cap σ x ∧ te σ H fun v H₁ => ∃ (a : Addr) (vs : List V) (ps : List (Int × Int)), v = .ref a ∧ (SqL K H₁ a vs ∨ SqT K H₁ a vs) ∧ Prs H₁ vs ps ∧ TabG H₁ P ∧
  ∀ H₂, Tabbed P H₁ H₂ → Q (ans x ps) H₂
/-- how a built-in takes a generator over pairs -/
def Takes2 (X : Cx) (name : String) (Gives : Int → Int → Value → Prop) (ans : List (Int × Int) → V) : Prop :=
  ∀ (pins : List (Addr × Obj)) (σ : L2.St) (P : Addr) (ps : List (Int × Int)) (H₁ : Hp) (gen : Addr) (s₅ : Shared) (Q : VK), Fresh X pins σ H₁ P ps Gives gen s₅ → (∀ H₂, Tabbed P H₁ H₂ → Q (ans ps) H₂) →
    wpAny (model X.prog X.w) X.A (call (.builtin name) [.ref gen]) (EP X pins σ Q) X.xe s₅
theorem pe_over {α : Type} {name : String} {x : Str} {c P : Addr} {elt iter : Expr} {xa xb : Str} {pa pb pt p pos gpos : Pos} {kt : Nat} {sc : Scope} {Cap : L2.St → α → Prop} {Gives : α → Int → Int → Value → Prop} {ans : α → List (Int × Int) → V} {te : TE} {k : Nat} (takes : ∀ y, Takes2 X name (Gives y) (ans y))
    (room : Room k X.A) (glob : Gl X x) (free : X.mg x = none) (bltn : bootBuiltins x = some (.builtin name)) (TB : TabB X.base X.mg c P) (hcode : X.env.code = .ref c) (own : OwnScope X.env sc xa xb) (walked : PE X iter te)
    (each : ∀ pins σ s₁ H₁ y, Inv X pins σ H₁ s₁ → TabG H₁ P → Cap σ y → EltAt X s₁ P sc xa xb elt (Gives y)) (plain : ∀ v, genFold iter X.env v = pure v) (n1 : x ≠ "__name__" := by decide) (n2 : (x == ("__debug__" : Str)) = false := by decide)
    (one : starEach [.GeneratorExp elt [⟨.Tuple [.Name xa pa, .Name xb pb] kt pt, iter, [], 0⟩] sc gpos] X.env = [(false, eval (.GeneratorExp elt [⟨.Tuple [.Name xa pa, .Name xb pb] kt pt, iter, [], 0⟩] sc gpos) X.env)] := by rfl) :
    PE X (.Call (.Name x p) [.GeneratorExp elt [⟨.Tuple [.Name xa pa, .Name xb pb] kt pt, iter, [], 0⟩] sc gpos] [] pos) (tOver X.K P Cap ans te) := by
  constructor
  intro pins s σ H Q I h
  obtain ⟨y, cap, h⟩ := h
  refine wpAny_Call_Name_kw (ld_blt I glob free bltn (callWith_builtin1 ?_ one (by rfl)) n1 n2)
  rw [one]
  refine Calls.spliced_cons (gen_made (Want := fun ps H₁ => ∀ H₂, Tabbed P H₁ H₂ → Q (ans y ps) H₂) (Gives := Gives y) room TB hcode own walked plain I (fun s₁ H₁ J g => each pins σ s₁ H₁ y J g cap) h fun ps H₁ gen s₅ want fresh => Calls.spliced_nil ?_)
  exact takes y pins σ P ps H₁ gen s₅ Q fresh want
theorem takes_sum (g : Int → Int → Int) : Takes2 X "sum" (fun a b y => ∃ t, y = .int (g a b) t) (fun ps => .int (sumP g ps)) := by
  intro pins σ P ps H₁ gen s₅ Q fresh want
  obtain ⟨foot, writes, Gens, Item, At, ⟨W, a0, low⟩, items, behind⟩ := fresh
  let val : Nat → Int := fun i => (ps[i]?.map fun p => g p.1 p.2).getD 0
  have hv : ∀ i p, ps[i]? = some p → val i = g p.1 p.2 := fun i p e => by show (ps[i]?.map _).getD 0 = _; rw [e]; rfl
  refine call_sum_walkAnyS (W.self 0 _ _ _ a0 ⟨gen, foot, writes, Gens, ps.length, Item, At, val, rfl, W, a0, low, fun i v it => ?_, fun s₆ t mv => ?_⟩)
  · obtain ⟨p, e, t, ev⟩ := items i v it
    exact ⟨t, by rw [hv i p e]; exact ev⟩
  · obtain ⟨H₂, tabbed, J⟩ := behind s₆ mv
    refine ⟨.int (preSum val ps.length), H₂, J, ⟨t, rfl⟩, ?_⟩
    rw [preSum_is g ps val hv ps.length (Nat.le_refl _), List.take_length]
    exact want H₂ tabbed
def anyP (g : Int → Int → Bool) (ps : List (Int × Int)) : Bool := ps.any fun p => g p.1 p.2
theorem any_is {α : Type} (ps : List α) (f : α → Bool) (tr : Nat → Bool) (h : ∀ i p, ps[i]? = some p → tr i = f p) : (List.range ps.length).any tr = ps.any f := by
  rw [Bool.eq_iff_iff, List.any_eq_true (l := List.range _), List.any_eq_true]
  constructor
  · rintro ⟨i, hi, e⟩
    have lt := List.mem_range.mp hi
    exact ⟨ps[i], List.getElem_mem lt, by rw [← h i _ (List.getElem?_eq_getElem lt)]; exact e⟩
  · rintro ⟨p, hp, e⟩
    obtain ⟨i, lt, rfl⟩ := List.getElem_of_mem hp
    exact ⟨i, List.mem_range.mpr lt, by rw [h i _ (List.getElem?_eq_getElem lt)]; exact e⟩
theorem takes_any (g : Int → Int → Bool) : Takes2 X "any" (fun a b y => y = .bool (g a b)) (fun ps => .bl (anyP g ps)) := by
  intro pins σ P ps H₁ gen s₅ Q fresh want
  obtain ⟨foot, writes, Gens, Item, At, ⟨W, a0, low⟩, items, behind⟩ := fresh
  let tr : Nat → Bool := fun i => (ps[i]?.map fun p => g p.1 p.2).getD false
  have ht : ∀ i p, ps[i]? = some p → tr i = g p.1 p.2 := fun i p e => by show (ps[i]?.map _).getD false = _; rw [e]; rfl
  refine call_any_walkS (W.self 0 _ _ _ a0 ⟨gen, foot, writes, Gens, ps.length, Item, At, tr, rfl, W, a0, fun i v s' Q' E' it q => ?_, fun s₆ mv => ?_⟩)
  · obtain ⟨p, e, rfl⟩ := items i v it
    rw [ht i p e] at q
    exact wpAny_truthy_bool q
  · obtain ⟨H₂, tabbed, J⟩ := behind s₆ mv
    refine ⟨.bl _, H₂, J, rfl, ?_⟩
    rw [any_is ps (fun p => g p.1 p.2) tr ht]
    exact want H₂ tabbed
/-- a whole number that the expression captures, as its cell has it -/
theorem captured {i : Nat} {y : Str} {n : Int} {P : Addr} (I : Inv X pins σ H s) (hN : X.N[i]? = some y) (hk : X.env.scope.names.lookup y = some .cell) (hv : σ[i]? = some (some (.int n))) (g : TabG H P) :
    ∃ c t, X.env.cells.lookup y = some c ∧ s.heap.IsCell c (some (.int n t)) ∧ c ≠ P := by
  obtain ⟨tb, hP, _⟩ := g
  obtain ⟨m, _, look⟩ := I.loc
  obtain ⟨u, ⟨t, rfl⟩, l⟩ := look i y _ hN hv (.inr (.inl hk))
  rcases l with ⟨z, _⟩ | ⟨_, c, e, o, ho, hd⟩
  · rw [show X.env.kindOf y = some .cell from hk] at z
    cases z
  · refine ⟨c, t, e, ⟨o, ho, hd⟩, fun z => ?_⟩
    rw [z, I.hok P _ hP] at ho
    rw [← Option.some.inj ho] at hd
    cases hd
/-- the names of the module and the built-in ones, where the expression runs -/
theorem names_in {P : Addr} {s₂ : Shared} (I : Inv X pins σ H s) (g : TabG H P) (gP : mainGlobals ≠ P) (kept : ∀ x o, x ≠ P → s.heap.get? x = some o → s₂.heap.get? x = some o) :
    s₂.heap.Ns mainGlobals X.mg ∧ ∃ mb, s₂.heap.Ns builtinsNs mb ∧ ∀ x : Str, x ≠ "__name__" → mb x = bootBuiltins x := by
  obtain ⟨tb, hP, _⟩ := g
  obtain ⟨mb, b1, b2⟩ := I.mod.blt
  have at_ : ∀ b m, b ≠ P → s.heap.Ns b m → s₂.heap.Ns b m := fun b m hb ⟨o, es, ep, ho, r⟩ => ⟨o, es, ep, kept b o hb ho, r⟩
  refine ⟨at_ _ _ gP (I.mod.glob.keeps I.bk), mb, at_ _ _ (fun z => ?_) (b1.keeps I.bk), b2⟩
  obtain ⟨o, es, ep, ho, hd, _⟩ := b1.keeps I.bk
  rw [z, I.hok P _ hP] at ho
  rw [← Option.some.inj ho] at hd
  cases hd
end
end GP

namespace TK
open PySem PySem.Spec PyProof.Rows L2 GP
def topS (i : Nat) : Stmt := PySem.Challenge.pw_tinrecall_k42_samples_spoilt_anywhere.main.body.getD i (.Pass ⟨0, 0, 0, 0⟩)

/-- the draws' state: its dict at d, its cells at c -/
structure StAt (H : Hp) (d c : Addr) (t : Int) : Prop where
  dict : H d = some (.dK [(.inr "cells", .ref c), (.inr "turn", .int t)])
  cells : ∃ cs : List Int, H c = some (.lst (cs.map V.int)) ∧ cs ≠ [] ∧ cs.length ≤ 63
  pos : 0 ≤ t
theorem StAt.ne {H : Hp} {d c : Addr} {t : Int} (h : StAt H d c t) : d ≠ c := by
  obtain ⟨cs, hc, _⟩ := h.cells
  exact ne_of h.dict hc (by intro z; cases z)
/-- all but the state is as it was -/
def Kp (d c : Addr) (H H' : Hp) : Prop := ∀ b o, b ≠ d → b ≠ c → H b = some o → H' b = some o
theorem Kp.refl (d c : Addr) (H : Hp) : Kp d c H H := fun _ _ _ _ h => h
theorem Kp.trans {d c : Addr} {H H1 H2 : Hp} (a : Kp d c H H1) (b : Kp d c H1 H2) : Kp d c H H2 := fun x o h1 h2 h => b x o h1 h2 (a x o h1 h2 h)

theorem ixN_of {n j : Nat} (h : j < n) : ixN n (j : Int) = some j := by
  unfold ixN
  rw [if_pos (Int.natCast_nonneg j), if_pos (by omega), Int.toNat_natCast]
def spTake : Sp := fun vs H Q _ => ∃ (d c : Addr) (t m : Int), vs = [.ref d, .int m] ∧ StAt H d c t ∧ t < 2 ^ 60 ∧ 0 < m ∧ m.natAbs < 2 ^ 250 ∧
  ∀ r H', 0 ≤ r → r < m → StAt H' d c (t + 1) → Kp d c H H' → Q (.int r) H'

abbrev sTake : Stmt := topS 23
theorem scTake : FnScope ["_law_state", "_law_many", "_law_turn", "_law_place", "_law_cell", "_law_digit", "_law_mixed"] ["_law_state", "_law_many"] (defScope sTake) := ⟨rfl, rfl, rfl, by decide +kernel, rfl, by decide +kernel, by decide +kernel⟩
section
variable {K : PySem.W.Frag} {mg : Str → Option Value} {P : Program} {w : World} {base : Heap}
theorem ok_take {f : Addr} {fd : FuncData} {k : Nat} (F : Fun K "_law_take" "_law_take" sTake f fd) (ml : mg "len" = none) (md : mg "divmod" = none) : FnOk P w K mg base CX0 (k + 1) f fd ["_law_state", "_law_many"] spTake := by
  refine F.ok scTake (fun vs H Q E h => ?_) (fun cdv A outer s H vs Q E hr h => ?_)
  · obtain ⟨d, c, t, m, rfl, _⟩ := h
    rfl
  · obtain ⟨d, c, t, m, rfl, hS, ht, hm, hm2, q⟩ := h
    refine ⟨_, pss_cons (ps_set (i := 2) scTake.nd rfl (.inl rfl) (pe_op op_add (pe_dget (hu_of hr) (pv 0) pe_str (fun _ _ => rfl)) pe_int))
      (pss_cons (ps_dput (hu_of hr) (pv 0) pe_str (pv 2) rfl)
      (pss_cons (ps_set (i := 3) scTake.nd rfl (.inl rfl) (pe_op op_mod (pv 2) (pe_callB call_len_seq (by rfl) ml PySem.boot_len (pa_cons (pe_dget (hu_of hr) (pv 0) pe_str (fun _ _ => rfl)) pa_nil))))
      (pss_cons (ps_set (i := 4) scTake.nd rfl (.inl rfl) (pe_ix ix_list (pe_dget (hu_of hr) (pv 0) pe_str (fun _ _ => rfl)) (pv 3) (fun _ _ => rfl)))
      (pss_cons (ps_if (pt_cmpR op_ge (pv 4) (pe_op op_pow pe_int pe_int) (nomark _))
        (pss_cons (ps_asg (pe_callB call_divmodW (by rfl) md (by decide +kernel) (pa_cons (pv 4) (pa_cons (pv 1) pa_nil)))
            (pg_tup rfl (pgs_cons (pg_sub (pe_dget (hu_of hr) (pv 0) pe_str (fun _ _ => rfl)) (pv 3) set_list) (pgs_cons (pg_name (i := 5) scTake.nd rfl (.inl rfl)) pgs_nil))))
          (pss_one (ps_ret (pv 5)))) pss_nil)
      (pss_cons (ps_set (i := 6) scTake.nd rfl (.inl rfl) (pe_op op_mod (pe_op op_mul (pe_op op_add (pe_op op_add (pe_op op_mod (pv 4) pe_int) (pe_op op_mul (pe_op op_mul (pv 2) (pv 2)) pe_int)) pe_int) pe_int) pe_int))
      (pss_cons (ps_set (i := 6) scTake.nd rfl (.inl rfl) (pe_op op_mod (pe_op op_mul (pv 6) (pv 6)) pe_int))
      (pss_one (ps_ret (pe_op op_mod (pe_op op_fdiv (pe_op op_mod (pe_op op_mul (pe_op op_add (pv 6) (pe_op op_mul (pv 2) pe_int)) pe_int) pe_int) pe_int) (pv 1)))))))))), ?_⟩
    obtain ⟨hd, ⟨cs, hc, hne, hlen⟩, hpos⟩ := hS
    have ndc : d ≠ c := ne_of hd hc (by intro z; cases z)
    -- turn = state['turn'] + 1
    refine ⟨.ref d, rfl, d, .int t, rfl, DGet.k (k := Sum.inr "turn") hd, t, 1, rfl, rfl, ?_⟩
    -- state['turn'] = turn
    refine ⟨_, rfl, .ref d, rfl, d, _, rfl, DPut.k (k := Sum.inr "turn") hd (by show 2 < sizeLine; decide), ?_⟩
    have hput : putK [((.inr "cells" : Key), V.ref c), (.inr "turn", .int t)] (.inr "turn") (.int (t + 1)) = [(.inr "cells", .ref c), (.inr "turn", .int (t + 1))] := rfl
    rw [show (.int (t + 1) : V) = V.int (t + 1) from rfl] at *
    rw [hput]
    generalize hH1 : upd H d (.dK [((.inr "cells" : Key), V.ref c), (.inr "turn", .int (t + 1))]) = H1
    have hd1 : H1 d = some (.dK [(.inr "cells", .ref c), (.inr "turn", .int (t + 1))]) := by rw [← hH1]; exact upd_same
    have hc1 : H1 c = some (.lst (cs.map V.int)) := by rw [← hH1, upd_ne ndc.symm]; exact hc
    have k1 : Kp d c H H1 := fun b o h1 h2 e => by rw [← hH1, upd_ne h1]; exact e
    have hlp : 0 < cs.length := List.length_pos_iff.mpr hne
    -- place = turn % len(state['cells'])
    refine ⟨_, rfl, .ref d, rfl, d, .ref c, rfl, DGet.k (k := Sum.inr "cells") hd1, c, _, rfl, .inl (SqL.of hc1), _, _, rfl, rfl, (by show (0 : Int) < ((cs.map V.int).length : Int); rw [List.length_map]; omega), ?_⟩
    dsimp only
    rw [List.length_map]
    have hj0 : 0 ≤ (t + 1) % (cs.length : Int) := Int.emod_nonneg _ (by omega)
    have hj1 : (t + 1) % (cs.length : Int) < cs.length := Int.emod_lt_of_pos _ (by omega)
    obtain ⟨j, hj⟩ := Int.eq_ofNat_of_zero_le hj0
    have hjl : j < cs.length := by omega
    rw [hj]
    have gj : (cs.map V.int)[j]? = some (.int cs[j]) := by rw [List.getElem?_map, List.getElem?_eq_getElem hjl]; rfl
    -- cell = state['cells'][place]
    refine ⟨.ref d, rfl, d, .ref c, rfl, DGet.k (k := Sum.inr "cells") hd1, _, rfl, c, _, _, .int cs[j], rfl, rfl, SqL.of hc1, atI_nat gj, ?_⟩
    generalize cs[j] = x
    -- if cell >= 10 ** 18
    refine ⟨_, rfl, 10, 18, rfl, rfl, ⟨by decide, by decide, by decide⟩, _, _, rfl, rfl, _, rfl, ite2 (fun e => ?_) (fun e => ?_)⟩
    · have hdp : CDivP x m := ⟨hm, PyProof.noPylong_of_log2 (Nat.lt_trans (PySem.Flt.log2_lt_of (by decide) hm2) (by decide))⟩
      refine ⟨_, rfl, _, rfl, x, m, rfl, hdp, fun p hp => ?_⟩
      have npd : d ≠ p := ne_of_none hd1 hp
      have npc : c ≠ p := ne_of_none hc1 hp
      have hd2 : upd H1 p (.tup [.int (x / m), .int (x % m)]) d = some (.dK [(.inr "cells", .ref c), (.inr "turn", .int (t + 1))]) := by rw [upd_ne npd]; exact hd1
      have hc2 : upd H1 p (.tup [.int (x / m), .int (x % m)]) c = some (.lst (cs.map V.int)) := by rw [upd_ne npc]; exact hc1
      refine ⟨p, _, rfl, .inl (.inl upd_same), rfl, _, _, rfl, .ref d, rfl, d, .ref c, rfl, DGet.k (k := Sum.inr "cells") hd2, _, rfl, c, _, _, j, rfl, rfl, hc2, ixN_of (by rw [List.length_map]; exact hjl), _, _, rfl, rfl, ?_⟩
      refine ⟨_, rfl, ?_⟩
      refine q _ _ (Int.emod_nonneg _ (by omega)) (Int.emod_lt_of_pos _ hm) ⟨?_, ⟨cs.set j (x / m), ?_, ?_, ?_⟩, by omega⟩ ?_
      · rw [upd_ne ndc]; exact hd2
      · rw [upd_same, List.map_set]
      · intro z
        have z2 : (cs.set j (x / m)).length = 0 := by rw [z]; rfl
        rw [List.length_set] at z2
        omega
      · rw [List.length_set]; exact hlen
      · intro b o h1 h2 e
        rw [upd_ne h2, upd_ne (ne_of_none (k1 b o h1 h2 e) hp)]
        exact k1 b o h1 h2 e
    · have t1 : t + 1 < 2 ^ 61 := by omega
      -- mixed
      refine ⟨_, rfl, _, _, rfl, rfl, (show (0 : Int) < 2147483629 by decide), _, rfl, _, rfl, t + 1, t + 1, rfl, rfl, .inl ⟨by omega, by omega⟩, _, _, rfl, rfl, .inr ⟨by decide, by decide⟩, _, _, rfl, rfl, _, _, rfl, rfl, _, _, rfl, rfl, .inr ⟨by decide, by decide⟩, _, 2147483647, rfl, rfl, (show (0 : Int) < 2147483647 by decide), ?_⟩
      dsimp only
      generalize hy : ((x % 2147483629 + (t + 1) * (t + 1) * 7919 + 11) * 48271) = y
      have y0 : 0 ≤ y % 2147483647 := Int.emod_nonneg _ (by decide)
      have y1 : y % 2147483647 < 2147483647 := Int.emod_lt_of_pos _ (by decide)
      refine ⟨_, rfl, _, rfl, y % 2147483647, y % 2147483647, rfl, rfl, .inl ⟨by omega, by omega⟩, _, 2147483587, rfl, rfl, (show (0 : Int) < 2147483587 by decide), ?_⟩
      refine ⟨_, rfl, _, rfl, t + 1, 104729, rfl, rfl, .inr ⟨by decide, by decide⟩, _, _, rfl, rfl, _, _, rfl, rfl, .inr ⟨by decide, by decide⟩, _, 2147483629, rfl, rfl, (show (0 : Int) < 2147483629 by decide), _, 64, rfl, rfl, ⟨by decide, by decide⟩, _, rfl, _, m, rfl, rfl, hm, ?_⟩
      exact q _ _ (Int.emod_nonneg _ (by omega)) (Int.emod_lt_of_pos _ hm) ⟨hd1, ⟨cs, hc1, hne, hlen⟩, by omega⟩ k1
end

abbrev sBegin : Stmt := topS 22
theorem scBegin : FnScope ["_law_script", "_law_cells"] ["_law_script"] (defScope sBegin) := ⟨rfl, rfl, rfl, by decide +kernel, rfl, by decide +kernel, by decide +kernel⟩
theorem same_upd {H : Hp} {p : Addr} {o : HO} (h : H p = none) : Same H (upd H p o) := fun b x e => by
  rw [upd_ne (ne_of_none e h)]
  exact e
theorem cut_front (xs : List V) (m : Nat) : cutV xs none (some (m : Int)) = xs.take m := by
  unfold cutV
  rw [HT.sIx_none, HT.sIx_nat]
  show List.take (min m xs.length - 0) (xs.drop 0) = xs.take m
  rw [Nat.sub_zero, List.drop_zero]
  by_cases h : m ≤ xs.length
  · rw [Nat.min_eq_left h]
  · rw [Nat.min_eq_right (by omega), List.take_length, List.take_of_length_le (by omega)]
theorem dp_ints {K : PySem.W.Frag} {H : Hp} : ∀ ns : List Int, DpAll K H (ns.map V.int) (ns.map PyData.int)
  | [] => .nil
  | n :: r => .cons (.int n) (dp_ints r)
theorem lay_ints : ∀ ns : List Int, PyData.canLayAll0 (ns.map PyData.int) = true
  | [] => by simp only [List.map_nil, PyData.canLayAll0]
  | n :: r => by
    rw [List.map_cons, PyData.canLayAll0, lay_ints r]
    simp [PyData.canLay0]
theorem depth_ints : ∀ ns : List Int, PyData.depthAll (ns.map PyData.int) = 0
  | [] => by simp only [List.map_nil, PyData.depthAll]
  | n :: r => by
    rw [List.map_cons, PyData.depthAll, depth_ints r]
    simp [PyData.depth]
theorem shaped_ints (ns : List Int) : SeqAt.shaped (PyData.list (ns.map PyData.int)) = true := by
  unfold SeqAt.shaped
  rw [PyData.canLay0, lay_ints, PyData.depth, depth_ints]
  rfl
theorem eqv_nil (n : Int) (r : List Int) : PyData.eqv (PyData.list ((n :: r).map PyData.int)) (PyData.list []) = false := by
  simp [PyData.eqv, PyData.eqvAll]
theorem eqv_nil0 : PyData.eqv (PyData.list (([] : List Int).map PyData.int)) (PyData.list []) = true := by
  simp [PyData.eqv, PyData.eqvAll]
def spBegin (K : PySem.W.Frag) : Sp := fun vs H Q _ => ∃ (a : Addr) (ns : List Int), vs = [.ref a] ∧ SqL K H a (ns.map V.int) ∧ ns.length ≤ 63 ∧
  ∀ d c H', Same H H' → H d = none → H c = none → StAt H' d c 0 → Q (.ref d) H'
section
variable {K : PySem.W.Frag} {mg : Str → Option Value} {P : Program} {w : World} {base : Heap}
theorem ok_begin {f : Addr} {fd : FuncData} {k : Nat} (F : Fun K "_law_begin" "_law_begin" sBegin f fd) (ml : mg "list" = none) : FnOk P w K mg base CX0 (k + 1) f fd ["_law_script"] (spBegin K) := by
  refine F.ok scBegin (fun vs H Q E h => ?_) (fun cdv A outer s H vs Q E hr h => ?_)
  · obtain ⟨a, ns, rfl, _⟩ := h
    rfl
  · obtain ⟨a, ns, rfl, hS, hlen, q⟩ := h
    refine ⟨_, pss_cons (ps_set (i := 1) scBegin.nd rfl (.inl rfl) (pe_callTy call_list_of (by rfl) ml (by decide +kernel) (pa_cons (pe_slice sl_list (pv 0) po_none (po_some pe_int)) pa_nil)))
      (pss_cons (ps_if (pt_cmpR (op_eqD hr.units) (pv 1) (pe_lst pa_nil) (nomark _)) (pss_one (ps_set (i := 1) scBegin.nd rfl (.inl rfl) (pe_lst (pa_cons pe_int pa_nil)))) pss_nil)
      (pss_one (ps_ret (pe_disp (pps_cons pe_str (pv 1) (pps_cons pe_str pe_int pps_nil)) (by rfl) (by rfl) (fun z => by cases z) (by decide))))), ?_⟩
    -- the end: a dict of what stands at the cells' place
    have fin : ∀ (H1 : Hp) (c : Addr) (cs : List Int) (y : Option V), Same H H1 → H c = none → H1 c = some (.lst (cs.map V.int)) → cs ≠ [] → cs.length ≤ 63 →
        (tRet (tDisp [(tC (.str "cells"), tVar 1), (tC (.str "turn"), tC (.int 0))])) { nx := fun _ H' => Q .non H', rt := Q } [some (.ref a), some (.ref c)] H1 := by
      intro H1 c cs y s1 nc ec hne hl
      refine fun d nd => ⟨_, rfl, upd_same, [(.inr "cells", .ref c), (.inr "turn", .int 0)], rfl, (by show 2 ≤ 15; decide), ?_⟩
      have ndc : c ≠ d := ne_of_none ec nd
      refine q d c _ (fun b o e => ?_) (s1.free nd) nc ⟨?_, ⟨cs, ?_, hne, hl⟩, by decide⟩
      · have nb : b ≠ d := ne_of_none (s1 b o e) nd
        rw [upd_ne nb, upd_ne nb]
        exact s1 b o e
      · exact upd_same
      · rw [upd_ne ndc, upd_ne ndc]
        exact ec
    refine ⟨.ref a, rfl, 63, rfl, a, ns.map V.int, rfl, hS, fun p np => ?_⟩
    have s1 : Same H (upd H p (.lst (cutV (ns.map V.int) none (some 63)))) := same_upd np
    refine ⟨p, _, rfl, .inl (SqL.of upd_same), fun l nl => ?_⟩
    have s2 := s1.trans (same_upd (o := .lst (cutV (ns.map V.int) none (some 63))) nl)
    have ecut : cutV (ns.map V.int) none (some 63) = ns.map V.int := by
      have e := cut_front (ns.map V.int) 63
      have e2 : cutV (ns.map V.int) none (some 63) = (ns.map V.int).take 63 := e
      rw [e2, List.take_of_length_le (by rw [List.length_map]; exact hlen)]
    have el : upd (upd H p (.lst (cutV (ns.map V.int) none (some 63)))) l (.lst (cutV (ns.map V.int) none (some 63))) l = some (.lst (ns.map V.int)) := by
      rw [upd_same, ecut]
    revert s2 el
    generalize upd (upd H p (.lst (cutV (ns.map V.int) none (some 63)))) l (.lst (cutV (ns.map V.int) none (some 63))) = H2
    intro s2 el
    have nlH : H l = none := s1.free nl
    -- if cells == []
    refine ⟨.ref l, rfl, Nat.zero_le _, fun z nz => ?_⟩
    have s3 := s2.trans (same_upd (o := .lst []) nz)
    have nlz : l ≠ z := ne_of_none el nz
    have el3 : upd H2 z (.lst []) l = some (.lst (ns.map V.int)) := by rw [upd_ne nlz]; exact el
    refine ⟨.list (ns.map PyData.int), .list [], .lst (SqL.of el3) (dp_ints ns), .lst (SqL.of upd_same) .nil, shaped_ints ns, shaped_ints [], ?_⟩
    cases ns with
    | nil =>
      refine ⟨true, by rw [eqv_nil0], iteT ?_⟩
      refine ⟨(by show 1 ≤ sizeLine; decide), fun c nc => ?_⟩
      exact fin _ c [_] none (s3.trans (same_upd nc)) (s3.free nc) upd_same (by simp) (by decide)
    | cons n r =>
      refine ⟨false, by rw [eqv_nil], iteF ?_⟩
      exact fin _ l (n :: r) none s3 nlH el3 (by simp) hlen
end

/-- a def of the text that keeps a promise, as its callers see it -/
def Cal (P : Program) (w : World) (K : PySem.W.Frag) (mg : Str → Option Value) (base : Heap) (k : Nat) (x : Str) (ps : List Str) (sp : Sp) : Prop :=
  ∃ f fd, FnOk P w K mg base CX0 k f fd ps sp ∧ mg x = some (.ref f) ∧ PySem.W.keepIn K (.ref f) = true ∧ Binds K fd ps []
theorem pe_own {X : Cx} {k : Nat} {x : Str} {ps : List Str} {sp : Sp} {e : Expr} {es : List Expr} {t : TA} {p pos : Pos} (C : Cal X.prog X.w X.K X.mg X.base k x ps sp) (hr : Room k X.A) (hg : Gl X x) (ha : PA X (e :: es) t)
    (dbg : (x == ("__debug__" : Str)) = false := by decide) (one : starEach (e :: es) X.env = (false, eval e X.env) :: starEach es X.env := by rfl) (star : (backTo pos (starEach es X.env)).any (·.1) = false := by rfl) :
    PE X (.Call (.Name x p) (e :: es) [] pos) (tCall sp [] E0 t) := by
  obtain ⟨f, fd, F, hm, hk, hb⟩ := C
  exact pe_call F hr hg hm hk hb .nil pass0 ha dbg one star
theorem StAt.same {H H' : Hp} {d c : Addr} {t : Int} (h : StAt H d c t) (s : Same H H') : StAt H' d c t :=
  ⟨s _ _ h.dict, let ⟨cs, e, r⟩ := h.cells; ⟨cs, s _ _ e, r⟩, h.pos⟩
theorem Kp.same {H H' : Hp} (d c : Addr) (s : Same H H') : Kp d c H H' := fun b o _ _ e => s b o e
/-- what is made behind the state stays -/
theorem Kp.at {H H' : Hp} {d c a : Addr} {t : Int} {o : HO} (k : Kp d c H H') (S : StAt H d c t) (e : H a = some o) (h1 : ∀ kvs, o ≠ .dK kvs) (h2 : ∀ ns : List Int, o ≠ .lst (ns.map V.int)) : H' a = some o := by
  obtain ⟨cs, ec, _⟩ := S.cells
  refine k a o (fun z => ?_) (fun z => ?_) e
  · rw [z, S.dict] at e
    exact h1 _ (Option.some.inj e).symm
  · rw [z, ec] at e
    exact h2 _ (Option.some.inj e).symm
theorem StAt.upd {H : Hp} {d c l : Addr} {t : Int} {o : HO} (S : StAt H d c t) (h1 : l ≠ d) (h2 : l ≠ c) : StAt (L2.upd H l o) d c t := by
  refine ⟨by rw [upd_ne h1.symm]; exact S.dict, ?_, S.pos⟩
  obtain ⟨cs, ec, r⟩ := S.cells
  exact ⟨cs, by rw [upd_ne h2.symm]; exact ec, r⟩

theorem _root_.GP.Prs.same {H H' : Hp} {vs : List V} {ps : List (Int × Int)} (h : Prs H vs ps) (s : Same H H') : Prs H' vs ps :=
  ⟨h.1, fun i p e => let ⟨a, e1, e2⟩ := h.2 i p e; ⟨a, e1, s _ _ e2⟩⟩
theorem _root_.GP.Prs.kp {H H' : Hp} {d c : Addr} {t : Int} {vs : List V} {ps : List (Int × Int)} (h : Prs H vs ps) (S : StAt H d c t) (k : Kp d c H H') : Prs H' vs ps :=
  ⟨h.1, fun i p e => let ⟨a, e1, e2⟩ := h.2 i p e; ⟨a, e1, k.at S e2 (fun _ z => nomatch z) (fun _ z => nomatch z)⟩⟩
theorem _root_.GP.Prs.upd_lst {H : Hp} {l : Addr} {xs : List V} {o : HO} {vs : List V} {ps : List (Int × Int)} (h : Prs H vs ps) (hl : H l = some (.lst xs)) : Prs (upd H l o) vs ps :=
  ⟨h.1, fun i p e => let ⟨a, e1, e2⟩ := h.2 i p e; ⟨a, e1, by rw [upd_ne (ne_of e2 hl (fun z => nomatch z))]; exact e2⟩⟩
theorem _root_.GP.Prs.nil {H : Hp} : Prs H [] [] := ⟨rfl, fun i p e => by simp at e⟩
theorem _root_.GP.Prs.snoc {H : Hp} {a : Addr} {x y : Int} {vs : List V} {ps : List (Int × Int)} (h : Prs H vs ps) (e : H a = some (.tup [.int x, .int y])) : Prs H (vs ++ [.ref a]) (ps ++ [(x, y)]) := by
  refine ⟨by simp [h.1], fun i p ep => ?_⟩
  by_cases hi : i < ps.length
  · rw [List.getElem?_append_left hi] at ep
    obtain ⟨b, e1, e2⟩ := h.2 i p ep
    exact ⟨b, by rw [List.getElem?_append_left (by rw [h.1]; exact hi)]; exact e1, e2⟩
  · rw [List.getElem?_append_right (by omega)] at ep
    have hz : i - ps.length = 0 := by
      cases hq : i - ps.length with
      | zero => rfl
      | succ n => rw [hq] at ep; simp at ep
    rw [hz] at ep
    have ep' : (x, y) = p := by simpa using ep
    subst ep'
    refine ⟨a, ?_, e⟩
    rw [List.getElem?_append_right (by rw [h.1]; omega), h.1, hz]
    rfl
/-- rising stretches with gaps, from lo on -/
def Ris : Int → List (Int × Int) → Prop
  | _, [] => True
  | lo, p :: r => lo ≤ p.1 ∧ p.1 ≤ p.2 ∧ Ris (p.2 + 2) r
theorem Ris.snoc : ∀ {lo : Int} {ps : List (Int × Int)} {a b : Int}, Ris lo ps → lo ≤ a → (∀ p ∈ ps, p.2 + 2 ≤ a) → a ≤ b → Ris lo (ps ++ [(a, b)])
  | lo, [], a, b, _, h1, _, h3 => ⟨h1, h3, True.intro⟩
  | lo, p :: r, a, b, h, h1, h2, h3 => ⟨h.1, h.2.1, Ris.snoc h.2.2 (h2 p (List.mem_cons_self ..)) (fun q hq => h2 q (List.mem_cons_of_mem _ hq)) h3⟩
theorem pick2 {x y r : Int} (Pv : Int → Prop) (h0 : 0 ≤ r) (h1 : r < 2) (hx : Pv x) (hy : Pv y) : ∃ v, Pv v ∧ atI [V.int x, V.int y] r = some (.int v) := by
  have : r = 0 ∨ r = 1 := by omega
  rcases this with rfl | rfl
  · exact ⟨x, hx, rfl⟩
  · exact ⟨y, hy, rfl⟩
theorem pick3 {x y z r : Int} (Pv : Int → Prop) (h0 : 0 ≤ r) (h1 : r < 3) (hx : Pv x) (hy : Pv y) (hz : Pv z) : ∃ v, Pv v ∧ atI [V.int x, V.int y, V.int z] r = some (.int v) := by
  have : r = 0 ∨ r = 1 ∨ r = 2 := by omega
  rcases this with rfl | rfl | rfl
  · exact ⟨x, hx, rfl⟩
  · exact ⟨y, hy, rfl⟩
  · exact ⟨z, hz, rfl⟩
/-- a new object stands through the state's change -/
theorem Kp.new {H H' : Hp} {d c l : Addr} {t : Int} {o : HO} (k : Kp d c (upd H l o) H') (S : StAt H d c t) (n : H l = none) : H' l = some o := by
  obtain ⟨cs, ec, _⟩ := S.cells
  exact k l o (ne_of_none S.dict n).symm (ne_of_none ec n).symm upd_same
theorem drop_at {α : Type} {l : List α} {i : Nat} {x : α} (h : l[i]? = some x) : l.drop i = x :: l.drop (i + 1) := by
  obtain ⟨lt, e⟩ := List.getElem?_eq_some_iff.mp h
  rw [← e]
  exact List.drop_eq_getElem_cons lt
theorem prs_at {H : Hp} {vs : List V} {ps : List (Int × Int)} {i : Nat} {x : V} (h : Prs H vs ps) (e : vs[i]? = some x) : ∃ (p : Int × Int) (a : Addr), ps[i]? = some p ∧ x = .ref a ∧ H a = some (.tup [.int p.1, .int p.2]) := by
  obtain ⟨hi, _⟩ := List.getElem?_eq_some_iff.mp e
  have hi2 : i < ps.length := by rw [← h.1]; exact hi
  obtain ⟨a, e1, e2⟩ := h.2 i ps[i] (List.getElem?_eq_getElem hi2)
  rw [e] at e1
  exact ⟨ps[i], a, List.getElem?_eq_getElem hi2, Option.some.inj e1, e2⟩

theorem sumP_append (g : Int → Int → Int) (ps qs : List (Int × Int)) : sumP g (ps ++ qs) = sumP g ps + sumP g qs := by
  unfold sumP
  rw [List.map_append, List.sum_append]
def inB (n a b : Int) : Bool := decide (a ≤ n) && decide (n ≤ b)
theorem Ris.le : ∀ {lo : Int} {ps : List (Int × Int)}, Ris lo ps → ∀ p ∈ ps, lo ≤ p.1 ∧ p.1 ≤ p.2
  | _, [], _, _, hp => nomatch hp
  | lo, q :: r, h, p, hp => by
    rcases List.mem_cons.mp hp with e | e'
    · rw [e]; exact ⟨h.1, h.2.1⟩
    · have := Ris.le h.2.2 p e'
      have := h.2.1
      have := h.1
      omega

/-! ### walks over a list or a tuple -/
def Sq (K : PySem.W.Frag) (H : Hp) (a : Addr) (xs : List V) : Prop := SqL K H a xs ∨ SqT K H a xs
def iSeq (K : PySem.W.Frag) (tl : TE) : TI := fun σ H R => tl σ H fun x H1 => ∃ a, x = .ref a ∧ (((∃ xs, SqL K H1 a xs) ∧ R (Itl K a) H1) ∨ ((∃ xs, SqT K H1 a xs) ∧ R (Itt K a) H1))
/-- the iterator that was just laid is no one's -/
theorem lone {X : Cx} {pins : List (Addr × Obj)} {σ : L2.St} {H : Hp} {s : Shared} (I : Inv X pins σ H s) : ∀ b ∈ [s.heap.objs.size], FpOk X pins H b := fun b hb => by
  rw [List.mem_singleton.mp hb]
  exact I.fpOk (H' := H) (Nat.le_refl _) (I.hok.fresh (Nat.le_refl _))
theorem pi_seq {X : Cx} {tg l : Expr} {tl : TE} (walked : PE X l tl) : PI X tg l (iSeq X.K tl) := by
  constructor
  intro pins s σ H R I h
  refine thn (walked.run pins s σ H _ I h) fun u s1 had => ?_
  obtain ⟨_, H1, J, rel, a, rfl, had⟩ := had
  cases rel
  have laid : ∀ o, Inv X pins σ H1 { s1 with heap := s1.heap.push o } := fun o => J.kept (t' := s1.toks) fun _ _ e => Heap.get?_push_of_some _ e
  rcases had with ⟨⟨xs, hq⟩, q⟩ | ⟨⟨xs, hq⟩, q⟩
  · obtain ⟨its, _, isL, _⟩ := J.list hq
    exact wpAny_pyIter_list isL.isList ⟨_, _, _, _, H1, rfl, laid _, turn_list a _, ⟨_, Heap.get?_push_size _ rfl, rfl, rfl⟩, lone J, q⟩
  · obtain ⟨its, _, isT, _⟩ := J.tuple hq
    exact wpAny_pyIter_tuple (items := its.toArray) isT ⟨_, _, _, _, H1, rfl, laid _, turn_tuple a _, ⟨_, Heap.get?_push_size _ rfl, rfl, rfl⟩, lone J, q⟩
/-- the walked thing stands as it stood -/
def SqTo (K : PySem.W.Frag) (H H' : Hp) (a : Addr) (xs : List V) : Prop := (SqL K H a xs → SqL K H' a xs) ∧ (SqT K H a xs → SqT K H' a xs)
theorem SqTo.refl {K : PySem.W.Frag} {H : Hp} {a : Addr} {xs : List V} : SqTo K H H a xs := ⟨fun h => h, fun h => h⟩
theorem same_t {K : PySem.W.Frag} {H H' : Hp} {a : Addr} {xs : List V} (s : Same H H') (h : SqT K H a xs) : SqT K H' a xs :=
  h.elim (fun r => .inl (r.elim (fun e => .inl (s a _ e)) fun ⟨o, e⟩ => .inr ⟨o, s a _ e⟩)) .inr
theorem SqTo.same {K : PySem.W.Frag} {H H' : Hp} {a : Addr} {xs : List V} (s : Same H H') : SqTo K H H' a xs := ⟨s.seq, same_t s⟩
theorem Sq.same {K : PySem.W.Frag} {H H' : Hp} {a : Addr} {xs : List V} (h : Sq K H a xs) (s : Same H H') : Sq K H' a xs := h.elim (fun h => .inl (s.seq h)) fun h => .inr (same_t s h)
theorem Sq.list {K : PySem.W.Frag} {H : Hp} {a : Addr} {xs : List V} (h : H a = some (.lst xs)) : Sq K H a xs := .inl (SqL.of h)
theorem Sq.tup {K : PySem.W.Frag} {H : Hp} {a : Addr} {xs : List V} (h : H a = some (.tup xs)) : Sq K H a xs := .inr (.inl (.inl h))
abbrev ForR (J : It) (g : TG) (tb : TS) (D : Ends) (σ : L2.St) (H1 : Hp) : Prop := ∃ W : Nat → Nat → L2.St → Hp → Prop, (∃ m, W 0 m σ H1) ∧ ∀ i m σ H, W i m σ H →
  (J.stop i H ∧ D.nx σ H) ∨ (J.go i H ∧ ∃ N : L2.St → Hp → Prop, (∀ σ' H', N σ' H' → ∃ m', m' < m ∧ W (i + 1) m' σ' H') ∧ ∀ x H', J.yld i H x H' → g x σ H' fun σ2 H2 => tb { D with nx := N, ct := N, bk := D.nx } σ2 H2)
theorem for_seq {K : PySem.W.Frag} {a : Addr} {xs : List V} {g : TG} {tb : TS} {D : Ends} {σ : L2.St} {H1 : Hp} (hq : Sq K H1 a xs) (Pv : Nat → L2.St → Hp → Prop) (h0 : Pv 0 σ H1)
    (hl : ∀ i σ H', i ≤ xs.length → Pv i σ H' → SqTo K H1 H' a xs)
    (turn : ∀ i x σ H, xs[i]? = some x → Pv i σ H → g x σ H fun σ2 H2 => tb { D with nx := Pv (i + 1), ct := Pv (i + 1), bk := D.nx } σ2 H2) (fin : ∀ σ H, Pv xs.length σ H → D.nx σ H) :
    ((∃ xs, SqL K H1 a xs) ∧ ForR (Itl K a) g tb D σ H1) ∨ ((∃ xs, SqT K H1 a xs) ∧ ForR (Itt K a) g tb D σ H1) := by
  rcases hq with h | h
  · exact .inl ⟨⟨xs, h⟩, for_list (xs := xs) Pv h0 (fun i σ H' hi p => (hl i σ H' hi p).1 h) turn fin⟩
  · exact .inr ⟨⟨xs, h⟩, for_tup (xs := xs) Pv h0 (fun i σ H' hi p => (hl i σ H' hi p).2 h) turn fin⟩

/-! ### pairs as data -/
def pairD (p : Int × Int) : PyData := .tuple [.int p.1, .int p.2]
theorem dp_prs {K : PySem.W.Frag} {H : Hp} : ∀ {us : List V} {ps : List (Int × Int)}, Prs H us ps → DpAll K H us (ps.map pairD)
  | [], [], _ => .nil
  | [], _ :: _, h => nomatch h.1
  | _ :: _, [], h => nomatch h.1
  | u :: us, p :: ps, h => by
    obtain ⟨a, e1, e2⟩ := h.2 0 p rfl
    have eu : u = .ref a := Option.some.inj e1
    subst eu
    refine .cons (.tup (.inl (.inl e2)) (.cons (.int _) (.cons (.int _) .nil))) (dp_prs ⟨Nat.succ.inj h.1, fun i q e => ?_⟩)
    obtain ⟨b, f1, f2⟩ := h.2 (i + 1) q e
    exact ⟨b, f1, f2⟩
theorem lay_prs : ∀ ps : List (Int × Int), PyData.canLayAll0 (ps.map pairD) = true
  | [] => by simp only [List.map_nil, PyData.canLayAll0]
  | p :: r => by
    rw [List.map_cons, PyData.canLayAll0, lay_prs r]
    simp [pairD, PyData.canLay0, PyData.canLayAll0]
theorem depth_prs : ∀ ps : List (Int × Int), PyData.depthAll (ps.map pairD) ≤ 1
  | [] => by simp only [List.map_nil, PyData.depthAll]; omega
  | p :: r => by
    rw [List.map_cons, PyData.depthAll]  -- a pair, then the rest
    have := depth_prs r
    simp [pairD, PyData.depth, PyData.depthAll]
    omega
theorem shaped_prs (ps : List (Int × Int)) : SeqAt.shaped (PyData.list (ps.map pairD)) = true := by
  unfold SeqAt.shaped
  rw [PyData.canLay0, lay_prs, PyData.depth, Bool.true_and]
  exact decide_eq_true (by have := depth_prs ps; omega)
theorem eqv_prs (ps : List (Int × Int)) : PyData.eqv (PyData.list (ps.map pairD)) (PyData.list (ps.map pairD)) = true := SeqAt.eqv_refl _ (by rw [PyData.canLay0]; exact lay_prs ps)
theorem tabG_tabbed {Pt Pu : Addr} {H H2 : Hp} (g : GxR.TabG H Pu) (x : GxR.Tabbed Pt H H2) : GxR.TabG H2 Pu := by
  by_cases e : Pu = Pt
  · rw [e]; exact x.1
  · obtain ⟨ps, h, r⟩ := g
    exact ⟨ps, by rw [x.2 _ e]; exact h, r⟩

theorem Kp.free {H H' : Hp} {d c l : Addr} {t' : Int} (k : Kp d c H H') (S' : StAt H' d c t') (n : H' l = none) : H l = none := by
  cases e : H l with
  | none => rfl
  | some o =>
    obtain ⟨cs1, ec1, _⟩ := S'.cells
    have z := k l o (ne_of_none S'.dict n).symm (ne_of_none ec1 n).symm e
    rw [n] at z
    cases z
theorem StAt.off {H : Hp} {d c l : Addr} {t : Int} (S : StAt H d c t) (n : H l = none) : l ≠ d ∧ l ≠ c := by
  obtain ⟨cs1, ec1, _⟩ := S.cells
  exact ⟨(ne_of_none S.dict n).symm, (ne_of_none ec1 n).symm⟩
/-- no whole number among these: so it's not the draws' cells -/
def NoInt (xs : List V) : Prop := ∀ x ∈ xs, ∀ i, x ≠ .int i
theorem Kp.lst {H H' : Hp} {d c a : Addr} {t : Int} {xs : List V} (k : Kp d c H H') (S : StAt H d c t) (e : H a = some (.lst xs)) (h : NoInt xs) : H' a = some (.lst xs) := by
  obtain ⟨cs, ec, hne, _⟩ := S.cells
  refine k a _ (fun z => ?_) (fun z => ?_) e
  · rw [z, S.dict] at e
    cases e
  · rw [z, ec] at e
    have e' : cs.map V.int = xs := HO.lst.inj (Option.some.inj e)
    cases cs with
    | nil => exact hne rfl
    | cons n r => exact h (.int n) (e' ▸ List.mem_cons_self ..) n rfl
theorem Kp.tup {H H' : Hp} {d c a : Addr} {t : Int} {xs : List V} (k : Kp d c H H') (S : StAt H d c t) (e : H a = some (.tup xs)) : H' a = some (.tup xs) := k.at S e (fun _ z => nomatch z) (fun _ z => nomatch z)
theorem noInt_strs (xs : List Str) : NoInt (xs.map V.str) := fun x hx i e => by
  obtain ⟨y, _, rfl⟩ := List.mem_map.mp hx
  cases e
theorem noInt_prs {H : Hp} {us : List V} {ps : List (Int × Int)} (h : Prs H us ps) : NoInt us := fun x hx i e => by
  obtain ⟨j, hj, e1⟩ := List.getElem_of_mem hx
  obtain ⟨p, a, _, rfl, _⟩ := prs_at h (by rw [List.getElem?_eq_getElem hj, e1])
  cases e

/-- a text of one sign -/
def sgS (c : Nat) : Str := ⟨#[c]⟩
def sgn (c : Nat) : V := .str (sgS c)
def spNames : Sp := fun vs H Q _ => ∃ (d c : Addr) (t m : Int), vs = [.ref d, .int m] ∧ StAt H d c t ∧ t + 100 < 2 ^ 60 ∧ 0 ≤ m ∧ m ≤ 20 ∧
  ∀ (l : Addr) (xs : List Str) (t' : Int) H', H l = none → H' l = some (.lst (xs.map V.str)) → (∀ x ∈ xs, PyData.strOk x = true) → (xs.length : Int) = m → xs.Nodup → t ≤ t' → t' ≤ t + 20 → StAt H' d c t' → Kp d c H H' → Q (.ref l) H'
theorem join_small {cs : List Nat} (h : cs.length ≤ 10) : ((cs.map sgS).map (·.length)).sum + (cs.map sgS).length * ("" : Str).length ≤ 16777216 := by
  have e : ((cs.map sgS).map (·.length)).sum = cs.length := by
    induction cs with
    | nil => rfl
    | cons c r ih =>
      rw [List.map_cons, List.map_cons, List.sum_cons, ih (by rw [List.length_cons] at h; omega), List.length_cons]
      show 1 + r.length = r.length + 1
      omega
  rw [e, show ("" : Str).length = 0 from rfl, Nat.mul_zero]
  omega
theorem joinL_ones : ∀ cs : List Nat, TL.joinL [] (cs.map fun c => [c]) = cs
  | [] => rfl
  | [_] => rfl
  | c :: c2 :: r => by
    have ih := joinL_ones (c2 :: r)
    show [c] ++ ([] ++ TL.joinL [] ((c2 :: r).map fun c => [c])) = _
    rw [ih]
    rfl
theorem join_ok {cs : List Nat} (h : ∀ c ∈ cs, c < 1114112) : PyData.strOk (Txt.join "" (cs.map sgS)) = true := by
  have e : Txt.join "" (cs.map sgS) = SX.S cs := by
    have z := SX.join_S [] (cs.map fun c => [c])
    rw [joinL_ones, List.map_map] at z
    exact z
  rw [e]
  show (Array.all _ _) = true
  rw [Array.all_eq_true']
  intro c hc
  exact decide_eq_true (h c (by simpa using hc))
/-- words that are unlike at one sign -/
def Spelt (abc : Str) (N fi sv : Int) (js : Nat) (xs : List Str) : Prop := ∀ (k : Nat) x, xs[k]? = some x → ∃ (cs : List Nat) (ch : Nat), x = SX.S cs ∧ cs[js]? = some ch ∧ atI abc.cps.toList ((fi + sv * (k : Int)) % N) = some ch
theorem join_eq (cs : List Nat) : Txt.join "" (cs.map sgS) = SX.S cs := by
  have z := SX.join_S [] (cs.map fun c => [c])
  rw [joinL_ones, List.map_map] at z
  exact z
theorem Spelt.snoc {abc : Str} {N fi sv : Int} {js i : Nat} {xs : List Str} {cs : List Nat} {ch : Nat} (h : Spelt abc N fi sv js xs) (hl : xs.length = i) (e1 : cs[js]? = some ch) (e2 : atI abc.cps.toList ((fi + sv * (i : Int)) % N) = some ch) : Spelt abc N fi sv js (xs ++ [Txt.join "" (cs.map sgS)]) := fun k x e => by
  by_cases hk : k < xs.length
  · rw [List.getElem?_append_left hk] at e
    exact h k x e
  · rw [List.getElem?_append_right (by omega)] at e
    have hz : k - xs.length = 0 := by
      cases hq : k - xs.length with
      | zero => rfl
      | succ n => rw [hq] at e; cases e
    rw [hz] at e
    cases e
    have hki : k = i := by omega
    subst hki
    exact ⟨cs, ch, join_eq cs, e1, e2⟩
theorem Spelt.nodup {abc : Str} {N fi sv : Int} {js : Nat} {xs : List Str} (h : Spelt abc N fi sv js xs) (hN : 0 < N) (hl : (abc.cps.toList.length : Int) = N) (hn : abc.cps.toList.Nodup) (far : ∀ k k' : Nat, k < xs.length → k' < xs.length → (fi + sv * (k : Int)) % N = (fi + sv * (k' : Int)) % N → k = k') : xs.Nodup := by
  refine List.pairwise_iff_getElem.mpr fun i j hi hj hij ex => ?_
  obtain ⟨cs1, c1, e1, f1, g1⟩ := h i xs[i] (List.getElem?_eq_getElem hi)
  obtain ⟨cs2, c2, e2, f2, g2⟩ := h j xs[j] (List.getElem?_eq_getElem hj)
  rw [e1, e2] at ex
  have ec : cs1 = cs2 := SX.S_inj ex
  rw [ec, f2] at f1
  have ecc : c2 = c1 := Option.some.inj f1
  rw [← ecc] at g1
  obtain ⟨a, ha⟩ := Int.eq_ofNat_of_zero_le (Int.emod_nonneg (fi + sv * (i : Int)) (show N ≠ 0 by omega))
  obtain ⟨b, hb⟩ := Int.eq_ofNat_of_zero_le (Int.emod_nonneg (fi + sv * (j : Int)) (show N ≠ 0 by omega))
  have la := Int.emod_lt_of_pos (fi + sv * (i : Int)) hN
  have lb := Int.emod_lt_of_pos (fi + sv * (j : Int)) hN
  rw [ha] at g1 la
  rw [hb] at g2 lb
  have a1 : a < abc.cps.toList.length := by omega
  have b1 : b < abc.cps.toList.length := by omega
  have g1' : abc.cps.toList[a]? = some c2 := by
    have z := atI_nat (List.getElem?_eq_getElem a1)
    rw [z] at g1
    rw [List.getElem?_eq_getElem a1]
    exact g1
  have g2' : abc.cps.toList[b]? = some c2 := by
    have z := atI_nat (List.getElem?_eq_getElem b1)
    rw [z] at g2
    rw [List.getElem?_eq_getElem b1]
    exact g2
  have eab : a = b := (List.getElem?_inj a1 hn).mp (g1'.trans g2'.symm)
  have := far i j (by omega) hj (by rw [ha, hb, eab])
  omega
/-! ### _law_names -/

theorem snoc_cases {α : Type} (l : List α) : l = [] ∨ ∃ l' x, l = l' ++ [x] := by
  rcases List.eq_nil_or_concat l with h | ⟨l', x, h⟩
  · exact .inl h
  · exact .inr ⟨l', x, by rw [h]; simp⟩
theorem _root_.GP.Prs.last {H : Hp} {us : List V} {ps : List (Int × Int)} {p : Int × Int} (h : Prs H us (ps ++ [p])) : ∃ us' T, us = us' ++ [.ref T] ∧ H T = some (.tup [.int p.1, .int p.2]) ∧ Prs H us' ps := by
  have hl := h.1
  rw [List.length_append] at hl
  rcases snoc_cases us with e | ⟨us', x, e⟩
  · rw [e] at hl
    simp at hl
  · subst e
    rw [List.length_append] at hl
    have hl' : us'.length = ps.length := Nat.add_right_cancel hl
    obtain ⟨T, e1, e2⟩ := h.2 ps.length p (by rw [List.getElem?_append_right (Nat.le_refl _), Nat.sub_self]; rfl)
    rw [List.getElem?_append_right (by omega), hl', Nat.sub_self] at e1
    refine ⟨us', T, by rw [Option.some.inj e1], e2, hl', fun i q eq => ?_⟩
    have hi : i < ps.length := (List.getElem?_eq_some_iff.mp eq).1
    obtain ⟨b, f1, f2⟩ := h.2 i q (by rw [List.getElem?_append_left hi]; exact eq)
    rw [List.getElem?_append_left (by omega)] at f1
    exact ⟨b, f1, f2⟩
theorem eqv_pr_nil (ps : List (Int × Int)) : PyData.eqv (PyData.list (ps.map pairD)) (PyData.list []) = ps.isEmpty := by
  cases ps with
  | nil => simp [PyData.eqv, PyData.eqvAll]
  | cons p r => simp [PyData.eqv, PyData.eqvAll]
def rIxS (K : PySem.W.Frag) : R2 := fun x y H Q => ∃ p xs i v, x = .ref p ∧ y = .int i ∧ Sq K H p xs ∧ atI xs i = some v ∧ Q v H
theorem ix_seq {X : Cx} : IxR X (rIxS X.K) := by
  intro value slice pins s σ H x y v u Q I rx ry h hs
  obtain ⟨p, xs, i, z, e1, e2, hq, he, q⟩ := h
  rcases hq with hq | hq
  · exact ix_list value slice pins s σ H x y v u Q I rx ry ⟨p, xs, i, z, e1, e2, hq, he, q⟩ hs
  · exact ix_tup value slice pins s σ H x y v u Q I rx ry ⟨p, xs, i, z, e1, e2, hq, he, q⟩ hs

/-! ### the table of the def that holds the generator expression -/
theorem tab_at {Pt : Addr} {H H2 : Hp} {b : Addr} {o : HO} (g : GxR.TabG H Pt) (t : GxR.Tabbed Pt H H2) (e : H b = some o) (h : ∀ q, o ≠ .tbl q) : H2 b = some o := by
  obtain ⟨ps, hP, _⟩ := g
  rw [t.2 b (ne_of e hP (h ps))]
  exact e
theorem StAt.tab {Pt : Addr} {H H2 : Hp} {d c : Addr} {t : Int} (S : StAt H d c t) (g : GxR.TabG H Pt) (x : GxR.Tabbed Pt H H2) : StAt H2 d c t :=
  ⟨tab_at g x S.dict (fun _ z => nomatch z), let ⟨cs, e, r⟩ := S.cells; ⟨cs, tab_at g x e (fun _ z => nomatch z), r⟩, S.pos⟩
theorem _root_.GP.Prs.tab {Pt : Addr} {H H2 : Hp} {vs : List V} {ps : List (Int × Int)} (h : Prs H vs ps) (g : GxR.TabG H Pt) (x : GxR.Tabbed Pt H H2) : Prs H2 vs ps :=
  ⟨h.1, fun i p e => let ⟨a, e1, e2⟩ := h.2 i p e; ⟨a, e1, tab_at g x e2 (fun _ z => nomatch z)⟩⟩
theorem tabG_same {Pt : Addr} {H H' : Hp} (g : GxR.TabG H Pt) (s : Same H H') : GxR.TabG H' Pt := let ⟨ps, e, r⟩ := g; ⟨ps, s _ _ e, r⟩
theorem tabG_kp {Pt : Addr} {H H' : Hp} {d c : Addr} {t : Int} (g : GxR.TabG H Pt) (S : StAt H d c t) (k : Kp d c H H') : GxR.TabG H' Pt := let ⟨ps, e, r⟩ := g; ⟨ps, k.at S e (fun _ z => nomatch z) (fun _ z => nomatch z), r⟩
theorem tabG_upd {Pt : Addr} {H : Hp} {l : Addr} {o u : HO} (g : GxR.TabG H Pt) (e : H l = some o) (h : ∀ q, o ≠ .tbl q) : GxR.TabG (upd H l u) Pt := let ⟨ps, eP, r⟩ := g; ⟨ps, by rw [upd_ne (ne_of e eP (h ps)).symm]; exact eP, r⟩
theorem tabbed_free {Pt : Addr} {H H2 : Hp} {p : Addr} (g : GxR.TabG H Pt) (x : GxR.Tabbed Pt H H2) (h : H2 p = none) : H p = none := by
  obtain ⟨ps, e, _⟩ := x.1
  rw [← x.2 p (fun z => by rw [z, e] at h; cases h)]
  exact h

/-- a walk over what stood before a list was begun -/
theorem for_seqS {K : PySem.W.Frag} {a : Addr} {xs : List V} {g : TG} {tb : TS} {D : Ends} {σ : L2.St} {H0 H1 : Hp} (hq : Sq K H0 a xs) (s1 : Same H0 H1) (Pv : Nat → L2.St → Hp → Prop) (h0 : Pv 0 σ H1)
    (hl : ∀ i σ H', Pv i σ H' → Same H0 H')
    (turn : ∀ i x σ H, xs[i]? = some x → Pv i σ H → g x σ H fun σ2 H2 => tb { D with nx := Pv (i + 1), ct := Pv (i + 1), bk := D.nx } σ2 H2) (fin : ∀ σ H, Pv xs.length σ H → D.nx σ H) :
    ((∃ xs, SqL K H1 a xs) ∧ ForR (Itl K a) g tb D σ H1) ∨ ((∃ xs, SqT K H1 a xs) ∧ ForR (Itt K a) g tb D σ H1) := by
  rcases hq with h | h
  · exact .inl ⟨⟨xs, s1.seq h⟩, for_list (xs := xs) Pv h0 (fun i σ H' _ p => (hl i σ H' p).seq h) turn fin⟩
  · exact .inr ⟨⟨xs, same_t s1 h⟩, for_tup (xs := xs) Pv h0 (fun i σ H' _ p => same_t (hl i σ H' p) h) turn fin⟩

abbrev LcR (J : It) (g : TG) (tt : TT) (te : TE) (vs : List Nat) (σ : L2.St) (D : Addr) (Qd : Addr → Hp → Prop) (H1 : Hp) : Prop := ∃ W : Nat → Nat → Hp → Prop, (∃ m, W 0 m (upd H1 D (.lst []))) ∧ ∀ i m H, W i m H →
  (J.stop i H ∧ Qd D H) ∨ (J.go i H ∧ ∃ Nx : Hp → Prop, (∀ H', Nx H' → ∃ m', m' < m ∧ W (i + 1) m' H') ∧ ∀ x H', J.yld i H x H' → g x (wipe σ vs) H' fun σ2 H2 => wipe σ2 vs = wipe σ vs ∧ tt σ2 H2 fun b H3 => if b = true then
    te σ2 H3 fun y H4 => ∃ acc, H4 D = some (.lst acc) ∧ acc.length < sizeLine ∧ Nx (upd H4 D (.lst (acc ++ [y]))) else Nx H3)
theorem lc_seq {K : PySem.W.Frag} {a : Addr} {xs : List V} {g : TG} {tt : TT} {te : TE} {vs : List Nat} {σ : L2.St} {H1 : Hp} {Qd : Addr → Hp → Prop} (hq : Sq K H1 a xs) (Pv : Addr → Nat → Hp → Prop) (h0 : ∀ D, H1 D = none → Pv D 0 (upd H1 D (.lst [])))
    (still : ∀ D i H', H1 D = none → Pv D i H' → SqTo K H1 H' a xs)
    (turn : ∀ D i x H', H1 D = none → xs[i]? = some x → Pv D i H' → g x (wipe σ vs) H' fun σ2 H2 => wipe σ2 vs = wipe σ vs ∧ tt σ2 H2 fun b H3 =>
      if b = true then te σ2 H3 fun y H4 => ∃ acc, H4 D = some (.lst acc) ∧ acc.length < sizeLine ∧ Pv D (i + 1) (upd H4 D (.lst (acc ++ [y]))) else Pv D (i + 1) H3) (fin : ∀ D H', H1 D = none → Pv D xs.length H' → Qd D H') :
    ((∃ xs, SqL K H1 a xs) ∧ ∀ D, H1 D = none → LcR (Itl K a) g tt te vs σ D Qd H1) ∨ ((∃ xs, SqT K H1 a xs) ∧ ∀ D, H1 D = none → LcR (Itt K a) g tt te vs σ D Qd H1) := by
  rcases hq with h | h
  · exact .inl ⟨⟨xs, h⟩, fun D nD => lc_list (xs := xs) (Pv D) (h0 D nD) (fun i H' _ p => (still D i H' nD p).1 h) (fun i x H' e p => turn D i x H' nD e p) (fun H' p => fin D H' nD p)⟩
  · exact .inr ⟨⟨xs, h⟩, fun D nD => lc_tup (xs := xs) (Pv D) (h0 D nD) (fun i H' _ p => (still D i H' nD p).2 h) (fun i x H' e p => turn D i x H' nD e p) (fun H' p => fin D H' nD p)⟩

/-! ### sets by stretches: the mathematics -/
theorem inB_iff {n a b : Int} : inB n a b = true ↔ a ≤ n ∧ n ≤ b := by
  unfold inB
  rw [Bool.and_eq_true, decide_eq_true_eq (p := a ≤ n), decide_eq_true_eq]
theorem anyP_iff {n : Int} {ps : List (Int × Int)} : anyP (inB n) ps = true ↔ ∃ p ∈ ps, p.1 ≤ n ∧ n ≤ p.2 := by
  unfold anyP
  rw [List.any_eq_true]
  constructor
  · rintro ⟨p, hp, e⟩
    exact ⟨p, hp, inB_iff.mp e⟩
  · rintro ⟨p, hp, e⟩
    exact ⟨p, hp, inB_iff.mpr e⟩
/-- the same numbers -/
def Alike (ps qs : List (Int × Int)) : Prop := ∀ n : Int, (∃ p ∈ ps, p.1 ≤ n ∧ n ≤ p.2) ↔ ∃ p ∈ qs, p.1 ≤ n ∧ n ≤ p.2
theorem Alike.any {ps qs : List (Int × Int)} (h : Alike ps qs) (n : Int) : anyP (inB n) ps = anyP (inB n) qs := by
  rw [Bool.eq_iff_iff, anyP_iff, anyP_iff]
  exact h n
theorem Alike.symm {ps qs : List (Int × Int)} (h : Alike ps qs) : Alike qs ps := fun n => (h n).symm
theorem Alike.trans {ps qs rs : List (Int × Int)} (h : Alike ps qs) (h' : Alike qs rs) : Alike ps rs := fun n => (h n).trans (h' n)
theorem Alike.of_mem {ps qs : List (Int × Int)} (h : ∀ p, p ∈ ps ↔ p ∈ qs) : Alike ps qs := fun n => ⟨fun ⟨p, hp, e⟩ => ⟨p, (h p).mp hp, e⟩, fun ⟨p, hp, e⟩ => ⟨p, (h p).mpr hp, e⟩⟩
/-- of each set of numbers there is just one list -/
theorem ris_one : ∀ {rs rs' : List (Int × Int)} {lo lo' : Int}, Ris lo rs → Ris lo' rs' → Alike rs rs' → rs = rs'
  | [], [], _, _, _, _, _ => by rfl
  | [], q :: r, _, _, _, h', e => by
    obtain ⟨p, hp, _⟩ := (e q.1).mpr ⟨q, List.mem_cons_self .., Int.le_refl _, h'.2.1⟩
    exact nomatch hp
  | q :: r, [], _, _, h, _, e => by
    obtain ⟨p, hp, _⟩ := (e q.1).mp ⟨q, List.mem_cons_self .., Int.le_refl _, h.2.1⟩
    exact nomatch hp
  | (a, b) :: r, (a', b') :: r', lo, lo', h, h', e => by
    have hb : a ≤ b := h.2.1
    have hb' : a' ≤ b' := h'.2.1
    have tl : ∀ p ∈ r, b + 2 ≤ p.1 ∧ p.1 ≤ p.2 := Ris.le h.2.2
    have tl' : ∀ p ∈ r', b' + 2 ≤ p.1 ∧ p.1 ≤ p.2 := Ris.le h'.2.2
    have m1 : a' ≤ a := by
      obtain ⟨p, hp, e1, e2⟩ := (e a).mp ⟨(a, b), List.mem_cons_self .., Int.le_refl _, hb⟩
      rcases List.mem_cons.mp hp with z | z
      · rw [z] at e1; exact e1
      · have := tl' p z; omega
    have m2 : a ≤ a' := by
      obtain ⟨p, hp, e1, e2⟩ := (e a').mpr ⟨(a', b'), List.mem_cons_self .., Int.le_refl _, hb'⟩
      rcases List.mem_cons.mp hp with z | z
      · rw [z] at e1; exact e1
      · have := tl p z; omega
    have ea : a = a' := by omega
    have n1 : ¬ b < b' := fun lt => by
      obtain ⟨p, hp, e1, e2⟩ := (e (b + 1)).mpr ⟨(a', b'), List.mem_cons_self .., by show a' ≤ b + 1; omega, by show b + 1 ≤ b'; omega⟩
      rcases List.mem_cons.mp hp with z | z
      · rw [z] at e2; have : b + 1 ≤ b := e2; omega
      · have := tl p z; omega
    have n2 : ¬ b' < b := fun lt => by
      obtain ⟨p, hp, e1, e2⟩ := (e (b' + 1)).mp ⟨(a, b), List.mem_cons_self .., by show a ≤ b' + 1; omega, by show b' + 1 ≤ b; omega⟩
      rcases List.mem_cons.mp hp with z | z
      · rw [z] at e2; have : b' + 1 ≤ b' := e2; omega
      · have := tl' p z; omega
    have eb : b = b' := by omega
    subst ea eb
    have er : Alike r r' := fun n => by
      constructor
      · rintro ⟨p, hp, e1, e2⟩
        obtain ⟨p', hp', f1, f2⟩ := (e n).mp ⟨p, List.mem_cons_of_mem _ hp, e1, e2⟩
        rcases List.mem_cons.mp hp' with z | z
        · rw [z] at f2
          have : n ≤ b := f2
          have := tl p hp
          omega
        · exact ⟨p', z, f1, f2⟩
      · rintro ⟨p, hp, e1, e2⟩
        obtain ⟨p', hp', f1, f2⟩ := (e n).mpr ⟨p, List.mem_cons_of_mem _ hp, e1, e2⟩
        rcases List.mem_cons.mp hp' with z | z
        · rw [z] at f2
          have : n ≤ b := f2
          have := tl' p hp
          omega
        · exact ⟨p', z, f1, f2⟩
    rw [ris_one h.2.2 h'.2.2 er]
theorem Ris.front : ∀ {lo : Int} {rs : List (Int × Int)} {q : Int × Int}, Ris lo (rs ++ [q]) → Ris lo rs ∧ (∀ r ∈ rs, r.2 + 2 ≤ q.1) ∧ lo ≤ q.1 ∧ q.1 ≤ q.2
  | lo, [], q, h => ⟨True.intro, (fun _ z => nomatch z), h.1, h.2.1⟩
  | lo, r :: rs, q, h => by
    obtain ⟨h1, h2, h3, h4⟩ := Ris.front h.2.2
    refine ⟨⟨h.1, h.2.1, h1⟩, fun x hx => ?_, by have := h.1; have := h.2.1; omega, h4⟩
    rcases List.mem_cons.mp hx with z | z
    · rw [z]; exact h3
    · exact h2 x z
/-- what is told of pairs: a set of just their numbers -/
structure SetLike (ps rs : List (Int × Int)) : Prop where
  ris : ∃ lo, Ris lo rs
  same : Alike rs ps
  len : rs.length ≤ ps.length
/-- between two turns: the pairs so far, rising by their firsts, and what is merged of them -/
structure Mrg (pre rs : List (Int × Int)) : Prop extends SetLike pre rs where
  firsts : ∀ r ∈ rs, ∃ p ∈ pre, p.1 = r.1
theorem alike_snoc {pre : List (Int × Int)} {rs rs' : List (Int × Int)} {p : Int × Int} (h : Alike rs pre) (e : ∀ n, (∃ q ∈ rs', q.1 ≤ n ∧ n ≤ q.2) ↔ (∃ q ∈ rs, q.1 ≤ n ∧ n ≤ q.2) ∨ (p.1 ≤ n ∧ n ≤ p.2)) : Alike rs' (pre ++ [p]) := fun n => by
  rw [e n, h n]
  constructor
  · rintro (⟨q, hq, z⟩ | z)
    · exact ⟨q, List.mem_append_left _ hq, z⟩
    · exact ⟨p, List.mem_append_right _ (List.mem_singleton.mpr rfl), z⟩
  · rintro ⟨q, hq, z⟩
    rcases List.mem_append.mp hq with y | y
    · exact .inl ⟨q, y, z⟩
    · rw [List.mem_singleton.mp y] at z
      exact .inr z
theorem Mrg.join {pre rs : List (Int × Int)} {a b : Int} {p : Int × Int} (m : Mrg pre (rs ++ [(a, b)])) (hp : p.1 ≤ p.2) (ord : ∀ q ∈ pre, q.1 ≤ p.1) (near : p.1 ≤ b + 1) : Mrg (pre ++ [p]) (rs ++ [(a, if p.2 > b then p.2 else b)]) := by
  obtain ⟨lo, hr⟩ := m.ris
  obtain ⟨h1, h2, h3, h4⟩ := Ris.front hr
  obtain ⟨q, hq, eq⟩ := m.firsts (a, b) (List.mem_append_right _ (List.mem_singleton.mpr rfl))
  have hap : a ≤ p.1 := by have := ord q hq; have : q.1 = a := eq; omega
  have hab : a ≤ b := h4
  have big : a ≤ (if p.2 > b then p.2 else b) := by split <;> omega
  refine ⟨⟨⟨lo, h1.snoc h3 h2 big⟩, alike_snoc m.same fun n => ?_, ?_⟩, fun r hr => ?_⟩
  · constructor
    · rintro ⟨q, hq, z⟩
      rcases List.mem_append.mp hq with y | y
      · exact .inl ⟨q, List.mem_append_left _ y, z⟩
      · rw [List.mem_singleton.mp y] at z
        have z1 : a ≤ n := z.1
        have z2 : n ≤ (if p.2 > b then p.2 else b) := z.2
        by_cases c : n ≤ b
        · exact .inl ⟨(a, b), List.mem_append_right _ (List.mem_singleton.mpr rfl), z1, c⟩
        · refine .inr ⟨by omega, ?_⟩
          split at z2 <;> omega
    · rintro (⟨q, hq, z⟩ | z)
      · rcases List.mem_append.mp hq with y | y
        · exact ⟨q, List.mem_append_left _ y, z⟩
        · rw [List.mem_singleton.mp y] at z
          refine ⟨_, List.mem_append_right _ (List.mem_singleton.mpr rfl), z.1, ?_⟩
          have z2 : n ≤ b := z.2
          show n ≤ (if p.2 > b then p.2 else b)
          split <;> omega
      · refine ⟨_, List.mem_append_right _ (List.mem_singleton.mpr rfl), by show a ≤ n; omega, ?_⟩
        show n ≤ (if p.2 > b then p.2 else b)
        split <;> omega
  · have := m.len
    rw [List.length_append, List.length_append] at *
    show rs.length + 1 ≤ pre.length + 1
    have : rs.length + 1 ≤ pre.length := this
    omega
  · rcases List.mem_append.mp hr with y | y
    · obtain ⟨q, hq, e⟩ := m.firsts r (List.mem_append_left _ y)
      exact ⟨q, List.mem_append_left _ hq, e⟩
    · rw [List.mem_singleton.mp y]
      exact ⟨q, List.mem_append_left _ hq, eq⟩
theorem Mrg.new {pre rs : List (Int × Int)} {p : Int × Int} (m : Mrg pre rs) (hp : p.1 ≤ p.2) (ord : ∀ q ∈ pre, q.1 ≤ p.1) (far : ∀ r ∈ rs, r.2 + 2 ≤ p.1) : Mrg (pre ++ [p]) (rs ++ [p]) := by
  obtain ⟨lo, hr⟩ := m.ris
  refine ⟨⟨?_, alike_snoc m.same fun n => ?_, by have := m.len; rw [List.length_append, List.length_append]; show rs.length + 1 ≤ pre.length + 1; omega⟩, fun r hr => ?_⟩
  · cases rs with
    | nil => exact ⟨p.1, Int.le_refl _, hp, True.intro⟩
    | cons q r =>
      refine ⟨lo, hr.snoc ?_ far hp⟩
      have := hr.le q (List.mem_cons_self ..)
      have := far q (List.mem_cons_self ..)
      omega
  · constructor
    · rintro ⟨q, hq, z⟩
      rcases List.mem_append.mp hq with y | y
      · exact .inl ⟨q, y, z⟩
      · rw [List.mem_singleton.mp y] at z; exact .inr z
    · rintro (⟨q, hq, z⟩ | z)
      · exact ⟨q, List.mem_append_left _ hq, z⟩
      · exact ⟨p, List.mem_append_right _ (List.mem_singleton.mpr rfl), z⟩
  · rcases List.mem_append.mp hr with y | y
    · obtain ⟨q, hq, e⟩ := m.firsts r y
      exact ⟨q, List.mem_append_left _ hq, e⟩
    · rw [List.mem_singleton.mp y]
      exact ⟨p, List.mem_append_right _ (List.mem_singleton.mpr rfl), rfl⟩
theorem Mrg.nil : Mrg [] [] := ⟨⟨⟨0, True.intro⟩, fun _ => Iff.rfl, Nat.le_refl _⟩, fun _ z => nomatch z⟩

/-! ### sets put together: the mathematics -/
def InS (ps : List (Int × Int)) (n : Int) : Prop := ∃ p ∈ ps, p.1 ≤ n ∧ n ≤ p.2
theorem inS_nil {n : Int} : ¬ InS [] n := fun ⟨_, h, _⟩ => nomatch h
theorem inS_cons {p : Int × Int} {r : List (Int × Int)} {n : Int} : InS (p :: r) n ↔ (p.1 ≤ n ∧ n ≤ p.2) ∨ InS r n := by
  constructor
  · rintro ⟨q, hq, e⟩
    rcases List.mem_cons.mp hq with z | z
    · rw [z] at e; exact .inl e
    · exact .inr ⟨q, z, e⟩
  · rintro (e | ⟨q, hq, e⟩)
    · exact ⟨p, List.mem_cons_self .., e⟩
    · exact ⟨q, List.mem_cons_of_mem _ hq, e⟩
theorem inS_append {ps qs : List (Int × Int)} {n : Int} : InS (ps ++ qs) n ↔ InS ps n ∨ InS qs n := by
  constructor
  · rintro ⟨q, hq, e⟩
    rcases List.mem_append.mp hq with z | z
    · exact .inl ⟨q, z, e⟩
    · exact .inr ⟨q, z, e⟩
  · rintro (⟨q, hq, e⟩ | ⟨q, hq, e⟩)
    · exact ⟨q, List.mem_append_left _ hq, e⟩
    · exact ⟨q, List.mem_append_right _ hq, e⟩
theorem Ris.low {lo n : Int} {ps : List (Int × Int)} (h : Ris lo ps) (e : InS ps n) : lo ≤ n := by
  obtain ⟨p, hp, e1, e2⟩ := e
  have := h.le p hp
  omega
theorem Ris.mono : ∀ {lo lo' : Int} {ps : List (Int × Int)}, Ris lo ps → lo' ≤ lo → Ris lo' ps
  | _, _, [], _, _ => True.intro
  | _, _, _ :: _, h, e => ⟨Int.le_trans e h.1, h.2⟩
def mxI (i j : Int) : Int := if j > i then j else i
def mnI (i j : Int) : Int := if j < i then j else i
theorem mxI_le {i j n : Int} : mxI i j ≤ n ↔ i ≤ n ∧ j ≤ n := by unfold mxI; split <;> omega
theorem le_mxI {i j n : Int} : n ≤ mxI i j ↔ n ≤ i ∨ n ≤ j := by unfold mxI; split <;> omega
theorem le_mnI {i j n : Int} : n ≤ mnI i j ↔ n ≤ i ∧ n ≤ j := by unfold mnI; split <;> omega
theorem mnI_le {i j n : Int} : mnI i j ≤ n ↔ i ≤ n ∨ j ≤ n := by unfold mnI; split <;> omega
/-- going through both at once -/
def bothF : List (Int × Int) → List (Int × Int) → List (Int × Int)
  | [], _ => []
  | _ :: _, [] => []
  | p :: r, q :: s => (if mxI p.1 q.1 ≤ mnI p.2 q.2 then [(mxI p.1 q.1, mnI p.2 q.2)] else []) ++ (if p.2 < q.2 then bothF r (q :: s) else bothF (p :: r) s)
termination_by ps qs => ps.length + qs.length
theorem bothF_nil (ps : List (Int × Int)) : bothF ps [] = [] := by cases ps <;> rw [bothF]
theorem bothF_ris : ∀ {ps qs : List (Int × Int)} {lo lo' k : Int}, Ris lo ps → Ris lo' qs → (k ≤ lo ∨ k ≤ lo') → Ris k (bothF ps qs)
  | [], _, _, _, _, _, _, _ => by rw [bothF]; exact True.intro
  | _ :: _, [], _, _, _, _, _, _ => by rw [bothF]; exact True.intro
  | p :: r, q :: s, lo, lo', k, h, h', hk => by
    rw [bothF]
    have h1 := h.1
    have h2 := h.2.1
    have h1' := h'.1
    have h2' := h'.2.1
    by_cases c : mxI p.1 q.1 ≤ mnI p.2 q.2
    · rw [if_pos c]
      refine ⟨?_, c, ?_⟩
      · show k ≤ mxI p.1 q.1
        rw [le_mxI]
        omega
      · by_cases d : p.2 < q.2
        · rw [if_pos d]
          refine bothF_ris h.2.2 h' (.inl ?_)
          show mnI p.2 q.2 + 2 ≤ p.2 + 2
          have : mnI p.2 q.2 ≤ p.2 := mnI_le.mpr (.inl (Int.le_refl _))
          omega
        · rw [if_neg d]
          refine bothF_ris h h'.2.2 (.inr ?_)
          show mnI p.2 q.2 + 2 ≤ q.2 + 2
          have : mnI p.2 q.2 ≤ q.2 := mnI_le.mpr (.inr (Int.le_refl _))
          omega
    · rw [if_neg c, List.nil_append]
      by_cases d : p.2 < q.2
      · rw [if_pos d]
        refine bothF_ris h.2.2 h' ?_
        omega
      · rw [if_neg d]
        refine bothF_ris h h'.2.2 ?_
        omega
termination_by ps qs => ps.length + qs.length
theorem bothF_in {n : Int} : ∀ {ps qs : List (Int × Int)} {lo lo' : Int}, Ris lo ps → Ris lo' qs → (InS (bothF ps qs) n ↔ InS ps n ∧ InS qs n)
  | [], _, _, _, _, _ => by rw [bothF]; exact ⟨fun h => absurd h inS_nil, fun h => h.1⟩
  | _ :: _, [], _, _, _, _ => by rw [bothF]; exact ⟨fun h => absurd h inS_nil, fun h => h.2⟩
  | p :: r, q :: s, lo, lo', h, h' => by
    rw [bothF, inS_append, inS_cons, inS_cons]
    have e1 : InS (if mxI p.1 q.1 ≤ mnI p.2 q.2 then [(mxI p.1 q.1, mnI p.2 q.2)] else []) n ↔ (p.1 ≤ n ∧ n ≤ p.2) ∧ (q.1 ≤ n ∧ n ≤ q.2) := by
      by_cases c : mxI p.1 q.1 ≤ mnI p.2 q.2
      · rw [if_pos c, inS_cons]
        show ((mxI p.1 q.1 ≤ n ∧ n ≤ mnI p.2 q.2) ∨ InS [] n) ↔ _
        rw [mxI_le, le_mnI]
        constructor
        · rintro (z | z)
          · omega
          · exact absurd z inS_nil
        · intro z
          exact .inl (by omega)
      · rw [if_neg c]
        constructor
        · exact fun z => absurd z inS_nil
        · intro z
          refine absurd (Int.le_trans (mxI_le.mpr ⟨z.1.1, z.2.1⟩) (le_mnI.mpr ⟨z.1.2, z.2.2⟩)) c
    rw [e1]
    by_cases d : p.2 < q.2
    · rw [if_pos d, bothF_in h.2.2 h', inS_cons]
      have no : InS s n → ¬ n ≤ p.2 := fun z => by
        have := h'.2.2.low z
        omega
      constructor
      · rintro (⟨z1, z2⟩ | ⟨z1, z2⟩)
        · exact ⟨.inl z1, .inl z2⟩
        · exact ⟨.inr z1, z2⟩
      · rintro ⟨z1 | z1, z2 | z2⟩
        · exact .inl ⟨z1, z2⟩
        · exact absurd z1.2 (no z2)
        · exact .inr ⟨z1, .inl z2⟩
        · exact .inr ⟨z1, .inr z2⟩
    · rw [if_neg d, bothF_in h h'.2.2, inS_cons]
      have no : InS r n → ¬ n ≤ q.2 := fun z => by
        have := h.2.2.low z
        omega
      constructor
      · rintro (⟨z1, z2⟩ | ⟨z1, z2⟩)
        · exact ⟨.inl z1, .inl z2⟩
        · exact ⟨z1, .inr z2⟩
      · rintro ⟨z1 | z1, z2 | z2⟩
        · exact .inl ⟨z1, z2⟩
        · exact .inr ⟨.inl z1, z2⟩
        · exact absurd z2.2 (no z1)
        · exact .inr ⟨.inr z1, z2⟩
termination_by ps qs => ps.length + qs.length
/-- what lies between the stretches of a set -/
def gapsF (e : Int) : Int → List (Int × Int) → List (Int × Int)
  | st, [] => [(st, e)]
  | st, p :: r => (st, mnI (p.1 - 1) e) :: gapsF e (mxI st (p.2 + 1)) r
theorem gapsF_length (e : Int) : ∀ (qs : List (Int × Int)) (st : Int), (gapsF e st qs).length = qs.length + 1
  | [], _ => rfl
  | _ :: r, _ => by rw [gapsF, List.length_cons, gapsF_length e r, List.length_cons]
theorem gapsF_in {e n : Int} : ∀ {qs : List (Int × Int)} {lo st : Int}, Ris lo qs → (InS (gapsF e st qs) n ↔ (st ≤ n ∧ n ≤ e) ∧ ¬ InS qs n)
  | [], _, st, _ => by
    rw [gapsF, inS_cons]
    constructor
    · rintro (z | z)
      · exact ⟨z, inS_nil⟩
      · exact absurd z inS_nil
    · exact fun z => .inl z.1
  | p :: r, lo, st, h => by
    rw [gapsF, inS_cons, gapsF_in h.2.2, inS_cons]
    show ((st ≤ n ∧ n ≤ mnI (p.1 - 1) e) ∨ (mxI st (p.2 + 1) ≤ n ∧ n ≤ e) ∧ ¬ InS r n) ↔ _
    rw [le_mnI, mxI_le]
    have h2 := h.2.1
    have no : n ≤ p.2 + 1 → ¬ InS r n := fun z y => by
      have := h.2.2.low y
      omega
    constructor
    · rintro (z | ⟨z, y⟩)
      · refine ⟨by omega, ?_⟩
        rintro (x | x)
        · omega
        · exact no (by omega) x
      · refine ⟨by omega, ?_⟩
        rintro (x | x)
        · omega
        · exact y x
    · rintro ⟨z, y⟩
      by_cases c : n < p.1
      · exact .inl (by omega)
      · refine .inr ⟨?_, fun x => y (.inr x)⟩
        have : ¬ (p.1 ≤ n ∧ n ≤ p.2) := fun x => y (.inl x)
        omega
/-- a set of just the numbers of which pr holds -/
structure Told (pr : Int → Prop) (rs : List (Int × Int)) : Prop where
  ris : ∃ lo, Ris lo rs
  same : ∀ n, InS rs n ↔ pr n
theorem Told.one {pr pr' : Int → Prop} {rs rs' : List (Int × Int)} (h : Told pr rs) (h' : Told pr' rs') (e : ∀ n, pr n ↔ pr' n) : rs = rs' := by
  obtain ⟨lo, r⟩ := h.ris
  obtain ⟨lo', r'⟩ := h'.ris
  exact ris_one r r' fun n => (h.same n).trans ((e n).trans (h'.same n).symm)
theorem Told.of {lo : Int} {rs : List (Int × Int)} (h : Ris lo rs) : Told (InS rs) rs := ⟨⟨lo, h⟩, fun _ => Iff.rfl⟩
theorem SetLike.told {ps rs : List (Int × Int)} (h : SetLike ps rs) : Told (InS ps) rs := ⟨h.ris, h.same⟩
theorem Told.cong {pr pr' : Int → Prop} {rs : List (Int × Int)} (h : Told pr rs) (e : ∀ n, pr n ↔ pr' n) : Told pr' rs := ⟨h.ris, fun n => (h.same n).trans (e n)⟩
theorem Told.nneg {pr : Int → Prop} {rs : List (Int × Int)} (h : Told pr rs) (hn : ∀ n, pr n → 0 ≤ n) : Ris 0 rs := by
  obtain ⟨lo, r⟩ := h.ris
  cases rs with
  | nil => exact True.intro
  | cons p q => exact ⟨hn _ ((h.same _).mp (inS_cons.mpr (.inl ⟨Int.le_refl _, r.2.1⟩))), r.2⟩

theorem cut_back (xs : List V) (m : Nat) : cutV xs (some (m : Int)) none = xs.drop m := by
  unfold cutV
  rw [HT.sIx_none, HT.sIx_nat]
  by_cases h : m ≤ xs.length
  · rw [Nat.min_eq_left h]
    exact List.take_of_length_le (by rw [List.length_drop]; exact Nat.le_refl _)
  · rw [Nat.min_eq_right (by omega), Nat.sub_self, List.take_zero, List.drop_eq_nil_of_le (by omega)]
theorem _root_.GP.Prs.append {H : Hp} {us ws : List V} {ps qs : List (Int × Int)} (h : Prs H us ps) (h' : Prs H ws qs) : Prs H (us ++ ws) (ps ++ qs) := by
  refine ⟨by rw [List.length_append, List.length_append, h.1, h'.1], fun i p e => ?_⟩
  by_cases hi : i < ps.length
  · rw [List.getElem?_append_left hi] at e
    rw [List.getElem?_append_left (by rw [h.1]; exact hi)]
    exact h.2 i p e
  · rw [List.getElem?_append_right (by omega)] at e
    rw [List.getElem?_append_right (by rw [h.1]; omega), h.1]
    exact h'.2 _ p e
theorem _root_.GP.Prs.take {H : Hp} {us : List V} {ps : List (Int × Int)} (h : Prs H us ps) (n : Nat) : Prs H (us.take n) (ps.take n) := by
  refine ⟨by rw [List.length_take, List.length_take, h.1], fun i p e => ?_⟩
  rw [List.getElem?_take] at e ⊢
  split at e
  · rename_i hi
    rw [if_pos hi]
    exact h.2 i p e
  · cases e
theorem _root_.GP.Prs.drop {H : Hp} {us : List V} {ps : List (Int × Int)} (h : Prs H us ps) (n : Nat) : Prs H (us.drop n) (ps.drop n) := by
  refine ⟨by rw [List.length_drop, List.length_drop, h.1], fun i p e => ?_⟩
  rw [List.getElem?_drop] at e ⊢
  exact h.2 _ p e
theorem _root_.GP.Prs.reverse {H : Hp} {us : List V} {ps : List (Int × Int)} (h : Prs H us ps) : Prs H us.reverse ps.reverse := by
  refine ⟨by rw [List.length_reverse, List.length_reverse, h.1], fun i p e => ?_⟩
  have hi : i < ps.length := by
    have z := (List.getElem?_eq_some_iff.mp e).1
    rwa [List.length_reverse] at z
  rw [List.getElem?_reverse hi] at e
  rw [List.getElem?_reverse (by rw [h.1]; exact hi), h.1]
  exact h.2 _ p e

/-! ### set_of -/
/-- the pair that a tracked tuple holds -/
def pairOf (H : Hp) : V → Int × Int
  | .ref t => (match H t with
    | some (.tup [.int i, .int j]) => (i, j)
    | _ => (0, 0))
  | _ => (0, 0)
theorem pairOf_at {H : Hp} {t : Addr} {p : Int × Int} (e : H t = some (.tup [.int p.1, .int p.2])) : pairOf H (.ref t) = p := by
  show (match H t with | some (.tup [.int i, .int j]) => (i, j) | _ => (0, 0)) = p
  rw [e]
abbrev sSetOf : Stmt := topS 8
theorem scSetOf : FnScope ["pairs", "merged", "first", "last", "low", "high", "pair"] ["pairs"] (defScope sSetOf) := ⟨rfl, rfl, rfl, by decide +kernel, rfl, by decide +kernel, by decide +kernel⟩
def spSetOf (K : PySem.W.Frag) : Sp := fun vs H Q _ => ∃ (a : Addr) (us : List V) (ps : List (Int × Int)), vs = [.ref a] ∧ Sq K H a us ∧ Prs H us ps ∧ ps.length ≤ 900 ∧
  ∀ (l : Addr) (ws : List V) (rs : List (Int × Int)) H', H l = none → H' l = some (.lst ws) → Prs H' ws rs → SetLike ps rs → Same H H' → Q (.ref l) H'
section
variable {K : PySem.W.Frag} {mg : Str → Option Value} {P : Program} {w : World} {base : Heap}
theorem ok_setof {f : Addr} {fd : FuncData} {k : Nat} (F : Fun K "set_of" "set_of" sSetOf f fd) (mso : mg "sorted" = none) (mx : mg "max" = none) : FnOk P w K mg base CX0 (k + 1) f fd ["pairs"] (spSetOf K) := by
  refine F.ok scSetOf (fun vs H Q E h => ?_) (fun cdv A outer s H vs Q E hr h => ?_)
  · obtain ⟨a, us, ps, rfl, _⟩ := h
    rfl
  · obtain ⟨a, us, ps, rfl, hq, hp, hz, q⟩ := h
    refine ⟨_, pss_cons (ps_set (i := 1) scSetOf.nd rfl (.inl rfl) (pe_lst pa_nil))
      (pss_cons (ps_for PassesOwn.never rfl (pi_list (pe_callB cr_sortedPO (by rfl) mso (by decide +kernel) (pa_cons (pe_lc (own := [("pair", 6)]) (g := gName 6) (tt := tTest (tOp (rI0 fun i j => .bl (decide (i ≤ j))) (tOp (rIxT K) (tVar 6) (tC (.int 0))) (tOp (rIxT K) (tVar 6) (tC (.int 1))))) rfl scSetOf.nd (pi_seq (pv 0))
          (blkOk_by (own := [("pair", 6)]) (N := ["pairs", "merged", "first", "last", "low", "high", "pair"]) (sc := defScope sSetOf) (by decide +kernel))
          (fun _ _ _ _ _ => pg_name (i := 6) scSetOf.nd rfl (.inl rfl)) (fun _ _ _ _ _ => pts_one (pt_cmpR op_le (pe_ix ix_tup (pv 6) pe_int (fun _ _ => rfl)) (pe_ix ix_tup (pv 6) pe_int (fun _ _ => rfl)) (nomark _))) (fun _ _ _ _ _ => pv 6)) pa_nil)))
        (pg_tup rfl (pgs_cons (pg_name (i := 2) scSetOf.nd rfl (.inl rfl)) (pgs_cons (pg_name (i := 3) scSetOf.nd rfl (.inl rfl)) pgs_nil)))
        (pss_one (ps_if (PW.pt (pw_and (pt_truth (pv 1) (by intro _; rfl)) (pw_and1 (pt_cmpR op_le (pv 2) (pe_op op_add (pe_ix ix_tup (pe_ix ix_list (pv 1) (pe_un un_neg pe_int) (fun _ _ => rfl)) pe_int (fun _ _ => rfl)) pe_int) (nomark _)))))
          (pss_cons (ps_asg (pe_ix ix_list (pv 1) (pe_un un_neg pe_int) (fun _ _ => rfl)) (pg_tup rfl (pgs_cons (pg_name (i := 4) scSetOf.nd rfl (.inl rfl)) (pgs_cons (pg_name (i := 5) scSetOf.nd rfl (.inl rfl)) pgs_nil))))
          (pss_one (ps_asg (pe_tup (pa_cons (pv 4) (pa_cons (pe_callB (call_max2 rfl) (by rfl) mx (by decide +kernel) (pa_cons (pv 5) (pa_cons (pv 3) pa_nil))) pa_nil))) (pg_sub (pv 1) (pe_un un_neg pe_int) set_list))))
          (pss_one (ps_expr (pe_bm PySem.F.plainAttrs_list PySem.F.slot_list_append PySem.F.type_list_append mt_append (pv 1) (pa_cons (pe_tup (pa_cons (pv 2) (pa_cons (pv 3) pa_nil))) pa_nil)))))))
      (pss_one (ps_ret (pv 1)))), ?_⟩
    -- merged = []
    refine ⟨Nat.zero_le _, fun mg' nm => ?_⟩
    have s1 := same_upd (o := .lst []) nm
    have em1 : upd H mg' (.lst []) mg' = some (.lst []) := upd_same
    revert s1 em1
    generalize upd H mg' (.lst []) = H1
    intro s1 em1
    -- [pair for pair in pairs if ..]
    refine ⟨.ref a, rfl, a, rfl, lc_seq (xs := us) (hq.same s1) (fun D i H' => Same H1 H' ∧ ∃ ys, H' D = some (.lst ys) ∧ Prs H' ys ((ps.take i).filter fun p => decide (p.1 ≤ p.2)) ∧ ys.length ≤ i) (fun D nD => ⟨same_upd nD, [], upd_same, Prs.nil, Nat.le_refl _⟩)
      (fun D i H' nD hP => SqTo.same hP.1) (fun D i x H' nD hx hP => ?_) (fun D H2 nD hP => ?_)⟩
    · obtain ⟨sm, ys, eD, hys, hyl⟩ := hP
      obtain ⟨p, T, ep, rfl, eT⟩ := prs_at hp hx
      have hi : i < us.length := (List.getElem?_eq_some_iff.mp hx).1
      rw [hp.1] at hi
      have eT' := sm _ _ (s1 _ _ eT)
      refine ⟨rfl, _, rfl, T, _, 0, .int p.1, rfl, rfl, .inl (.inl eT'), atI_nat (j := 0) rfl, _, rfl, T, _, 1, .int p.2, rfl, rfl, .inl (.inl eT'), atI_nat (j := 1) rfl, p.1, p.2, rfl, rfl, _, rfl, ?_⟩
      have etake : (ps.take (i + 1)).filter (fun p => decide (p.1 ≤ p.2)) = (ps.take i).filter (fun p => decide (p.1 ≤ p.2)) ++ (if p.1 ≤ p.2 then [p] else []) := by
        rw [List.take_add_one, ep, List.filter_append]
        by_cases c : p.1 ≤ p.2
        · rw [if_pos c]; simp [c]
        · rw [if_neg c]; simp [c]
      refine ite2 (fun c => ?_) (fun c => ?_)
      · have c' := of_decide_eq_true c
        refine ⟨_, rfl, ys, eD, small1000 (by omega), fun b o e => ?_, _, upd_same, ?_, by rw [List.length_append]; show ys.length + 1 ≤ i + 1; omega⟩
        · rw [upd_ne (ne_of_none e nD)]
          exact sm b o e
        · rw [etake, if_pos c']
          exact (hys.snoc eT').upd_lst eD
      · have c' : ¬ p.1 ≤ p.2 := fun z => c (decide_eq_true z)
        refine ⟨sm, ys, eD, ?_, by omega⟩
        rw [etake, if_neg c', List.append_nil]
        exact hys
    · -- sorted
      obtain ⟨sm, ys, eD, hys, hyl⟩ := hP
      rw [hp.1, List.take_length] at hys
      refine ⟨D, ys, pairOf H2, rfl, SqL.of eD, fun x hx => ?_, fun zs g srt stb ng => ?_⟩
      · obtain ⟨i, hi, e⟩ := List.getElem_of_mem hx
        obtain ⟨p, T, _, rfl, eT⟩ := prs_at hys (by rw [List.getElem?_eq_getElem hi, e])
        exact ⟨T, rfl, by rw [pairOf_at eT]; exact eT⟩
      have sg := same_upd (o := .lst zs) ng
      have eg : upd H2 g (.lst zs) g = some (.lst zs) := upd_same
      have s3 : Same H (upd H2 g (.lst zs)) := (s1.trans sm).trans sg
      have em3 := sg _ _ (sm _ _ em1)
      -- the pairs of zs
      have each : ∀ x ∈ zs, ∃ T, x = .ref T ∧ H2 T = some (.tup [.int (pairOf H2 x).1, .int (pairOf H2 x).2]) := fun x hx => by
        obtain ⟨i, hi, e⟩ := List.getElem_of_mem (stb.perm.mem_iff.mp hx)
        obtain ⟨p, T, _, rfl, eT⟩ := prs_at hys (by rw [List.getElem?_eq_getElem hi, e])
        exact ⟨T, rfl, by rw [pairOf_at eT]; exact eT⟩
      have hzs : Prs H2 zs (zs.map (pairOf H2)) := ⟨by rw [List.length_map], fun i p e => by
        rw [List.getElem?_map] at e
        cases h : zs[i]? with
        | none => rw [h] at e; cases e
        | some x =>
          rw [h] at e
          cases e
          obtain ⟨T, rfl, eT⟩ := each x (List.mem_of_getElem? h)
          exact ⟨T, rfl, eT⟩⟩
      have hmap : ys.map (pairOf H2) = ps.filter fun p => decide (p.1 ≤ p.2) := by
        refine List.ext_getElem? fun i => ?_
        rw [List.getElem?_map]
        cases h : ys[i]? with
        | none =>
          have : (ps.filter fun p => decide (p.1 ≤ p.2))[i]? = none := by
            rw [List.getElem?_eq_none_iff] at h ⊢
            rw [← hys.1]
            exact h
          rw [this]
          rfl
        | some x =>
          obtain ⟨p, T, ep, rfl, eT⟩ := prs_at hys h
          rw [ep]
          show some (pairOf H2 (.ref T)) = some p
          rw [pairOf_at eT]
      have hperm : (zs.map (pairOf H2)).Perm (ps.filter fun p => decide (p.1 ≤ p.2)) := hmap ▸ stb.perm.map (pairOf H2)
      have hle : ∀ p ∈ zs.map (pairOf H2), p.1 ≤ p.2 := fun p hp' => by
        have := hperm.mem_iff.mp hp'
        exact of_decide_eq_true (List.mem_filter.mp this).2
      have hord : (zs.map (pairOf H2)).Pairwise fun x y => x.1 ≤ y.1 := by
        rw [List.pairwise_map]
        refine srt.imp fun {x y} h => ?_
        have := SrtO.lexB_no.mp h
        omega
      have hzl : zs.length ≤ 900 := by
        rw [stb.perm.length_eq, hys.1]
        exact Nat.le_trans (List.length_filter_le _ _) hz
      revert hzs hperm hle hord
      generalize zs.map (pairOf H2) = qs
      intro hzs hperm hle hord
      have hzs3 := hzs.same sg
      revert eg s3 em3 hzs3
      generalize upd H2 g (.lst zs) = H3
      intro eg s3 em3 hzs3
      have ngH : H g = none := (s1.trans sm).free ng
      have nmg : mg' ≠ g := ne_of_none (sm _ _ em1) ng
      -- the merging
      refine ⟨g, rfl, ⟨_, SqL.of eg⟩, for_list (xs := zs) (fun i σ H4 => ∃ (ms : List V) (rs : List (Int × Int)) (y2 y3 y4 y5 y6 : Option V), σ = [some (.ref a), some (.ref mg'), y2, y3, y4, y5, y6] ∧ Same H H4 ∧ H4 g = some (.lst zs) ∧ Prs H4 zs qs ∧ H4 mg' = some (.lst ms) ∧ Prs H4 ms rs ∧ Mrg (qs.take i) rs)
        ⟨[], [], _, _, _, _, _, rfl, s3, eg, hzs3, em3, Prs.nil, Mrg.nil⟩ (fun i σ H4 _ hP => ?_) (fun i x σ H4 hx hP => ?_) (fun σ H4 hP => ?_)⟩
      · obtain ⟨_, _, _, _, _, _, _, rfl, _, e, _⟩ := hP
        exact SqL.of e
      · obtain ⟨ms, rs, y2, y3, y4, y5, y6, rfl, sm4, eg4, hz4, em4, hms, m⟩ := hP
        obtain ⟨p, T, ep, rfl, eT⟩ := prs_at hz4 hx
        have hi : i < qs.length := (List.getElem?_eq_some_iff.mp ep).1
        have hp12 : p.1 ≤ p.2 := hle p (List.mem_of_getElem? ep)
        have ord : ∀ q ∈ qs.take i, q.1 ≤ p.1 := fun q hq' => by
          obtain ⟨j, hj, e⟩ := List.getElem_of_mem hq'
          rw [List.length_take] at hj
          rw [List.getElem_take] at e
          obtain ⟨_, e2⟩ := List.getElem?_eq_some_iff.mp ep
          rw [← e, ← e2]
          exact List.pairwise_iff_getElem.mp hord j i (by omega) hi (by omega)
        have etake : qs.take (i + 1) = qs.take i ++ [p] := by rw [List.take_add_one, ep]; rfl
        have hmsl : ms.length ≤ 900 := by
          have := m.len
          rw [List.length_take] at this
          have := hzs.1
          rw [hms.1]
          omega
        refine ⟨T, _, rfl, .inl (.inl eT), rfl, _, _, rfl, _, _, rfl, rfl, ?_⟩
        -- what a new tuple and a change of merged leave
        have grow : ∀ (T2 : Addr) (p2 : Int × Int) (ms2 : List V) (rs2 : List (Int × Int)), H4 T2 = none → Prs (upd H4 T2 (.tup [.int p2.1, .int p2.2])) ms2 rs2 →
            Same H (upd (upd H4 T2 (.tup [.int p2.1, .int p2.2])) mg' (.lst ms2)) ∧ upd (upd H4 T2 (.tup [.int p2.1, .int p2.2])) mg' (.lst ms2) g = some (.lst zs) ∧ Prs (upd (upd H4 T2 (.tup [.int p2.1, .int p2.2])) mg' (.lst ms2)) zs qs ∧ upd (upd H4 T2 (.tup [.int p2.1, .int p2.2])) mg' (.lst ms2) mg' = some (.lst ms2) ∧ Prs (upd (upd H4 T2 (.tup [.int p2.1, .int p2.2])) mg' (.lst ms2)) ms2 rs2 := by
          intro T2 p2 ms2 rs2 n2 h2
          have st := same_upd (o := .tup [.int p2.1, .int p2.2]) n2
          have em5 := st _ _ em4
          refine ⟨fun b o e => ?_, ?_, (hz4.same st).upd_lst em5, upd_same, h2.upd_lst em5⟩
          · rw [upd_ne (ne_of_none e nm)]
            exact st _ _ (sm4 _ _ e)
          · rw [upd_ne nmg.symm]
            exact st _ _ eg4
        -- append
        have app : (∀ r ∈ rs, r.2 + 2 ≤ p.1) → (tDrop (tBM K "list" rAppend (tVar 1) (tCons (tTup (tCons (tVar 2) (tCons (tVar 3) tNil))) tNil))) { nx := fun σ H4 => ∃ (ms : List V) (rs : List (Int × Int)) (y2 y3 y4 y5 y6 : Option V), σ = [some (.ref a), some (.ref mg'), y2, y3, y4, y5, y6] ∧ Same H H4 ∧ H4 g = some (.lst zs) ∧ Prs H4 zs qs ∧ H4 mg' = some (.lst ms) ∧ Prs H4 ms rs ∧ Mrg (qs.take (i + 1)) rs, rt := fun _ _ => False } [some (.ref a), some (.ref mg'), some (.int p.1), some (.int p.2), y4, y5, y6] H4 := by
          intro far
          refine ⟨.ref mg', rfl, .inl ⟨rfl, _, SqL.of em4⟩, _, rfl, _, rfl, (by show 2 ≤ sizeLine; decide), fun T2 n2 => ?_⟩
          have st := same_upd (o := .tup [.int p.1, .int p.2]) n2
          refine ⟨mg', _, _, rfl, rfl, st _ _ em4, small1000 (by omega), ?_⟩
          obtain ⟨g1, g2, g3, g4, g5⟩ := grow T2 p (ms ++ [.ref T2]) (rs ++ [p]) n2 ((hms.same st).snoc upd_same)
          exact ⟨_, _, _, _, _, _, _, rfl, g1, g2, g3, g4, g5, by rw [etake]; exact m.new hp12 ord far⟩
        rcases snoc_cases rs with e0 | ⟨rs', ⟨lo, hi'⟩, e0⟩
        · have e1 : ms = [] := List.eq_nil_of_length_eq_zero (by rw [hms.1, e0]; rfl)
          have em0 : H4 mg' = some (.lst []) := by rw [em4, e1]
          refine ⟨.ref mg', rfl, false, .inl ⟨[], SqL.of em0, rfl⟩, iteF (iteF ?_)⟩
          exact app (by rw [e0]; exact fun _ z => nomatch z)
        · subst e0
          obtain ⟨ms', T0, rfl, eT0, hms'⟩ := hms.last
          refine ⟨.ref mg', rfl, true, .inl ⟨_, SqL.of em4, by simp⟩, iteT ?_⟩
          refine ⟨_, rfl, .ref mg', rfl, 1, rfl, mg', _, -1, .ref T0, rfl, rfl, SqL.of em4, atI_last _ _, T0, _, 1, .int hi', rfl, rfl, .inl (.inl eT0), atI_nat (j := 1) rfl, hi', 1, rfl, rfl, p.1, _, rfl, rfl, _, rfl, ite2 (fun c => ?_) (fun c => ?_)⟩
          · have c' := of_decide_eq_true c
            refine ⟨.ref mg', rfl, 1, rfl, mg', _, -1, .ref T0, rfl, rfl, SqL.of em4, atI_last _ _, T0, _, rfl, .inl (.inl eT0), rfl, _, _, rfl, _, _, rfl, rfl, ?_⟩
            refine ⟨_, rfl, _, rfl, _, rfl, hi', p.2, rfl, (by show 2 ≤ sizeLine; decide), fun T2 n2 => ?_⟩
            have st := same_upd (o := .tup [.int lo, .int (if p.2 > hi' then p.2 else hi')]) n2
            have ei : ixN (ms' ++ [V.ref T0]).length (-1) = some ms'.length := by
              unfold ixN
              rw [if_neg (by decide), List.length_append, if_pos (by show -((ms'.length + 1 : Nat) : Int) ≤ -1; omega)]
              show some ((-1 : Int) + ((ms'.length + 1 : Nat) : Int)).toNat = _
              congr 1
              omega
            refine ⟨.ref mg', rfl, 1, rfl, mg', _, -1, ms'.length, rfl, rfl, st _ _ em4, ei, ?_⟩
            have es : (ms' ++ [V.ref T0]).set ms'.length (.ref T2) = ms' ++ [.ref T2] := by simp
            rw [es]
            obtain ⟨g1, g2, g3, g4, g5⟩ := grow T2 (lo, if p.2 > hi' then p.2 else hi') (ms' ++ [.ref T2]) (rs' ++ [(lo, if p.2 > hi' then p.2 else hi')]) n2 ((hms'.same st).snoc upd_same)
            exact ⟨_, _, _, _, _, _, _, rfl, g1, g2, g3, g4, g5, by rw [etake]; exact m.join hp12 ord c'⟩
          · have c' : ¬ p.1 ≤ hi' + 1 := fun z => c (decide_eq_true z)
            refine app fun r hr' => ?_
            obtain ⟨lo', hR⟩ := m.ris
            obtain ⟨_, h2, _, h4⟩ := Ris.front hR
            have h4' : lo ≤ hi' := h4
            rcases List.mem_append.mp hr' with y | y
            · have : r.2 + 2 ≤ lo := h2 r y
              omega
            · rw [List.mem_singleton.mp y]
              show hi' + 2 ≤ p.1
              omega
      · obtain ⟨ms, rs, y2, y3, y4, y5, y6, rfl, sm4, eg4, hz4, em4, hms, m⟩ := hP
        rw [hzs.1, List.take_length] at m
        refine ⟨_, rfl, q mg' ms rs H4 nm em4 hms ⟨m.ris, m.same.trans fun n => ?_, Nat.le_trans m.len (Nat.le_trans (Nat.le_of_eq hperm.length_eq) (List.length_filter_le _ _))⟩ sm4⟩
        constructor
        · rintro ⟨r, hr', e⟩
          exact ⟨r, (List.mem_filter.mp (hperm.mem_iff.mp hr')).1, e⟩
        · rintro ⟨r, hr', e⟩
          exact ⟨r, hperm.mem_iff.mpr (List.mem_filter.mpr ⟨hr', decide_eq_true (by omega)⟩), e⟩
end

def RetS (H : Hp) (pr : Int → Prop) (m : Nat) (Q : V → Hp → Prop) : Prop := ∀ (l : Addr) (ws : List V) (rs : List (Int × Int)) H', H l = none → H' l = some (.lst ws) → Prs H' ws rs → Told pr rs → rs.length ≤ m → Same H H' → Q (.ref l) H'

/-! ### what stands where: pairs in a list or a tuple -/
def PrA (K : PySem.W.Frag) (H : Hp) (a : Addr) (ps : List (Int × Int)) : Prop := ∃ us, Sq K H a us ∧ Prs H us ps
def LsA (H : Hp) (a : Addr) (ps : List (Int × Int)) : Prop := ∃ us, H a = some (.lst us) ∧ Prs H us ps
theorem LsA.pr {K : PySem.W.Frag} {H : Hp} {a : Addr} {ps : List (Int × Int)} (h : LsA H a ps) : PrA K H a ps := let ⟨us, e, p⟩ := h; ⟨us, Sq.list e, p⟩
theorem LsA.same {H H' : Hp} {a : Addr} {ps : List (Int × Int)} (h : LsA H a ps) (s : Same H H') : LsA H' a ps := let ⟨us, e, p⟩ := h; ⟨us, s _ _ e, p.same s⟩
theorem PrA.same {K : PySem.W.Frag} {H H' : Hp} {a : Addr} {ps : List (Int × Int)} (h : PrA K H a ps) (s : Same H H') : PrA K H' a ps := let ⟨us, e, p⟩ := h; ⟨us, e.same s, p.same s⟩
theorem LsA.nil {H : Hp} {a : Addr} (e : H a = some (.lst [])) : LsA H a [] := ⟨[], e, Prs.nil⟩
theorem LsA.dp {K : PySem.W.Frag} {H : Hp} {a : Addr} {ps : List (Int × Int)} (h : LsA H a ps) : Dp K H (.ref a) (.list (ps.map pairD)) := let ⟨_, e, p⟩ := h; .lst (SqL.of e) (dp_prs p)
/-- a told set: a new list -/
def TellS (pr : Int → Prop) (m : Nat) (H : Hp) (Q : VK) : Prop := ∀ l rs H', H l = none → LsA H' l rs → Told pr rs → rs.length ≤ m → Same H H' → Q (.ref l) H'
/-! ### both_of -/
abbrev sBoth : Stmt := topS 9
theorem scBoth : FnScope ["one", "other", "shared", "at", "to", "first", "last"] ["one", "other"] (defScope sBoth) := ⟨rfl, rfl, rfl, by decide +kernel, rfl, by decide +kernel, by decide +kernel⟩
def spBoth (K : PySem.W.Frag) : Sp := fun vs H Q _ => ∃ (a b : Addr) (ps qs : List (Int × Int)), vs = [.ref a, .ref b] ∧ PrA K H a ps ∧ PrA K H b qs ∧ (∃ lo, Ris lo ps) ∧ (∃ lo, Ris lo qs) ∧ ps.length + qs.length ≤ 900 ∧ TellS (fun n => InS ps n ∧ InS qs n) (ps.length + qs.length) H Q
/-- between two turns -/
def BothW (H : Hp) (a b sh : Addr) (ps qs : List (Int × Int)) (m : Nat) (σ : L2.St) (H1 : Hp) : Prop := ∃ (i j : Nat) (ms : List V) (rs : List (Int × Int)) (y5 y6 : Option V), σ = [some (.ref a), some (.ref b), some (.ref sh), some (.int i), some (.int j), y5, y6] ∧ m = (ps.length - i) + (qs.length - j) ∧ i ≤ ps.length ∧ j ≤ qs.length ∧ Same H H1 ∧
  H1 sh = some (.lst ms) ∧ Prs H1 ms rs ∧ rs.length ≤ i + j ∧ rs ++ bothF (ps.drop i) (qs.drop j) = bothF ps qs
section
variable {K : PySem.W.Frag} {mg : Str → Option Value} {P : Program} {w : World} {base : Heap}
theorem ok_both {f : Addr} {fd : FuncData} {k : Nat} (F : Fun K "both_of" "both_of" sBoth f fd) (ml : mg "len" = none) (mx : mg "max" = none) (mn : mg "min" = none) : FnOk P w K mg base CX0 (k + 1) f fd ["one", "other"] (spBoth K) := by
  refine F.ok scBoth (fun vs H Q E h => ?_) (fun cdv A outer s H vs Q E hr h => ?_)
  · obtain ⟨a, b, ps, qs, rfl, _⟩ := h
    rfl
  · obtain ⟨a, b, ps, qs, rfl, ⟨us, ha, hps⟩, ⟨ws, hb, hqs⟩, ⟨lo, hr1⟩, ⟨lo', hr2⟩, hz, q⟩ := h
    refine ⟨_, pss_cons (ps_set (i := 2) scBoth.nd rfl (.inl rfl) (pe_lst pa_nil))
      (pss_cons (ps_set (i := 3) scBoth.nd rfl (.inl rfl) pe_int)
      (pss_cons (ps_set (i := 4) scBoth.nd rfl (.inl rfl) pe_int)
      (pss_cons (ps_while PassesOwn.never (PW.pt (pw_and (pt_cmpR op_lt (pv 3) (pe_callB call_len_seq (by rfl) ml PySem.boot_len (pa_cons (pv 0) pa_nil)) (nomark _)) (pw_and1 (pt_cmpR op_lt (pv 4) (pe_callB call_len_seq (by rfl) ml PySem.boot_len (pa_cons (pv 1) pa_nil)) (nomark _)))))
        (pss_cons (ps_set (i := 5) scBoth.nd rfl (.inl rfl) (pe_callB (call_max2 rfl) (by rfl) mx (by decide +kernel) (pa_cons (pe_ix ix_tup (pe_ix ix_seq (pv 0) (pv 3) (fun _ _ => rfl)) pe_int (fun _ _ => rfl)) (pa_cons (pe_ix ix_tup (pe_ix ix_seq (pv 1) (pv 4) (fun _ _ => rfl)) pe_int (fun _ _ => rfl)) pa_nil))))
        (pss_cons (ps_set (i := 6) scBoth.nd rfl (.inl rfl) (pe_callB (call_min2 rfl) (by rfl) mn (by decide +kernel) (pa_cons (pe_ix ix_tup (pe_ix ix_seq (pv 0) (pv 3) (fun _ _ => rfl)) pe_int (fun _ _ => rfl)) (pa_cons (pe_ix ix_tup (pe_ix ix_seq (pv 1) (pv 4) (fun _ _ => rfl)) pe_int (fun _ _ => rfl)) pa_nil))))
        (Evl.pss_cut (ps_if (pt_cmpR op_le (pv 5) (pv 6) (nomark _)) (pss_one (ps_expr (pe_bm PySem.F.plainAttrs_list PySem.F.slot_list_append PySem.F.type_list_append mt_append (pv 2) (pa_cons (pe_tup (pa_cons (pv 5) (pa_cons (pv 6) pa_nil))) pa_nil)))) pss_nil)
        (pss_one (ps_if (pt_cmpR op_lt (pe_ix ix_tup (pe_ix ix_seq (pv 0) (pv 3) (fun _ _ => rfl)) pe_int (fun _ _ => rfl)) (pe_ix ix_tup (pe_ix ix_seq (pv 1) (pv 4) (fun _ _ => rfl)) pe_int (fun _ _ => rfl)) (nomark _))
          (pss_one (ps_aug (i := 3) scBoth.nd rfl (.inl rfl) pe_int ip_add)) (pss_one (ps_aug (i := 4) scBoth.nd rfl (.inl rfl) pe_int ip_add))))))))
      (pss_one (ps_ret (pv 2)))))), ?_⟩
    refine ⟨Nat.zero_le _, fun sh nsh => ?_⟩
    have s0 := same_upd (o := .lst []) nsh
    have hl1 := hps.1
    have hl2 := hqs.1
    refine ⟨BothW H a b sh ps qs, ⟨_, 0, 0, [], [], none, none, rfl, rfl, Nat.zero_le _, Nat.zero_le _, s0, upd_same, Prs.nil, Nat.le_refl _, rfl⟩, fun m σ H1 hW => ?_⟩
    obtain ⟨i, j, ms, rs, y5, y6, rfl, rfl, hi, hj, sm, esh, hms, hrl, hbo⟩ := hW
    have ha1 := ha.same sm
    have hb1 := hb.same sm
    -- the end: nothing is left of one
    have fin : bothF (ps.drop i) (qs.drop j) = [] → Q (.ref sh) H1 := by
      intro e
      rw [e, List.append_nil] at hbo
      subst hbo
      exact q sh (bothF ps qs) H1 nsh ⟨ms, esh, hms⟩ ⟨⟨lo, bothF_ris hr1 hr2 (.inl (Int.le_refl _))⟩, fun n => bothF_in hr1 hr2⟩ (by omega) sm
    refine ⟨_, rfl, _, rfl, a, us, rfl, ha1, (i : Int), (us.length : Int), rfl, rfl, _, rfl, ite2 (fun c1 => ?_) (fun c1 => ?_)⟩
    · have c1' := of_decide_eq_true c1
      refine ⟨_, rfl, _, rfl, b, ws, rfl, hb1, (j : Int), (ws.length : Int), rfl, rfl, _, rfl, ite2 (fun c2 => ?_) (fun c2 => ?_)⟩
      · have c2' := of_decide_eq_true c2
        have hi' : i < ps.length := by omega
        have hj' : j < qs.length := by omega
        obtain ⟨T1, g1, e1⟩ := hps.2 i ps[i] (List.getElem?_eq_getElem hi')
        obtain ⟨T2, g2, e2⟩ := hqs.2 j qs[j] (List.getElem?_eq_getElem hj')
        have ed1 := drop_at (List.getElem?_eq_getElem hi')
        have ed2 := drop_at (List.getElem?_eq_getElem hj')
        revert e1 e2 ed1 ed2
        generalize ps[i] = p
        generalize qs[j] = r
        intro e1 e2 ed1 ed2
        have f1 := sm _ _ e1
        have f2 := sm _ _ e2
        rw [ed1, ed2, bothF] at hbo
        refine ⟨fun σ' H' => ∃ m', m' < (ps.length - i) + (qs.length - j) ∧ BothW H a b sh ps qs m' σ' H', fun σ' H' h => h, ?_⟩
        -- first, last
        refine ⟨_, rfl, _, rfl, a, us, i, .ref T1, rfl, rfl, ha1, atI_nat g1, T1, _, 0, .int p.1, rfl, rfl, .inl (.inl f1), atI_nat (j := 0) rfl, _, rfl, _, rfl, b, ws, j, .ref T2, rfl, rfl, hb1, atI_nat g2, T2, _, 0, .int r.1, rfl, rfl, .inl (.inl f2), atI_nat (j := 0) rfl, p.1, r.1, rfl, ?_⟩
        refine ⟨_, rfl, _, rfl, a, us, i, .ref T1, rfl, rfl, ha1, atI_nat g1, T1, _, 1, .int p.2, rfl, rfl, .inl (.inl f1), atI_nat (j := 1) rfl, _, rfl, _, rfl, b, ws, j, .ref T2, rfl, rfl, hb1, atI_nat g2, T2, _, 1, .int r.2, rfl, rfl, .inl (.inl f2), atI_nat (j := 1) rfl, p.2, r.2, rfl, ?_⟩
        refine ⟨fun σ' H2 => ∃ ms2 rs2, σ' = [some (.ref a), some (.ref b), some (.ref sh), some (.int i), some (.int j), some (.int (mxI p.1 r.1)), some (.int (mnI p.2 r.2))] ∧ Same H H2 ∧ H2 sh = some (.lst ms2) ∧ Prs H2 ms2 rs2 ∧ rs2.length ≤ i + j + 1 ∧
          rs2 ++ (if p.2 < r.2 then bothF (ps.drop (i + 1)) (r :: qs.drop (j + 1)) else bothF (p :: ps.drop (i + 1)) (qs.drop (j + 1))) = bothF ps qs, ?_, fun σ' H2 hM => ?_⟩
        · refine ⟨_, rfl, _, rfl, mxI p.1 r.1, mnI p.2 r.2, rfl, rfl, _, rfl, ite2 (fun c => ?_) (fun c => ?_)⟩
          · have c' := of_decide_eq_true c
            rw [if_pos c', ← List.append_assoc] at hbo
            refine ⟨_, rfl, .inl ⟨rfl, _, SqL.of esh⟩, _, rfl, _, rfl, (by show 2 ≤ sizeLine; decide), fun T nT => ?_⟩
            have sT := same_upd (o := .tup [.int (mxI p.1 r.1), .int (mnI p.2 r.2)]) nT
            refine ⟨sh, _, _, rfl, rfl, sT _ _ esh, small1000 (by have := hms.1; omega), ?_⟩
            refine ⟨_, _, rfl, fun b o e => ?_, upd_same, ((hms.same sT).snoc upd_same).upd_lst (sT _ _ esh), by rw [List.length_append]; exact Nat.add_le_add_right hrl 1, hbo⟩
            rw [upd_ne (ne_of_none e nsh)]
            exact sT _ _ (sm b o e)
          · have c' : ¬ mxI p.1 r.1 ≤ mnI p.2 r.2 := fun z => c (decide_eq_true z)
            rw [if_neg c', List.nil_append] at hbo
            exact ⟨ms, rs, rfl, sm, esh, hms, by omega, hbo⟩
        · obtain ⟨ms2, rs2, rfl, sm2, esh2, hms2, hl3, hb3⟩ := hM
          have ha2 := ha.same sm2
          have hb2 := hb.same sm2
          have f1' := sm2 _ _ e1
          have f2' := sm2 _ _ e2
          refine ⟨_, rfl, _, rfl, a, us, i, .ref T1, rfl, rfl, ha2, atI_nat g1, T1, _, 1, .int p.2, rfl, rfl, .inl (.inl f1'), atI_nat (j := 1) rfl, _, rfl, _, rfl, b, ws, j, .ref T2, rfl, rfl, hb2, atI_nat g2, T2, _, 1, .int r.2, rfl, rfl, .inl (.inl f2'), atI_nat (j := 1) rfl, p.2, r.2, rfl, rfl, _, rfl, ite2 (fun c => ?_) (fun c => ?_)⟩
          · have c' := of_decide_eq_true c
            rw [if_pos c', ← ed2] at hb3
            exact ⟨_, rfl, (i : Int), 1, rfl, rfl, _, by omega, i + 1, j, ms2, rs2, _, _, rfl, rfl, by omega, hj, sm2, esh2, hms2, by omega, hb3⟩
          · have c' : ¬ p.2 < r.2 := fun z => c (decide_eq_true z)
            rw [if_neg c', ← ed1] at hb3
            exact ⟨_, rfl, (j : Int), 1, rfl, rfl, _, by omega, i, j + 1, ms2, rs2, _, _, rfl, rfl, hi, by omega, sm2, esh2, hms2, by omega, hb3⟩
      · have c' : ¬ (j : Int) < ws.length := fun z => c2 (decide_eq_true z)
        refine ⟨_, rfl, fin ?_⟩
        rw [List.drop_eq_nil_of_le (by omega : qs.length ≤ j)]
        exact bothF_nil _
    · have c' : ¬ (i : Int) < us.length := fun z => c1 (decide_eq_true z)
      refine ⟨_, rfl, fin ?_⟩
      rw [List.drop_eq_nil_of_le (by omega : ps.length ≤ i), bothF]
end
/-! ### gaps_of -/
abbrev sGaps : Stmt := topS 10
theorem scGaps : FnScope ["some", "begin", "end", "gaps", "start", "first", "last"] ["some", "begin", "end"] (defScope sGaps) := ⟨rfl, rfl, rfl, by decide +kernel, rfl, by decide +kernel, by decide +kernel⟩
def spGaps (K : PySem.W.Frag) : Sp := fun vs H Q _ => ∃ (a : Addr) (qs : List (Int × Int)) (x y : Int), vs = [.ref a, .int x, .int y] ∧ PrA K H a qs ∧ (∃ lo, Ris lo qs) ∧ qs.length ≤ 800 ∧ TellS (fun n => (x ≤ n ∧ n ≤ y) ∧ ¬ InS qs n) (qs.length + 1) H Q
section
variable {K : PySem.W.Frag} {mg : Str → Option Value} {P : Program} {w : World} {base : Heap}
theorem ok_gaps {f : Addr} {fd : FuncData} (F : Fun K "gaps_of" "gaps_of" sGaps f fd) (CO : Cal P w K mg base 1 "set_of" ["pairs"] (spSetOf K)) (mx : mg "max" = none) (mn : mg "min" = none) : FnOk P w K mg base CX0 2 f fd ["some", "begin", "end"] (spGaps K) := by
  refine F.ok scGaps (fun vs H Q E h => ?_) (fun cdv A outer s H vs Q E hr h => ?_)
  · obtain ⟨a, qs, x, y, rfl, _⟩ := h
    rfl
  · obtain ⟨a, qs, x, y, rfl, ⟨ws, hb, hqs⟩, ⟨lo, hr2⟩, hz, q⟩ := h
    refine ⟨_, pss_cons (ps_set (i := 3) scGaps.nd rfl (.inl rfl) (pe_lst pa_nil))
      (pss_cons (ps_set (i := 4) scGaps.nd rfl (.inl rfl) (pv 1))
      (pss_cons (ps_for PassesOwn.never rfl (pi_seq (pv 0)) (pg_tup rfl (pgs_cons (pg_name (i := 5) scGaps.nd rfl (.inl rfl)) (pgs_cons (pg_name (i := 6) scGaps.nd rfl (.inl rfl)) pgs_nil)))
        (pss_cons (ps_expr (pe_bm PySem.F.plainAttrs_list PySem.F.slot_list_append PySem.F.type_list_append mt_append (pv 3) (pa_cons (pe_tup (pa_cons (pv 4) (pa_cons (pe_callB (call_min2 rfl) (by rfl) mn (by decide +kernel) (pa_cons (pe_op op_sub (pv 5) pe_int) (pa_cons (pv 2) pa_nil))) pa_nil))) pa_nil)))
        (pss_one (ps_set (i := 4) scGaps.nd rfl (.inl rfl) (pe_callB (call_max2 rfl) (by rfl) mx (by decide +kernel) (pa_cons (pv 4) (pa_cons (pe_op op_add (pv 6) pe_int) pa_nil)))))))
      (pss_cons (ps_expr (pe_bm PySem.F.plainAttrs_list PySem.F.slot_list_append PySem.F.type_list_append mt_append (pv 3) (pa_cons (pe_tup (pa_cons (pv 4) (pa_cons (pv 2) pa_nil))) pa_nil)))
      (pss_one (ps_ret (pe_own CO hr (by rfl) (pa_cons (pv 3) pa_nil))))))), ?_⟩
    refine ⟨Nat.zero_le _, fun g ng => ?_⟩
    have s0 := same_upd (o := .lst []) ng
    have hl2 := hqs.1
    refine ⟨_, rfl, .ref a, rfl, a, rfl, for_seqS (xs := ws) hb s0 (fun i σ H1 => ∃ (st : Int) (ms : List V) (rs : List (Int × Int)) (y5 y6 : Option V), σ = [some (.ref a), some (.int x), some (.int y), some (.ref g), some (.int st), y5, y6] ∧ Same H H1 ∧ H1 g = some (.lst ms) ∧ Prs H1 ms rs ∧ rs.length = i ∧ rs ++ gapsF y st (qs.drop i) = gapsF y x qs)
      ⟨x, [], [], none, none, rfl, s0, upd_same, Prs.nil, rfl, rfl⟩ (fun i σ H1 hP => ?_) (fun i v σ H1 hv hP => ?_) (fun σ H1 hP => ?_)⟩
    · obtain ⟨_, _, _, _, _, rfl, sm, _⟩ := hP
      exact sm
    · obtain ⟨st, ms, rs, y5, y6, rfl, sm, eg, hms, hrl, hgf⟩ := hP
      obtain ⟨p, T, ep, rfl, eT⟩ := prs_at hqs hv
      have eT1 := sm _ _ eT
      have hi : i < qs.length := (List.getElem?_eq_some_iff.mp ep).1
      rw [drop_at ep, gapsF] at hgf
      refine ⟨T, _, rfl, .inl (.inl eT1), rfl, _, _, rfl, _, _, rfl, rfl, ?_⟩
      refine ⟨_, rfl, .inl ⟨rfl, _, SqL.of eg⟩, _, rfl, _, rfl, p.1, 1, rfl, rfl, _, rfl, p.1 - 1, y, rfl, (by show 2 ≤ sizeLine; decide), fun T2 n2 => ?_⟩
      have sT := same_upd (o := .tup [.int st, .int (mnI (p.1 - 1) y)]) n2
      refine ⟨g, _, _, rfl, rfl, sT _ _ eg, small1000 (by have := hms.1; omega), ?_⟩
      refine ⟨_, rfl, _, rfl, p.2, 1, rfl, rfl, st, p.2 + 1, rfl, mxI st (p.2 + 1), _, rs ++ [(st, mnI (p.1 - 1) y)], _, _, rfl, fun b o e => ?_, upd_same, ((hms.same sT).snoc upd_same).upd_lst (sT _ _ eg), by rw [List.length_append, hrl]; rfl, by rw [List.append_assoc]; exact hgf⟩
      rw [upd_ne (ne_of_none e ng)]
      exact sT _ _ (sm b o e)
    · obtain ⟨st, ms, rs, y5, y6, rfl, sm, eg, hms, hrl, hgf⟩ := hP
      rw [hl2, List.drop_length, gapsF] at hgf
      refine ⟨_, rfl, .inl ⟨rfl, _, SqL.of eg⟩, _, rfl, _, rfl, (by show 2 ≤ sizeLine; decide), fun T2 n2 => ?_⟩
      have sT := same_upd (o := .tup [.int st, .int y]) n2
      refine ⟨g, _, _, rfl, rfl, sT _ _ eg, small1000 (by have := hms.1; omega), ?_⟩
      have hp : Prs (upd (upd H1 T2 (.tup [.int st, .int y])) g (.lst (ms ++ [.ref T2]))) (ms ++ [.ref T2]) (gapsF y x qs) := by
        rw [← hgf]
        exact ((hms.same sT).snoc upd_same).upd_lst (sT _ _ eg)
      have s3 : Same H (upd (upd H1 T2 (.tup [.int st, .int y])) g (.lst (ms ++ [.ref T2]))) := fun b o e => by
        rw [upd_ne (ne_of_none e ng)]
        exact sT _ _ (sm b o e)
      refine ⟨_, rfl, g, _, _, rfl, Sq.list upd_same, hp, by rw [gapsF_length]; omega, fun l2 w2 rs2 H2 nl2 e2 hrs hset s2 => ?_⟩
      exact q l2 rs2 H2 (s3.free nl2) ⟨_, e2, hrs⟩ (hset.told.cong fun n => gapsF_in hr2) (by have := hset.len; rwa [gapsF_length] at this) (s3.trans s2)
end
/-! ### without -/
theorem Ris.upto : ∀ {lo n : Int} {ps : List (Int × Int)} {p : Int × Int}, Ris lo (ps ++ [p]) → InS (ps ++ [p]) n → n ≤ p.2 := by
  intro lo n ps p h e
  obtain ⟨h1, h2, h3, h4⟩ := Ris.front h
  rcases inS_append.mp e with z | z
  · obtain ⟨q, hq, z1, z2⟩ := z
    have := h2 q hq
    omega
  · rcases inS_cons.mp z with y | y
    · exact y.2
    · exact absurd y inS_nil
abbrev sWithout : Stmt := topS 11
theorem scWithout : FnScope ["one", "other"] ["one", "other"] (defScope sWithout) := ⟨rfl, rfl, rfl, by decide +kernel, rfl, by decide +kernel, by decide +kernel⟩
def spWithout (K : PySem.W.Frag) : Sp := fun vs H Q _ => ∃ (a b : Addr) (ps qs : List (Int × Int)), vs = [.ref a, .ref b] ∧ PrA K H a ps ∧ PrA K H b qs ∧ (∃ lo, Ris lo ps) ∧ (∃ lo, Ris lo qs) ∧ ps.length + qs.length ≤ 800 ∧ TellS (fun n => InS ps n ∧ ¬ InS qs n) (ps.length + qs.length + 1) H Q
section
variable {K : PySem.W.Frag} {mg : Str → Option Value} {P : Program} {w : World} {base : Heap}
theorem ok_without {f : Addr} {fd : FuncData} (F : Fun K "without" "without" sWithout f fd) (CA : Cal P w K mg base 1 "both_of" ["one", "other"] (spBoth K)) (CG : Cal P w K mg base 2 "gaps_of" ["some", "begin", "end"] (spGaps K)) : FnOk P w K mg base CX0 3 f fd ["one", "other"] (spWithout K) := by
  refine F.ok scWithout (fun vs H Q E h => ?_) (fun cdv A outer s H vs Q E hr h => ?_)
  · obtain ⟨a, b, ps, qs, rfl, _⟩ := h
    rfl
  · obtain ⟨a, b, ps, qs, rfl, ⟨us, ha, hps⟩, hb, ⟨lo, hr1⟩, hr2, hz, q⟩ := h
    have hr1' := hr.mono (show 1 ≤ 2 by decide)
    refine ⟨_, pss_cons (ps_if (pt_not (pt_truth (pv 0) (by intro _; rfl))) (pss_one (ps_ret (pe_lst pa_nil))) pss_nil)
      (pss_one (ps_ret (pe_own CA hr1' (by rfl) (pa_cons (pv 0) (pa_cons (pe_own CG hr (by rfl) (pa_cons (pv 1) (pa_cons (pe_ix ix_tup (pe_ix ix_seq (pv 0) pe_int (fun _ _ => rfl)) pe_int (fun _ _ => rfl)) (pa_cons (pe_ix ix_tup (pe_ix ix_seq (pv 0) (pe_un un_neg pe_int) (fun _ _ => rfl)) pe_int (fun _ _ => rfl)) pa_nil)))) pa_nil))))), ?_⟩
    have tru : ∀ k, k = (!us.isEmpty) → TruV K (.ref a) H k := fun k e => ha.elim (fun h => .inl ⟨us, h, e⟩) fun h => .inr (.inl ⟨us, h, e⟩)
    rcases snoc_cases ps with e0 | ⟨ps', p, e0⟩
    · have e1 : us = [] := List.eq_nil_of_length_eq_zero (by rw [hps.1, e0]; rfl)
      subst e0 e1
      refine ⟨_, rfl, false, tru _ rfl, iteT ?_⟩
      refine ⟨Nat.zero_le _, fun l nl => ?_⟩
      exact q l [] _ nl (LsA.nil upd_same) ⟨⟨0, True.intro⟩, fun n => ⟨fun z => absurd z inS_nil, fun z => z.1⟩⟩ (Nat.zero_le _) (same_upd nl)
    · subst e0
      obtain ⟨us', T0, eus, eT0, hus'⟩ := hps.last
      have hne : us.isEmpty = false := by rw [eus]; simp
      refine ⟨_, rfl, true, tru _ (by rw [hne]; rfl), iteF ?_⟩
      obtain ⟨p0, ep0⟩ : ∃ p0, (ps' ++ [p])[0]? = some p0 := by
        cases ps' with
        | nil => exact ⟨p, rfl⟩
        | cons x r => exact ⟨x, rfl⟩
      obtain ⟨T, g0, eT⟩ := hps.2 0 p0 ep0
      have glast : atI us (-1) = some (.ref T0) := by rw [eus]; exact atI_last _ _
      refine ⟨_, rfl, _, rfl, _, rfl, a, us, 0, .ref T, rfl, rfl, ha, atI_nat (j := 0) g0, T, _, 0, .int p0.1, rfl, rfl, .inl (.inl eT), atI_nat (j := 0) rfl, _, rfl, 1, rfl, a, us, -1, .ref T0, rfl, rfl, ha, glast, T0, _, 1, .int p.2, rfl, rfl, .inl (.inl eT0), atI_nat (j := 1) rfl, ?_⟩
      refine ⟨b, qs, p0.1, p.2, rfl, hb, hr2, by omega, fun l1 rs1 H1 n1 hl1 ht1 hz1 s1 => ?_⟩
      refine ⟨a, l1, ps' ++ [p], rs1, rfl, (PrA.same ⟨us, ha, hps⟩ s1), hl1.pr, ⟨lo, hr1⟩, ht1.ris, by omega, fun l2 rs2 H2 n2 hl2 ht2 hz2 s2 => ?_⟩
      refine q l2 rs2 H2 (s1.free n2) hl2 (ht2.cong fun n => ?_) (by omega) (s1.trans s2)
      rw [ht1.same n]
      constructor
      · exact fun z => ⟨z.1, z.2.2⟩
      · intro z
        refine ⟨z.1, ⟨?_, Ris.upto hr1 z.1⟩, z.2⟩
        have r0 : Ris p0.1 (ps' ++ [p]) := by
          cases ps' with
          | nil =>
            cases ep0
            exact ⟨Int.le_refl _, hr1.2⟩
          | cons x r =>
            cases ep0
            exact ⟨Int.le_refl _, hr1.2⟩
        exact r0.low z.1
end

/-! ### things as data, all of it tracked -/
inductive Dat (H : Hp) : V → PyData → Prop
  | non : Dat H .non .none
  | bl (b : Bool) : Dat H (.bl b) (.bool b)
  | int (i : Int) : Dat H (.int i) (.int i)
  | str (x : Str) : Dat H (.str x) (.str x)
  | lst {a : Addr} {xs : List V} {ds : List PyData} : H a = some (.lst xs) → xs.length = ds.length → (∀ (i : Nat) x d, xs[i]? = some x → ds[i]? = some d → Dat H x d) → Dat H (.ref a) (.list ds)
  | tup {a : Addr} {xs : List V} {ds : List PyData} : H a = some (.tup xs) → xs.length = ds.length → (∀ (i : Nat) x d, xs[i]? = some x → ds[i]? = some d → Dat H x d) → Dat H (.ref a) (.tuple ds)
theorem Dat.same {H H' : Hp} {v : V} {d : PyData} (h : Dat H v d) (s : Same H H') : Dat H' v d := by
  induction h with
  | non => exact .non
  | bl b => exact .bl b
  | int i => exact .int i
  | str x => exact .str x
  | lst e l _ ih => exact .lst (s _ _ e) l ih
  | tup e l _ ih => exact .tup (s _ _ e) l ih
/-- at most so deep, no longer than these lines -/
def Sm : Nat → PyData → Prop
  | _, .none => True
  | _, .bool _ => True
  | _, .int _ => True
  | _, .str _ => True
  | n + 1, .list ds => ds.length ≤ 900 ∧ ∀ d ∈ ds, Sm n d
  | n + 1, .tuple ds => ds.length ≤ 900 ∧ ∀ d ∈ ds, Sm n d
  | _, _ => False
/-- no list, no tuple -/
def Flat (d : PyData) : Prop := d = .none ∨ (∃ b, d = .bool b) ∨ (∃ i, d = .int i) ∨ ∃ x, d = .str x
theorem Sm.cases {n : Nat} {d : PyData} (h : Sm (n + 1) d) : Flat d ∨ (∃ ds, d = .list ds ∧ ds.length ≤ 900 ∧ ∀ d ∈ ds, Sm n d) ∨ ∃ ds, d = .tuple ds ∧ ds.length ≤ 900 ∧ ∀ d ∈ ds, Sm n d := by
  cases d <;> first | exact .inl (.inl rfl) | exact .inl (.inr (.inl ⟨_, rfl⟩)) | exact .inl (.inr (.inr (.inl ⟨_, rfl⟩))) | exact .inl (.inr (.inr (.inr ⟨_, rfl⟩))) | exact .inr (.inl ⟨_, rfl, h.1, h.2⟩) | exact .inr (.inr ⟨_, rfl, h.1, h.2⟩) | exact h.elim
theorem Sm.flat {d : PyData} (h : Sm 0 d) : Flat d := by
  cases d <;> first | exact .inl rfl | exact .inr (.inl ⟨_, rfl⟩) | exact .inr (.inr (.inl ⟨_, rfl⟩)) | exact .inr (.inr (.inr ⟨_, rfl⟩)) | exact h.elim
theorem walk_zipTs {K : PySem.W.Frag} {a b : Addr} {xs ys : List V} {n : Nat} (h1 : xs.length = n) (h2 : ys.length = n) : Walk (RZ.ItzT K a b) n (fun H => SqT K H a xs ∧ SqT K H b ys) (YPair (fun i => xs[i]?) (fun i => ys[i]?)) where
  goes := fun i _ lt q => ⟨xs, ys, _, _, q.1, q.2, List.getElem?_eq_getElem (h1.symm ▸ lt), List.getElem?_eq_getElem (h2.symm ▸ lt)⟩
  stops := fun _ q => ⟨xs, ys, q.1, q.2, .inl (Nat.le_of_eq h1)⟩
  yields := fun i _ _ _ _ q ⟨T, x, z, e1, e2, e3, e4, e5⟩ => ⟨T, x, z, e1, e2, e3, e4 xs q.1, e5 ys q.2⟩
theorem prs_dat {H : Hp} {us : List V} {ps : List (Int × Int)} (h : Prs H us ps) : ∀ (i : Nat) x d, us[i]? = some x → (ps.map pairD)[i]? = some d → Dat H x d := fun i x d e1 e2 => by
  obtain ⟨p, a, ep, rfl, ea⟩ := prs_at h e1
  rw [List.getElem?_map, ep] at e2
  have ed : pairD p = d := Option.some.inj e2
  rw [← ed]
  refine .tup ea rfl fun j y d f1 f2 => ?_
  have hj : j < 2 := (List.getElem?_eq_some_iff.mp f1).1
  have : j = 0 ∨ j = 1 := by omega
  rcases this with rfl | rfl
  · cases f1; cases f2; exact .int _
  · cases f1; cases f2; exact .int _
theorem sm_prs {ps : List (Int × Int)} (h : ps.length ≤ 900) : Sm 2 (.list (ps.map pairD)) := by
  refine ⟨by rw [List.length_map]; exact h, fun d hd => ?_⟩
  obtain ⟨p, _, rfl⟩ := List.mem_map.mp hd
  exact ⟨by show 2 ≤ 900; decide, fun d hd => by
    rcases List.mem_cons.mp hd with e | e
    · rw [e]; trivial
    · rw [List.mem_singleton.mp e]; trivial⟩
theorem ints_dat {H : Hp} {a : Addr} {ns : List Int} (e : H a = some (.lst (ns.map V.int))) : Dat H (.ref a) (.list (ns.map PyData.int)) := .lst e (by rw [List.length_map, List.length_map]) fun i x d e1 e2 => by
  rw [List.getElem?_map] at e1 e2
  cases h : ns[i]? with
  | none => rw [h] at e1; cases e1
  | some n =>
    rw [h] at e1 e2
    cases e1
    cases e2
    exact .int n
theorem sm_ints {ns : List Int} (h : ns.length ≤ 900) : Sm 1 (.list (ns.map PyData.int)) := by
  refine ⟨by rw [List.length_map]; exact h, fun d hd => ?_⟩
  obtain ⟨p, _, rfl⟩ := List.mem_map.mp hd
  trivial

def SqH (H : Hp) (a : Addr) (xs : List V) : Prop := H a = some (.lst xs) ∨ H a = some (.tup xs)

/-! ### defs that are called while nothing is being shown: str of lists within lists -/
/-- a def keeps its promise where nothing is being shown -/
structure FnG (P : Program) (w : World) (K : PySem.W.Frag) (mg : Str → Option Value) (base : Heap) (CX : CXT) (k : Nat) (f : Addr) (fd : FuncData) (ps : List Str) (sp : Sp) : Prop where
  len : ∀ (vs : List V) (H : Hp) (Q : VK) (E : XK), sp vs H Q E → vs.length = ps.length
  run : ∀ (A : Around) (outer : List Env) (s : Shared) (H : Hp) (args : Args) (us : List Value) (vs : List V) (Q : VK) (E : XK), A.guards = some [] → Room k A → Env0 P w K mg base A outer s H → BindsTo s fd args (ps.zip us) → Vals vs us → sp vs H Q E → codeAny (model P w) A (Code.call (Value.ref f) args) (CR CX outer P w H s Q E) s
section
variable {CX : CXT} {P : Program} {w : World} {K : PySem.W.Frag} {mg : Str → Option Value} {base : Heap} {k : Nat}
theorem FnG.of {f : Addr} {fd : FuncData} {ps : List Str} {sp : Sp} (F : FnOk P w K mg base CX k f fd ps sp) : FnG P w K mg base CX k f fd ps sp :=
  ⟨F.len, fun A outer s H args us vs Q E _ hr e0 hb r hsp => F.run A outer s H args us vs Q E hr e0 hb r hsp⟩
theorem fn_ofG {f : Addr} {name qual : Str} {params : Arguments} {body : List Stmt} {scope : Scope} {dV kV doc pm cdv ct oc : Value} {an od : Option Addr} {osl : Array (Option Value)} {N ps : List Str} {sp : Sp}
    (lk : List.lookup f K = some { cls := oc, dict := od, data := Data.func (PySem.W.fnOf name qual params body scope dV kV doc pm an cdv ct), slots := osl }) (hcd : PySem.W.codeIn K cdv qual = true) (S : FnScope N ps scope)
    (len : ∀ (vs : List V) (H : Hp) (Q : VK) (E : XK), sp vs H Q E → vs.length = ps.length)
    (hbody : ∀ (A : Around) (outer : List Env) (s : Shared) (H : Hp) (vs : List V) (Q : VK) (E : XK), A.guards = some [] → Room k (A.deeper (PyProof.Rows.envOfC qual scope s.heap.objs.size f cdv)) → sp vs H Q E →
      ∃ t, PSs (cxOf CX P w K mg base N qual scope f cdv A outer s H E) body t ∧ t { nx := fun _ H' => Q V.non H', rt := Q } (L2.start N vs) H) :
    FnG P w K mg base CX (k + 1) f (PySem.W.fnOf name qual params body scope dV kV doc pm an cdv ct) ps sp := by
  refine ⟨len, fun A outer s H args us vs Q E hgd hr e0 hb r hsp => ?_⟩
  have hl := len vs H Q E hsp
  have KX := PySem.W.Frag.In.keeps e0.mod.kin fun b o e => (e0.bs b o e).1
  have lim := Heap.NoLimit.keeps e0.mod.nolimit fun b o e => (e0.bs b o e).1
  refine codeAny_call_function (Room.depth hr) (KX f _ lk) rfl S.co S.gen rfl (PySem.W.codeRec_of KX hcd) (hb (model P w) A.in1 _ _ (wpAny_newFunctionEnv_cells S.kind (fun x hy => ?_) fun env he s1 x => ?_))
  · obtain ⟨n, v⟩ := x
    rcases S.par n (List.of_mem_zip hy).1 with q | q
    · exact .inl q
    · exact .inr ⟨q, PySem.W.cellsFrom_some scope.names _ [] (.inl q)⟩
  · subst he
    refine ⟨Heap.NoLimit.keeps lim x.toInCall.keep, codeAny_func ?_⟩
    obtain ⟨t, ht, hq⟩ := hbody A outer s H vs Q E hgd (Room.deeper hr _) hsp
    have I := inv_start (CX := CX) (E := E) S hr.hd e0 hl r x
    refine wpAny_mono (ht.run [] s1 (L2.start N vs) H _ I hq) (fun fl s' hs => ?_) (fun e s' hs => hs)
    cases fl with
    | ret u =>
      obtain ⟨v, σ', H', J, rv, q⟩ := hs
      exact ⟨v, H', J.os, J.bare, J.base, J.hok, rv, q⟩
    | next =>
      obtain ⟨σ', H', J, q⟩ := hs
      exact ⟨V.non, H', J.os, J.bare, J.base, J.hok, rfl, q⟩
    | _ =>
      obtain ⟨_, _, _, q⟩ := hs
      exact q.elim
theorem Fun_okG {x qual : Str} {st : Stmt} {f : Addr} {fd : FuncData} {N ps : List Str} {sp : Sp} (F : Fun K x qual st f fd) (S : FnScope N ps (defScope st))
    (len : ∀ (vs : List V) (H : Hp) (Q : VK) (E : XK), sp vs H Q E → vs.length = ps.length)
    (hbody : ∀ (cdv : Value) (A : Around) (outer : List Env) (s : Shared) (H : Hp) (vs : List V) (Q : VK) (E : XK), A.guards = some [] → Room k (A.deeper (PyProof.Rows.envOfC qual (defScope st) s.heap.objs.size f cdv)) → sp vs H Q E →
      ∃ t, PSs (cxOf CX0 P w K mg base N qual (defScope st) f cdv A outer s H E).nox (defBody st) t ∧ t { nx := fun _ H' => Q V.non H', rt := Q } (L2.start N vs) H) :
    FnG P w K mg base CX0 (k + 1) f fd ps sp := by
  obtain ⟨oc, od, kV, doc, pm, an, cdv, ct, osl, rfl, lk, hcd⟩ := F.ex
  refine fn_ofG lk hcd S len fun A outer s H vs Q E hg hr hsp => ?_
  obtain ⟨t, h, q⟩ := hbody cdv A outer s H vs Q E hg hr hsp
  exact ⟨t, PSs.nox h, q⟩
end
theorem run_fnG {X : Cx} {CX : CXT} {k : Nat} {f : Addr} {fd : FuncData} {ps : List Str} {sp : Sp} {dvs : List V} {ds : List Value} {E : XK} {pins : List (Addr × Obj)} {σ : L2.St} {H : Hp} {s : Shared} {Q : VK} {us : List Value} {vs : List V}
    (F : FnG X.prog X.w X.K X.mg X.base CX k f fd ps sp) (hgd : X.A.guards = some []) (hr : Room k X.A) (hb : Binds X.K fd ps ds) (hd : Vals dvs ds) (hx : Passes CX X E) (I : L2.Inv X pins σ H s) (r : Vals vs us) (h : sp (vs ++ dvs) H Q E) :
    wpAny (model X.prog X.w) X.A (call (Value.ref f) us) (EP X pins σ Q) X.xe s := by
  have r2 := Vals.append r hd
  have hl : (us ++ ds).length = ps.length := by rw [← Vals.length r2]; exact F.len _ _ _ _ h
  refine wpAny_call (codeAny_mono (F.run X.A X.stack s H _ _ _ Q E hgd hr (Inv.env0 I) (hb s us (Inv.kIn I) hl) r2 h) fun r s' hq => ?_)
  cases r with
  | error e => exact hx pins σ H s e s' I hq
  | ok fl =>
    cases fl with
    | ret u => exact Inv.after I hq
    | _ => exact hq.elim
/-- a def of the text that keeps a promise where nothing is being shown, as its callers see it -/
def CalG (P : Program) (w : World) (K : PySem.W.Frag) (mg : Str → Option Value) (base : Heap) (k : Nat) (x : Str) (ps : List Str) (sp : Sp) : Prop :=
  ∃ f fd, FnG P w K mg base CX0 k f fd ps sp ∧ mg x = some (.ref f) ∧ PySem.W.keepIn K (.ref f) = true ∧ Binds K fd ps []
theorem pe_ownG {X : Cx} {k : Nat} {x : Str} {ps : List Str} {sp : Sp} {e : Expr} {es : List Expr} {t : TA} {p pos : Pos} (C : CalG X.prog X.w X.K X.mg X.base k x ps sp) (hgd : X.A.guards = some []) (hr : Room k X.A) (hg : Gl X x) (ha : PA X (e :: es) t)
    (dbg : (x == ("__debug__" : Str)) = false := by decide) (one : starEach (e :: es) X.env = (false, eval e X.env) :: starEach es X.env := by rfl) (star : (backTo pos (starEach es X.env)).any (·.1) = false := by rfl) :
    PE X (.Call (.Name x p) (e :: es) [] pos) (tCall sp [] E0 t) := by
  obtain ⟨f, fd, F, hm, hk, hb⟩ := C
  refine ⟨fun pins s σ H Q I h => wpAny_Call_Name_kw (ld_glob I hg hm (PySem.W.callWith_K I.ok.mod.kin hk (thn (ha.run pos pins s σ H _ I h) fun us s1 z => ?_) one star) dbg)⟩
  obtain ⟨vs, H1, I1, r, q⟩ := z
  exact ⟨Inv.kIn I1, run_fnG F hgd hr hb .nil pass0 I1 r q⟩
/-- str of data -/
def rStrD (K : PySem.W.Frag) : List V → Hp → VK → Prop := fun xs H Q => ∃ (a : Addr) (d : PyData), xs = [.ref a] ∧ Dp K H (.ref a) d ∧ d.showable = true ∧ d.hasDict = false ∧ d.depth ≤ 8 ∧ d.shown.length ≤ sizeLine ∧ Q (.str d.shown) H
theorem cr_strD {X : Cx} (hg : X.A.guards = some []) (hu : X.A.units + 11 < cLine) : CallR X (.type "str") (rStrD X.K) := fun pins s σ H xs us Q I hv h => by
  obtain ⟨a, d, rfl, hd, h1, h2, h3, h4, q⟩ := h
  cases hv with
  | cons ru hn =>
    cases hn
    cases ru
    obtain ⟨as, hR⟩ := Dp.reads I d (.ref a) (.ref a) hd rfl
    exact str_of_reads hR h1 (fun z => by rw [h2] at z; cases z) hg (by omega) (fun b o e => e) (fun h' u tk keep => ⟨.str d.shown, H, I.kept keep, ⟨u, rfl⟩, q⟩) h4
/-! ### the end -/
theorem law_callG {P : Program} {w : World} {K : PySem.W.Frag} {mg mb : Str → Option Value} {CX : CXT} {k : Nat} {fa a : Addr} {fd : FuncData} {x : Str} {sp : Sp} {s₁ : Shared} {vs : List Value} {ns : List Int}
    (KX : K.In s₁.heap) (hns : s₁.heap.Ns mainGlobals mg) (hb : s₁.heap.Ns builtinsNs mb) (hbb : ∀ (x : Str), x ≠ Str.ofString "__name__" → mb x = bootBuiltins x) (hlim : s₁.heap.NoLimit) (hg : s₁.gens = #[])
    (ha : s₁.heap.get? a = some { cls := Value.type "list", data := Data.seq vs.toArray }) (hi : PyProof.Rows.IntsAre vs ns) (hl : ns.length ≤ sizeLine) (hr : Room k callerA)
    (F : ∀ (base : Heap), K.In base → base.Ns mainGlobals mg → FnG P w K mg base CX k fa fd [x] sp) (hbind : ∀ (s : Shared) (u : Value), BindsTo s fd { pos := [u] } [(x, u)])
    (hsp : ∀ (H : Hp), Only H → SqL K H a (List.map V.int ns) → sp [V.ref a] H (fun v _ => v = V.bl true) fun _ _ _ => False) (hCX : ∀ (H : Hp) (e : Value) (s' : Shared), CX [] H s₁ (fun _ _ _ => False) e s' → False) :
    codeAny (model P w) callerA (Code.call (Value.ref fa) { pos := [Value.ref a] }) (fun r s' => r = Except.ok (Flow.ret (Value.bool true)) ∧ OldK s₁.heap s'.heap ∧ s'.os = s₁.os ∧ PyProof.Rows.AllBare s'.gens) s₁ := by
  have rv := vals_ints hi
  have lenV := PyProof.Rows.IntsAre.length hi
  have core : ∀ H : Hp, Only H → SqL K H a (List.map V.int ns) → HOk P w H s₁.heap → (∀ b, H b ≠ none → b = a) → (H a ≠ none → List.lookup a K = none) →
      codeAny (model P w) callerA (Code.call (Value.ref fa) { pos := [Value.ref a] }) (fun r s' => r = Except.ok (Flow.ret (Value.bool true)) ∧ OldK s₁.heap s'.heap ∧ s'.os = s₁.os ∧ PyProof.Rows.AllBare s'.gens) s₁ := by
    intro H hO hS hok hA hK
    have isA : ∀ {b : Addr} {u : HO}, H b = some u → b = a := fun {b u} hh => hA b (by rw [hh]; exact fun z => nomatch z)
    have noA : ∀ {b : Addr} {o : Obj} {es ep}, s₁.heap.get? b = some o → o.data = Data.dict es ep → H b = none := by
      intro b o es ep e d
      cases hh : H b with
      | none => rfl
      | some u =>
        rw [isA hh, ha] at e
        rw [← Option.some.inj e] at d
        cases d
    have nsK : ∀ {b : Addr} {m : Str → Option Value}, s₁.heap.Ns b m → (hidT s₁.heap H).Ns b m := fun {b m} z => by
      obtain ⟨o, es, ep, e, d, r⟩ := z
      exact ⟨o, es, ep, hidT_get e (noA e d), d, r⟩
    have hKb : K.In (hidT s₁.heap H) := fun b o e => hidT_get (KX b o e) (by
      cases hh : H b with
      | none => rfl
      | some u =>
        rw [isA hh, hK (by rw [isA hh] at hh; rw [hh]; exact fun z => nomatch z)] at e
        cases e)
    have hM : L2.Mod K mg (hidT s₁.heap H) := ⟨hKb, nsK hns, ⟨mb, nsK hb, hbb⟩, let ⟨mc, h1, h2⟩ := hlim; ⟨mc, nsK h1, h2⟩⟩
    have e0 : Env0 P w K mg (hidT s₁.heap H) callerA [] s₁ H := ⟨rfl, hM, fun b o e => of_hidT e, Nat.le_of_eq (hidT_size ..), trivial, fun b hb => (nomatch hb), hok, .of_eq hg⟩
    refine codeAny_mono ((F _ hKb (nsK hns)).run callerA [] s₁ H ⟨[.ref a], []⟩ [.ref a] [.ref a] (fun v _ => v = .bl true) (fun _ _ _ => False) rfl hr e0 (hbind s₁ (.ref a)) (.cons rfl .nil) (hsp H hO hS)) fun r s' h => ?_
    cases r with
    | error e => exact (hCX H e s' h).elim
    | ok fl =>
      cases fl with
      | ret u =>
        obtain ⟨v, H', os, bare, un, hok', r', q⟩ := h
        subst q
        cases r'
        refine ⟨rfl, OldK.of_keep fun b o e => ?_, os, bare⟩
        cases hh : H b with
        | none => exact un.keep b o e hh (fun z => nomatch z) (fun z => nomatch z)
        | some u =>
          rcases hO b with z | ⟨ob, xs, z⟩
          · rw [z] at hh; cases hh
          · have z2 := un.frzs b ob (HO.lst xs) z
            have e1 := (hok b _ z).1
            have e2 := (hok' b _ z2).1
            rw [e] at e1
            rw [Option.some.inj e1]
            exact e2
      | _ => exact h.elim
  cases hk : List.lookup a K with
  | none =>
    have at_a : (fun b => if b = a then some (HO.frz { cls := Value.type "list", data := Data.seq vs.toArray } (HO.lst (List.map V.int ns))) else none : Hp) a = some (HO.frz { cls := Value.type "list", data := Data.seq vs.toArray } (HO.lst (List.map V.int ns))) := if_pos rfl
    refine core (fun b => if b = a then some (HO.frz { cls := Value.type "list", data := Data.seq vs.toArray } (HO.lst (List.map V.int ns))) else none) (fun b => ?_) (.inl (.inr ⟨_, at_a⟩)) (fun b u z => ?_) (fun b z => ?_) (fun _ => hk)
    · by_cases hb : b = a
      · exact .inr ⟨_, _, if_pos hb⟩
      · exact .inl (if_neg hb)
    · by_cases hb : b = a
      · have z' := Eq.trans (Eq.symm (if_pos hb)) z
        cases z'
        subst hb
        exact ⟨ha, by rw [List.length_map]; exact hl, vs, 0, rv, ha⟩
      · have z' := Eq.trans (Eq.symm (if_neg hb)) z
        cases z'
    · by_cases hb : b = a
      · exact hb
      · exact absurd (if_neg hb) z
  | some o =>
    have e := KX a o hk
    rw [ha] at e
    cases e
    exact core (fun _ => none) (fun _ => .inl rfl) (.inr ⟨_, vs.toArray, 0, hk, rfl, rfl, rfl, by rw [List.size_toArray, lenV]; exact hl, rv⟩) (fun b u z => nomatch z) (fun b z => absurd rfl z) (fun z => absurd rfl z)
def LawAtG (l : PySem.W.OpenLaw) (w : World) (K : PySem.W.Frag) (k : Nat) (mg : Str → Option Value) (fa : Addr) : Prop :=
  ∃ (fd : FuncData) (sp : Sp), (∀ (s : Shared) (u : Value), BindsTo s fd { pos := [u] } [("_law_script", u)]) ∧ (∀ (H : Hp) (a : Addr) (ns : List Int), ns.length ≤ 63 → SqL K H a (List.map V.int ns) → sp [V.ref a] H (fun v _ => v = V.bl true) fun _ _ _ => False) ∧
    ∀ (base : Heap), K.In base → base.Ns mainGlobals mg → FnG l.prog w K mg base CX0 k fa fd ["_law_script"] sp
theorem law_endG {l : PySem.W.OpenLaw} {k : Nat} {q : Program} {loose : List Str} {XP : (Str → Option Value) → Heap → Prop} {YP : World → Heap → Prop} {d : DefRec} {K : Params → PySem.W.Frag} (most : l.most = some 63) (plain : d.params.defaults = []) (room : Room k callerA)
    (part : ∀ w h, YP w h → (K w.params).In h) (made : ∀ (w : World) (mg : Str → Option Value) (f : Addr) (h : Heap), (K w.params).In h → h.Ns mainGlobals mg → mg d.name = some (.ref f) → LawAtG l w (K w.params) k mg f) : PySem.W.WalkO q loose XP YP l.row.toRowW d [] (fun f vs => PySem.call f vs) := by
  refine Att.attach_callB most plain ?_
  intro w _ s₁ mg _ f _ _ _ _ a vs ns ground said _ _ _ name script nums len size still
  have X := part w _ said
  obtain ⟨fd, sp, e4, e5, e6⟩ := made w mg f _ X ground.T.g name
  exact law_callG X ground.T.g ground.T.b ground.T.builtins ground.T.nolimit still script nums (Nat.le_trans len (by decide)) room e6 e4 (fun H z1 z2 => e5 H a ns len z2) fun _ _ _ z => z

/-- an expression, then a word of what it gives: what follows is shown once -/
def tMid (te : TE) : TE := fun σ H Q => ∃ M : V → Hp → Prop, te σ H M ∧ ∀ v H', M v H' → Q v H'
theorem pe_mid {X : Cx} {e : Expr} {te : TE} (h : PE X e te) : PE X e (tMid te) := ⟨fun pins s σ H Q I ⟨M, h1, h2⟩ => thn (h.run pins s σ H M I h1) fun _ _ ⟨y, H1, I1, r, q⟩ => ⟨y, H1, I1, r, h2 _ _ q⟩⟩

/-! ### things as data; of the lists among them this holds -/
inductive DatN (N : Addr → Prop) (H : Hp) : V → PyData → Prop
  | non : DatN N H .non .none
  | bl (b : Bool) : DatN N H (.bl b) (.bool b)
  | int (i : Int) : DatN N H (.int i) (.int i)
  | str (x : Str) : DatN N H (.str x) (.str x)
  | lst {a : Addr} {xs : List V} {ds : List PyData} : N a → H a = some (.lst xs) → xs.length = ds.length → (∀ (i : Nat) x d, xs[i]? = some x → ds[i]? = some d → DatN N H x d) → DatN N H (.ref a) (.list ds)
  | tup {a : Addr} {xs : List V} {ds : List PyData} : H a = some (.tup xs) → xs.length = ds.length → (∀ (i : Nat) x d, xs[i]? = some x → ds[i]? = some d → DatN N H x d) → DatN N H (.ref a) (.tuple ds)
/-- tuples stay, and the lists of which this holds -/
structure Kps (N : Addr → Prop) (H H' : Hp) : Prop where
  tup : ∀ a xs, H a = some (.tup xs) → H' a = some (.tup xs)
  lst : ∀ a xs, N a → H a = some (.lst xs) → H' a = some (.lst xs)
theorem Kps.same {N : Addr → Prop} {H H' : Hp} (s : Same H H') : Kps N H H' := ⟨fun a xs e => s a _ e, fun a xs _ e => s a _ e⟩
theorem Kps.kp {N : Addr → Prop} {H H' : Hp} {d c : Addr} {t : Int} (k : Kp d c H H') (S : StAt H d c t) (hN : ∀ a, N a → a ≠ c) : Kps N H H' :=
  ⟨fun a xs e => k.tup S e, fun a xs n e => k a _ (fun z => by rw [z, S.dict] at e; cases e) (hN a n) e⟩
theorem Kps.upd {N : Addr → Prop} {H : Hp} {D : Addr} {ys : List V} {o : HO} (e : H D = some (.lst ys)) (hN : ∀ a, N a → a ≠ D) : Kps N H (upd H D o) :=
  ⟨fun a xs f => by rw [upd_ne (ne_of f e (fun z => nomatch z))]; exact f, fun a xs n f => by rw [upd_ne (hN a n)]; exact f⟩
theorem Kps.upd_dK {N : Addr → Prop} {H : Hp} {D : Addr} {ks : List (Key × V)} {o : HO} (e : H D = some (.dK ks)) : Kps N H (L2.upd H D o) :=
  ⟨fun a xs f => by rw [upd_ne (ne_of f e (fun z => nomatch z))]; exact f, fun a xs n f => by rw [upd_ne (ne_of f e (fun z => nomatch z))]; exact f⟩
theorem Kps.trans {N : Addr → Prop} {H H1 H2 : Hp} (a : Kps N H H1) (b : Kps N H1 H2) : Kps N H H2 := ⟨fun x xs e => b.tup x xs (a.tup x xs e), fun x xs n e => b.lst x xs n (a.lst x xs n e)⟩
theorem DatN.keep {N : Addr → Prop} {H H' : Hp} {v : V} {d : PyData} (h : DatN N H v d) (k : Kps N H H') : DatN N H' v d := by
  induction h with
  | non => exact .non
  | bl b => exact .bl b
  | int i => exact .int i
  | str x => exact .str x
  | lst n e l _ ih => exact .lst n (k.lst _ _ n e) l ih
  | tup e l _ ih => exact .tup (k.tup _ _ e) l ih
theorem DatN.same {N : Addr → Prop} {H H' : Hp} {v : V} {d : PyData} (h : DatN N H v d) (s : Same H H') : DatN N H' v d := h.keep (.same s)
theorem DatN.weak {N N' : Addr → Prop} {H : Hp} {v : V} {d : PyData} (h : DatN N H v d) (w : ∀ a xs, N a → H a = some (.lst xs) → N' a) : DatN N' H v d := by
  induction h with
  | non => exact .non
  | bl b => exact .bl b
  | int i => exact .int i
  | str x => exact .str x
  | lst n e l _ ih => exact .lst (w _ _ n e) e l ih
  | tup e l _ ih => exact .tup e l ih
theorem DatN.dat {N : Addr → Prop} {H : Hp} {v : V} {d : PyData} (h : DatN N H v d) : Dat H v d := by
  induction h with
  | non => exact .non
  | bl b => exact .bl b
  | int i => exact .int i
  | str x => exact .str x
  | lst n e l _ ih => exact .lst e l ih
  | tup e l _ ih => exact .tup e l ih
theorem dpAll_of {K : PySem.W.Frag} {H : Hp} : ∀ {xs : List V} {ds : List PyData}, xs.length = ds.length → (∀ (i : Nat) x d, xs[i]? = some x → ds[i]? = some d → Dp K H x d) → DpAll K H xs ds
  | [], [], _, _ => .nil
  | [], _ :: _, e, _ => nomatch e
  | _ :: _, [], e, _ => nomatch e
  | x :: xs, d :: ds, e, h => .cons (h 0 x d rfl rfl) (dpAll_of (Nat.succ.inj e) fun i y c e1 e2 => h (i + 1) y c e1 e2)
theorem DatN.dp {K : PySem.W.Frag} {N : Addr → Prop} {H : Hp} {v : V} {d : PyData} (h : DatN N H v d) : Dp K H v d := by
  induction h with
  | non => exact .non
  | bl b => exact .bl b
  | int i => exact .int i
  | str x => exact .str x
  | lst n e l _ ih => exact .lst (SqL.of e) (dpAll_of l ih)
  | tup e l _ ih => exact .tup (.inl (.inl e)) (dpAll_of l ih)
/-- things one by one as data -/
def EchN (N : Addr → Prop) (H : Hp) (xs : List V) (ds : List PyData) : Prop := xs.length = ds.length ∧ ∀ (i : Nat) x d, xs[i]? = some x → ds[i]? = some d → DatN N H x d
theorem EchN.keep {N : Addr → Prop} {H H' : Hp} {xs : List V} {ds : List PyData} (h : EchN N H xs ds) (k : Kps N H H') : EchN N H' xs ds := ⟨h.1, fun i x d e1 e2 => (h.2 i x d e1 e2).keep k⟩
theorem EchN.same {N : Addr → Prop} {H H' : Hp} {xs : List V} {ds : List PyData} (h : EchN N H xs ds) (s : Same H H') : EchN N H' xs ds := h.keep (.same s)
theorem EchN.weak {N N' : Addr → Prop} {H : Hp} {xs : List V} {ds : List PyData} (h : EchN N H xs ds) (w : ∀ a xs, N a → H a = some (.lst xs) → N' a) : EchN N' H xs ds := ⟨h.1, fun i x d e1 e2 => (h.2 i x d e1 e2).weak w⟩
theorem EchN.nil {N : Addr → Prop} {H : Hp} : EchN N H [] [] := ⟨rfl, fun _ _ _ e => nomatch e⟩
theorem EchN.cons {N : Addr → Prop} {H : Hp} {x : V} {d : PyData} {xs : List V} {ds : List PyData} (h : DatN N H x d) (hr : EchN N H xs ds) : EchN N H (x :: xs) (d :: ds) :=
  ⟨congrArg (· + 1) hr.1, fun i y e e1 e2 => by
    cases i with
    | zero => cases e1; cases e2; exact h
    | succ i => exact hr.2 i y e e1 e2⟩
theorem EchN.one {N : Addr → Prop} {H : Hp} {x : V} {d : PyData} (h : DatN N H x d) : EchN N H [x] [d] := .cons h .nil
theorem getElem?_two {α β : Type} {xs ys : List α} {us ws : List β} (l : xs.length = us.length) {i : Nat} {x : α} {u : β} (e1 : (xs ++ ys)[i]? = some x) (e2 : (us ++ ws)[i]? = some u) : (xs[i]? = some x ∧ us[i]? = some u) ∨ (ys[i - xs.length]? = some x ∧ ws[i - xs.length]? = some u) := by
  by_cases hi : i < xs.length
  · rw [List.getElem?_append_left hi] at e1
    rw [List.getElem?_append_left (by omega)] at e2
    exact .inl ⟨e1, e2⟩
  · rw [List.getElem?_append_right (by omega)] at e1 e2
    rw [← l] at e2
    exact .inr ⟨e1, e2⟩
theorem EchN.app {N : Addr → Prop} {H : Hp} {xs ys : List V} {ds es : List PyData} (h : EchN N H xs ds) (h' : EchN N H ys es) : EchN N H (xs ++ ys) (ds ++ es) :=
  ⟨by rw [List.length_append, List.length_append, h.1, h'.1], fun i v p e1 e2 => (getElem?_two h.1 e1 e2).elim (fun z => h.2 i v p z.1 z.2) (fun z => h'.2 _ v p z.1 z.2)⟩
theorem EchN.snoc {N : Addr → Prop} {H : Hp} {xs : List V} {ds : List PyData} {x : V} {d : PyData} (h : EchN N H xs ds) (h' : DatN N H x d) : EchN N H (xs ++ [x]) (ds ++ [d]) := h.app (.one h')
theorem EchN.at {N : Addr → Prop} {H : Hp} {xs : List V} {ds : List PyData} {i : Nat} {x : V} (h : EchN N H xs ds) (e : xs[i]? = some x) : ∃ d, ds[i]? = some d ∧ DatN N H x d := by
  have hi : i < ds.length := by rw [← h.1]; exact (List.getElem?_eq_some_iff.mp e).1
  exact ⟨_, List.getElem?_eq_getElem hi, h.2 i x _ e (List.getElem?_eq_getElem hi)⟩
theorem EchN.atM {α : Type} {N : Addr → Prop} {H : Hp} {xs : List V} {f : α → PyData} {ys : List α} {i : Nat} {x : V} (h : EchN N H xs (ys.map f)) (e : xs[i]? = some x) : ∃ y, ys[i]? = some y ∧ DatN N H x (f y) := by
  obtain ⟨d, e1, e2⟩ := h.at e
  rw [List.getElem?_map] at e1
  cases h : ys[i]? with
  | none => rw [h] at e1; cases e1
  | some y => rw [h] at e1; cases e1; exact ⟨y, rfl, e2⟩
theorem DatN.list {N : Addr → Prop} {H : Hp} {v : V} {ds : List PyData} (h : DatN N H v (.list ds)) : ∃ a xs, v = .ref a ∧ N a ∧ H a = some (.lst xs) ∧ EchN N H xs ds := by
  cases h with
  | lst n e l r => exact ⟨_, _, rfl, n, e, l, r⟩
theorem DatN.tuple {N : Addr → Prop} {H : Hp} {v : V} {ds : List PyData} (h : DatN N H v (.tuple ds)) : ∃ a xs, v = .ref a ∧ H a = some (.tup xs) ∧ EchN N H xs ds := by
  cases h with
  | tup e l r => exact ⟨_, _, rfl, e, l, r⟩
theorem EchN.lst {N : Addr → Prop} {H : Hp} {a : Addr} {xs : List V} {ds : List PyData} (h : EchN N H xs ds) (n : N a) (e : H a = some (.lst xs)) : DatN N H (.ref a) (.list ds) := .lst n e h.1 h.2
theorem EchN.tup {N : Addr → Prop} {H : Hp} {a : Addr} {xs : List V} {ds : List PyData} (h : EchN N H xs ds) (e : H a = some (.tup xs)) : DatN N H (.ref a) (.tuple ds) := .tup e h.1 h.2
theorem EchN.inv {N : Addr → Prop} {H : Hp} {xs : List V} {d : PyData} {ds : List PyData} (h : EchN N H xs (d :: ds)) : ∃ x xs', xs = x :: xs' ∧ DatN N H x d ∧ EchN N H xs' ds := by
  cases xs with
  | nil => exact nomatch h.1
  | cons x xs => exact ⟨x, xs, rfl, h.2 0 x d rfl rfl, Nat.succ.inj h.1, fun i y e e1 e2 => h.2 (i + 1) y e e1 e2⟩
theorem EchN.inv0 {N : Addr → Prop} {H : Hp} {xs : List V} (h : EchN N H xs []) : xs = [] := List.eq_nil_of_length_eq_zero h.1
theorem DatN.inv_int {N : Addr → Prop} {H : Hp} {v : V} {i : Int} (h : DatN N H v (.int i)) : v = .int i := by cases h; rfl
theorem DatN.inv_str {N : Addr → Prop} {H : Hp} {v : V} {x : Str} (h : DatN N H v (.str x)) : v = .str x := by cases h; rfl
theorem DatN.inv_non {N : Addr → Prop} {H : Hp} {v : V} (h : DatN N H v .none) : v = .non := by cases h; rfl
theorem DatN.inv_bl {N : Addr → Prop} {H : Hp} {v : V} {b : Bool} (h : DatN N H v (.bool b)) : v = .bl b := by cases h; rfl
theorem echN_ints {N : Addr → Prop} {H : Hp} (ns : List Int) : EchN N H (ns.map V.int) (ns.map PyData.int) := ⟨by rw [List.length_map, List.length_map], fun i x d e1 e2 => by
  rw [List.getElem?_map] at e1 e2
  cases h : ns[i]? with
  | none => rw [h] at e1; cases e1
  | some n =>
    rw [h] at e1 e2
    cases e1
    cases e2
    exact .int n⟩
theorem echN_strs {N : Addr → Prop} {H : Hp} (ns : List Str) : EchN N H (ns.map V.str) (ns.map PyData.str) := ⟨by rw [List.length_map, List.length_map], fun i x d e1 e2 => by
  rw [List.getElem?_map] at e1 e2
  cases h : ns[i]? with
  | none => rw [h] at e1; cases e1
  | some n =>
    rw [h] at e1 e2
    cases e1
    cases e2
    exact .str n⟩
theorem EchN.ints {N : Addr → Prop} {H : Hp} : ∀ {xs : List V} {ns : List Int}, EchN N H xs (ns.map PyData.int) → xs = ns.map V.int
  | _, [], h => h.inv0
  | _, n :: r, h => by
    obtain ⟨x, xs', rfl, h1, h2⟩ := EchN.inv h
    rw [h1.inv_int, EchN.ints h2]
    rfl
theorem EchN.strs {N : Addr → Prop} {H : Hp} : ∀ {xs : List V} {ns : List Str}, EchN N H xs (ns.map PyData.str) → xs = ns.map V.str
  | _, [], h => h.inv0
  | _, n :: r, h => by
    obtain ⟨x, xs', rfl, h1, h2⟩ := EchN.inv h
    rw [h1.inv_str, EchN.strs h2]
    rfl
/-- pairs of whole numbers -/
theorem _root_.GP.Prs.ech {N : Addr → Prop} {H : Hp} {us : List V} {ps : List (Int × Int)} (h : Prs H us ps) : EchN N H us (ps.map pairD) := ⟨by rw [List.length_map]; exact h.1, fun i x d e1 e2 => by
  obtain ⟨p, a, ep, rfl, ea⟩ := prs_at h e1
  rw [List.getElem?_map, ep] at e2
  cases e2
  exact EchN.tup (.cons (.int _) (.one (.int _))) ea⟩
theorem EchN.prs {N : Addr → Prop} {H : Hp} {us : List V} {ps : List (Int × Int)} (h : EchN N H us (ps.map pairD)) : Prs H us ps := ⟨by have := h.1; rwa [List.length_map] at this, fun i p ep => by
  have hi : i < us.length := by
    rw [h.1, List.length_map]
    exact (List.getElem?_eq_some_iff.mp ep).1
  obtain ⟨y, e1, e2⟩ := h.atM (List.getElem?_eq_getElem hi)
  rw [ep] at e1
  cases e1
  obtain ⟨a, xs, ev, ea, r⟩ := e2.tuple
  obtain ⟨x1, r1, rfl, d1, r2⟩ := r.inv
  obtain ⟨x2, r3, rfl, d2, r4⟩ := r2.inv
  rw [r4.inv0, d1.inv_int, d2.inv_int] at ea
  exact ⟨a, by rw [List.getElem?_eq_getElem hi, ev], ea⟩⟩
/-- new since then -/
abbrev NewIn (H : Hp) : Addr → Prop := fun a => H a = none
def setD (ps : List (Int × Int)) : PyData := .list (ps.map pairD)
/-! ### what can be shown -/
structure Shw (n w : Nat) (d : PyData) : Prop where
  sh : d.showable = true
  nd : d.hasDict = false
  dp : d.depth ≤ n
  ls : d.leavesShort 40 = true
  wt : d.weight ≤ w
theorem Shw.mono {n w n' w' : Nat} {d : PyData} (h : Shw n w d) (h1 : n ≤ n') (h2 : w ≤ w') : Shw n' w' d := ⟨h.sh, h.nd, Nat.le_trans h.dp h1, h.ls, Nat.le_trans h.wt h2⟩
theorem Shw.int {n : Nat} {i : Int} (h : i.natAbs < 10 ^ 39) : Shw n 131 (.int i) := by
  refine ⟨?_, by rw [PyData.hasDict], by rw [PyData.depth]; omega, ?_, ?_⟩
  · rw [PyData.showable]
    by_cases z : i.natAbs = 0
    · rw [z]; decide
    · exact decide_eq_true (Nat.lt_trans ((Nat.log2_lt (k := 130) z).mpr (Nat.lt_trans h (by decide))) (by decide))
  · rw [PyData.leavesShort]
    have e := int_text_length_le10 (k := 39) (by decide) h
    refine decide_eq_true ?_
    show (Str.ofString (toString i)).length ≤ 40
    rw [PySem.ofString_length]
    exact e
  · rw [PyData.weight]
    split
    · omega
    · by_cases z : i.natAbs = 0
      · rw [z]; decide
      · have : i.natAbs.log2 < 130 := (Nat.log2_lt z).mpr (Nat.lt_trans h (by decide))
        omega
theorem Shw.str {n w : Nat} {x : Str} (h : PyData.strOk x = true) (hl : x.length ≤ w) : Shw n w (.str x) := by
  refine ⟨by rw [PyData.showable], by rw [PyData.hasDict], by rw [PyData.depth]; omega, ?_, by rw [PyData.weight]; exact hl⟩
  rw [PyData.leavesShort, List.all_eq_true]
  intro c hc
  have h' : x.cps.all (· < 0x110000) = true := h
  rw [Array.all_eq_true'] at h'
  have := of_decide_eq_true (h' c (by simpa using hc))
  exact decide_eq_true (Nat.lt_trans this (by decide))
theorem Shw.none {n w : Nat} : Shw n w .none := ⟨by rw [PyData.showable], by rw [PyData.hasDict], by rw [PyData.depth]; omega, by rw [PyData.leavesShort], by rw [PyData.weight]; omega⟩
theorem Shw.bool {n w : Nat} {b : Bool} : Shw n w (.bool b) := ⟨by rw [PyData.showable], by rw [PyData.hasDict], by rw [PyData.depth]; omega, by rw [PyData.leavesShort], by rw [PyData.weight]; omega⟩
theorem shwAll : ∀ {n w : Nat} {ds : List PyData}, (∀ d ∈ ds, Shw n w d) → PyData.showableAll ds = true ∧ PyData.hasDictAll ds = false ∧ PyData.depthAll ds ≤ n ∧ PyData.leavesShortAll 40 ds = true ∧ PyData.weightAll ds ≤ ds.length * (w + 1)
  | n, w, [], _ => by simp [PyData.leavesShortAll, PyData.weightAll, PyData.showableAll, PyData.hasDictAll, PyData.depthAll]
  | n, w, d :: r, h => by
    obtain ⟨g1, g2, g3, g4, g5⟩ := shwAll (ds := r) fun q hq => h q (List.mem_cons_of_mem _ hq)
    obtain ⟨h1, h2, h3, h4, h5⟩ := h d (List.mem_cons_self ..)
    refine ⟨by rw [PyData.showableAll, h1, g1]; rfl, by rw [PyData.hasDictAll, h2, g2]; rfl, by rw [PyData.depthAll]; omega, by rw [PyData.leavesShortAll, h4, g4]; rfl, ?_⟩
    rw [PyData.weightAll, List.length_cons, Nat.succ_mul]
    omega
theorem Shw.list {n w m W : Nat} {ds : List PyData} (h : ∀ d ∈ ds, Shw n w d) (hl : ds.length ≤ m) (hW : m * (w + 1) ≤ W) : Shw (n + 1) W (.list ds) := by
  obtain ⟨g1, g2, g3, g4, g5⟩ := shwAll h
  have := Nat.mul_le_mul_right (w + 1) hl
  exact ⟨by rw [PyData.showable]; exact g1, by rw [PyData.hasDict]; exact g2, by rw [PyData.depth]; omega, by rw [PyData.leavesShort]; exact g4, by rw [PyData.weight]; omega⟩
theorem Shw.tuple {n w m W : Nat} {ds : List PyData} (h : ∀ d ∈ ds, Shw n w d) (hl : ds.length ≤ m) (hW : m * (w + 1) ≤ W) : Shw (n + 1) W (.tuple ds) := by
  obtain ⟨g1, g2, g3, g4, g5⟩ := shwAll h
  have := Nat.mul_le_mul_right (w + 1) hl
  exact ⟨by rw [PyData.showable]; exact g1, by rw [PyData.hasDict]; exact g2, by rw [PyData.depth]; omega, by rw [PyData.leavesShort]; exact g4, by rw [PyData.weight]; omega⟩
theorem Shw.listM {α : Type} {n w m W : Nat} {f : α → PyData} {ys : List α} (h : ∀ y ∈ ys, Shw n w (f y)) (hl : ys.length ≤ m) (hW : m * (w + 1) ≤ W) : Shw (n + 1) W (.list (ys.map f)) :=
  .list (fun d hd => by obtain ⟨y, hy, rfl⟩ := List.mem_map.mp hd; exact h y hy) (by rw [List.length_map]; exact hl) hW
theorem all2 {α : Type} {P : α → Prop} {x y : α} (h1 : P x) (h2 : P y) : ∀ z ∈ [x, y], P z := fun z hz => by
  rcases List.mem_cons.mp hz with e | e
  · rw [e]; exact h1
  · rw [List.mem_singleton.mp e]; exact h2
theorem all3 {α : Type} {P : α → Prop} {x y u : α} (h1 : P x) (h2 : P y) (h3 : P u) : ∀ z ∈ [x, y, u], P z := fun z hz => by
  rcases List.mem_cons.mp hz with e | e
  · rw [e]; exact h1
  · exact all2 h2 h3 z e
theorem Shw.shown {w : Nat} {d : PyData} (h : Shw 8 w d) (hw : w ≤ 390000) : d.showable = true ∧ d.hasDict = false ∧ d.depth ≤ 8 ∧ d.shown.length ≤ sizeLine :=
  ⟨h.sh, h.nd, h.dp, by
    have z := PyData.shown_le 40 (by decide) d h.ls
    have := h.wt
    exact Nat.le_trans z (Nat.le_trans (show (40 + 2) * d.weight + 40 ≤ 16380040 by omega) (by decide))⟩

/-! ### comprehensions, by what they make -/
/-- a thing's truth, as a test -/
def tTru (K : PySem.W.Frag) (te : TE) : TT := fun σ H Q => te σ H fun x H' => ∃ k, TruV K x H' k ∧ Q k H'
abbrev LcW (J : It) (g : TG) (tt : TT) (te : TE) (vs : List Nat) (σ : L2.St) (D : Addr) (Qd : Hp → Prop) (H1 : Hp) : Prop := ∃ W : Nat → Nat → Hp → Prop, (∃ m, W 0 m (upd H1 D (.lst []))) ∧ ∀ i m H, W i m H →
  (J.stop i H ∧ Qd H) ∨ (J.go i H ∧ ∃ Nx : Hp → Prop, (∀ H', Nx H' → ∃ m', m' < m ∧ W (i + 1) m' H') ∧ ∀ x H', J.yld i H x H' → g x (wipe σ vs) H' fun σ2 H2 => wipe σ2 vs = wipe σ vs ∧ tt σ2 H2 fun b H3 => if b = true then
    te σ2 H3 fun y H4 => ∃ acc, H4 D = some (.lst acc) ∧ acc.length < sizeLine ∧ Nx (upd H4 D (.lst (acc ++ [y]))) else Nx H3)
/-- each item makes something new, all else stays -/
theorem lc_new {J : It} {n : Nat} {G : Hp → Prop} {Y : Nat → Hp → V → Hp → Prop} (w : Walk J n G Y) {g : TG} {tt : TT} {te : TE} {vs : List Nat} {σ : L2.St} {H1 : Hp} {D : Addr} {Qd : Hp → Prop} (ds : List PyData) (nD : H1 D = none) (hn : ds.length = n) (hz : n ≤ 1000) (hG : ∀ H, Same H1 H → G H)
    (turn : ∀ i x d H H' (Kt : V → Hp → Prop) (Kn : Hp → Prop), ds[i]? = some d → Same H1 H → Y i H x H' → (∀ y H4, Same H H4 → DatN (NewIn H) H4 y d → Kt y H4) → g x (wipe σ vs) H' fun σ2 H2 => wipe σ2 vs = wipe σ vs ∧ tt σ2 H2 fun b H3 => if b = true then te σ2 H3 Kt else Kn H3)
    (fin : ∀ H, Same H1 H → DatN (NewIn H1) H (.ref D) (.list ds) → Qd H) : LcW J g tt te vs σ D Qd H1 := by
  refine lc_it w (fun j H => Same H1 H ∧ ∃ ws, H D = some (.lst ws) ∧ EchN (fun a => H1 a = none ∧ a ≠ D) H ws (ds.take j)) ⟨same_upd nD, [], upd_same, .nil⟩ (fun i H _ p => hG H p.1) (fun i x H H' hi hP hy => ?_) (fun H hP => ?_)
  · obtain ⟨sm, ws, eD, hws⟩ := hP
    have hd : ds[i]? = some ds[i] := List.getElem?_eq_getElem (by omega)
    refine turn i x _ H H' _ _ hd sm hy fun y H4 s4 hd4 => ?_
    have eD4 := s4 _ _ eD
    have hl : ws.length ≤ 1000 := by
      rw [hws.1, List.length_take]
      omega
    have hl' : ws.length < 1000 := by
      rw [hws.1, List.length_take]
      omega
    refine ⟨ws, eD4, Nat.lt_of_lt_of_le hl' (by decide), fun b o e => ?_, ws ++ [y], upd_same, ?_⟩
    · rw [upd_ne (ne_of_none e nD)]
      exact s4 _ _ (sm b o e)
    · rw [List.take_add_one, hd]
      have k : Kps (fun a => H1 a = none ∧ a ≠ D) H4 (upd H4 D (.lst (ws ++ [y]))) := .upd eD4 fun a z => z.2
      refine ((hws.same s4).keep k).snoc (DatN.keep (hd4.weak fun a xs (z : H a = none) e => ⟨sm.free z, fun q => ?_⟩) k)
      rw [q, eD] at z
      cases z
  · obtain ⟨sm, ws, eD, hws⟩ := hP
    rw [List.take_of_length_le (by omega)] at hws
    exact fin H sm ((hws.weak fun a _ z _ => z.1).lst nD eD)
/-- each item makes something new by draws -/
theorem lc_draw {α : Type} (f : α → PyData) (R : Nat → α → Prop) (T : Int) {J : It} {n : Nat} {G : Hp → Prop} {Y : Nat → Hp → V → Hp → Prop} (w : Walk J n G Y) {g : TG} {tt : TT} {te : TE} {vs : List Nat} {σ : L2.St} {H1 : Hp} {D d c : Addr} {t1 : Int} {Qd : Hp → Prop} (S1 : StAt H1 d c t1) (nD : H1 D = none) (hz : n ≤ 1000) (hG : ∀ H, Kp d c H1 H → G H)
    (turn : ∀ i x H H' t (Kt : V → Hp → Prop) (Kn : Hp → Prop), i < n → t1 ≤ t → t ≤ t1 + T * (i : Int) → StAt H d c t → Kp d c H1 H → Y i H x H' → (∀ z y t' H4, R i z → DatN (NewIn H) H4 y (f z) → t ≤ t' → t' ≤ t + T → StAt H4 d c t' → Kp d c H H4 → Kt y H4) →
      g x (wipe σ vs) H' fun σ2 H2 => wipe σ2 vs = wipe σ vs ∧ tt σ2 H2 fun b H3 => if b = true then te σ2 H3 Kt else Kn H3)
    (fin : ∀ (H : Hp) (t : Int) (zs : List α), zs.length = n → (∀ (i : Nat) z, zs[i]? = some z → R i z) → t1 ≤ t → t ≤ t1 + T * (n : Int) → StAt H d c t → Kp d c H1 H → DatN (NewIn H1) H (.ref D) (.list (zs.map f)) → Qd H) : LcW J g tt te vs σ D Qd H1 := by
  have off := S1.off nD
  refine lc_it w (fun j H => ∃ (t : Int) (ws : List V) (zs : List α), H D = some (.lst ws) ∧ EchN (fun a => H1 a = none ∧ a ≠ D) H ws (zs.map f) ∧ zs.length = j ∧ (∀ (i : Nat) z, zs[i]? = some z → R i z) ∧ t1 ≤ t ∧ t ≤ t1 + T * (j : Int) ∧ StAt H d c t ∧ Kp d c H1 H)
    ⟨t1, [], [], upd_same, .nil, rfl, (fun _ _ e => nomatch e), Int.le_refl _, by omega, S1.same (same_upd nD), Kp.same d c (same_upd nD)⟩ (fun i H _ hP => ?_) (fun i x H H' hi hP hy => ?_) (fun H hP => ?_)
  · obtain ⟨_, _, _, _, _, _, _, _, _, _, k⟩ := hP
    exact hG H k
  · obtain ⟨t, ws, zs, eD, hws, hzl, hR, t0, t2, hS, k⟩ := hP
    refine turn i x H H' t _ _ hi t0 t2 hS k hy fun z y t' H4 hz' hd4 u0 u1 hS4 k4 => ?_
    have eD4 := k4 _ _ off.1 off.2 eD
    have hwl : ws.length = i := by rw [hws.1, List.length_map, hzl]
    have kk : Kps (fun a => H1 a = none ∧ a ≠ D) H4 (upd H4 D (.lst (ws ++ [y]))) := .upd eD4 fun a z => z.2
    have k1 : Kps (fun a => H1 a = none ∧ a ≠ D) H H4 := .kp k4 hS fun a z q => by
      obtain ⟨cs, ec, _⟩ := S1.cells
      rw [q, ec] at z
      exact nomatch z.1
    refine ⟨ws, eD4, Nat.lt_of_lt_of_le (show ws.length < 1000 by omega) (by decide), t', ws ++ [y], zs ++ [z], upd_same, ?_, by rw [List.length_append, hzl]; rfl, fun j q e => ?_, by omega, ?_, hS4.upd off.1 off.2, fun b o b1 b2 e => ?_⟩
    · rw [List.map_append]
      refine ((hws.keep k1).keep kk).snoc (DatN.keep (hd4.weak fun a xs (z : H a = none) e => ⟨?_, fun q => ?_⟩) kk)
      · cases e1 : H1 a with
        | none => rfl
        | some o =>
          by_cases z1 : a = d
          · rw [z1, hS.dict] at z; cases z
          · by_cases z2 : a = c
            · obtain ⟨cs, ec, _⟩ := hS.cells
              rw [z2, ec] at z; cases z
            · have := k a o z1 z2 e1
              rw [this] at z
              cases z
      · rw [q, eD] at z
        cases z
    · by_cases hj : j < zs.length
      · rw [List.getElem?_append_left hj] at e
        exact hR j q e
      · rw [List.getElem?_append_right (by omega)] at e
        have hj0 : j - zs.length < 1 := (List.getElem?_eq_some_iff.mp e).1
        have ej : j = i := by omega
        subst ej
        rw [hzl, Nat.sub_self] at e
        cases e
        exact hz'
    · have : T * ((i + 1 : Nat) : Int) = T * (i : Int) + T := by
        rw [Int.natCast_add, Int.mul_add]
        omega
      omega
    · rw [upd_ne (ne_of_none e nD)]
      exact k4 b o b1 b2 (k b o b1 b2 e)
  · obtain ⟨t, ws, zs, eD, hws, hzl, hR, t0, t2, hS, k⟩ := hP
    exact fin H t zs hzl hR t0 t2 hS k ((hws.weak fun a _ z _ => z.1).lst nD eD)
/-- those items of which this holds -/
theorem lc_keep {K : PySem.W.Frag} {a : Addr} {xs : List V} (pb : V → Bool) {g : TG} {tt : TT} {te : TE} {vs : List Nat} {σ : L2.St} {H1 : Hp} {D : Addr} {Qd : Hp → Prop} (nD : H1 D = none) (ea : H1 a = some (.lst xs)) (hz : xs.length ≤ 1000)
    (turn : ∀ (i : Nat) (x : V) (H : Hp) (Kt : V → Hp → Prop) (Kn : Hp → Prop), xs[i]? = some x → Same H1 H → (∀ H4, Same H H4 → pb x = true → Kt x H4) → (∀ H4, Same H H4 → pb x = false → Kn H4) → g x (wipe σ vs) H fun σ2 H2 => wipe σ2 vs = wipe σ vs ∧ tt σ2 H2 fun b H3 => if b = true then te σ2 H3 Kt else Kn H3)
    (fin : ∀ H, Same H1 H → H D = some (.lst (xs.filter pb)) → Qd H) : LcW (Itl K a) g tt te vs σ D Qd H1 := by
  refine lc_it walk_list (fun j H => Same H1 H ∧ H D = some (.lst ((xs.take j).filter pb))) ⟨same_upd nD, upd_same⟩ (fun i H _ p => SqL.of (p.1 _ _ ea)) (fun i x H H' hi hP hy => ?_) (fun H hP => ?_)
  · obtain ⟨sm, eD⟩ := hP
    obtain ⟨rfl, hx⟩ := hy
    have et : (xs.take (i + 1)).filter pb = (xs.take i).filter pb ++ (if pb x = true then [x] else []) := by
      rw [List.take_add_one, hx, List.filter_append]
      by_cases c : pb x = true
      · rw [if_pos c]
        show _ ++ List.filter pb [x] = _
        rw [List.filter_cons_of_pos c]
        rfl
      · rw [if_neg c]
        show _ ++ List.filter pb [x] = _
        rw [List.filter_cons_of_neg c]
        rfl
    have hl : ((xs.take i).filter pb).length ≤ i := Nat.le_trans (List.length_filter_le ..) (by rw [List.length_take]; omega)
    refine turn i x H' _ _ hx sm (fun H4 s4 c => ?_) (fun H4 s4 c => ?_)
    · refine ⟨_, s4 _ _ eD, Nat.lt_of_lt_of_le (show _ < 1000 by omega) (by decide), fun b o e => ?_, ?_⟩
      · rw [upd_ne (ne_of_none e nD)]
        exact s4 _ _ (sm b o e)
      · rw [upd_same, et, if_pos c]
    · refine ⟨sm.trans s4, ?_⟩
      rw [et, if_neg (by rw [c]; decide), List.append_nil]
      exact s4 _ _ eD
  · obtain ⟨sm, eD⟩ := hP
    rw [List.take_length] at eD
    exact fin H sm eD
theorem lc_new_seq {K : PySem.W.Frag} {a : Addr} {xs : List V} {g : TG} {tt : TT} {te : TE} {vs : List Nat} {σ : L2.St} {H1 : Hp} {Qd : Addr → Hp → Prop} (hq : SqH H1 a xs) (ds : List PyData) (hn : ds.length = xs.length) (hz : xs.length ≤ 1000)
    (turn : ∀ (i : Nat) (x : V) (d : PyData) (H : Hp) (Kt : V → Hp → Prop) (Kn : Hp → Prop), xs[i]? = some x → ds[i]? = some d → Same H1 H → (∀ y H4, Same H H4 → DatN (NewIn H) H4 y d → Kt y H4) → g x (wipe σ vs) H fun σ2 H2 => wipe σ2 vs = wipe σ vs ∧ tt σ2 H2 fun b H3 => if b = true then te σ2 H3 Kt else Kn H3)
    (fin : ∀ D H, H1 D = none → Same H1 H → DatN (NewIn H1) H (.ref D) (.list ds) → Qd D H) :
    ((∃ xs, SqL K H1 a xs) ∧ ∀ D, H1 D = none → LcR (Itl K a) g tt te vs σ D Qd H1) ∨ ((∃ xs, SqT K H1 a xs) ∧ ∀ D, H1 D = none → LcR (Itt K a) g tt te vs σ D Qd H1) := by
  rcases hq with h | h
  · exact .inl ⟨⟨xs, SqL.of h⟩, fun D nD => lc_new (walk_list (xs := xs)) ds nD hn hz (fun H s => SqL.of (s _ _ h)) (fun i x d H H' Kt Kn hd sm hy k => by obtain ⟨rfl, hx⟩ := hy; exact turn i x d H' Kt Kn hx hd sm k) (fun H s d => fin D H nD s d)⟩
  · exact .inr ⟨⟨xs, .inl (.inl h)⟩, fun D nD => lc_new (walk_tup (xs := xs)) ds nD hn hz (fun H s => .inl (.inl (s _ _ h))) (fun i x d H H' Kt Kn hd sm hy k => by obtain ⟨rfl, hx⟩ := hy; exact turn i x d H' Kt Kn hx hd sm k) (fun H s d => fin D H nD s d)⟩
theorem lc_new_list {K : PySem.W.Frag} {a : Addr} {xs : List V} {g : TG} {tt : TT} {te : TE} {vs : List Nat} {σ : L2.St} {H1 : Hp} {D : Addr} {Qd : Hp → Prop} (nD : H1 D = none) (hq : H1 a = some (.lst xs)) (ds : List PyData) (hn : ds.length = xs.length) (hz : xs.length ≤ 1000)
    (turn : ∀ (i : Nat) (x : V) (d : PyData) (H : Hp) (Kt : V → Hp → Prop) (Kn : Hp → Prop), xs[i]? = some x → ds[i]? = some d → Same H1 H → (∀ y H4, Same H H4 → DatN (NewIn H) H4 y d → Kt y H4) → g x (wipe σ vs) H fun σ2 H2 => wipe σ2 vs = wipe σ vs ∧ tt σ2 H2 fun b H3 => if b = true then te σ2 H3 Kt else Kn H3)
    (fin : ∀ H, Same H1 H → DatN (NewIn H1) H (.ref D) (.list ds) → Qd H) : LcW (Itl K a) g tt te vs σ D Qd H1 :=
  lc_new (walk_list (xs := xs)) ds nD hn hz (fun H s => SqL.of (s _ _ hq)) (fun i x d H H' Kt Kn hd sm hy k => by obtain ⟨rfl, hx⟩ := hy; exact turn i x d H' Kt Kn hx hd sm k) fin

open LamX
/-! ### sorted(xs, key=lambda a: ..) -/
/-- the names of such a lambda: its parameter, captured ones, the module's -/
structure LamP (sc scope : Scope) (a : Str) : Prop where
  kind : scope.kind = .function
  co : scope.isCoroutine = false
  gen : scope.isGenerator = false
  par : scope.names.lookup a = some .local
  own : ∀ y ∈ scope.names, y.2 ≠ .cell
  free : ∀ y ∈ scope.names, y.2 = .free → sc.names.lookup y.1 = some .cell ∨ sc.names.lookup y.1 = some .free
def lamPB (sc scope : Scope) (a : Str) : Bool :=
  decide (scope.kind = .function) && !scope.isCoroutine && !scope.isGenerator && decide (scope.names.lookup a = some .local) && scope.names.all fun y => !decide (y.2 = .cell) && (!decide (y.2 = .free) || decide (sc.names.lookup y.1 = some .cell) || decide (sc.names.lookup y.1 = some .free))
theorem lamP_by {sc scope : Scope} {a : Str} (h : lamPB sc scope a = true) : LamP sc scope a := by
  unfold lamPB at h
  simp only [Bool.and_eq_true, Bool.or_eq_true, Bool.not_eq_true', decide_eq_true_eq, decide_eq_false_iff_not, List.all_eq_true] at h
  obtain ⟨⟨⟨⟨h1, h2⟩, h3⟩, h4⟩, h5⟩ := h
  refine ⟨h1, h2, h3, h4, fun y hy => (h5 y hy).1, fun y hy e => ?_⟩
  rcases (h5 y hy).2 with (z | z) | z
  · exact absurd e z
  · exact .inl z
  · exact .inr z
/-- the table of lambdas at P stands, all else is kept -/
def TbL (P : Addr) (q : Str) (H H2 : Hp) : Prop := TabS H2 P q ∧ ∀ b o, H b = some o → (∀ ps, o ≠ .tbl ps) → H2 b = some o
/-- what the body must tell: run in the lambda's frame, it gives the key of what the parameter holds -/
def KeyBody (X : Cx) (scope : Scope) (a : Str) (body : Expr) (Kf : L2.St → Hp → V → PyData → Prop) : Prop :=
  ∀ (pins : List (Addr × Obj)) (σ : L2.St) (H : Hp) (s s1 : Shared) (A : Around) (L f c' : Addr) (v : Value) (x : V) (d : PyData), Inv X pins σ H s → (∀ b o, s.heap.get? b = some o → s1.heap.get? b = some o) → s1.heap.Ns L (fun y => [(a, v)].lookup y) →
    RelV x v → Kf σ H x d → wpAny (model X.prog X.w) A (eval body (lamEnv X scope L f c')) (PySem.W.KeyPure d s1) (fun _ _ => False) s1
def tSortL (K : PySem.W.Frag) (P : Addr) (q : Str) (Kf : L2.St → Hp → V → PyData → Prop) (t : TA) : TE := fun σ H Q => t σ H fun vs H1 => TabS H1 P q ∧ ∃ (a : Addr) (xs : List V) (k : V → PyData), vs = [.ref a] ∧ SqL K H1 a xs ∧
  PySem.W.AllAlike (xs.map k) ∧ PySem.W.Sortable (xs.map k) ∧ (∀ x ∈ xs, (k x).depth ≤ 8) ∧ (∀ x ∈ xs, ∀ H2, TbL P q H1 H2 → Kf σ H2 x (k x)) ∧ ∀ H2 p, TbL P q H1 H2 → H2 p = none → Q (.ref p) (upd H2 p (.lst (xs.mergeSort (PySem.W.dataLe false k))))
theorem each_vals : ∀ {xs : List V} {us : List Value}, Vals xs us → PySem.W.EachIs (fun v x => RelV x v) us xs
  | _, _, .nil => .nil
  | _, _, .cons r t => .cons r (each_vals t)
theorem vals_each : ∀ {xs : List V} {us : List Value}, PySem.W.EachIs (fun v x => RelV x v) us xs → Vals xs us
  | _, _, .nil => .nil
  | _, _, .cons r t => .cons r (vals_each t)
section
variable {X : Cx} {c P : Addr} {e : Expr} {t : TA} {params : Arguments} {body : Expr} {scope : Scope} {a : Str} {lpos kpos p pos : Pos} {Kf : L2.St → Hp → V → PyData → Prop}
theorem pe_sortedL (TB : LamX.TabB X.base X.mg c P) (hcode : X.env.code = .ref c) (hg : Gl X "sorted") (hm : X.mg "sorted" = none) (hr : Room 3 X.A) (ha : PA X [e] t) (hdef : defaultsOf params X.env = ([], [])) (LP : LamP X.env.scope scope a)
    (hbind : ∀ (v pm ctv : Value) (c' : Addr), bindArgs (PySem.W.kla_fn "<lambda>" (X.env.qual ++ "<lambda>") params body scope (cloFrom X.env.cells scope.names []) pm (.ref c') ctv) ⟨[v], []⟩ = pure [(a, v)])
    (hkey : KeyBody X scope a body Kf) (h1 : backTo pos (starEach [e] X.env) = (false, eval e X.env) :: backTo pos (starEach [] X.env) := by rfl) (h2 : (backTo pos (starEach [e] X.env)).any (·.1) = false := by rfl) :
    PE X (.Call (.Name "sorted" p) [e] [⟨some "key", .Lambda params body scope lpos, kpos⟩] pos) (tSortL X.K P (X.env.qual ++ "<lambda>") Kf t) := by
  refine ⟨fun pins s σ H Q I h => ?_⟩
  refine wpAny_Call_Name_kw (ld_blt I hg hm (show bootBuiltins "sorted" = some (.builtin "sorted") by decide +kernel) ?_ (by decide) (by decide))
  refine PyProof.Rows.callWith_kw (thn (ha.run pos pins s σ H _ I h) fun us s1 ⟨vs, H1, I1, r1, hT, aL, xs, k, ev, hS, hal, hso, hdp, hkf, q1⟩ => ?_) h1 h2 rfl rfl
  subst ev
  obtain rfl := Vals.ref1 r1
  show wpAny _ _ (evalAll [do let v ← eval (.Lambda params body scope lpos) X.env; standAt pos; pure v]) _ _ s1
  have hfree : ∀ y ∈ scope.names, y.2 = .free → ∃ c, X.env.cells.lookup y.1 = some c := fun y hy e => by
    rcases LP.free y hy e with z | z
    · exact I.ok.has _ (.inl z)
    · exact I.ok.has _ (.inr z)
  refine wpAny_evalAll_cons (wpAny_bind (lam_make2 (T := [(P, X.env.qual ++ "<lambda>")]) I1 TB hcode (List.mem_cons_self ..) (fun p hp _ => by rw [List.mem_singleton.mp hp]) (fun p hp => by rw [List.mem_singleton.mp hp]; exact hT) hdef hfree
    fun f c' pm ctv H2 s2 I2 x2 T2 hf nf ff hc => wpAny_bind (wpAny_standAt (wpAny_pure (wpAny_evalAll_nil ?_)))))
  have tb2 : TbL P (X.env.qual ++ "<lambda>") H1 H2 := ⟨T2 _ (List.mem_cons_self ..), x2⟩
  have hS2 : SqL X.K H2 aL xs := by
    rcases hS with z | z
    · rcases z with z | ⟨o, z⟩
      · exact .inl (.inl (x2 _ _ z (fun _ w => nomatch w)))
      · exact .inl (.inr ⟨o, x2 _ _ z (fun _ w => nomatch w)⟩)
    · exact .inr z
  obtain ⟨its, rv, pl, hz⟩ := I2.list hS2
  show wpAny _ _ (call (.builtin "sorted") [.ref aL] [(Str.ofString "key", .ref f)]) _ _ s2
  have hun := hr.un
  refine PySem.W.sorted_key_data (R := fun v x => RelV x v) (bs := xs) (vs := its) (b := false) k pl.isList (each_vals rv) hal hso hz (fun x hx => by have := hdp x hx; omega) (PyProof.Rows.ksk_s1 _ _) (fun _ => PyProof.Rows.ksk_l1 _ _) (fun x => PyProof.Rows.ksk_t1 f x) (fun v x hR hx h tk kp => ?_) (fun out c h' tk kp n0 ho hl eo => ?_)
  · have I3 : Inv X pins σ H2 { s2 with heap := h, toks := tk } := I2.kept kp
    have hf3 := kp _ _ hf
    obtain ⟨⟨oc, vs', t', hoc, hdc, hvc⟩, _, _⟩ := I2.hok c' _ hc
    have hr2 : Room 1 X.A.in1.in1 := hr.in1.in1
    refine wpAny_call (codeAny_mono (R := fun r s' => ∃ u, r = .ok (.ret u) ∧ PySem.W.KeyPure (k x) { s2 with heap := h, toks := tk } u s') ?_ fun r s' hq => ?_)
    · refine PySem.W.kla_callFunE (by have := hr2.dp; omega) hf3 rfl LP.co LP.gen rfl ⟨c', oc, vs', t', rfl, kp _ _ hoc, hdc, hvc⟩ ?_
      rw [hbind]
      refine wpAny_pure (wpAny_newFunctionEnv (fun y hy => LP.own y hy) (fun y hy => by rw [List.mem_singleton.mp hy]; exact LP.par) (fun h₁ hns hsb => ⟨I3.nolimit.fresh _ hsb, ?_⟩) LP.kind)
      have kp1 : ∀ b o, h.get? b = some o → h₁.get? b = some o := fun b o e => hsb.extBut b o (Nat.ne_of_lt (Heap.lt_size e)) (Heap.get?_push_of_some _ e)
      show codeAny _ _ (.expr body (lamEnv X scope h.objs.size f c')) _ _
      refine PySem.W.kla_codeExpr (wpAny_mono (hkey pins σ H2 { s2 with heap := h, toks := tk } { s2 with heap := h₁, toks := tk + 1 } _ h.objs.size f c' v x (k x) I3 kp1 hns hR (hkf x hx H2 tb2)) (fun u s' hq => ?_) fun _ _ z => z.elim)
      obtain ⟨h5, tk5, rfl, k5, rd⟩ := hq
      exact ⟨u, rfl, h5, tk5, rfl, fun b o e => k5 b o (kp1 b o e), rd⟩
    · obtain ⟨u, rfl, hk⟩ := hq
      exact hk
  · have hlen : (xs.mergeSort (PySem.W.dataLe false k)).length ≤ sizeLine := by rw [List.length_mergeSort]; exact hz
    have np : H2 (s2.heap.objs.size + 1) = none := I2.hok.fresh (Nat.le_succ _)
    exact ⟨.ref _, upd H2 (s2.heap.objs.size + 1) (.lst (xs.mergeSort (PySem.W.dataLe false k))), I2.laid (t' := tk) kp (Nat.le_succ _) ⟨hlen, _, c, vals_each eo, ho⟩, rfl, q1 H2 _ tb2 np⟩
end

/-- an expression that changes nothing but the count of tokens -/
def Gv (prog : Program) (w : World) (A : Around) (env : Env) (e : Expr) (s : Shared) (R : Value → Prop) : Prop := ∀ (tk0 : Nat) (Q : Value → Shared → Prop) (E : Value → Shared → Prop), (∀ u tk, R u → Q u { s with toks := tk }) → wpAny (model prog w) A (eval e env) Q E { s with toks := tk0 }
section
variable {prog : Program} {w : World} {A : Around} {env : Env} {s : Shared} {e b : Expr} {pos : Pos}
theorem gv_int {i : Int} {j : Nat} : Gv prog w A env (.Constant (.int i) j pos) s (fun u => ∃ t, u = .int i t) := fun _ _ _ h => wpAny_Constant_int (h _ _ ⟨_, rfl⟩)
theorem gv_neg {i : Int} (ha : Gv prog w A env e s (fun u => ∃ t, u = .int i t)) : Gv prog w A env (.UnaryOp .USub e pos) s (fun u => ∃ t, u = .int (-i) t) := fun tk0 Q E h =>
  PyProof.Rows.UnaryOp_ (ha tk0 _ _ fun u tk ⟨t, e⟩ => by rw [e]; exact neg_int (h _ _ ⟨_, rfl⟩))
theorem gv_loc {x : Str} {m : Str → Option Value} {v : Value} (hk : env.scope.kind = .function) (hl : env.kindOf x = some .local) (hn : s.heap.Ns env.locals m) (hv : m x = some v) (hd : (x == ("__debug__" : Str)) = false := by decide) : Gv prog w A env (.Name x pos) s (fun u => u = v) := fun tk0 Q E h =>
  wpAny_Name (wpAny_loadName_local (s := { s with toks := tk0 }) hk hl hn hv (h v tk0 rfl)) hd
theorem gv_free {x : Str} {c : Addr} {v : Value} (hk : env.scope.kind = .function) (hl : env.kindOf x = some .free) (hc : env.cells.lookup x = some c) (hv : s.heap.IsCell c (some v)) (hd : (x == ("__debug__" : Str)) = false := by decide) (hcd : (x == ("__classdict__" : Str)) = false := by decide) : Gv prog w A env (.Name x pos) s (fun u => u = v) := fun tk0 Q E h =>
  wpAny_Name (wpAny_loadName_free (s := { s with toks := tk0 }) hk hl hc hv (h v tk0 rfl) hcd) hd
theorem gv_ixT {t : Addr} {its : List Value} {i : Int} {v : Value} (ha : Gv prog w A env e s (fun u => u = .ref t)) (hb : Gv prog w A env b s (fun u => ∃ t, u = .int i t)) (pl : IsTup s.heap t its.toArray) (hz : its.length ≤ sizeLine) (hv : atI its i = some v) (hs : PlainIx b) : Gv prog w A env (.Subscript e b pos) s (fun u => u = v) := fun tk0 Q E h => by
  refine PyProof.Rows.Subscript_ (ha tk0 _ _ fun u tk eu => hb tk _ _ fun u2 tk2 ⟨t2, e2⟩ => ?_)
  subst eu
  subst e2
  obtain ⟨j, h1, h2, h3, h4, h5⟩ := atI_get hv
  have hn := line63
  exact subscriptTail_builtinR (x := v) pl.typeIs slot_tuple_getitem.lookup (getItem_tuple (s := { s with toks := tk2 }) (j := j) (Q := fun r s' => r = v ∧ Q r s') pl (by omega) (by omega) (by rw [List.size_toArray]; exact h1) (by simpa using h2) ⟨rfl, h v tk2 rfl⟩) (hs _ _)
theorem gv_ixL {t : Addr} {its : List Value} {i : Int} {v : Value} (ha : Gv prog w A env e s (fun u => u = .ref t)) (hb : Gv prog w A env b s (fun u => ∃ t, u = .int i t)) (pl : PlainL s.heap t its.toArray) (hz : its.length ≤ sizeLine) (hv : atI its i = some v) (hs : PlainIx b) : Gv prog w A env (.Subscript e b pos) s (fun u => u = v) := fun tk0 Q E h => by
  refine PyProof.Rows.Subscript_ (ha tk0 _ _ fun u tk eu => hb tk _ _ fun u2 tk2 ⟨t2, e2⟩ => ?_)
  subst eu
  subst e2
  obtain ⟨j, h1, h2, h3, h4, h5⟩ := atI_get hv
  have hn := line63
  by_cases h0 : 0 ≤ i
  · have hj : i.toNat = j := by
      rw [seqIndex_of h0 h5] at h1
      exact Option.some.inj h1
    exact item_listR (s := { s with toks := tk2 }) pl.isList h0 (by omega) (by rw [hj]; simpa using h2) (h v tk2 rfl) (hs _ _)
  · have hj : (i + (its.toArray.size : Int)).toNat = j := by
      rw [seqIndex_neg (by omega) h4] at h1
      rw [List.size_toArray]
      exact Option.some.inj h1
    exact subscriptTail_builtinR (x := v) pl.isList.typeIs slot_list_getitem.lookup
      (wpAny_getItem_list_neg (s := { s with toks := tk2 }) (Q := fun r s' => r = v ∧ Q r s') pl.isList (by omega) (by rw [List.size_toArray] <;> omega) (by omega) (by rw [hj]; simpa using h2) ⟨rfl, h v tk2 rfl⟩) (hs _ _)
end
/-! ### the keys -/
theorem vals_at {xs : List V} {us : List Value} (r : Vals xs us) {i : Int} {x : V} (h : atI xs i = some x) : ∃ u, atI us i = some u ∧ RelV x u := by
  unfold atI at h ⊢
  rw [← r.length]
  cases e : ixN xs.length i with
  | none => rw [e] at h; cases h
  | some j =>
    rw [e] at h
    exact r.get h
section
variable {X : Cx} {scope : Scope} {a : Str} {p1 p2 p3 p4 p5 p6 p7 p8 p9 : Pos} {j1 j2 j3 : Nat}
/-- lambda a: (a[0], a[1]) -/
def KfPair (K : PySem.W.Frag) : L2.St → Hp → V → PyData → Prop := fun _ H x d => ∃ (t : Addr) (xs : List V) (i j : Int), x = .ref t ∧ SqT K H t xs ∧ atI xs 0 = some (.int i) ∧ atI xs 1 = some (.int j) ∧ d = .tuple [.int i, .int j]
theorem key_pair {x1 : Nat} (LP : LamP X.env.scope scope a) (hd : (a == ("__debug__" : Str)) = false) : KeyBody X scope a (.Tuple [.Subscript (.Name a p1) (.Constant (.int 0) j1 p2) p3, .Subscript (.Name a p4) (.Constant (.int 1) j2 p5) p6] x1 p7) (KfPair X.K) := by
  intro pins σ H s s1 A L f c' v x d I kp hn r h
  obtain ⟨t, xs, i, j, rfl, hS, e0, e1, rfl⟩ := h
  have I1 : Inv X pins σ H { s with heap := s1.heap, toks := s.toks } := I.kept kp
  obtain ⟨its, rv, pl, hz⟩ := I1.tuple hS
  obtain ⟨u0, a0, t0, rfl⟩ := vals_at rv e0
  obtain ⟨u1, a1, t1, rfl⟩ := vals_at rv e1
  cases r
  have hz' : its.length ≤ sizeLine := by rw [← rv.length]; exact hz
  have nm : ∀ p, Gv X.prog X.w A (lamEnv X scope L f c') (.Name a p) s1 (fun u => u = .ref t) := fun p => gv_loc LP.kind LP.par hn (by simp) hd
  refine wpAny_Tuple_spliced ?_
  show wpAny _ _ (spliced [(false, eval (.Subscript (.Name a p1) (.Constant (.int 0) j1 p2) p3) (lamEnv X scope L f c')), (false, eval (.Subscript (.Name a p4) (.Constant (.int 1) j2 p5) p6) (lamEnv X scope L f c'))]) _ _ s1
  refine Calls.spliced_cons (gv_ixT (nm p1) gv_int pl hz' a0 (fun _ _ => rfl) s1.toks _ _ fun u tk eu => Calls.spliced_cons (gv_ixT (nm p4) gv_int pl hz' a1 (fun _ _ => rfl) tk _ _ fun u2 tk2 eu2 => Calls.spliced_nil ⟨(by show 2 ≤ sizeLine; decide), ?_⟩))
  subst eu
  subst eu2
  exact ⟨_, tk2, rfl, fun b o e => Heap.get?_push_of_some _ e, .tuple (Heap.get?_push_size _ rfl) rfl rfl (.cons (.int _ _) (.cons (.int _ _) .nil))⟩
/-- what is captured at slot i, as the lambda reads it -/
theorem cap_at {i : Nat} {y : Str} {v : V} {pins : List (Addr × Obj)} {σ : L2.St} {H : Hp} {s : Shared} (I : Inv X pins σ H s) (LP : LamP X.env.scope scope a) (hN : X.N[i]? = some y) (hc : X.env.scope.names.lookup y = some .cell) (hy : scope.names.lookup y = some .free) (hv : σ[i]? = some (some v)) :
    ∃ c u, (cloFrom X.env.cells scope.names []).lookup y = some c ∧ s.heap.IsCell c (some u) ∧ RelV v u := by
  obtain ⟨m, hn, look⟩ := I.loc
  obtain ⟨u, r, l⟩ := look i y v hN hv (.inr (.inl hc))
  rcases l with ⟨z, _⟩ | ⟨_, c, e, hcell⟩
  · rw [show X.env.kindOf y = some .cell from hc] at z
    cases z
  · obtain ⟨c2, h2⟩ := mem_lookup (cloFrom_has (cells := X.env.cells) (acc := []) (PySem.mem_of_lookup hy))
    refine ⟨c2, u, h2, ?_, r⟩
    rcases cloFrom_mem (PySem.mem_of_lookup h2) with hm | ⟨_, w⟩
    · cases hm
    · have w2 : c2 = c := by rw [w, e]; rfl
      rw [w2]
      exact hcell
/-- lambda a: y[a][1], y captured: a list of tuples -/
def KfAt1 (K : PySem.W.Frag) (i : Nat) : L2.St → Hp → V → PyData → Prop := fun σ H x d => ∃ (l t : Addr) (ls ts : List V) (n k : Int), σ[i]? = some (some (.ref l)) ∧ x = .int n ∧ SqL K H l ls ∧ atI ls n = some (.ref t) ∧ SqT K H t ts ∧ atI ts 1 = some (.int k) ∧ d = .int k
theorem key_at1 {i : Nat} {y : Str} (LP : LamP X.env.scope scope a) (hN : X.N[i]? = some y) (hc : X.env.scope.names.lookup y = some .cell) (hy : scope.names.lookup y = some .free) (hd : (a == ("__debug__" : Str)) = false) (hd2 : (y == ("__debug__" : Str)) = false) (hcd : (y == ("__classdict__" : Str)) = false) :
    KeyBody X scope a (.Subscript (.Subscript (.Name y p1) (.Name a p2) p3) (.Constant (.int 1) j1 p4) p5) (KfAt1 X.K i) := by
  intro pins σ H s s1 A L f c' v x d I kp hn r h
  obtain ⟨l, t, ls, ts, n, k, hv, rfl, hS, e0, hT, e1, rfl⟩ := h
  obtain ⟨tn, rfl⟩ := r
  have I1 : Inv X pins σ H { s with heap := s1.heap, toks := s.toks } := I.kept kp
  obtain ⟨c, u, g1, g2, g3⟩ := cap_at I1 LP hN hc hy hv
  cases g3
  obtain ⟨its, rv, pl, hz⟩ := I1.list hS
  obtain ⟨jts, rw', pt, hz2⟩ := I1.tuple hT
  obtain ⟨u0, a0, w0⟩ := vals_at rv e0
  cases w0
  obtain ⟨u1, a1, t1, rfl⟩ := vals_at rw' e1
  have ny : ∀ p, Gv X.prog X.w A (lamEnv X scope L f c') (.Name y p) s1 (fun u => u = .ref l) := fun p => gv_free LP.kind hy g1 g2 hd2 hcd
  have na : ∀ p, Gv X.prog X.w A (lamEnv X scope L f c') (.Name a p) s1 (fun u => ∃ t, u = .int n t) := fun p tk0 Q E h => (gv_loc (pos := p) LP.kind LP.par hn (by simp) hd : Gv X.prog X.w A (lamEnv X scope L f c') (.Name a p) s1 (fun u => u = .int n tn)) tk0 Q E fun u tk eu => h u tk ⟨tn, eu⟩
  refine gv_ixT (gv_ixL (ny p1) (na p2) pl (by rw [← rv.length]; exact hz) a0 (fun _ _ => rfl)) gv_int pt (by rw [← rw'.length]; exact hz2) a1 (fun _ _ => rfl) s1.toks _ _ fun u tk eu => ?_
  subst eu
  exact ⟨s1.heap, tk, rfl, fun _ _ e => e, .int _ _⟩
/-- lambda a: y[a][-1][1], y captured: a list of lists of tuples -/
def KfLast1 (K : PySem.W.Frag) (i : Nat) : L2.St → Hp → V → PyData → Prop := fun σ H x d => ∃ (l m t : Addr) (ls ms ts : List V) (n k : Int), σ[i]? = some (some (.ref l)) ∧ x = .int n ∧ SqL K H l ls ∧ atI ls n = some (.ref m) ∧ SqL K H m ms ∧ atI ms (-1) = some (.ref t) ∧ SqT K H t ts ∧ atI ts 1 = some (.int k) ∧ d = .int k
theorem key_last1 {i : Nat} {y : Str} (LP : LamP X.env.scope scope a) (hN : X.N[i]? = some y) (hc : X.env.scope.names.lookup y = some .cell) (hy : scope.names.lookup y = some .free) (hd : (a == ("__debug__" : Str)) = false) (hd2 : (y == ("__debug__" : Str)) = false) (hcd : (y == ("__classdict__" : Str)) = false) :
    KeyBody X scope a (.Subscript (.Subscript (.Subscript (.Name y p1) (.Name a p2) p3) (.UnaryOp .USub (.Constant (.int 1) j2 p6) p7) p8) (.Constant (.int 1) j1 p4) p5) (KfLast1 X.K i) := by
  intro pins σ H s s1 A L f c' v x d I kp hn r h
  obtain ⟨l, m, t, ls, ms, ts, n, k, hv, rfl, hS, e0, hM, em, hT, e1, rfl⟩ := h
  obtain ⟨tn, rfl⟩ := r
  have I1 : Inv X pins σ H { s with heap := s1.heap, toks := s.toks } := I.kept kp
  obtain ⟨c, u, g1, g2, g3⟩ := cap_at I1 LP hN hc hy hv
  cases g3
  obtain ⟨its, rv, pl, hz⟩ := I1.list hS
  obtain ⟨kts, rk, pk, hz3⟩ := I1.list hM
  obtain ⟨jts, rw', pt, hz2⟩ := I1.tuple hT
  obtain ⟨u0, a0, w0⟩ := vals_at rv e0
  cases w0
  obtain ⟨u2, a2, w2⟩ := vals_at rk em
  cases w2
  obtain ⟨u1, a1, t1, rfl⟩ := vals_at rw' e1
  have ny : ∀ p, Gv X.prog X.w A (lamEnv X scope L f c') (.Name y p) s1 (fun u => u = .ref l) := fun p => gv_free LP.kind hy g1 g2 hd2 hcd
  have na : ∀ p, Gv X.prog X.w A (lamEnv X scope L f c') (.Name a p) s1 (fun u => ∃ t, u = .int n t) := fun p tk0 Q E h => (gv_loc (pos := p) LP.kind LP.par hn (by simp) hd : Gv X.prog X.w A (lamEnv X scope L f c') (.Name a p) s1 (fun u => u = .int n tn)) tk0 Q E fun u tk eu => h u tk ⟨tn, eu⟩
  refine gv_ixT (gv_ixL (gv_ixL (ny p1) (na p2) pl (by rw [← rv.length]; exact hz) a0 (fun _ _ => rfl)) (gv_neg gv_int) pk (by rw [← rk.length]; exact hz3) a2 (fun _ _ => rfl)) gv_int pt (by rw [← rw'.length]; exact hz2) a1 (fun _ _ => rfl) s1.toks _ _ fun u tk eu => ?_
  subst eu
  exact ⟨s1.heap, tk, rfl, fun _ _ e => e, .int _ _⟩
end

open LamX
/-! ### sorted(range(n), key=lambda a: ..) -/
theorem cr_range1 {X : Cx} : CallR X (.type "range") (fun vs H Q => ∃ j, vs = [V.int j] ∧ ∀ p, H p = none → Q (.ref p) (upd H p (.rng 0 j))) := fun pins s σ H vs us Q I r h => by
  obtain ⟨j, rfl, q⟩ := h
  obtain ⟨u, rfl, t, rfl⟩ := vals1 r
  refine call_range_1 ⟨.ref s.heap.objs.size, upd H s.heap.objs.size (.rng 0 j), I.laid (t' := s.toks + 1 + 1) (fun b o e => Heap.get?_push_of_some _ e) (Nat.le_refl _) ?_, rfl, q _ (I.hok.fresh (Nat.le_refl _))⟩
  exact ⟨s.toks, t, s.toks + 1, Heap.get?_push_size _ rfl⟩
abbrev rngV (n : Nat) : List V := (List.range n).map fun i : Nat => V.int (i : Int)
theorem vals_of : ∀ {xs : List V} {us : List Value}, xs.length = us.length → (∀ (j : Nat) x u, xs[j]? = some x → us[j]? = some u → RelV x u) → Vals xs us
  | [], [], _, _ => .nil
  | [], _ :: _, h, _ => nomatch h
  | _ :: _, [], h, _ => nomatch h
  | x :: xs, u :: us, h, r => .cons (r 0 x u rfl rfl) (vals_of (Nat.succ.inj h) fun j y w e1 e2 => r (j + 1) y w e1 e2)
section
variable {prog : Program} {w : World} {A : Around} {E : Value → Shared → Prop} {s : Shared}
theorem sorted_key_range {r : Addr} {f : Addr} {n : Nat} {t u v : Tok} {Q : Value → Shared → Prop} (k : V → PyData) (hh : A.handled = none) (hr : IsRange s.heap r 0 (n : Int) 1 t u v) (hn : n ≤ 10000) (hal : PySem.W.AllAlike ((rngV n).map k)) (hk : PySem.W.Sortable ((rngV n).map k))
    (hu : ∀ x, x ∈ rngV n → A.units + 2 + (k x).depth < cLine)
    (turn : ∀ (v : Value) (x : V), RelV x v → x ∈ rngV n → ∀ (h : Heap) (tk : Nat), (∀ b o, s.heap.get? b = some o → h.get? b = some o) →
      wpAny (model prog w) A.in1.in1 (call (.ref f) [v]) (PySem.W.KeyPure (k x) { s with heap := h, toks := tk }) (fun _ _ => False) { s with heap := h, toks := tk })
    (h : ∀ p out c h' tk, s.heap.get? p = none → (∀ b o, s.heap.get? b = some o → h'.get? b = some o) → h'.get? p = some (seqObj "list" (List.toArray out) c) → Vals ((rngV n).mergeSort (PySem.W.dataLe false k)) out →
      Q (.ref p) { s with heap := h', toks := tk }) :
    wpAny (model prog w) A (call (.builtin "sorted") [.ref r] [(Str.ofString "key", .ref f)]) Q E s := by
  refine call_function_entry_kw kind_sorted plain_sorted entry_sorted (PyProof.Rows.ksk_s1 _ _) ?_
  unfold Builtin.«sorted»
  refine wpAny_bind (m := checkCount "sorted" 1 1 _) (wpAny_pure ?_)
  refine wpAny_bind (collect_range (n := n) (A := A.in1) hh hr ?_ ?_ (by omega) fun h1 tk1 acc k1 hi => ?_)
  · exact small_one (by decide) (by decide) (by omega) (by omega)
  · rw [rangeSize_one]
    split <;> omega
  · have hL : acc.toList.length ≤ sizeLine := by rw [Array.length_toList, hi.1]; exact Nat.le_trans hn (by decide)
    refine wpAny_bind (wpAny_newList ?_ hL)
    refine wpAny_bind (wpAny_holding (wpAny_call_entry_kw slot_list_sort ⟨_, Heap.get?_push_size _ rfl, rfl⟩ entry_list_sort ?body (PyProof.Rows.ksk_l1 _ _)))
    case body =>
      rw [PyProof.Rows.ksk_t1]
      have ev : PySem.W.EachIs (fun v x => RelV x v) acc.toList (rngV n) := by
        refine each_vals (vals_of (by rw [List.length_map, List.length_range, Array.length_toList, hi.1]) fun j x u e1 e2 => ?_)
        obtain ⟨t, rfl⟩ := hi.2 j u (by simpa using e2)
        rw [List.getElem?_map] at e1
        cases e3 : (List.range n)[j]? with
        | none => rw [e3] at e1; cases e1
        | some m =>
          rw [e3] at e1
          cases e1
          have : m = j := by
            have := List.getElem?_eq_some_iff.mp e3
            obtain ⟨hj, e⟩ := this
            rw [List.getElem_range] at e
            exact e.symm
          subst this
          exact ⟨t, by simp⟩
      have fr : ∀ b o, s.heap.get? b = some o → b ≠ h1.objs.size := fun b o e => Nat.ne_of_lt (Heap.lt_size (k1 b o e))
      refine PySem.W.keyH_tree (b := false) (vs := acc.toList) (kz := (rngV n).map k) (s := { s with heap := h1.push (seqObj "list" acc.toList.toArray 0), toks := tk1 }) (Heap.get?_push_size _ rfl) (by rw [List.length_map]; exact ev.length.symm) hL hal hk (fun d hd => by obtain ⟨x, hx, rfl⟩ := List.mem_map.mp hd; exact hu x hx)
        (PySem.W.keyH_turns (h₁ := h1.push (seqObj "list" acc.toList.toArray 0)) (s := { s with heap := h1.push (seqObj "list" acc.toList.toArray 0), toks := tk1 }) ev fun v x hR hx h' tk kp => turn v x hR hx h' tk fun b o e => kp b o (fr b o e) (Heap.get?_push_of_some _ (k1 b o e))) fun h' tk out c kp hD ko => ?_
      refine ⟨.none, rfl, wpAny_pure ⟨_, rfl, ?_⟩⟩
      have nn : s.heap.get? h1.objs.size = none := by
        cases e : s.heap.get? h1.objs.size with
        | none => rfl
        | some o => exact absurd rfl (fr _ _ e)
      exact h h1.objs.size out c h' tk nn (fun b o e => kp b o (fr b o e) (Heap.get?_push_of_some _ (k1 b o e))) hD (vals_each (PySem.W.keyedOut_each k ko ev))
end

def tSortLR (P : Addr) (q : Str) (Kf : L2.St → Hp → V → PyData → Prop) (t : TA) : TE := fun σ H Q => t σ H fun vs H1 => TabS H1 P q ∧ ∃ (a : Addr) (n : Nat) (k : V → PyData), vs = [.ref a] ∧ H1 a = some (.rng 0 (n : Int)) ∧ n ≤ 10000 ∧
  PySem.W.AllAlike ((rngV n).map k) ∧ PySem.W.Sortable ((rngV n).map k) ∧ (∀ x ∈ rngV n, (k x).depth ≤ 8) ∧ (∀ x ∈ rngV n, ∀ H2, TbL P q H1 H2 → Kf σ H2 x (k x)) ∧ ∀ H2 p, TbL P q H1 H2 → H2 p = none → Q (.ref p) (upd H2 p (.lst ((rngV n).mergeSort (PySem.W.dataLe false k))))
section
variable {X : Cx} {c P : Addr} {e : Expr} {t : TA} {params : Arguments} {body : Expr} {scope : Scope} {a : Str} {lpos kpos p pos : Pos} {Kf : L2.St → Hp → V → PyData → Prop}
theorem pe_sortedLR (TB : LamX.TabB X.base X.mg c P) (hcode : X.env.code = .ref c) (hg : Gl X "sorted") (hm : X.mg "sorted" = none) (hr : Room 3 X.A) (ha : PA X [e] t) (hdef : defaultsOf params X.env = ([], [])) (LP : LamP X.env.scope scope a)
    (hbind : ∀ (v pm ctv : Value) (c' : Addr), bindArgs (PySem.W.kla_fn "<lambda>" (X.env.qual ++ "<lambda>") params body scope (cloFrom X.env.cells scope.names []) pm (.ref c') ctv) ⟨[v], []⟩ = pure [(a, v)])
    (hkey : KeyBody X scope a body Kf) (h1 : backTo pos (starEach [e] X.env) = (false, eval e X.env) :: backTo pos (starEach [] X.env) := by rfl) (h2 : (backTo pos (starEach [e] X.env)).any (·.1) = false := by rfl) :
    PE X (.Call (.Name "sorted" p) [e] [⟨some "key", .Lambda params body scope lpos, kpos⟩] pos) (tSortLR P (X.env.qual ++ "<lambda>") Kf t) := by
  refine ⟨fun pins s σ H Q I h => ?_⟩
  refine wpAny_Call_Name_kw (ld_blt I hg hm (show bootBuiltins "sorted" = some (.builtin "sorted") by decide +kernel) ?_ (by decide) (by decide))
  refine PyProof.Rows.callWith_kw (thn (ha.run pos pins s σ H _ I h) fun us s1 ⟨vs, H1, I1, r1, hT, aL, n, k, ev, hS, hn, hal, hso, hdp, hkf, q1⟩ => ?_) h1 h2 rfl rfl
  subst ev
  obtain rfl := Vals.ref1 r1
  show wpAny _ _ (evalAll [do let v ← eval (.Lambda params body scope lpos) X.env; standAt pos; pure v]) _ _ s1
  have hfree : ∀ y ∈ scope.names, y.2 = .free → ∃ c, X.env.cells.lookup y.1 = some c := fun y hy e => by
    rcases LP.free y hy e with z | z
    · exact I.ok.has _ (.inl z)
    · exact I.ok.has _ (.inr z)
  refine wpAny_evalAll_cons (wpAny_bind (lam_make2 (T := [(P, X.env.qual ++ "<lambda>")]) I1 TB hcode (List.mem_cons_self ..) (fun p hp _ => by rw [List.mem_singleton.mp hp]) (fun p hp => by rw [List.mem_singleton.mp hp]; exact hT) hdef hfree
    fun f c' pm ctv H2 s2 I2 x2 T2 hf nf ff hc => wpAny_bind (wpAny_standAt (wpAny_pure (wpAny_evalAll_nil ?_)))))
  have tb2 : TbL P (X.env.qual ++ "<lambda>") H1 H2 := ⟨T2 _ (List.mem_cons_self ..), x2⟩
  have hS2 : H2 aL = some (.rng 0 (n : Int)) := x2 _ _ hS (fun _ w => nomatch w)
  obtain ⟨t0, t1, t2, hra⟩ := (show ObjOk X.prog X.w H2 s2.heap aL (.rng 0 (n : Int)) from I2.hok aL _ hS2)
  show wpAny _ _ (call (.builtin "sorted") [.ref aL] [(Str.ofString "key", .ref f)]) _ _ s2
  have hun := hr.un
  refine sorted_key_range k hr.hd hra hn hal hso (fun x hx => by have := hdp x hx; omega) (fun v x hR hx h tk kp => ?_) (fun pn out c h' tk n0 kp ho eo => ?_)
  · have I3 : Inv X pins σ H2 { s2 with heap := h, toks := tk } := I2.kept kp
    have hf3 := kp _ _ hf
    obtain ⟨⟨oc, vs', t', hoc, hdc, hvc⟩, _, _⟩ := I2.hok c' _ hc
    have hr2 : Room 1 X.A.in1.in1 := hr.in1.in1
    refine wpAny_call (codeAny_mono (R := fun r s' => ∃ u, r = .ok (.ret u) ∧ PySem.W.KeyPure (k x) { s2 with heap := h, toks := tk } u s') ?_ fun r s' hq => ?_)
    · refine PySem.W.kla_callFunE (by have := hr2.dp; omega) hf3 rfl LP.co LP.gen rfl ⟨c', oc, vs', t', rfl, kp _ _ hoc, hdc, hvc⟩ ?_
      rw [hbind]
      refine wpAny_pure (wpAny_newFunctionEnv (fun y hy => LP.own y hy) (fun y hy => by rw [List.mem_singleton.mp hy]; exact LP.par) (fun h₁ hns hsb => ⟨I3.nolimit.fresh _ hsb, ?_⟩) LP.kind)
      have kp1 : ∀ b o, h.get? b = some o → h₁.get? b = some o := fun b o e => hsb.extBut b o (Nat.ne_of_lt (Heap.lt_size e)) (Heap.get?_push_of_some _ e)
      show codeAny _ _ (.expr body (lamEnv X scope h.objs.size f c')) _ _
      refine PySem.W.kla_codeExpr (wpAny_mono (hkey pins σ H2 { s2 with heap := h, toks := tk } { s2 with heap := h₁, toks := tk + 1 } _ h.objs.size f c' v x (k x) I3 kp1 hns hR (hkf x hx H2 tb2)) (fun u s' hq => ?_) fun _ _ z => z.elim)
      obtain ⟨h5, tk5, rfl, k5, rd⟩ := hq
      exact ⟨u, rfl, h5, tk5, rfl, fun b o e => k5 b o (kp1 b o e), rd⟩
    · obtain ⟨u, rfl, hk⟩ := hq
      exact hk
  · have hlen : ((rngV n).mergeSort (PySem.W.dataLe false k)).length ≤ sizeLine := by rw [List.length_mergeSort, List.length_map, List.length_range]; exact Nat.le_trans hn (by decide)
    have np : H2 pn = none := HOk.gone (show HOk X.prog X.w H2 s2.heap from I2.hok) n0
    exact ⟨.ref _, upd H2 pn (.lst ((rngV n).mergeSort (PySem.W.dataLe false k))), Inv.laidN (t' := tk) I2 kp n0 np ⟨hlen, _, c, eo, ho⟩, rfl, q1 H2 _ tb2 np⟩
end

theorem nodup_len {α : Type} [DecidableEq α] : ∀ {l m : List α}, l.Nodup → (∀ x ∈ l, x ∈ m) → l.length ≤ m.length
  | [], _, _, _ => Nat.zero_le _
  | x :: r, m, nd, h => by
    have nx := (List.nodup_cons.mp nd).1
    have ih := nodup_len (m := m.erase x) (List.nodup_cons.mp nd).2 fun y hy => by
      have hne : y ≠ x := fun e => nx (e ▸ hy)
      exact (List.mem_erase_of_ne hne).mpr (h y (List.mem_cons_of_mem _ hy))
    have e := List.length_erase_of_mem (h x (List.mem_cons_self ..))
    have pos : 0 < m.length := List.length_pos_of_mem (h x (List.mem_cons_self ..))
    rw [List.length_cons]
    omega

/-! ## generator expressions: a frame of their own, its rules those of any body -/
namespace GX
open PySem PySem.Spec PyProof.Rows L2 GenW
/-- the object at c is a code object with its table at P -/
def CodeG (c P : Addr) : HO := .ext fun h => PySem.W.CodeHd h c P
theorem codeG_ne {c P : Addr} (ps : Array Value) : CodeG c P ≠ .tbl ps := fun z => by
  unfold CodeG at z
  cases z
/-- all but tables stands, tables stay tables -/
structure NoTab (H H2 : Hp) : Prop where
  keep : ∀ b o, H b = some o → (∀ ps, o ≠ .tbl ps) → H2 b = some o
  tab : ∀ b ps, H b = some (.tbl ps) → ∃ qs, H2 b = some (.tbl qs)
theorem NoTab.refl (H : Hp) : NoTab H H := ⟨fun _ _ e _ => e, fun _ ps e => ⟨ps, e⟩⟩
theorem NoTab.trans {H H1 H2 : Hp} (a : NoTab H H1) (b : NoTab H1 H2) : NoTab H H2 := ⟨fun x o e n => b.keep x o (a.keep x o e n) n, fun x ps e => let ⟨qs, e1⟩ := a.tab x ps e; b.tab x qs e1⟩
theorem NoTab.of {H H1 : Hp} (k : ∀ b o, H b = some o → H1 b = some o) : NoTab H H1 := ⟨fun b o e _ => k b o e, fun b ps e => ⟨ps, k _ _ e⟩⟩
theorem NoTab.free {H H1 : Hp} {p : Addr} (n : NoTab H H1) (h : H1 p = none) : H p = none := by
  cases e : H p with
  | none => rfl
  | some o =>
    by_cases ct : ∃ q, o = .tbl q
    · obtain ⟨q, rfl⟩ := ct
      obtain ⟨qs, e1⟩ := n.tab p q e
      rw [h] at e1
      cases e1
    · have e1 := n.keep p o e fun ps z => ct ⟨ps, z⟩
      rw [h] at e1
      cases e1
theorem NoTab.lst {H H1 : Hp} {a : Addr} {xs : List V} (n : NoTab H H1) (e : H a = some (.lst xs)) : H1 a = some (.lst xs) := n.keep _ _ e fun _ z => nomatch z
theorem NoTab.tup {H H1 : Hp} {a : Addr} {xs : List V} (n : NoTab H H1) (e : H a = some (.tup xs)) : H1 a = some (.tup xs) := n.keep _ _ e fun _ z => nomatch z
theorem NoTab.code {H H1 : Hp} {a c P : Addr} (n : NoTab H H1) (e : H a = some (CodeG c P)) : H1 a = some (CodeG c P) := n.keep _ _ e codeG_ne
theorem NoTab.sqL {K : PySem.W.Frag} {H H1 : Hp} {a : Addr} {xs : List V} (n : NoTab H H1) (h : SqL K H a xs) : SqL K H1 a xs :=
  h.elim (fun z => z.elim (fun e => .inl (.inl (n.lst e))) fun ⟨o, e⟩ => .inl (.inr ⟨o, n.keep _ _ e fun _ z => nomatch z⟩)) .inr
theorem NoTab.sqT {K : PySem.W.Frag} {H H1 : Hp} {a : Addr} {xs : List V} (n : NoTab H H1) (h : SqT K H a xs) : SqT K H1 a xs :=
  h.elim (fun z => z.elim (fun e => .inl (.inl (n.tup e))) fun ⟨o, e⟩ => .inl (.inr ⟨o, n.keep _ _ e fun _ z => nomatch z⟩)) .inr
/-- a list that was new may change -/
theorem NoTab.new {H H1 : Hp} {a : Addr} {o : HO} (n : NoTab H H1) (e : H a = none) : NoTab H (L2.upd H1 a o) :=
  ⟨fun b u hb nt => by rw [upd_ne (ne_of_none hb e)]; exact n.keep b u hb nt, fun b ps hb => let ⟨qs, e1⟩ := n.tab b ps hb; ⟨qs, by rw [upd_ne (ne_of_none hb e)]; exact e1⟩⟩
/-- the table at P: each code object that it tells is known, and its own table, which is none of Xs -/
def TabQ (Xs : List Addr) (H : Hp) (P : Addr) : Prop := ∃ ps : Array Value, H P = some (.tbl ps) ∧ TriplesOk ps.toList ∧ ∀ (pos : Pos) (cv : Value), codeAmong pos ps.toList = some cv → ∃ c' P', cv = .ref c' ∧ H c' = some (CodeG c' P') ∧ P' ∉ Xs ∧ GxR.TabG H P'
theorem TabQ.nil {Xs : List Addr} {H : Hp} {P : Addr} (h : H P = some (.tbl #[])) : TabQ Xs H P := ⟨#[], h, True.intro, fun pos cv hc => by
  have z : codeAmong pos [] = some cv := hc
  simp [codeAmong] at z⟩
/-- the tables of the defs that hold generator expressions, those of lambdas with their names -/
structure Mq where
  ms : List Addr
  ls : List (Addr × Str)
instance : Membership Addr Mq := ⟨fun M a => a ∈ M.ms⟩
theorem Mq.mem {M : Mq} {a : Addr} : a ∈ M ↔ a ∈ M.ms := Iff.rfl
/-- the tables at Ms, of the defs that hold generator expressions or lambdas; Xs: all tables of defs -/
structure TQ (Ms : Mq) (Xs : List Addr) (H : Hp) : Prop where
  all : ∀ x ∈ Xs, ∃ ps, H x = some (.tbl ps)
  gx : ∀ m ∈ Ms, TabQ Xs H m ∧ m ∈ Xs
  lam : ∀ l ∈ Ms.ls, l.1 ∈ Xs ∧ l.1 ∉ Ms.ms ∧ LamX.TabS H l.1 l.2
theorem tabS_keep {H H2 : Hp} {P : Addr} {q : Str} (t : LamX.TabS H P q) (k : ∀ ps, H P = some (.tbl ps) → H2 P = some (.tbl ps)) (ko : ∀ b c q, H b = some (LamX.CodeO c q) → H2 b = some (LamX.CodeO c q)) : LamX.TabS H2 P q := by
  obtain ⟨ps, a, b, c⟩ := t
  refine ⟨ps, k _ a, b, fun pos cv hc => ?_⟩
  obtain ⟨c', e1, e2⟩ := c pos cv hc
  exact ⟨c', e1, ko _ _ _ e2⟩
theorem codeO_ne {c : Addr} {q : Str} (ps : Array Value) : LamX.CodeO c q ≠ .tbl ps := fun z => by
  unfold LamX.CodeO at z
  cases z
theorem tabG_same {H H2 : Hp} {P : Addr} (h : GxR.TabG H P) (k : ∀ b o, H b = some o → H2 b = some o) : GxR.TabG H2 P := let ⟨ps, a, b⟩ := h; ⟨ps, k _ _ a, b⟩
theorem TQ.same {Ms : Mq} {Xs : List Addr} {H H2 : Hp} (h : TQ Ms Xs H) (k : ∀ b o, H b = some o → H2 b = some o) : TQ Ms Xs H2 := by
  refine ⟨fun x hx => let ⟨ps, e⟩ := h.all x hx; ⟨ps, k _ _ e⟩, fun m hm => ?_, fun l hl => let ⟨a, b, c⟩ := h.lam l hl; ⟨a, b, c.ext k⟩⟩
  obtain ⟨⟨ps, a, b, c⟩, hx⟩ := h.gx m hm
  refine ⟨⟨ps, k _ _ a, b, fun pos cv hc => ?_⟩, hx⟩
  obtain ⟨c', P', e1, e2, e3, e4⟩ := c pos cv hc
  exact ⟨c', P', e1, k _ _ e2, e3, tabG_same e4 k⟩
/-- all that is no table may change, where no code object does -/
theorem TQ.keep {Ms : Mq} {Xs : List Addr} {H H2 : Hp} (h : TQ Ms Xs H) (k : ∀ b ps, H b = some (.tbl ps) → H2 b = some (.tbl ps)) (kc : ∀ b c P, H b = some (CodeG c P) → H2 b = some (CodeG c P)) (ko : ∀ b c q, H b = some (LamX.CodeO c q) → H2 b = some (LamX.CodeO c q)) : TQ Ms Xs H2 := by
  refine ⟨fun x hx => let ⟨ps, e⟩ := h.all x hx; ⟨ps, k _ _ e⟩, fun m hm => ?_, fun l hl => let ⟨a, b, c⟩ := h.lam l hl; ⟨a, b, tabS_keep c (k _) ko⟩⟩
  obtain ⟨⟨ps, a, b, c⟩, hx⟩ := h.gx m hm
  refine ⟨⟨ps, k _ _ a, b, fun pos cv hc => ?_⟩, hx⟩
  obtain ⟨c', P', e1, e2, e3, q, f1, f2⟩ := c pos cv hc
  exact ⟨c', P', e1, kc _ _ _ e2, e3, q, k _ _ f1, f2⟩
theorem TQ.upd {Ms : Mq} {Xs : List Addr} {H : Hp} {l : Addr} {xs : List V} {o : HO} (h : TQ Ms Xs H) (e : H l = some (.lst xs)) : TQ Ms Xs (L2.upd H l o) :=
  h.keep (fun b ps hb => by rw [upd_ne (ne_of hb e (fun z => nomatch z))]; exact hb) (fun b c P hb => by rw [upd_ne (ne_of hb e (fun z => by unfold CodeG at z; cases z))]; exact hb) (fun b c q hb => by rw [upd_ne (ne_of hb e (fun z => by unfold LamX.CodeO at z; cases z))]; exact hb)
/-- all but the object at P stands -/
def But (P : Addr) (H H2 : Hp) : Prop := ∀ b o, b ≠ P → H b = some o → H2 b = some o
theorem But.noTab {P : Addr} {H H2 : Hp} (h : But P H H2) {q q2 : Array Value} (e : H P = some (.tbl q)) (e2 : H2 P = some (.tbl q2)) : NoTab H H2 :=
  ⟨fun b o hb n => h b o (fun z => n q (by rw [z, e] at hb; exact (Option.some.inj hb).symm)) hb, fun b ps hb => by
    by_cases z : b = P
    · exact ⟨q2, by rw [z]; exact e2⟩
    · exact ⟨ps, h b _ z hb⟩⟩
/-- a table that is none of a def's has grown -/
theorem TQ.but {Ms : Mq} {Xs : List Addr} {H H2 : Hp} {P : Addr} (h : TQ Ms Xs H) (n : P ∉ Xs) (t : GxR.TabG H P) (t2 : GxR.TabG H2 P) (k : But P H H2) : TQ Ms Xs H2 := by
  obtain ⟨q0, hq0, _⟩ := t
  refine ⟨fun x hx => let ⟨ps, e⟩ := h.all x hx; ⟨ps, k _ _ (fun z => n (z ▸ hx)) e⟩, fun m hm => ?_, fun l hl => let ⟨a, b, c⟩ := h.lam l hl; ⟨a, b, tabS_keep c (fun _ => k _ _ (fun z => n (z ▸ a))) fun b c q e => k _ _ (ne_of e hq0 (codeO_ne q0)) e⟩⟩
  obtain ⟨⟨ps, a, b, c⟩, hx⟩ := h.gx m hm
  refine ⟨⟨ps, k _ _ (fun z => n (z ▸ hx)) a, b, fun pos cv hc => ?_⟩, hx⟩
  obtain ⟨c', P', e1, e2, e3, e4⟩ := c pos cv hc
  refine ⟨c', P', e1, k _ _ (ne_of e2 hq0 (codeG_ne q0)) e2, e3, ?_⟩
  by_cases e : P' = P
  · rw [e]; exact t2
  · obtain ⟨q, h1, h2⟩ := e4
    exact ⟨q, k _ _ e h1, h2⟩
/-- a lambda's own table has grown -/
theorem TQ.lamS {Ms : Mq} {Xs : List Addr} {H H2 : Hp} {P : Addr} {q : Str} (h : TQ Ms Xs H) (hl : (P, q) ∈ Ms.ls) (hu : ∀ l ∈ Ms.ls, l.1 = P → l.2 = q) (t2 : LamX.TabS H2 P q) (k : But P H H2) : TQ Ms Xs H2 := by
  obtain ⟨hX, hM, q0, hq0, _⟩ := h.lam _ hl
  obtain ⟨q2, hq2, _⟩ := id t2
  refine ⟨fun x hx => ?_, fun m hm => ?_, fun l hl' => ?_⟩
  · by_cases e : x = P
    · exact ⟨q2, by rw [e]; exact hq2⟩
    · obtain ⟨ps, e0⟩ := h.all x hx
      exact ⟨ps, k _ _ e e0⟩
  · obtain ⟨⟨ps, a, b, c⟩, hx⟩ := h.gx m hm
    refine ⟨⟨ps, k _ _ (fun z => hM (z ▸ hm)) a, b, fun pos cv hc => ?_⟩, hx⟩
    obtain ⟨c', P', e1, e2, e3, q, h1, h2⟩ := c pos cv hc
    exact ⟨c', P', e1, k _ _ (ne_of e2 hq0 (codeG_ne q0)) e2, e3, q, k _ _ (fun z => e3 (z ▸ hX)) h1, h2⟩
  · obtain ⟨a, b, c⟩ := h.lam l hl'
    refine ⟨a, b, ?_⟩
    by_cases e : l.1 = P
    · rw [e, hu l hl' e]
      exact t2
    · exact tabS_keep c (fun _ => k _ _ e) fun b c q e => k _ _ (ne_of e hq0 (codeO_ne q0)) e
section
variable {X : Cx} {pins : List (Addr × Obj)} {σ : L2.St} {H : Hp} {s : Shared}
theorem codeHd_stay {c P : Addr} {h1 h2 : Heap} (x : PySem.W.CodeHd h1 c P) (k : ∀ o, h1.get? c = some o → h2.get? c = some o) : PySem.W.CodeHd h2 c P :=
  let ⟨o, vs, file, tf, flags, tg, inF, text, tt, e, r⟩ := x; ⟨o, vs, file, tf, flags, tg, inF, text, tt, k _ e, r⟩
/-- the table's object is written, the code object at c and its table at P2 are new -/
theorem inv_code {P c P2 : Addr} {ps more : Array Value} {h' : Heap} {t' : Nat} (I : Inv X pins σ H s) (hP : H P = some (.tbl ps)) (k : ∀ b o, b ≠ P → s.heap.get? b = some o → h'.get? b = some o)
    (hm : h'.get? P = some { cls := .none, data := .fields (ps ++ more) }) (hc : s.heap.objs.size ≤ c) (hp2 : s.heap.objs.size ≤ P2) (ncp : c ≠ P2) (ho : PySem.W.CodeHd h' c P2) (hq : h'.get? P2 = some { cls := .none, data := .fields #[] }) :
    Inv X pins σ (upd (upd (upd H P (.tbl (ps ++ more))) c (CodeG c P2)) P2 (.tbl #[])) { s with heap := h', toks := t' } := by
  have nC : H c = none := I.hok.fresh hc
  have nQ : H P2 = none := I.hok.fresh hp2
  have nPc : P ≠ c := ne_of_none hP nC
  have nPq : P ≠ P2 := ne_of_none hP nQ
  have at_ : ∀ b, b ≠ P → b ≠ c → b ≠ P2 → upd (upd (upd H P (.tbl (ps ++ more))) c (CodeG c P2)) P2 (.tbl #[]) b = H b := fun b h1 h2 h3 => by rw [upd_ne h3, upd_ne h2, upd_ne h1]
  have atP : upd (upd (upd H P (.tbl (ps ++ more))) c (CodeG c P2)) P2 (.tbl #[]) P = some (.tbl (ps ++ more)) := by rw [upd_ne nPq, upd_ne nPc, upd_same]
  have nP : ∀ b u, H b = some u → (∀ q, u ≠ .tbl q) → b ≠ P := fun b u e q z => by
    rw [z, hP] at e
    exact q ps (Option.some.inj e).symm
  have nN : ∀ b, H b = none → b ≠ P := fun b e z => by
    rw [z, hP] at e
    cases e
  have lt' : ∀ b o, s.heap.get? b = some o → b ≠ c ∧ b ≠ P2 := fun b o e => ⟨fun z => by
    rw [z] at e
    exact Nat.lt_irrefl _ (Nat.lt_of_lt_of_le (Heap.lt_size e) hc), fun z => by
    rw [z] at e
    exact Nat.lt_irrefl _ (Nat.lt_of_lt_of_le (Heap.lt_size e) hp2)⟩
  have sm : ∀ b u, H b = some u → b ≠ c ∧ b ≠ P2 := fun b u e => ⟨ne_of_none e nC, ne_of_none e nQ⟩
  refine I.step (g' := s.gens) (d' := s.drawn) (ch := []) (fun b hb => absurd hb (by simp)) (fun b o _ _ _ e n => k b o (nN b n) e) (fun b o _ _ _ e n => ⟨o.slots, k b o (nN b n) e⟩)
    (fun b o _ e n => by rw [at_ b (nN b n) (lt' b o e).1 (lt' b o e).2]; exact n) (fun b o _ e => ?_) (fun b xs e => by rw [at_ b (nP b _ e (fun q z => by cases z)) (sm b _ e).1 (sm b _ e).2]; exact e) (fun b o u e => by rw [at_ b (nP b _ e (fun q z => by cases z)) (sm b _ e).1 (sm b _ e).2]; exact e) (fun b qs e => ?_) (fun m hn => ?_) (fun b u e => ?_) I.bare
  · by_cases hb : b = P
    · rw [hb]
      exact ⟨_, hm⟩
    · exact ⟨o, k b o hb e⟩
  · by_cases hb : b = P
    · rw [hb, hP] at e
      cases e
      rw [hb, atP]
      exact ⟨more, rfl⟩
    · rw [at_ b hb (sm b _ e).1 (sm b _ e).2, e]
      exact ⟨#[], by simp⟩
  · obtain ⟨ob, es, ep, ho, r⟩ := hn
    exact ⟨ob, es, ep, k _ ob (nN _ I.free) ho, r⟩
  · by_cases hb2 : b = P2
    · rw [hb2, upd_same] at e
      cases e
      rw [hb2]
      exact hq
    · by_cases hb : b = c
      · rw [hb, upd_ne ncp, upd_same] at e
        cases e
        rw [hb]
        refine ⟨ho, ?_, fun h1 h2 a st => codeHd_stay a st⟩
        obtain ⟨o, _, _, _, _, _, _, _, _, e, _⟩ := ho
        exact ⟨o, e⟩
      · by_cases hbP : b = P
        · rw [hbP, atP] at e
          cases e
          rw [hbP]
          exact hm
        · rw [at_ b hbP hb hb2] at e
          refine (I.hok b u e).stay (fun d v hd q => k d v ?_ q) (fun d q => by rw [at_ d (nP d _ q (fun q z => by cases z)) (sm d _ q).1 (sm d _ q).2]; exact q) fun d xs q => by rw [at_ d (nP d _ q (fun q z => by cases z)) (sm d _ q).1 (sm d _ q).2]; exact q
          rcases hd with z | z
          · rw [z]
            exact hbP
          · exact nP d _ z (fun q z => by cases z)
end
/-- the making of a generator expression's code object, as it is read -/
abbrev TC := L2.St → Hp → (Value → Hp → Prop) → Prop
structure PC (X : Cx) (gpos : Pos) (scope : Scope) (tc : TC) : Prop where
  run : ∀ (pins : List (Addr × Obj)) (s : Shared) (σ : L2.St) (H : Hp) (Q : Value → Hp → Prop) (E : Value → Shared → Prop), Inv X pins σ H s → tc σ H Q →
    wpAny (model X.prog X.w) X.A (genexprCode X.env gpos (X.env.qual ++ "<genexpr>") scope) (fun code s' => ∃ H', Inv X pins σ H' s' ∧ s.heap.objs.size ≤ s'.heap.objs.size ∧ Q code H') E s
/-- of a def's own code object -/
def tCo (Ms : Mq) (Xs : List Addr) (P : Addr) : TC := fun _ H Q => TQ Ms Xs H ∧ P ∈ Ms ∧ ∀ (H2 : Hp) (c' P' : Addr), NoTab H H2 → TQ Ms Xs H2 → P' ∉ Xs → H2 c' = some (CodeG c' P') → GxR.TabG H2 P' → Q (.ref c') H2
theorem pc_own {X : Cx} {Ms : Mq} {Xs : List Addr} {c P : Addr} {gpos : Pos} {scope : Scope} (TB : GxR.TabB X.base X.mg c P) (hcode : X.env.code = .ref c) : PC X gpos scope (tCo Ms Xs P) := by
  refine ⟨fun pins s σ H Q E I h => ?_⟩
  obtain ⟨tq, hPm, q⟩ := h
  obtain ⟨⟨ps, hP, ok, kn⟩, hPx⟩ := tq.gx P hPm
  have hP' : s.heap.get? P = some { cls := .none, data := .fields ps } := I.hok P _ hP
  have C := TB.code.keeps I.bk
  cases found : codeAmong gpos ps.toList with
  | some old =>
    obtain ⟨c', P', rfl, e2, e3, e4⟩ := kn gpos _ found
    exact wpAny_genexprCode_hit hcode (C.code hP' ok) found ⟨H, I, Nat.le_refl _, q H c' P' (NoTab.refl _) tq e3 e2 e4⟩
  | none =>
    refine wpAny_genexprCodeX hcode (C.code hP' ok) (C.tab hP') found fun c' h' tk ext le lt isC _ tab ⟨P', le2, isC2, tab2⟩ => ?_
    obtain ⟨_, _, _, _, _, _, _, _, _, _, _, _, _, _, _, _, _, _, _, okT, _⟩ := isC
    have hd2 := PySem.W.CodeHd.of isC2 tab2
    have ncp : c' ≠ P' := by
      obtain ⟨_, _, _, _, _, _, _, _, _, _, _, _, _, _, _, _, _, _, hne⟩ := hd2
      exact hne
    have J := inv_code (t' := tk) I hP (fun b o hb e => ext b o hb e) tab.2 le le2 ncp hd2 tab2.2
    have nC : H c' = none := I.hok.fresh le
    have nQ : H P' = none := I.hok.fresh le2
    have nPc : P ≠ c' := ne_of_none hP nC
    have nPq : P ≠ P' := ne_of_none hP nQ
    have nX : P' ∉ Xs := fun z => by
      obtain ⟨ps0, e⟩ := tq.all P' z
      rw [nQ] at e
      cases e
    have eL : (ps ++ #[rawInt gpos.line, rawInt gpos.col, .ref c']).toList = ps.toList ++ [rawInt gpos.line, rawInt gpos.col, .ref c'] := by simp
    have kp : But P H (upd (upd (upd H P (.tbl (ps ++ #[rawInt gpos.line, rawInt gpos.col, .ref c']))) c' (CodeG c' P')) P' (.tbl #[])) := fun b o hb e => by
      rw [upd_ne (ne_of_none e nQ), upd_ne (ne_of_none e nC), upd_ne hb]
      exact e
    have eC : upd (upd (upd H P (.tbl (ps ++ #[rawInt gpos.line, rawInt gpos.col, .ref c']))) c' (CodeG c' P')) P' (.tbl #[]) c' = some (CodeG c' P') := by rw [upd_ne ncp, upd_same]
    have tG : GxR.TabG (upd (upd (upd H P (.tbl (ps ++ #[rawInt gpos.line, rawInt gpos.col, .ref c']))) c' (CodeG c' P')) P' (.tbl #[])) P' := ⟨#[], upd_same, True.intro⟩
    have eP : upd (upd (upd H P (.tbl (ps ++ #[rawInt gpos.line, rawInt gpos.col, .ref c']))) c' (CodeG c' P')) P' (.tbl #[]) P = some (.tbl (ps ++ #[rawInt gpos.line, rawInt gpos.col, .ref c'])) := by rw [upd_ne nPq, upd_ne nPc, upd_same]
    have sub : ∀ c0 P0, H c0 = some (CodeG c0 P0) → P0 ∉ Xs → GxR.TabG H P0 → GxR.TabG (upd (upd (upd H P (.tbl (ps ++ #[rawInt gpos.line, rawInt gpos.col, .ref c']))) c' (CodeG c' P')) P' (.tbl #[])) P0 := fun c0 P0 _ e3 ⟨q0, f1, f2⟩ => ⟨q0, kp _ _ (fun z => e3 (z ▸ hPx)) f1, f2⟩
    refine ⟨_, J, Nat.le_trans le (Nat.le_of_lt lt), q _ c' P' (kp.noTab hP eP) ⟨fun x hx => ?_, fun m hm => ?_, fun l hl => let ⟨a, b, c⟩ := tq.lam l hl; ⟨a, b, tabS_keep c (fun _ => kp _ _ (fun z => b (by rw [z]; exact hPm))) fun b c q e => kp _ _ (ne_of e hP (codeO_ne ps)) e⟩⟩ nX eC tG⟩
    · by_cases e : x = P
      · exact ⟨_, by rw [e]; exact eP⟩
      · obtain ⟨ps0, e0⟩ := tq.all x hx
        exact ⟨ps0, kp _ _ e e0⟩
    · by_cases e : m = P
      · subst e
        refine ⟨⟨_, eP, okT, fun pos cv hcv => ?_⟩, hPx⟩
        rw [eL] at hcv
        rcases LamX.among_app _ ok hcv with z | z
        · obtain ⟨c0, P0, e1, e2, e3, e4⟩ := kn pos cv z
          exact ⟨c0, P0, e1, kp _ _ (ne_of e2 hP (codeG_ne ps)) e2, e3, sub c0 P0 e2 e3 e4⟩
        · exact ⟨c', P', z, eC, nX, tG⟩
      · obtain ⟨⟨ps0, a, b, c⟩, hx⟩ := tq.gx m hm
        refine ⟨⟨ps0, kp _ _ e a, b, fun pos cv hc => ?_⟩, hx⟩
        obtain ⟨c0, P0, e1, e2, e3, e4⟩ := c pos cv hc
        exact ⟨c0, P0, e1, kp _ _ (ne_of e2 hP (codeG_ne ps)) e2, e3, sub c0 P0 e2 e3 e4⟩
/-- of the code object of the generator expression around -/
def tCj (Ms : Mq) (Xs : List Addr) (code : Value) : TC := fun _ H Q => ∃ c P, code = .ref c ∧ H c = some (CodeG c P) ∧ P ∉ Xs ∧ GxR.TabG H P ∧ TQ Ms Xs H ∧ ∀ (H2 : Hp) (code' : Value), NoTab H H2 → TQ Ms Xs H2 → GxR.TabG H2 P → Q code' H2
theorem pc_in {X : Cx} {Ms : Mq} {Xs : List Addr} {code : Value} {gpos : Pos} {scope : Scope} (hcode : X.env.code = code) : PC X gpos scope (tCj Ms Xs code) := by
  refine ⟨fun pins s σ H Q E I h => ?_⟩
  obtain ⟨c, P, ec, hC, nX, ⟨ps, hP, ok⟩, tq, q⟩ := h
  rw [ec] at hcode
  have hP' : s.heap.get? P = some { cls := .none, data := .fields ps } := I.hok P _ hP
  have C : PySem.W.CodeHd s.heap c P := (I.hok c _ hC).1
  cases found : codeAmong gpos ps.toList with
  | some old => exact wpAny_genexprCode_hit hcode (C.code hP' ok) found ⟨H, I, Nat.le_refl _, q H _ (NoTab.refl _) tq ⟨ps, hP, ok⟩⟩
  | none =>
    refine wpAny_genexprCodeX hcode (C.code hP' ok) (C.tab hP') found fun c' h' tk ext le lt isC _ tab _ => ?_
    obtain ⟨_, _, _, _, _, _, _, _, _, _, _, _, _, _, _, _, _, _, _, okT, _⟩ := isC
    have J := GxR.inv_tab (more := #[rawInt gpos.line, rawInt gpos.col, .ref c']) (g' := s.gens) (d' := s.drawn) (t' := tk) I hP (fun b o hb e => ext b o hb e) tab.2 I.bare
    have kp : But P H (upd H P (.tbl (ps ++ #[rawInt gpos.line, rawInt gpos.col, .ref c']))) := fun b o hb e => by rw [upd_ne hb]; exact e
    have t2 : GxR.TabG (upd H P (.tbl (ps ++ #[rawInt gpos.line, rawInt gpos.col, .ref c']))) P := ⟨_, upd_same, okT⟩
    exact ⟨_, J, Nat.le_trans le (Nat.le_of_lt lt), q _ _ (kp.noTab hP upd_same) (tq.but nX ⟨ps, hP, ok⟩ t2 kp) t2⟩
end GX

namespace GX
open PySem PySem.Spec PyProof.Rows L2 GenW
/-- the context of a generator expression's frame, which runs in the around B -/
abbrev gcx (X : Cx) (B : Around) (s : Shared) (H : Hp) (scope : Scope) (genv : Env) (fp : List Addr) : Cx :=
  { X with A := B, s_0 := s, H_0 := H, env := genv, outer := X.stack, stack := genv :: X.stack, ex := fp, fn := fun x => scope.names.lookup x == some .cell, calm := true, pn := [], xe := fun _ _ => False }
/-- the names of a generator expression: its own (with their places in N), or captured -/
structure GOk (N : List Str) (sc scope : Scope) (own : List (Str × Nat)) : Prop where
  blk : BlkOk N sc scope own
  dot : scope.names.lookup (".0" : Str) = some .local
  co : scope.isCoroutine = false
def gokB (N : List Str) (sc scope : Scope) (own : List (Str × Nat)) : Bool := blkC N sc scope own && decide (scope.names.lookup (".0" : Str) = some .local) && !scope.isCoroutine
theorem gok_by {N : List Str} {sc scope : Scope} {own : List (Str × Nat)} (h : gokB N sc scope own = true) : GOk N sc scope own := by
  unfold gokB at h
  simp only [Bool.and_eq_true, Bool.not_eq_true', decide_eq_true_eq] at h
  exact ⟨blkOk_by h.1.1, h.1.2, h.2⟩
abbrev frameH (h : Heap) (names : List (Str × NameKind)) : Heap := pushCells (h.push { cls := .type "frame", data := .dict #[] }) names
theorem newGenEnv {M : Model} {A : Around} {E : Value → Shared → Prop} {s : Shared} {scope : Scope} {globals : Addr} {cl : List (Str × Addr)} {qual : Str} {code it : Value} {bi : Addr} {Q : Env → Shared → Prop} (hk : scope.kind = .function) (h0 : scope.names.lookup (".0" : Str) = some .local)
    (h : ∀ h', h'.Ns s.heap.objs.size (fun y => if y = (".0" : Str) then some it else none) → Heap.SameBut s.heap.objs.size (frameH s.heap scope.names) h' →
      Q { scope, locals := s.heap.objs.size, globals, cells := cellsFrom (s.heap.objs.size + 1) scope.names cl, qual, func := none, code, frame := some s.heap.objs.size, builtins := bi } { s with heap := h', toks := s.toks + 1 }) :
    wpAny M A (newFunctionEnv scope globals cl [(".0", it)] qual none code none bi) Q E s := by
  simp only [newFunctionEnv, Option.isSome_none, Bool.false_eq_true, if_false]
  refine wpAny_bind (wpAny_alloc ?_)
  refine wpAny_bind (wpAny_layCells _ (fun name kind cells => by cases hkc : kind == NameKind.cell <;> simp [hkc]) _ _ _ _ ?_)
  rw [show ({ s with heap := s.heap.push { cls := .type "frame", data := .dict #[] } } : Shared).heap.objs.size = s.heap.objs.size + 1 from Heap.size_push ..]
  rw [List.forIn_cons]
  refine wpAny_bind (wpAny_bind (wpAny_bind (wpAny_storeName_local (m := fun _ => none) h0 ((Heap.Ns.new s.heap (.type "frame")).keeps (pushCells_keeps _ _)) (fun h' hn' hs' => ?_) (by
    show (scope.kind == .class || (scope.kind == .module && _)) = false
    rw [hk]; rfl))))
  refine wpAny_pure ?_
  dsimp only
  rw [List.forIn_nil]
  exact wpAny_pure (wpAny_pure (h h' hn' hs'))
abbrev gEnv (X : Cx) (scope : Scope) (s : Shared) (code : Value) : Env := genEnv scope (cellsFrom (s.heap.objs.size + 1) scope.names (cloFrom X.env.cells scope.names [])) s.heap.objs.size code builtinsNs X.env
section
variable {X : Cx} {pins : List (Addr × Obj)} {σ : L2.St} {H : Hp} {s : Shared}
/-- what the around of the frame is to be -/
structure BOk (X : Cx) (B : Around) (genv : Env) : Prop where
  hd : B.handled = none
  fr : B.frames = some (genv :: X.stack)
theorem gx_start {B : Around} {scope : Scope} {own : List (Str × Nat)} {fp : List Addr} {code it : Value} {h' : Heap} {t' : Nat} (I : Inv X pins σ H s) (ok : GOk X.N X.env.scope scope own) (hN : X.N.Nodup) (hfp : ∀ b ∈ fp, FpOk X pins H b ∧ b < s.heap.objs.size)
    (hB : BOk X B (gEnv X scope s code)) (hn' : h'.Ns s.heap.objs.size (fun y => if y = (".0" : Str) then some it else none)) (hs' : Heap.SameBut s.heap.objs.size (frameH s.heap scope.names) h') :
    Inv (gcx X B s H scope (gEnv X scope s code) fp) [] (wipe σ (own.map (·.2))) H { s with heap := h', toks := t' } := by
  obtain ⟨ok, hdot, hco⟩ := ok
  have hfree : ∀ y ∈ scope.names, y.2 = .free → ∃ c, X.env.cells.lookup y.1 = some c := fun y hy e => by
    rcases ok.free y hy e with k | k
    · exact I.ok.has _ (.inl k)
    · exact I.ok.has _ (.inr k)
  generalize hcenv : gEnv X scope s code = cenv at hB ⊢
  have kp0 : ∀ b o, s.heap.get? b = some o → (frameH s.heap scope.names).get? b = some o := fun b o e => pushCells_keeps _ _ _ _ (Heap.get?_push_of_some _ e)
  have kp : ∀ b o, s.heap.get? b = some o → h'.get? b = some o := fun b o e => hs'.extBut b o (Nat.ne_of_lt (Heap.lt_size e)) (kp0 b o e)
  have hL : cenv.locals = s.heap.objs.size := by rw [← hcenv]; rfl
  have hcl : cenv.cells = cellsFrom (s.heap.objs.size + 1) scope.names (cloFrom X.env.cells scope.names []) := by rw [← hcenv]; rfl
  have hsc : cenv.scope = scope := by rw [← hcenv]; rfl
  rw [← Heap.size_push s.heap { cls := .type "frame", data := .dict #[] }] at hcl
  have cm : ∀ {y c}, (y, c) ∈ cloFrom X.env.cells scope.names [] → X.env.cells.lookup y = some c ∧ c < s.heap.objs.size := fun {y c} hm => by
    rcases cloFrom_mem hm with hm | ⟨h1, rfl⟩
    · cases hm
    · obtain ⟨c, hc⟩ := hfree _ h1 rfl
      rw [hc]
      obtain ⟨w, z⟩ := I.cell _ _ hc
      exact ⟨rfl, z.lt⟩
  have mem : ∀ {y c}, cenv.cells.lookup y = some c → (X.env.cells.lookup y = some c ∧ c < s.heap.objs.size) ∨ (s.heap.objs.size + 1 ≤ c ∧ CellAt h' c none) := fun {y c} e => by
    rw [hcl] at e
    rcases cells_mem (PySem.mem_of_lookup e) with hm | ⟨_, h2, h3⟩
    · exact .inl (cm hm)
    · rw [Heap.size_push] at h2
      exact .inr ⟨h2, h3.sameBut hs' (Nat.ne_of_gt h2)⟩
  have look : ∀ {y}, scope.names.lookup y = some .free → ∃ c, cenv.cells.lookup y = some c ∧ X.env.cells.lookup y = some c := fun {y} hl => by
    have hy : (y, NameKind.free) ∈ scope.names := PySem.mem_of_lookup hl
    obtain ⟨c', e'⟩ := mem_lookup (cells_acc (names := scope.names) (n := (s.heap.push { cls := .type "frame", data := .dict #[] }).objs.size) (cloFrom_has (cells := X.env.cells) (acc := []) hy))
    rw [← hcl] at e'
    refine ⟨c', e', ?_⟩
    rw [hcl] at e'
    rcases cells_mem (PySem.mem_of_lookup e') with hm | ⟨h1, _, _⟩
    · exact (cm hm).1
    · have := ok.uniq _ h1
      rw [hl] at this; cases this
  have okB : (gcx X B s H scope cenv fp).Ok := by
    refine ⟨I.ok.mod, by show cenv.scope.kind = _; rw [hsc]; exact ok.kind, by show cenv.globals = _; rw [← hcenv]; exact I.ok.glob, by show cenv.builtins = _; rw [← hcenv]; rfl, by show s.heap.objs.size ≤ cenv.locals; rw [hL]; exact Nat.le_refl _,
      fun y z c e1 e2 => ?_, fun y hy => ?_, fun y c z e => ?_, fun _ => hB.hd, hB.fr, .inr ⟨rfl, by show cenv.frame = _; rw [← hcenv]; rfl⟩, fun b hb => ⟨?_, fun y c e z => ?_⟩, I.bs, Nat.le_trans I.ok.bsz I.sz, fun b o e hb => ?_, fun b hb z => ?_, I.stack, I.stkFree⟩
    · have e1 : cenv.cells.lookup y = some c := e1
      have e2 : cenv.cells.lookup z = some c := e2
      rw [hcl] at e1 e2
      refine cells_inj (fun p hp => ?_) (fun y z c a b => I.ok.inj y z c (cm a).1 (cm b).1) (PySem.mem_of_lookup e1) (PySem.mem_of_lookup e2)
      rw [Heap.size_push]
      exact Nat.lt_succ_of_lt (cm (y := p.1) (c := p.2) hp).2
    · show ∃ c, cenv.cells.lookup y = some c
      have key : ∀ k, cenv.kindOf y = some k → (k = .cell ∨ k = .free) → ∃ c, cenv.cells.lookup y = some c := fun k hk hk' => by
        have hk : scope.names.lookup y = some k := by
          unfold Env.kindOf at hk
          rw [hsc] at hk
          exact hk
        rcases hk' with rfl | rfl
        · obtain ⟨c, hm⟩ := cells_has (n := (s.heap.push { cls := .type "frame", data := .dict #[] }).objs.size) (acc := cloFrom X.env.cells scope.names []) (PySem.mem_of_lookup hk)
          obtain ⟨c', e'⟩ := mem_lookup hm
          exact ⟨c', by rw [hcl]; exact e'⟩
        · obtain ⟨c, h1, _⟩ := look hk
          exact ⟨c, h1⟩
      rcases hy with hy | hy
      · exact key _ hy (.inl rfl)
      · exact key _ hy (.inr rfl)
    · have z : (scope.names.lookup y == some NameKind.cell) = true := z
      have z : scope.names.lookup y = some .cell := by simpa using z
      have e : cenv.cells.lookup y = some c := e
      rw [hcl] at e
      rcases cells_mem (PySem.mem_of_lookup e) with hm | ⟨_, h2, _⟩
      · rcases cloFrom_mem hm with hm | ⟨h1, _⟩
        · cases hm
        · have q := ok.uniq _ h1
          rw [z] at q; cases q
      · rw [Heap.size_push] at h2
        exact Nat.le_of_succ_le h2
    · show b ≠ cenv.locals
      rw [hL]; exact Nat.ne_of_lt (hfp b hb).2
    · have e : cenv.cells.lookup y = some c := e
      rcases mem e with ⟨h1, _⟩ | ⟨h1, _⟩
      · exact (hfp b hb).1.2.2.2.2.1 y c h1 z
      · have h2 : s.heap.objs.size + 1 ≤ b := by rw [← z]; exact h1
        exact absurd (Nat.lt_of_lt_of_le (hfp b hb).2 (Nat.le_of_succ_le h2)) (Nat.lt_irrefl _)
    · rcases (hfp b hb).1.2.2.2.1 with z | z
      · exact I.ok.noex b o e z
      · exact absurd (Nat.lt_of_lt_of_le (Heap.lt_size e) (Nat.le_trans I.ok.bsz z)) (Nat.lt_irrefl _)
    · rcases List.mem_cons.mp (I.stkSub b z) with z | z
      · exact (hfp b hb).1.2.1 z
      · exact (hfp b hb).1.2.2.1 z
  refine ⟨okB, rfl, I.bare, Un.kept kp, ⟨fun y => if y = (".0" : Str) then some it else none, ?_, fun i y av e1 e2 e3 => ?_⟩, fun y c e => ?_, ?_, fun y c e => ?_, fun p hp => ?_, I.hok.kept kp, by rw [wipe_length]; exact I.len⟩
  · show Heap.Ns _ cenv.locals _
    rw [hL]
    exact hn'
  · obtain ⟨e2, hne⟩ := wipe_some e2
    have hfr : scope.names.lookup y = some .free := by
      have e3 : Vis cenv.scope y := e3
      rw [hsc] at e3
      have no : ∀ k, scope.names.lookup y = some k → ¬ (k = .local ∨ k = .cell) := fun k e hh => by
        rcases ok.own _ (PySem.mem_of_lookup e) hh with e' | e'
        · obtain ⟨p, hp, hpy⟩ := List.mem_map.mp e'
          have e3 := ok.ix p hp
          have : p.1 = y := hpy
          rw [this] at e3
          exact hne (List.mem_map.mpr ⟨p, hp, nodup_ix hN e3 e1⟩)
        · exact e' (List.mem_of_getElem? e1)
      rcases e3 with e3 | e3 | e3
      · exact absurd (.inl rfl) (no _ e3)
      · exact absurd (.inr rfl) (no _ e3)
      · exact e3
    have hkf : cenv.kindOf y = some .free := by
      unfold Env.kindOf
      rw [hsc]
      exact hfr
    obtain ⟨m, hn, hl⟩ := I.loc
    have hvis : Vis X.env.scope y := (ok.free _ (PySem.mem_of_lookup hfr) rfl).elim (fun k => .inr (.inl k)) (fun k => .inr (.inr k))
    obtain ⟨w, r, q⟩ := hl i y av e1 e2 hvis
    refine ⟨w, r, .inr ⟨.inr hkf, ?_⟩⟩
    obtain ⟨c, h1, h2⟩ := look hfr
    rcases q with ⟨k, _⟩ | ⟨_, c', e', z⟩
    · have k : X.env.scope.names.lookup y = some .local := k
      rcases ok.free _ (PySem.mem_of_lookup hfr) rfl with k' | k' <;> rw [show X.env.scope.names.lookup y = _ from k'] at k <;> cases k
    · rw [h2] at e'; cases e'
      exact ⟨c, h1, z.keeps kp⟩
  · have e : cenv.cells.lookup y = some c := e
    rcases mem e with ⟨h1, _⟩ | ⟨_, z⟩
    · obtain ⟨w, z⟩ := I.cell y c h1
      exact ⟨w, z.keeps kp⟩
    · exact ⟨_, z⟩
  · show H cenv.locals = none
    rw [hL]; exact I.hok.fresh (Nat.le_refl _)
  · have e : cenv.cells.lookup y = some c := e
    rcases mem e with ⟨h1, _⟩ | ⟨h1, _⟩
    · exact I.freeC y c h1
    · exact I.hok.fresh (Nat.le_of_succ_le h1)
  · exact absurd (show p ∈ ([] : List (Addr × Obj)) ++ [] from hp) (by simp)
/-- the table of generators and the heap have grown -/
theorem inv_gens {g' : Array GenState} {t' : Nat} {d' : Drawn} {h' : Heap} (I : Inv X pins σ H s) (k : ∀ b o, s.heap.get? b = some o → h'.get? b = some o) (hg : AllBare g') : Inv X pins σ H { s with heap := h', gens := g', drawn := d', toks := t' } :=
  I.step (ch := []) (fun b hb => absurd hb (by simp)) (fun b o _ _ _ e _ => k b o e) (fun b o _ _ _ e _ => ⟨o.slots, k b o e⟩) (fun _ _ _ _ n => n) (fun b o _ e => ⟨o, k b o e⟩) (fun _ _ e => e) (fun _ _ _ e => e) (fun b ps e => ⟨#[], by rw [e]; simp⟩)
    (fun m hn => hn.keeps k) (I.hok.kept k) hg
theorem over_gen {A : Around} {elt tg iter : Expr} {ifs : List Expr} {scope : Scope} {pos : Pos} {it acc : Value} {env : Env} : A.over (.compLoop (.GeneratorExp elt [⟨tg, iter, ifs, 0⟩] scope pos) 0 it acc env) [] = A.deeper env := by
  first
    | rfl
    | (obtain ⟨hd, d, fr, gs, u⟩ := A; simp [Around.over, Around.deeper, marksOver, frameCount, unitsOf, envsOf, guardsOf, pushEnvs, pushGuards, Code.envs, Code.env?, Code.isFrame, Code.guards, Code.isGuard, Code.weight, Code.frames, Code.isCreation, Code.isCaller, Code.cUnits])
theorem over_gen0 {A : Around} {elt tg iter : Expr} {ifs : List Expr} {scope : Scope} {pos : Pos} {it acc : Value} {env : Env} : A.over (.compStart (.GeneratorExp elt [⟨tg, iter, ifs, 0⟩] scope pos) 0 it acc env) [] = A.deeper env := by
  first
    | rfl
    | (obtain ⟨hd, d, fr, gs, u⟩ := A; simp [Around.over, Around.deeper, marksOver, frameCount, unitsOf, envsOf, guardsOf, pushEnvs, pushGuards, Code.envs, Code.env?, Code.isFrame, Code.guards, Code.isGuard, Code.weight, Code.frames, Code.isCreation, Code.isCaller, Code.cUnits])
end
end GX

namespace GX
open PySem PySem.Spec PyProof.Rows L2 GenW
/-- what a consumer of the items does with one: N is what is wanted where it goes on -/
abbrev Stps (α : Type) := α → V → Hp → (α → Hp → Prop) → Prop
/-- while the generator sleeps: the objects at Ss may be others, all else is kept -/
structure Slp (Ss : List Addr) (s s' : Shared) : Prop where
  os : s'.os = s.os
  bare : AllBare s'.gens
  keep : ∀ b o, b ∉ Ss → s.heap.get? b = some o → s'.heap.get? b = some o
  own : ∀ b ∈ Ss, ∃ o, s'.heap.get? b = some o ∧ ∀ v, o.data ≠ .cell v
/-- the consumer's objects are none of the generator's -/
structure SsOk (Xg : Cx) (gp : Addr × Obj) (fp Ss : List Addr) : Prop where
  all : ∀ b ∈ Ss, Xg.s_0.heap.objs.size ≤ b ∧ b ≠ Xg.env.locals ∧ (∀ x c, Xg.env.cells.lookup x = some c → c ≠ b) ∧ b ∉ fp ∧ b ≠ gp.1
  pn : Xg.pn = []
/-- the generator's state at turn i -/
def GSt (Xg : Cx) (gp : Addr × Obj) (fp : List Addr) (tn : Nat → Heap → Prop) (Ss : List Addr) (σ0 : L2.St) (i : Nat) (H : Hp) (s : Shared) : Prop :=
  ∃ cp : List (Addr × Obj), cp.map (·.1) = Ss ∧ Inv Xg (gp :: cp) σ0 H s ∧ tn i s.heap ∧ ∀ b ∈ fp, H b = none
section
variable {Xg : Cx} {gp : Addr × Obj} {fp : List Addr} {tn : Nat → Heap → Prop} {Ss : List Addr} {σ0 : L2.St} {i : Nat} {H : Hp} {s s' : Shared}
theorem pins_exist : ∀ (Ss : List Addr) (h : Heap), (∀ b ∈ Ss, ∃ o, h.get? b = some o ∧ ∀ v, o.data ≠ .cell v) → ∃ cp : List (Addr × Obj), cp.map (·.1) = Ss ∧ ∀ p ∈ cp, h.get? p.1 = some p.2 ∧ ∀ v, p.2.data ≠ .cell v
  | [], _, _ => ⟨[], rfl, fun _ h => nomatch h⟩
  | b :: r, h, k => by
    obtain ⟨o, e, d⟩ := k b (List.mem_cons_self ..)
    obtain ⟨cp, e1, e2⟩ := pins_exist r h fun x hx => k x (List.mem_cons_of_mem _ hx)
    refine ⟨(b, o) :: cp, by rw [List.map_cons, e1], fun p hp => ?_⟩
    rcases List.mem_cons.mp hp with z | z
    · rw [z]; exact ⟨e, d⟩
    · exact e2 p z
theorem GSt.woken {P : Program} {w : World} {K : PySem.W.Frag} {tg : Expr} {J : It} {it : Addr} (T : Turn P w K tg J fp it tn) (hS : SsOk Xg gp fp Ss) (h : GSt Xg gp fp tn Ss σ0 i H s) (z : Slp Ss s s') : GSt Xg gp fp tn Ss σ0 i H s' := by
  obtain ⟨cp, ecp, I, st, nf⟩ := h
  have free : ∀ b ∈ Ss, H b = none ∧ b ∉ Xg.fs := fun b hb => by
    rw [← ecp] at hb
    obtain ⟨p, hp, rfl⟩ := List.mem_map.mp hb
    obtain ⟨_, h2, _, h4, _⟩ := I.pin p (List.mem_append_right _ (List.mem_cons_of_mem _ hp))
    exact ⟨h2, h4⟩
  obtain ⟨z1, z2, z3, z4⟩ := z
  obtain ⟨hh, g, d, t, o⟩ := s'
  have ho : o = s.os := z1
  subst ho
  have I0 : Inv Xg [gp] σ0 H s := I.pins_of fun p hp => I.pin p (List.mem_append_right _ (by rw [List.mem_singleton.mp hp]; exact List.mem_cons_self ..))
  have nt : ∀ b u, H b = some u → b ∉ Ss := fun b u q hb => by rw [(free b hb).1] at q; cases q
  have J : Inv Xg [gp] σ0 H { s with heap := hh, gens := g, drawn := d, toks := t } := by
    refine I0.step (g' := g) (t' := t) (d' := d) (ch := Ss) (fun b hb => ?_) (fun b ob _ _ hc q _ => z3 b ob hc q) (fun b ob _ _ hc q _ => ⟨ob.slots, z3 b ob hc q⟩) (fun _ _ _ _ n => n) (fun b ob hc q => ⟨ob, z3 b ob hc q⟩)
      (fun _ _ q => q) (fun _ _ _ q => q) (fun b ps q => ⟨#[], by rw [q]; simp⟩) (fun m hm => ?_) (fun b u q => ?_) z2
    · obtain ⟨a1, a2, a3, a4, a5⟩ := hS.all b hb
      refine ⟨.inr a1, a2, a3, fun p hp => ?_⟩
      rw [hS.pn] at hp
      rw [List.mem_singleton.mp hp]
      exact Ne.symm a5
    · obtain ⟨ob, es, ep, ho, r⟩ := hm
      exact ⟨ob, es, ep, z3 _ ob (fun q => (hS.all _ q).2.1 rfl) ho, r⟩
    · refine (I0.hok b u q).stay (fun c v hc y => z3 c v ?_ y) (fun _ y => y) fun _ _ y => y
      rcases hc with y | y
      · rw [y]; exact nt b u q
      · exact nt c _ y
  obtain ⟨cp2, e2, k2⟩ := pins_exist Ss hh z4
  refine ⟨cp2, e2, J.pins_of fun p hp => ?_, T.keep _ _ _ st fun b hb ob e => z3 b ob (fun q => (hS.all b q).2.2.2.1 hb) e, nf⟩
  rcases List.mem_cons.mp hp with hp | hp
  · rw [hp]
    exact J.pin gp (List.mem_append_right _ (List.mem_cons_self ..))
  · have hm : p.1 ∈ Ss := by rw [← e2]; exact List.mem_map_of_mem hp
    exact ⟨(k2 p hp).1, (free _ hm).1, (hS.all _ hm).2.1, (free _ hm).2, (k2 p hp).2⟩
end
section
variable {α : Type} (CRel : α → Heap → Prop) (Stp : Stps α) (Fin : α → Hp → Prop) (Xg : Cx) (gp : Addr × Obj) (fp : List Addr) (tn : Nat → Heap → Prop) (Ss : List Addr) (σ0 : L2.St)
def YG : Protocol := fun _ s₀ v s kap => ∃ (i : Nat) (x : V) (acc : α) (H : Hp) (Nx : α → Hp → Prop), RelV x v ∧ GSt Xg gp fp tn Ss σ0 i H s ∧ CRel acc s₀.heap ∧ (∀ b ∈ Ss, s.heap.get? b = s₀.heap.get? b) ∧ Stp acc x H Nx ∧
  ∀ s' acc', Slp Ss s s' → CRel acc' s'.heap → Nx acc' H → kap (.send .none) s'
def RGp : Shared → Shared → Prop := fun s₀ s => ∃ (acc : α) (H : Hp) (cp : List (Addr × Obj)), cp.map (·.1) = Ss ∧ Inv Xg (gp :: cp) σ0 H s ∧ CRel acc s₀.heap ∧ (∀ b ∈ Ss, s.heap.get? b = s₀.heap.get? b) ∧ Fin acc H
def RG : GenEnd := fun _ s₀ r s => r = .ok .next ∧ RGp CRel Fin Xg gp Ss σ0 s₀ s
/-- the reading of the turns -/
def TurnsR (J : It) (g : TG) (tt : TT) (te : TE) (vs : List Nat) (σ : L2.St) (W : Nat → Nat → α → Hp → Prop) : Prop := ∀ i m a H, W i m a H →
  (J.stop i H ∧ Fin a H) ∨ (J.go i H ∧ ∃ Nx : α → Hp → Prop, (∀ a' H', Nx a' H' → ∃ m', m' < m ∧ W (i + 1) m' a' H') ∧ ∀ x H', J.yld i H x H' → g x (wipe σ vs) H' fun σ2 H2 => wipe σ2 vs = wipe σ vs ∧ tt σ2 H2 fun b H3 =>
    if b = true then te σ2 H3 fun y H4 => Stp a y H4 Nx else Nx a H3)
end
section
variable {α : Type} {CRel : α → Heap → Prop} {Stp : Stps α} {Fin : α → Hp → Prop} {Xg : Cx} {gp : Addr × Obj} {fp : List Addr} {tn : Nat → Heap → Prop} {Ss : List Addr} {σ : L2.St}
theorem gx_loop {B : Around} {tg elt iter : Expr} {ifs : List Expr} {scope : Scope} {gpos : Pos} {it : Addr} {J : It} {g : TG} {tt : TT} {te : TE} {vs : List Nat} {W : Nat → Nat → α → Hp → Prop} (hov : B.deeper Xg.env = Xg.A) (hc : Xg.calm = true) (hco : Xg.env.scope.isCoroutine = false) (hxe : Xg.xe = fun _ _ => False)
    (T : Turn Xg.prog Xg.w Xg.K tg J fp it tn) (hfp : ∀ b ∈ fp, ∀ H', H' b = none → FpOk Xg [] H' b) (hS : SsOk Xg gp fp Ss) (hgf : gp.1 ∉ fp) (hg : PG Xg tg g) (ht : PTs Xg ifs tt) (he : PE Xg elt te) (turn : TurnsR Stp Fin J g tt te vs σ W) :
    ∀ (m n i : Nat) (acc : α) (H : Hp) (s₀ s : Shared), m < n → W i m acc H → CRel acc s₀.heap → (∀ b ∈ Ss, s.heap.get? b = s₀.heap.get? b) → GSt Xg gp fp tn Ss (wipe σ vs) i H s →
      Seg (model Xg.prog Xg.w) B (RG CRel Fin Xg gp Ss (wipe σ vs)) (YG CRel Stp Xg gp fp tn Ss (wipe σ vs)) n s₀ (.compLoop (.GeneratorExp elt [⟨tg, iter, ifs, 0⟩] scope gpos) 0 (.ref it) .none Xg.env)
        ((model Xg.prog Xg.w).den (.compLoop (.GeneratorExp elt [⟨tg, iter, ifs, 0⟩] scope gpos) 0 (.ref it) .none Xg.env)) [] s := by
  have hover : B.over (.compLoop (.GeneratorExp elt [⟨tg, iter, ifs, 0⟩] scope gpos) 0 (.ref it) .none Xg.env) [] = Xg.A := over_gen.trans hov
  intro m
  induction m using Nat.strongRecOn with
  | ind m ih =>
    intro n i acc H s₀ s hmn w crel ksS hst
    obtain ⟨cp, ecp, I, st, nf⟩ := hst
    have fpOk : ∀ {pins : List (Addr × Obj)} {σ' : L2.St} {H' : Hp} {s' : Shared}, pins.map (·.1) = gp.1 :: Ss → Inv Xg pins σ' H' s' → (∀ b ∈ fp, H' b = none) → ∀ b ∈ fp, FpOk Xg pins H' b := fun {pins σ' H' s'} ep I' hn b hb => by
      obtain ⟨a0, a1, a2, a3, a4, _⟩ := hfp b hb H' (hn b hb)
      refine ⟨a0, a1, a2, a3, a4, fun p hp z => ?_⟩
      rw [hS.pn, List.nil_append] at hp
      have hm : p.1 ∈ gp.1 :: Ss := by rw [← ep]; exact List.mem_map_of_mem hp
      rcases List.mem_cons.mp hm with q | q
      · rw [z] at q; exact hgf (q ▸ hb)
      · rw [z] at q; exact (hS.all b q).2.2.2.1 hb
    have epin : (gp :: cp).map (·.1) = gp.1 :: Ss := by rw [List.map_cons, ecp]
    have ownSs : ∀ {extra : List (Addr × Obj)} {σ' : L2.St} {H' : Hp} {s' : Shared}, Inv Xg ((gp :: cp) ++ extra) σ' H' s' → ∀ b ∈ Ss, s'.heap.get? b = s₀.heap.get? b := fun {extra σ' H' s'} I' b hb => by
      rw [← ksS b hb]
      rw [← ecp] at hb
      obtain ⟨p, hp, rfl⟩ := List.mem_map.mp hb
      rw [(I'.pin p (List.mem_append_right _ (List.mem_append_left _ (List.mem_cons_of_mem _ hp)))).1, (I.pin p (List.mem_append_right _ (List.mem_cons_of_mem _ hp))).1]
    have I := I
    show Seg _ B _ _ _ s₀ _ ((compTurn (.GeneratorExp elt [⟨tg, iter, ifs, 0⟩] scope gpos) 0 (.ref it) .none Xg.env).onRaise (leaving Xg.env)) [] s
    rw [compTurn_gen, Sem.onRaise_eq_wrap]
    refine seg_bind_wrap (wpAny_standAt ?_)
    rcases turn i m acc H w with ⟨stop, qf⟩ | ⟨go, Nx, hNx, step⟩
    · refine seg_bind_wrap ?_
      rw [hover]
      refine wpAny_mono (T.done Xg rfl rfl rfl hc i (gp :: cp) s (wipe σ vs) H (fun _ _ => False) I (fpOk epin I nf) st stop) (fun r s1 ⟨hr, I1⟩ => ?_) fun _ _ z => z.elim
      subst hr
      exact seg_end (.ok .next) ⟨rfl, acc, H, cp, ecp, I1, crel, ownSs (extra := []) (by rw [List.append_nil]; exact I1), qf⟩
    · refine seg_bind_wrap ?_
      rw [hover]
      refine wpAny_mono (T.item Xg rfl rfl rfl hc i (gp :: cp) s (wipe σ vs) H (fun _ _ => False) I (fpOk epin I nf) st go) (fun r s1 ⟨u, hr, h1⟩ => ?_) fun _ _ z => z.elim
      subst hr
      refine seg_bind_wrap ?_
      rw [hover]
      refine wpAny_mono h1 (fun _ s2 ⟨x, H2, I2, rx, y2, st2, n2⟩ => ?_) fun _ _ z => z.elim
      have I2' := I2.pinned (fpOk epin I2 n2) (T.obj _ _ st2)
      have hxe' : ∀ {α : Type} {t : Sem α} {Q : α → Shared → Prop} {E : Value → Shared → Prop} {s : Shared}, wpAny (model Xg.prog Xg.w) Xg.A t Q Xg.xe s → wpAny (model Xg.prog Xg.w) Xg.A t Q E s := fun h => wpAny_mono h (fun _ _ z => z) fun _ _ z => by rw [hxe] at z; exact z.elim
      refine seg_bind_wrap ?_
      rw [hover]
      refine wpAny_mono (hxe' (hg.run _ s2 (wipe σ vs) H2 x u _ I2' rx (step x H2 y2))) (fun _ s3 ⟨σ3, H3, I3, hw3, q3⟩ => ?_) fun _ _ z => z
      refine seg_bind_wrap ?_
      rw [hover]
      refine wpAny_mono (hxe' (ht.run _ s3 σ3 H3 _ I3 q3)) (fun b s4 ⟨H4, I4, q4⟩ => ?_) fun _ _ z => z
      -- the turn's end
      have fin : ∀ {s' : Shared} {H' : Hp}, Inv Xg ((gp :: cp) ++ pinsAt fp s2.heap) σ3 H' s' → GSt Xg gp fp tn Ss (wipe σ vs) (i + 1) H' s' := fun {s' H'} I' => by
        have pin' : ∀ b ∈ fp, ∀ o, s2.heap.get? b = some o → s'.heap.get? b = some o ∧ H' b = none := fun b hb o e =>
          let z := I'.pin (b, o) (List.mem_append_right _ (List.mem_append_right _ (mem_pinsAt hb e)))
          ⟨z.1, z.2.1⟩
        have hl : (wipe σ vs).length = σ3.length := by rw [← hw3, wipe_length]
        refine ⟨cp, ecp, (I'.unpinned (pins := gp :: cp)).weak hl (fun j v e => ?_), T.keep _ _ _ st2 fun b hb o e => (pin' b hb o e).1, fun b hb => ?_⟩
        · rw [← hw3] at e
          exact (wipe_some e).1
        · obtain ⟨o, e, _⟩ := T.obj _ _ st2 b hb
          exact (pin' b hb o e).2
      cases b with
      | false =>
        simp only [Bool.false_eq_true, if_false] at q4 ⊢
        obtain ⟨m', hm, w'⟩ := hNx _ _ q4
        exact seg_again rfl (ih m' hm n (i + 1) acc H4 s₀ s4 (by omega) w' crel (ownSs I4) (fin I4))
      | true =>
        simp only [if_true] at q4 ⊢
        have hy : ∀ v, yieldOut Xg.env v = yieldValue v := fun v => by simp only [yieldOut, hco, Bool.false_eq_true, if_false]
        simp only [hy]
        obtain ⟨n', rfl⟩ : ∃ n', n = n' + 1 := ⟨n - 1, by omega⟩
        rw [Sem.bind_eq_wrap', Sem.bind_eq_wrap', Sem.wrap_wrap, Sem.wrap_wrap]
        refine seg_wrap ?_
        rw [hover]
        refine wpAny_mono (hxe' (he.run _ s4 σ3 H4 _ I4 q4)) (fun yv s5 ⟨y, H5, I5, ry, q5⟩ => ?_) fun _ _ z => z
        refine seg_at (seg_yield rfl rfl rfl ⟨i + 1, y, acc, H5, Nx, ry, fin I5, crel, ownSs I5, q5, fun s6 acc' sl cr nx => ?_⟩)
        obtain ⟨m', hm, w'⟩ := hNx _ _ nx
        exact seg_again rfl (ih m' hm n' (i + 1) acc' H5 s6 s6 (by omega) w' cr (fun _ _ => rfl) ((fin I5).woken T hS sl))
end
end GX

namespace GX
open PySem PySem.Spec PyProof.Rows L2 GenW
theorem eval_GeneratorExpM (elt target iter : Expr) (ifs : List Expr) (more : List Comprehension) (scope : Scope) (pos : Pos) (env : Env) (hco : scope.isCoroutine = false) :
    eval (.GeneratorExp elt (⟨target, iter, ifs, 0⟩ :: more) scope pos) env = (do
      let x ← eval iter env
      standAt iter.pos
      let x ← genFold iter env x
      let it ← holding [x] (pyIter x)
      enterFrame
      let cl ← closureFor scope env
      let code ← genexprCode env pos (env.qual ++ "<genexpr>") scope
      let bi ← builtinsFor env.globals env.builtins
      let cenv ← newFunctionEnv scope env.globals cl [(".0", it)] (env.qual ++ "<genexpr>.") none code none bi
      newGenerator (.compStart (.GeneratorExp elt (⟨target, iter, ifs, 0⟩ :: more) scope pos) 0 it .none cenv) "<genexpr>" (env.qual ++ "<genexpr>")) := by
  rw [arm_eval_GeneratorExp]
  simp only [hco, Bool.false_eq_true, if_false]
  cases iter <;> rfl
section
variable {X : Cx} {pins : List (Addr × Obj)} {σ : L2.St} {H : Hp} {s : Shared}
/-- the generator is made: at a, its frame laid, its first turn not begun; s3: the state ahead of its frame -/
structure Made (X : Cx) (pins : List (Addr × Obj)) (σ : L2.St) (tg elt iter : Expr) (ifs : List Expr) (more : List Comprehension) (scope : Scope) (gpos : Pos) (own : List (Str × Nat)) (J : It) (code : Value) (H3 : Hp) (s3 : Shared) (it : Addr) (fp : List Addr) (tn : Nat → Heap → Prop) (a : Addr) (g : Nat) (gob : Obj) (s5 : Shared) : Prop where
  inv : Inv X pins σ H3 s3
  turn : Turn X.prog X.w X.K tg J fp it tn
  fps : ∀ b ∈ fp, FpOk X pins H3 b ∧ b < s3.heap.objs.size
  st : tn 0 s5.heap
  ag : s3.heap.objs.size ≤ a
  get : s5.heap.get? a = some gob
  obj : gob.cls = .type "generator" ∧ (∃ nm qn, gob.data = .fields #[.int g 0, nm, qn]) ∧ gob.slots = #[]
  gen : s5.gens[g]? = some (.fresh (.compStart (.GeneratorExp elt (⟨tg, iter, ifs, 0⟩ :: more) scope gpos) 0 (.ref it) .none (gEnv X scope s3 code)))
  sub : ∀ B : Around, BOk X B (gEnv X scope s3 code) → Inv (gcx X B s3 H3 scope (gEnv X scope s3 code) fp) [(a, gob)] (wipe σ (own.map (·.2))) H3 s5
theorem Made.isGen {tg elt iter : Expr} {ifs : List Expr} {more : List Comprehension} {scope : Scope} {gpos : Pos} {own : List (Str × Nat)} {J : It} {code : Value} {H3 : Hp} {s3 : Shared} {it : Addr} {fp : List Addr} {tn : Nat → Heap → Prop} {a : Addr} {g : Nat} {gob : Obj} {s5 : Shared} (M : Made X pins σ tg elt iter ifs more scope gpos own J code H3 s3 it fp tn a g gob s5)
    {h : Heap} (e : h.get? a = some gob) : h.IsGen a g := let ⟨h1, ⟨nm, qn, h2⟩, h3⟩ := M.obj; ⟨gob, nm, qn, e, h1, h2, h3⟩
theorem gx_eval {tg elt iter : Expr} {ifs : List Expr} {more : List Comprehension} {scope : Scope} {gpos : Pos} {own : List (Str × Nat)} {ti : TI} {tc : TC} {P0 : Addr} {k : Nat} {Want : It → Value → Hp → Prop} {Q' : Value → Shared → Prop} (I : Inv X pins σ H s) (hN : X.N.Nodup) (room : Room k X.A) (hi : PI X tg iter ti) (hpc : PC X gpos scope tc) (BA : X.base.BuiltinsAt X.mg P0) (ok : GOk X.N X.env.scope scope own)
    (hs : ∀ v, genFold iter X.env v = pure v) (h : ti σ H fun J H1 => tc σ H1 fun code H2 => Want J code H2)
    (fin : ∀ J code H3 s3 it fp tn a g gob s5, Want J code H3 → Made X pins σ tg elt iter ifs more scope gpos own J code H3 s3 it fp tn a g gob s5 → Q' (.ref a) s5) :
    wpAny (model X.prog X.w) X.A (eval (.GeneratorExp elt (⟨tg, iter, ifs, 0⟩ :: more) scope gpos) X.env) Q' X.xe s := by
  have hfree : ∀ y ∈ scope.names, y.2 = .free → ∃ c, X.env.cells.lookup y.1 = some c := fun y hy e => by
    rcases ok.blk.free y hy e with k | k
    · exact I.ok.has _ (.inl k)
    · exact I.ok.has _ (.inr k)
  have deep : X.A.depth < recursionLimit := by have := room.dp; omega
  rw [eval_GeneratorExpM _ _ _ _ _ _ _ _ ok.co, closure_ok hfree]
  refine wpAny_bind (thn (hi.run pins s σ H _ I h) fun xv s1 h1 => ?_)
  refine wpAny_bind (wpAny_standAt ?_)
  refine wpAny_bind (wpAny_of_eq (hs xv) ?_)
  refine wpAny_bind (wpAny_holding (thn h1 fun itv s2 h2 => ?_))
  obtain ⟨it, fp, tn, J, H2, e, I2, T, st2, f2, q2⟩ := h2
  subst e
  refine wpAny_bind (wpAny_enterFrame I2.nolimit deep ?_)
  refine wpAny_bind (wpAny_pure ?_)
  have sz : ∀ b ∈ fp, b < s2.heap.objs.size := fun b hb => by
    obtain ⟨o, e, _⟩ := T.obj _ _ st2 b hb
    exact Heap.lt_size e
  have I2' := I2.pinned f2 (T.obj _ _ st2)
  refine wpAny_bind (thn (hpc.run _ s2 σ H2 _ _ I2' q2) fun code s3 ⟨H3, I3', le3, want⟩ => ?_)
  have pin3 : ∀ b ∈ fp, ∀ o, s2.heap.get? b = some o → s3.heap.get? b = some o ∧ H3 b = none := fun b hb o e =>
    let z := I3'.pin (b, o) (List.mem_append_right _ (List.mem_append_right _ (mem_pinsAt hb e)))
    ⟨z.1, z.2.1⟩
  have I3 : Inv X pins σ H3 s3 := I3'.unpinned
  have st3 : tn 0 s3.heap := T.keep _ _ _ st2 fun b hb o e => (pin3 b hb o e).1
  have f3 : ∀ b ∈ fp, FpOk X pins H3 b ∧ b < s3.heap.objs.size := fun b hb => by
    obtain ⟨o, e, _⟩ := T.obj _ _ st2 b hb
    exact ⟨⟨(pin3 b hb o e).2, (f2 b hb).2⟩, Heap.lt_size (pin3 b hb o e).1⟩
  obtain ⟨bm, ob, b1, b2, _, _, b3, b4, b5, b6⟩ := BA
  have glob : s3.heap.Ns X.env.globals X.mg := by rw [I3.ok.glob]; exact I3.mod.glob.keeps I3.bk
  refine wpAny_bind (wpAny_builtinsFor (m := X.mg) glob b1 b2 (I3.bk bm ob b3) b4 b5 b6 ?_)
  refine wpAny_bind (newGenEnv (s := s3) ok.blk.kind ok.dot fun h' hn' hs' => ?_)
  simp only [newGenerator, newFields]
  refine wpAny_bind (wpAny_newGen (wpAny_bind (wpAny_mkText (wpAny_bind (wpAny_mkText (wpAny_newObj_type ?_ (by size_fits)))))))
  have kp0 : ∀ b o, s3.heap.get? b = some o → h'.get? b = some o := fun b o e => hs'.extBut b o (Nat.ne_of_lt (Heap.lt_size e)) (pushCells_keeps _ _ _ _ (Heap.get?_push_of_some _ e))
  have hsz : s3.heap.objs.size < h'.objs.size := hn'.lt
  refine fin J code H3 s3 it fp tn h'.objs.size s3.gens.size _ _ want ⟨I3, T, f3, ?_, Nat.le_of_lt hsz, Heap.get?_push_size _ rfl, ⟨rfl, ⟨_, _, rfl⟩, rfl⟩, Array.getElem?_push_size .., fun B hB => ?_⟩
  · exact T.keep _ _ _ st3 fun b _ o e => Heap.get?_push_of_some _ (kp0 b o e)
  · have I4 := gx_start (t' := s3.toks + 1) (it := .ref it) I3 ok hN f3 hB hn' hs'
    have I5 := inv_gens (g' := s3.gens.push (.fresh (.compStart (.GeneratorExp elt (⟨tg, iter, ifs, 0⟩ :: more) scope gpos) 0 (.ref it) .none (gEnv X scope s3 code)))) (d' := s3.drawn) (t' := s3.toks + 1 + 1 + 1) (h' := h'.push { cls := .type "generator", data := .fields #[.int s3.gens.size 0, .str "<genexpr>" (s3.toks + 1), .str (X.env.qual ++ "<genexpr>") (s3.toks + 1 + 1)] }) I4 (fun b o e => Heap.get?_push_of_some _ e) (I3.bare.push rfl)
    refine I5.pins_of fun p hp => ?_
    rw [List.mem_singleton.mp hp]
    have nw : H3 h'.objs.size = none := I4.hok.fresh (Nat.le_refl _)
    exact ⟨Heap.get?_push_size _ rfl, nw, Nat.ne_of_gt I4.lt, I4.nofs (Nat.le_refl _), fun v z => by cases z⟩
end
end GX

namespace GX
open PySem PySem.Spec PyProof.Rows L2 GenW
section
variable {X : Cx} {pins : List (Addr × Obj)} {σ : L2.St} {tg elt iter : Expr} {ifs : List Expr} {more : List Comprehension} {scope : Scope} {gpos : Pos} {own : List (Str × Nat)} {J : It} {code : Value} {H3 : Hp} {s3 : Shared} {it : Addr} {fp : List Addr} {tn : Nat → Heap → Prop} {a : Addr} {g : Nat} {gob : Obj} {s5 : Shared}
/-- back in the def's context -/
theorem Made.back (M : Made X pins σ tg elt iter ifs more scope gpos own J code H3 s3 it fp tn a g gob s5) {B : Around} {ps : List (Addr × Obj)} {σ' : L2.St} {H : Hp} {s1 s' : Shared} (I1 : Inv (gcx X B s3 H3 scope (gEnv X scope s3 code) fp) ps σ' H s1) (ho : s'.os = s1.os) (hb : AllBare s'.gens) (k : ∀ b o, s1.heap.get? b = some o → s'.heap.get? b = some o) : Inv X pins σ H s' := by
  refine M.inv.call' (ch := fp) (ho.trans I1.os) (I1.base.trans (Un.kept k)) (I1.hok.kept k) hb fun b hb => ?_
  have f := (M.fps b hb).1
  exact ⟨f.2.2.2.1, f.2.1, f.2.2.2.2.1, f.2.2.2.2.2⟩
abbrev Made.cx (_ : Made X pins σ tg elt iter ifs more scope gpos own J code H3 s3 it fp tn a g gob s5) (A : Around) : Cx := gcx X (A.deeper (gEnv X scope s3 code)) s3 H3 scope (gEnv X scope s3 code) fp
theorem Made.bok (_ : Made X pins σ tg elt iter ifs more scope gpos own J code H3 s3 it fp tn a g gob s5) {A : Around} (hd : A.handled = none) (hf : A.frames = some X.stack) : BOk X (A.deeper (gEnv X scope s3 code)) (gEnv X scope s3 code) := ⟨hd, Around.frames_deeper hf⟩
theorem Made.ss (M : Made X pins σ tg elt iter ifs more scope gpos own J code H3 s3 it fp tn a g gob s5) {A : Around} (hB : BOk X (A.deeper (gEnv X scope s3 code)) (gEnv X scope s3 code)) {Ss : List Addr} (h : ∀ b ∈ Ss, s5.heap.objs.size ≤ b) : SsOk (M.cx A) (a, gob) fp Ss := by
  have I5 := M.sub _ hB
  refine ⟨fun b hb => ?_, rfl⟩
  have lt := h b hb
  refine ⟨Nat.le_trans I5.sz lt, Nat.ne_of_gt (Nat.lt_of_lt_of_le I5.lt lt), fun x c e z => ?_, fun z => ?_, fun z => ?_⟩
  · obtain ⟨v, q⟩ := I5.cell x c e
    have := q.lt
    rw [z] at this
    exact Nat.lt_irrefl _ (Nat.lt_of_lt_of_le this lt)
  · have := (M.fps b z).2
    exact Nat.lt_irrefl _ (Nat.lt_of_lt_of_le this (Nat.le_trans I5.sz lt))
  · have e := M.get
    have z : b = a := z
    rw [← z] at e
    exact Nat.lt_irrefl _ (Nat.lt_of_lt_of_le (Heap.lt_size e) lt)
/-- the first turn -/
theorem Made.wake (M : Made X pins σ tg elt iter ifs [] scope gpos own J code H3 s3 it fp tn a g gob s5) {α : Type} {CRel : α → Heap → Prop} {Stp : Stps α} {Fin : α → Hp → Prop} {Ss : List Addr} {g' : TG} {tt : TT} {te : TE} {W : Nat → Nat → α → Hp → Prop} {A : Around} {m0 n : Nat} {a0 : α} {s2 : Shared}
    (hco : scope.isCoroutine = false) (hd : A.handled = none) (hf : A.frames = some X.stack) (hg : PG (M.cx A) tg g') (ht : PTs (M.cx A) ifs tt) (he : PE (M.cx A) elt te) (turn : TurnsR Stp Fin J g' tt te (own.map (·.2)) σ W) (w0 : W 0 m0 a0 H3) (hmn : m0 < n)
    (ho : s2.os = s5.os) (hb : AllBare s2.gens) (hk : ∀ b o, s5.heap.get? b = some o → s2.heap.get? b = some o) (hS : ∀ b ∈ Ss, s5.heap.objs.size ≤ b ∧ ∃ o, s2.heap.get? b = some o ∧ ∀ v, o.data ≠ .cell v) (cr : CRel a0 s2.heap) :
    Seg (model X.prog X.w) A (RG CRel Fin (M.cx A) (a, gob) Ss (wipe σ (own.map (·.2)))) (YG CRel Stp (M.cx A) (a, gob) fp tn Ss (wipe σ (own.map (·.2)))) n s2 (.compStart (.GeneratorExp elt [⟨tg, iter, ifs, 0⟩] scope gpos) 0 (.ref it) .none (gEnv X scope s3 code))
      ((model X.prog X.w).den (.compStart (.GeneratorExp elt [⟨tg, iter, ifs, 0⟩] scope gpos) 0 (.ref it) .none (gEnv X scope s3 code))) [] s2 := by
  have hB := M.bok hd hf
  have I5 := M.sub _ hB
  have SO := M.ss hB fun b hb => (hS b hb).1
  have hgf : a ∉ fp := fun z => Nat.lt_irrefl _ (Nat.lt_of_lt_of_le (M.fps a z).2 M.ag)
  have fpOk : ∀ b ∈ fp, ∀ H' : Hp, H' b = none → FpOk (M.cx A) [] H' b := fun b hb H' hn => by
    refine ⟨hn, (I5.ok.exf b hb).1, I5.ok.exfs b hb, .inl hb, fun x c e => (I5.ok.exf b hb).2 x c e, fun p hp => absurd (show p ∈ ([] : List (Addr × Obj)) ++ [] from hp) (by simp)⟩
  have I2 : Inv (M.cx A) [(a, gob)] (wipe σ (own.map (·.2))) H3 s2 := by
    have J := inv_gens (g' := s2.gens) (d' := s2.drawn) (t' := s2.toks) I5 hk hb
    rw [GxR.sh_eta s5 s2 ho] at J
    exact J
  obtain ⟨cp, ecp, hcp⟩ := pins_exist Ss s2.heap fun b hb => (hS b hb).2
  have st2 : GSt (M.cx A) (a, gob) fp tn Ss (wipe σ (own.map (·.2))) 0 H3 s2 := by
    refine ⟨cp, ecp, I2.pins_of fun p hp => ?_, M.turn.keep _ _ _ M.st fun b _ o e => hk b o e, fun b hb => (M.fps b hb).1.1⟩
    rcases List.mem_cons.mp hp with z | z
    · rw [z]
      exact I2.pin (a, gob) (List.mem_append_right _ (List.mem_cons_self ..))
    · have hm : p.1 ∈ Ss := by rw [← ecp]; exact List.mem_map_of_mem z
      have lt := (hS _ hm).1
      exact ⟨(hcp p z).1, I5.hok.fresh lt, (SO.all _ hm).2.1, I5.nofs lt, (hcp p z).2⟩
  have loop := gx_loop (iter := iter) (gpos := gpos) (B := A) (CRel := CRel) (Xg := M.cx A) (scope := scope) (it := it) rfl rfl hco rfl M.turn fpOk SO hgf hg ht he turn m0 n 0 a0 H3 s2 s2 hmn w0 cr (fun _ _ => rfl) st2
  have hover : A.over (.compStart (.GeneratorExp elt [⟨tg, iter, ifs, 0⟩] scope gpos) 0 (.ref it) .none (gEnv X scope s3 code)) [] = A.deeper (gEnv X scope s3 code) := over_gen0
  show Seg _ A _ _ _ s2 _ ((compStart (.GeneratorExp elt [⟨tg, iter, ifs, 0⟩] scope gpos) 0 (.ref it) .none (gEnv X scope s3 code)).onRaise (leaving (gEnv X scope s3 code))) [] s2
  unfold compStart
  rw [Sem.onRaise_eq_wrap]
  show Seg _ A _ _ _ s2 _ ((ask >>= _).wrap _ _ _ _) [] s2
  have st := M.turn.keep _ _ _ M.st fun b _ o e => hk b o e
  refine seg_bind_wrap (wpAny_askSetting ?_)
  split
  · exact seg_again rfl loop
  · first
      | exact seg_bind_wrap (wpAny_rule (seg_bind_wrap (wpAny_standAt (seg_bind_wrap (M.turn.self _ 0 s2 _ _ st (seg_again rfl loop))))))
      | (refine seg_bind_wrap (wpAny_rule ?_); show Seg _ A _ _ _ s2 _ ((standAt iter.pos >>= _).wrap _ _ _ _) [] s2; exact seg_bind_wrap (wpAny_standAt (seg_bind_wrap (M.turn.self _ 0 s2 _ _ st (seg_again rfl loop)))))
/-- next -/
theorem Made.next (M : Made X pins σ tg elt iter ifs more scope gpos own J code H3 s3 it fp tn a g gob s5) {α : Type} {CRel : α → Heap → Prop} {Stp : Stps α} {Fin : α → Hp → Prop} {fpY : List Addr} {tnY : Nat → Heap → Prop} {Ss : List Addr} {σ0 : L2.St} {A : Around} {n : Nat} {s : Shared} {gs : GenState} {Qo : Option Value → Shared → Prop} {E : Value → Shared → Prop}
    (hh : A.handled = none) (hdp : A.depth < recursionLimit) (hG : s.heap.get? a = some gob) (hl : s.heap.NoLimit) (hgs : s.gens[g]? = some gs)
    (hgo : gs.Goes (model X.prog X.w) A.in1 (RG CRel Fin (M.cx A.in1) (a, gob) Ss σ0) (YG CRel Stp (M.cx A.in1) (a, gob) fpY tnY Ss σ0) n (.send .none) (s.setGen g .running))
    (hY : ∀ v s1 gs' i x acc H Nx, gs'.bare = true → RelV x v → GSt (M.cx A.in1) (a, gob) fpY tnY Ss σ0 i H s1 → CRel acc s.heap → (∀ b ∈ Ss, s1.heap.get? b = s.heap.get? b) → Stp acc x H Nx → g < s1.gens.size →
      (∀ s' acc', Slp Ss s1 s' → CRel acc' s'.heap → Nx acc' H → ∃ n', n = n' + 1 ∧ gs'.Goes (model X.prog X.w) A.in1 (RG CRel Fin (M.cx A.in1) (a, gob) Ss σ0) (YG CRel Stp (M.cx A.in1) (a, gob) fpY tnY Ss σ0) n' (.send .none) s') → Qo (some v) (s1.setGen g gs'))
    (hP : ∀ s1 h', RGp CRel Fin (M.cx A.in1) (a, gob) Ss σ0 (s.setGen g .running) s1 → (∀ b o, s1.heap.get? b = some o → h'.get? b = some o) → Qo none { s1.setGen g .finished with heap := h' }) :
    wpAny (model X.prog X.w) A (pyNext (.ref a)) Qo E s := by
  have hgl : g < s.gens.size := (Array.getElem?_eq_some_iff.mp hgs).1
  refine wpAny_mono (wpAny_gsz (n := g + 1) hgl (wpAny_pyNext_genexpQ (n := n) (P := fun _ => RGp CRel Fin (M.cx A.in1) (a, gob) Ss σ0) (Y := YG CRel Stp (M.cx A.in1) (a, gob) fpY tnY Ss σ0) (Q := fun r s' => g + 1 ≤ s'.gens.size → Qo r s') (E := fun e s' => g + 1 ≤ s'.gens.size → E e s') hh hl hdp (M.isGen hG) hgs hgo (fun v s1 gs' hb hv hsz => ?_) (fun s1 hp h' hk _ => hP s1 h' hp hk))) (fun _ _ z => z) (fun _ _ z => z)
  obtain ⟨i, x, acc, H, Nx, rx, st, cr, ks, sp, kap⟩ := hv
  have hsz1 : g < s1.gens.size := by
    have q : (s1.setGen g gs').gens.size = s1.gens.size := setGen_size _ _ _
    omega
  refine hY v s1 gs' i x acc H Nx hb rx st cr ks sp hsz1 fun s' acc' sl cr' nx => ?_
  have z := kap s' acc' sl cr' nx
  cases n with
  | zero => exact z.elim
  | succ n' => exact ⟨n', rfl, z⟩
end
end GX

namespace GX
open PySem PySem.Spec PyProof.Rows L2 GenW
def stAll (Q : VK) : Stps Unit := fun _ y H N => ∃ b, y = .bl b ∧ if b = true then N () H else Q (.bl false) H
def fiAll (Q : VK) : Unit → Hp → Prop := fun _ H => Q (.bl true) H
def stAny (Q : VK) : Stps Unit := fun _ y H N => ∃ b, y = .bl b ∧ if b = true then Q (.bl true) H else N () H
def fiAny (Q : VK) : Unit → Hp → Prop := fun _ H => Q (.bl false) H
def stSum (Q : VK) : Stps Int := fun acc y H N => ∃ i, y = .int i ∧ N (acc + i) H
def fiSum (Q : VK) : Int → Hp → Prop := fun acc H => Q (.int acc) H
def crU : Unit → Heap → Prop := fun _ _ => True
abbrev lstO (xs : Array Value) (c : Nat) : Obj := { cls := .type "list", dict := none, data := .seq xs c, slots := #[] }
def crSum (S : Addr) : Int → Heap → Prop := fun acc h => ∃ t c, h.get? S = some (lstO #[.int acc t] c)
section
variable {X : Cx} {pins : List (Addr × Obj)} {σ : L2.St} {tg elt iter : Expr} {ifs : List Expr} {more : List Comprehension} {scope : Scope} {gpos : Pos} {own : List (Str × Nat)} {J : It} {code : Value} {H3 : Hp} {s3 : Shared} {it : Addr} {fp : List Addr} {tn : Nat → Heap → Prop} {a : Addr} {g : Nat} {gob : Obj} {s5 : Shared} {fpY : List Addr} {tnY : Nat → Heap → Prop}
theorem gst_get {Xg : Cx} {gp : Addr × Obj} {fp : List Addr} {tn : Nat → Heap → Prop} {Ss : List Addr} {σ0 : L2.St} {i : Nat} {H : Hp} {s : Shared} (h : GSt Xg gp fp tn Ss σ0 i H s) : s.heap.get? gp.1 = some gp.2 ∧ s.heap.NoLimit ∧ AllBare s.gens ∧ ∀ b ∈ Ss, H b = none := by
  obtain ⟨cp, ecp, I, _, _⟩ := h
  refine ⟨(I.pin gp (List.mem_append_right _ (List.mem_cons_self ..))).1, I.nolimit, I.bare, fun b hb => ?_⟩
  rw [← ecp] at hb
  obtain ⟨p, hp, rfl⟩ := List.mem_map.mp hb
  exact (I.pin p (List.mem_append_right _ (List.mem_cons_of_mem _ hp))).2.1
theorem Made.all_loop (M : Made X pins σ tg elt iter ifs more scope gpos own J code H3 s3 it fp tn a g gob s5) {A : Around} {σ0 : L2.St} {R : Result → Shared → Prop} {Q : VK} (hh : A.handled = none) (hdp : A.depth < recursionLimit)
    (hret : ∀ v u H s', Inv X pins σ H s' → RelV v u → Q v H → R (.ok (.ret u)) s') : ∀ (n : Nat) (s : Shared) (gs : GenState), s.heap.get? a = some gob → s.heap.NoLimit → s.gens[g]? = some gs →
    gs.Goes (model X.prog X.w) A.in1.in1 (RG crU (fiAll Q) (M.cx A.in1.in1) (a, gob) [] σ0) (YG crU (stAll Q) (M.cx A.in1.in1) (a, gob) fpY tnY [] σ0) n (.send .none) (s.setGen g .running) →
    codeAny (model X.prog X.w) A (.builtin "all.loop" ⟨[.ref a], []⟩) R s := by
  intro n
  induction n with
  | zero =>
    intro s gs hG hl hgs hgo
    refine codeAny_builtin F.entry_all_loop ?_
    rw [Around.under_plainId F.plain_all_loop _]
    show wpAny _ A.in1 (pyNext (.ref a) >>= _) _ _ s
    refine wpAny_bind (M.next (A := A.in1) hh hdp hG hl hgs hgo (fun v s1 gs' i x acc H Nx hb rx st cr ks sp hsz kap => ?_) (fun s1 h' hp hk => ?_))
    · obtain ⟨b, rfl, q⟩ := sp
      cases rx
      refine wpAny_bind (wpAny_holding (wpAny_truthy_bool ?_))
      refine wpAny_bind (wpAny_letGo ?_)
      obtain ⟨_, _, bare, _⟩ := gst_get st
      cases b with
      | true =>
        simp only [if_true] at q
        obtain ⟨n', hn, _⟩ := kap s1 () ⟨rfl, bare, fun _ _ _ e => e, fun _ h => nomatch h⟩ trivial q
        omega
      | false =>
        simp only [Bool.false_eq_true, if_false] at q ⊢
        obtain ⟨cp, _, I1, _, _⟩ := st
        exact wpAny_bind (wpAny_rule (wpAny_pure (hret (.bl false) _ H _ (M.back I1 rfl (allBare_setGen bare hb) fun _ _ e => e) rfl q)))
    · obtain ⟨acc, H, cp, _, I1, _, _, q⟩ := hp
      exact wpAny_bind (wpAny_rule (wpAny_pure (hret (.bl true) _ H _ (M.back I1 rfl (allBare_setGen I1.bare rfl) hk) rfl q)))
  | succ n ih =>
    intro s gs hG hl hgs hgo
    refine codeAny_builtin F.entry_all_loop ?_
    rw [Around.under_plainId F.plain_all_loop _]
    show wpAny _ A.in1 (pyNext (.ref a) >>= _) _ _ s
    refine wpAny_bind (M.next (A := A.in1) hh hdp hG hl hgs hgo (fun v s1 gs' i x acc H Nx hb rx st cr ks sp hsz kap => ?_) (fun s1 h' hp hk => ?_))
    · obtain ⟨b, rfl, q⟩ := sp
      cases rx
      refine wpAny_bind (wpAny_holding (wpAny_truthy_bool ?_))
      refine wpAny_bind (wpAny_letGo ?_)
      obtain ⟨eG, nl, bare, _⟩ := gst_get st
      cases b with
      | true =>
        simp only [if_true] at q ⊢
        obtain ⟨n', hn, go'⟩ := kap ((s1.setGen g gs').setGen g .running) () ⟨rfl, allBare_setGen (s := s1.setGen g gs') (allBare_setGen bare hb) rfl, fun _ _ _ e => e, fun _ h => nomatch h⟩ trivial q
        obtain rfl : n' = n := by omega
        exact wpAny_pure ⟨plainId_quiet F.plain_all_loop _, ih _ gs' eG nl (setGen_at hsz) go'⟩
      | false =>
        simp only [Bool.false_eq_true, if_false] at q ⊢
        obtain ⟨cp, _, I1, _, _⟩ := st
        exact wpAny_bind (wpAny_rule (wpAny_pure (hret (.bl false) _ H _ (M.back I1 rfl (allBare_setGen bare hb) fun _ _ e => e) rfl q)))
    · obtain ⟨acc, H, cp, _, I1, _, _, q⟩ := hp
      exact wpAny_bind (wpAny_rule (wpAny_pure (hret (.bl true) _ H _ (M.back I1 rfl (allBare_setGen I1.bare rfl) hk) rfl q)))
theorem Made.any_loop (M : Made X pins σ tg elt iter ifs more scope gpos own J code H3 s3 it fp tn a g gob s5) {A : Around} {σ0 : L2.St} {R : Result → Shared → Prop} {Q : VK} (hh : A.handled = none) (hdp : A.depth < recursionLimit)
    (hret : ∀ v u H s', Inv X pins σ H s' → RelV v u → Q v H → R (.ok (.ret u)) s') : ∀ (n : Nat) (s : Shared) (gs : GenState), s.heap.get? a = some gob → s.heap.NoLimit → s.gens[g]? = some gs →
    gs.Goes (model X.prog X.w) A.in1.in1 (RG crU (fiAny Q) (M.cx A.in1.in1) (a, gob) [] σ0) (YG crU (stAny Q) (M.cx A.in1.in1) (a, gob) fpY tnY [] σ0) n (.send .none) (s.setGen g .running) →
    codeAny (model X.prog X.w) A (.builtin "any.loop" ⟨[.ref a], []⟩) R s := by
  intro n
  induction n with
  | zero =>
    intro s gs hG hl hgs hgo
    refine codeAny_builtin F.entry_any_loop ?_
    rw [Around.under_plainId F.plain_any_loop _]
    show wpAny _ A.in1 (pyNext (.ref a) >>= _) _ _ s
    refine wpAny_bind (M.next (A := A.in1) hh hdp hG hl hgs hgo (fun v s1 gs' i x acc H Nx hb rx st cr ks sp hsz kap => ?_) (fun s1 h' hp hk => ?_))
    · obtain ⟨b, rfl, q⟩ := sp
      cases rx
      refine wpAny_bind (wpAny_holding (wpAny_truthy_bool ?_))
      refine wpAny_bind (wpAny_letGo ?_)
      obtain ⟨_, _, bare, _⟩ := gst_get st
      cases b with
      | false =>
        simp only [Bool.false_eq_true, if_false] at q
        obtain ⟨n', hn, _⟩ := kap s1 () ⟨rfl, bare, fun _ _ _ e => e, fun _ h => nomatch h⟩ trivial q
        omega
      | true =>
        simp only [if_true] at q ⊢
        obtain ⟨cp, _, I1, _, _⟩ := st
        exact wpAny_bind (wpAny_rule (wpAny_pure (hret (.bl true) _ H _ (M.back I1 rfl (allBare_setGen bare hb) fun _ _ e => e) rfl q)))
    · obtain ⟨acc, H, cp, _, I1, _, _, q⟩ := hp
      exact wpAny_bind (wpAny_rule (wpAny_pure (hret (.bl false) _ H _ (M.back I1 rfl (allBare_setGen I1.bare rfl) hk) rfl q)))
  | succ n ih =>
    intro s gs hG hl hgs hgo
    refine codeAny_builtin F.entry_any_loop ?_
    rw [Around.under_plainId F.plain_any_loop _]
    show wpAny _ A.in1 (pyNext (.ref a) >>= _) _ _ s
    refine wpAny_bind (M.next (A := A.in1) hh hdp hG hl hgs hgo (fun v s1 gs' i x acc H Nx hb rx st cr ks sp hsz kap => ?_) (fun s1 h' hp hk => ?_))
    · obtain ⟨b, rfl, q⟩ := sp
      cases rx
      refine wpAny_bind (wpAny_holding (wpAny_truthy_bool ?_))
      refine wpAny_bind (wpAny_letGo ?_)
      obtain ⟨eG, nl, bare, _⟩ := gst_get st
      cases b with
      | false =>
        simp only [Bool.false_eq_true, if_false] at q ⊢
        obtain ⟨n', hn, go'⟩ := kap ((s1.setGen g gs').setGen g .running) () ⟨rfl, allBare_setGen (s := s1.setGen g gs') (allBare_setGen bare hb) rfl, fun _ _ _ e => e, fun _ h => nomatch h⟩ trivial q
        obtain rfl : n' = n := by omega
        exact wpAny_pure ⟨plainId_quiet F.plain_any_loop _, ih _ gs' eG nl (setGen_at hsz) go'⟩
      | true =>
        simp only [if_true] at q ⊢
        obtain ⟨cp, _, I1, _, _⟩ := st
        exact wpAny_bind (wpAny_rule (wpAny_pure (hret (.bl true) _ H _ (M.back I1 rfl (allBare_setGen bare hb) fun _ _ e => e) rfl q)))
    · obtain ⟨acc, H, cp, _, I1, _, _, q⟩ := hp
      exact wpAny_bind (wpAny_rule (wpAny_pure (hret (.bl false) _ H _ (M.back I1 rfl (allBare_setGen I1.bare rfl) hk) rfl q)))
/-- the consumer has written its list -/
theorem slp_upd {S : Addr} {s1 : Shared} {g : Nat} {gs' gs2 : GenState} {f : Obj → Obj} {o : Obj} {tk : Nat} (bare : AllBare s1.gens) (hb : gs'.bare = true) (hb2 : gs2.bare = true) (eS : (s1.heap.update S f).get? S = some o) (nc : ∀ v, o.data ≠ .cell v) :
    Slp [S] s1 (({ s1.setGen g gs' with heap := s1.heap.update S f, toks := tk } : Shared).setGen g gs2) where
  os := rfl
  bare := allBare_setGen (s := { s1.setGen g gs' with heap := s1.heap.update S f, toks := tk }) (allBare_setGen (s := s1) bare hb) hb2
  keep := fun b o hb e => (Heap.get?_update_other _ _ (fun z => hb (by rw [z]; exact List.mem_singleton.mpr rfl))).trans e
  own := fun b hb => by rw [List.mem_singleton.mp hb]; exact ⟨o, eS, nc⟩
theorem Made.sum_loop (M : Made X pins σ tg elt iter ifs more scope gpos own J code H3 s3 it fp tn a g gob s5) {A : Around} {σ0 : L2.St} {R : Result → Shared → Prop} {Q : VK} {S : Addr} (hh : A.handled = none) (hdp : A.depth < recursionLimit) (hSa : a ≠ S) (hSc : cStatics ≠ S)
    (hret : ∀ v u H s', Inv X pins σ H s' → RelV v u → Q v H → R (.ok (.ret u)) s') : ∀ (n : Nat) (s : Shared) (gs : GenState) (acc : Int) (t : Tok) (c : Nat) (st : Int), (st = 0 ∨ st = 2) → s.heap.get? a = some gob → s.heap.NoLimit → s.gens[g]? = some gs → s.heap.get? S = some (lstO #[.int acc t] c) →
    gs.Goes (model X.prog X.w) A.in1.in1 (RG (crSum S) (fiSum Q) (M.cx A.in1.in1) (a, gob) [S] σ0) (YG (crSum S) (stSum Q) (M.cx A.in1.in1) (a, gob) fpY tnY [S] σ0) n (.send .none) (s.setGen g .running) →
    codeAny (model X.prog X.w) A (.builtin "sum.loop" ⟨[.ref a, .ref S, rawInt st, rawInt 0], []⟩) R s := by
  have same : ∀ {acc acc' : Int} {t : Tok} {c : Nat} {h : Heap}, h.get? S = some (lstO #[.int acc t] c) → crSum S acc' h → acc' = acc := fun {acc acc' t c h} e ⟨t', c', e'⟩ => by
    rw [e] at e'
    cases e'
    rfl
  intro n
  induction n with
  | zero =>
    intro s gs acc t c st hst hG hl hgs eS hgo
    refine codeAny_builtin F.entry_sum_loop ?_
    rw [Around.under_plainId F.plain_sum_loop _]
    show wpAny _ A.in1 (seqItems? (.ref S) >>= _) _ _ s
    refine wpAny_bind (wpAny_seqItems eS rfl ?_)
    show wpAny _ A.in1 (tryCatch (pyNext (.ref a)) _ >>= _) _ _ s
    refine wpAny_bind (wpAny_tryCatch (M.next (A := A.in1) hh hdp hG hl hgs hgo (fun v s1 gs' i x acc' H Nx hb rx st' cr ks sp hsz kap => ?_) (fun s1 h' hp hk => ?_)))
    · obtain ⟨j, rfl, q⟩ := sp
      obtain ⟨eG, nl, bare, _⟩ := gst_get st'
      have e1 : s1.heap.get? S = some (lstO #[.int acc t] c) := by rw [ks S (List.mem_singleton.mpr rfl)]; exact eS
      have e2 := Heap.get?_update_self (Obj.mapSeq fun _ => #[Value.int (acc' + j) 0]) e1 rfl
      obtain ⟨n', hn, _⟩ := kap _ (acc' + j) (slp_upd (g := g) (gs' := .running) (gs2 := .running) (tk := 0) bare rfl rfl e2 (fun v z => by cases z)) ⟨0, _, e2⟩ q
      omega
    · obtain ⟨acc', H, cp, _, I1, cr, ks, q⟩ := hp
      rw [same eS cr] at q
      exact wpAny_pure (hret (.int acc) _ H _ (M.back I1 rfl (allBare_setGen I1.bare rfl) hk) ⟨t, rfl⟩ q)
  | succ n ih =>
    intro s gs acc t c st hst hG hl hgs eS hgo
    refine codeAny_builtin F.entry_sum_loop ?_
    rw [Around.under_plainId F.plain_sum_loop _]
    show wpAny _ A.in1 (seqItems? (.ref S) >>= _) _ _ s
    refine wpAny_bind (wpAny_seqItems eS rfl ?_)
    show wpAny _ A.in1 (tryCatch (pyNext (.ref a)) _ >>= _) _ _ s
    refine wpAny_bind (wpAny_tryCatch (M.next (A := A.in1) hh hdp hG hl hgs hgo (fun v s1 gs' i x acc' H Nx hb rx st' cr ks sp hsz kap => ?_) (fun s1 h' hp hk => ?_)))
    · obtain ⟨j, rfl, q⟩ := sp
      obtain ⟨tj, rfl⟩ := rx
      rw [same eS cr] at q
      obtain ⟨eG, nl, bare, _⟩ := gst_get st'
      have e1 : s1.heap.get? S = some (lstO #[.int acc t] c) := by rw [ks S (List.mem_singleton.mpr rfl)]; exact eS
      have on : ∀ (s2 : Shared) (tk : Tok) (c2 : Nat) (st2 : Int), (st2 = 0 ∨ st2 = 2) → s2.os = s1.os → AllBare s2.gens → s2.gens[g]? = some gs' → (∀ b o, b ≠ S → s1.heap.get? b = some o → s2.heap.get? b = some o) → s2.heap.get? S = some (lstO #[.int (acc + j) tk] c2) →
          codeAny (model X.prog X.w) A (.builtin "sum.loop" ⟨[.ref a, .ref S, rawInt st2, rawInt 0], []⟩) R s2 := fun s2 tk c2 st2 h2 ho hbb hg2 kp e2 => by
        obtain ⟨n', hn, go'⟩ := kap (s2.setGen g .running) (acc + j) ⟨ho, allBare_setGen hbb rfl, fun b o hb e => kp b o (fun z => hb (by rw [z]; exact List.mem_singleton.mpr rfl)) e, fun b hb => by rw [List.mem_singleton.mp hb]; exact ⟨_, e2, fun v z => by cases z⟩⟩ ⟨tk, c2, e2⟩ q
        obtain rfl : n' = n := by omega
        refine ih s2 gs' (acc + j) tk c2 st2 h2 (kp a _ hSa eG) ?_ hg2 e2 go'
        obtain ⟨mc, hns, hnn⟩ := nl
        exact ⟨mc, hns.at' fun o e => kp _ o hSc e, hnn⟩
      rcases hst with rfl | rfl
      · show wpAny _ A.in1 (if (_ : Bool) = true then (mkInt (acc + j) >>= _) else _) _ _ _
        split
        · refine wpAny_bind (wpAny_mkInt ?_)
          show wpAny _ A.in1 (updateSeq S (fun _ => #[.int (acc + j) s1.toks]) >>= _) _ _ _
          refine wpAny_bind ?_
          refine wpAny_updateSeq e1 rfl (wpAny_pure ⟨plainId_quiet F.plain_sum_loop _, ?_⟩)
          exact on _ _ _ 0 (.inl rfl) rfl (allBare_setGen bare hb) (setGen_at hsz) (fun b o hb e => (Heap.get?_update_other _ _ (Ne.symm hb)).trans e) (Heap.get?_update_self _ e1 rfl)
        · refine wpAny_bind (wpAny_rule ?_)
          refine wpAny_bind (wpAny_attempt (wpAny_holding (wpAny_add_int ?_)))
          show wpAny _ A.in1 (updateSeq S (fun _ => #[.int (acc + j) s1.toks]) >>= _) _ _ _
          refine wpAny_bind (wpAny_updateSeq e1 rfl ?_)
          have e2 := Heap.get?_update_self (Obj.mapSeq fun _ => #[Value.int (acc + j) s1.toks]) e1 rfl
          refine wpAny_bind (wpAny_letGo ?_)
          refine wpAny_bind (wpAny_updateSeq e2 rfl (wpAny_pure ⟨plainId_quiet F.plain_sum_loop _, ?_⟩))
          exact on _ _ _ 2 (.inr rfl) rfl (allBare_setGen bare hb) (setGen_at hsz) (fun b o hb e => (Heap.get?_update_other _ _ (Ne.symm hb)).trans ((Heap.get?_update_other _ _ (Ne.symm hb)).trans e)) (Heap.get?_update_self _ e2 rfl)
      · show wpAny _ A.in1 ((holding [Value.int j tj] (binaryOp .Add (.int acc t) (.int j tj))).attempt >>= _) _ _ _
        refine wpAny_bind (wpAny_attempt (wpAny_holding (wpAny_add_int ?_)))
        show wpAny _ A.in1 (updateSeq S (fun _ => #[.int (acc + j) s1.toks]) >>= _) _ _ _
        refine wpAny_bind (wpAny_updateSeq e1 rfl ?_)
        have e2 := Heap.get?_update_self (Obj.mapSeq fun _ => #[Value.int (acc + j) s1.toks]) e1 rfl
        refine wpAny_bind (wpAny_letGo ?_)
        refine wpAny_bind (wpAny_updateSeq e2 rfl (wpAny_pure ⟨plainId_quiet F.plain_sum_loop _, ?_⟩))
        exact on _ _ _ 2 (.inr rfl) rfl (allBare_setGen bare hb) (setGen_at hsz) (fun b o hb e => (Heap.get?_update_other _ _ (Ne.symm hb)).trans ((Heap.get?_update_other _ _ (Ne.symm hb)).trans e)) (Heap.get?_update_self _ e2 rfl)
    · obtain ⟨acc', H, cp, _, I1, cr, ks, q⟩ := hp
      rw [same eS cr] at q
      exact wpAny_pure (hret (.int acc) _ H _ (M.back I1 rfl (allBare_setGen I1.bare rfl) hk) ⟨t, rfl⟩ q)
end
end GX

namespace GX
open PySem PySem.Spec PyProof.Rows L2 GenW
def tGx {α : Type} (a0 : α) (Stp : VK → Stps α) (Fin : VK → α → Hp → Prop) (tc : TC) (ti : TI) (g : TG) (tt : TT) (te : Value → TE) (vs : List Nat) : TE := fun σ H Q => ti σ H fun J H1 => tc σ H1 fun code H2 => ∃ W : Nat → Nat → α → Hp → Prop, (∃ m, W 0 m a0 H2) ∧ TurnsR (Stp Q) (Fin Q) J g tt (te code) vs σ W
/-- a rule that holds in the expression's frame, whichever it is -/
abbrev Fam (X : Cx) (k : Nat) (scope : Scope) (Pp : Cx → Value → Prop) : Prop := ∀ (B : Around) (s : Shared) (H : Hp) (code : Value) (fp : List Addr), Room k B → B.guards = X.A.guards → Pp (gcx X B s H scope (gEnv X scope s code) fp) code
def crMax (S : Addr) : Option Int → Heap → Prop
  | none, h => ∃ c, h.get? S = some (lstO #[] c)
  | some m, h => ∃ t c, h.get? S = some (lstO #[.int m t, .int m t] c)
def stMax (Q : VK) : Stps (Option Int) := fun acc y H N => ∃ i, y = .int i ∧ N (some (match acc with | none => i | some j => if j < i then i else j)) H
def stMin (Q : VK) : Stps (Option Int) := fun acc y H N => ∃ i, y = .int i ∧ N (some (match acc with | none => i | some j => if i < j then i else j)) H
def fiMax (Q : VK) : Option Int → Hp → Prop := fun acc H => ∃ m, acc = some m ∧ Q (.int m) H
section
variable {X : Cx} {pins : List (Addr × Obj)} {σ : L2.St} {tg elt iter : Expr} {ifs : List Expr} {more : List Comprehension} {scope : Scope} {gpos : Pos} {own : List (Str × Nat)} {J : It} {code : Value} {H3 : Hp} {s3 : Shared} {it : Addr} {fp : List Addr} {tn : Nat → Heap → Prop} {a : Addr} {g : Nat} {gob : Obj} {s5 : Shared} {fpY : List Addr} {tnY : Nat → Heap → Prop}
theorem crMax_none {S : Addr} {acc : Option Int} {h : Heap} {c : Nat} (e : h.get? S = some (lstO #[] c)) (x : crMax S acc h) : acc = none := by
  cases acc with
  | none => rfl
  | some m =>
    obtain ⟨t, c', e'⟩ := x
    rw [e] at e'
    cases e'
theorem crMax_some {S : Addr} {acc : Option Int} {h : Heap} {c : Nat} {m : Int} {t : Tok} (e : h.get? S = some (lstO #[.int m t, .int m t] c)) (x : crMax S acc h) : acc = some m := by
  cases acc with
  | none =>
    obtain ⟨c', e'⟩ := x
    rw [e] at e'
    cases e'
  | some m' =>
    obtain ⟨t', c', e'⟩ := x
    rw [e] at e'
    cases e'
    rfl
theorem Made.max_loop (M : Made X pins σ tg elt iter ifs more scope gpos own J code H3 s3 it fp tn a g gob s5) {A : Around} {σ0 : L2.St} {R : Result → Shared → Prop} {Q : VK} {S : Addr} (hh : A.handled = none) (hdp : A.depth < recursionLimit) (hSa : a ≠ S) (hSc : cStatics ≠ S) (hS5 : s3.heap.objs.size ≤ S)
    (hret : ∀ v u H s', Inv X pins σ H s' → RelV v u → Q v H → R (.ok (.ret u)) s') : ∀ (n : Nat) (s : Shared) (gs : GenState) (c : Nat), s.heap.get? a = some gob → s.heap.NoLimit → s.gens[g]? = some gs →
    (s.heap.get? S = some (lstO #[] c) ∨ ∃ m t, s.heap.get? S = some (lstO #[.int m t, .int m t] c)) →
    gs.Goes (model X.prog X.w) A.in1.in1 (RG (crMax S) (fiMax Q) (M.cx A.in1.in1) (a, gob) [S] σ0) (YG (crMax S) (stMax Q) (M.cx A.in1.in1) (a, gob) fpY tnY [S] σ0) n (.send .none) (s.setGen g .running) →
    codeAny (model X.prog X.w) A (.builtin "max.loop" ⟨[.ref a, .none, .ref S], []⟩) R s := by
  have hname : (toString "max" ++ toString ".loop" : String) = "max.loop" := by decide
  intro n
  induction n with
  | zero =>
    intro s gs c hG hl hgs eS hgo
    refine codeAny_builtin F.entry_max_loop ?_
    rw [Around.under_plainId F.plain_max_loop _]
    show wpAny _ A.in1 (seqItems? (.ref S) >>= _) _ _ s
    have dead : ∀ {o : Obj} {v : Value} {s1 : Shared} {i : Nat} {x : V} {acc : Option Int} {H : Hp} {Nx : Option Int → Hp → Prop} {gs' : GenState}, (∃ xs c2, o = lstO xs c2) → s1.heap.get? S = some o → GSt (M.cx A.in1.in1) (a, gob) fpY tnY [S] σ0 i H s1 → stMax Q acc x H Nx →
        (∀ s' acc', Slp [S] s1 s' → crMax S acc' s'.heap → Nx acc' H → ∃ n', 0 = n' + 1 ∧ gs'.Goes (model X.prog X.w) A.in1.in1 (RG (crMax S) (fiMax Q) (M.cx A.in1.in1) (a, gob) [S] σ0) (YG (crMax S) (stMax Q) (M.cx A.in1.in1) (a, gob) fpY tnY [S] σ0) n' (.send .none) s') → False := fun {o v s1 i x acc H Nx gs'} ho e1 st' sp kap => by
      obtain ⟨j, rfl, q⟩ := sp
      obtain ⟨xs, c2, rfl⟩ := ho
      obtain ⟨eG, nl, bare, _⟩ := gst_get st'
      generalize (match acc with | none => j | some k => if k < j then j else k) = m' at q
      have e2 := Heap.get?_update_self (Obj.mapSeq fun _ => #[Value.int m' 0, Value.int m' 0]) e1 rfl
      obtain ⟨n', hn, _⟩ := kap _ (some m') (slp_upd (g := g) (gs' := .running) (gs2 := .running) (tk := 0) bare rfl rfl e2 (fun v z => by cases z)) ⟨0, _, e2⟩ q
      omega
    rcases eS with eS | ⟨m, t, eS⟩
    · refine wpAny_bind (wpAny_seqItems eS rfl ?_)
      show wpAny _ A.in1 (tryCatch (pyNext (.ref a)) _ >>= _) _ _ s
      refine wpAny_bind (wpAny_tryCatch (M.next (A := A.in1) hh hdp hG hl hgs hgo (fun v s1 gs' i x acc' H Nx hb rx st' cr ks sp hsz kap => ?_) (fun s1 h' hp hk => ?_)))
      · exact (dead (v := v) ⟨_, _, rfl⟩ (by rw [ks S (List.mem_singleton.mpr rfl)]; exact eS) st' sp kap).elim
      · obtain ⟨acc', H, cp, _, I1, cr, ks, m, em, q⟩ := hp
        have := crMax_none (h := s.heap) eS cr
        rw [this] at em
        cases em
    · refine wpAny_bind (wpAny_seqItems eS rfl ?_)
      show wpAny _ A.in1 (tryCatch (pyNext (.ref a)) _ >>= _) _ _ s
      refine wpAny_bind (wpAny_tryCatch (M.next (A := A.in1) hh hdp hG hl hgs hgo (fun v s1 gs' i x acc' H Nx hb rx st' cr ks sp hsz kap => ?_) (fun s1 h' hp hk => ?_)))
      · exact (dead (v := v) ⟨_, _, rfl⟩ (by rw [ks S (List.mem_singleton.mpr rfl)]; exact eS) st' sp kap).elim
      · obtain ⟨acc', H, cp, ecp, I1, cr, ks, m', em, q⟩ := hp
        have := crMax_some (h := s.heap) eS cr
        rw [this] at em
        cases em
        have e1 : h'.get? S = some (lstO #[.int m t, .int m t] c) := hk _ _ (by rw [ks S (List.mem_singleton.mpr rfl)]; exact eS)
        have nS : H S = none := by
          have hm : S ∈ cp.map (·.1) := by rw [ecp]; exact List.mem_singleton.mpr rfl
          obtain ⟨p, hp, e⟩ := List.mem_map.mp hm
          rw [← e]
          exact (I1.pin p (List.mem_append_right _ (List.mem_cons_of_mem _ hp))).2.1
        show wpAny _ A.in1 (updateSeq S (fun _ => #[]) >>= _) _ _ _
        refine wpAny_bind ?_
        refine wpAny_updateSeq e1 rfl (wpAny_bind (wpAny_letGo (wpAny_pure ?_)))
        have J1 := M.back (s' := { s1.setGen g .finished with heap := h' }) I1 rfl (allBare_setGen I1.bare rfl) hk
        obtain ⟨f0, f1, f2, f3, f4, f5⟩ := M.inv.fpOk hS5 nS
        exact hret (.int m) _ H _ (J1.turned (t' := s1.toks) (fun b o hb e => (Heap.get?_update_other _ _ (Ne.symm hb)).trans e) f0 f1 f3 f4 f5) ⟨t, rfl⟩ q
  | succ n ih =>
    intro s gs c hG hl hgs eS hgo
    refine codeAny_builtin F.entry_max_loop ?_
    rw [Around.under_plainId F.plain_max_loop _]
    show wpAny _ A.in1 (seqItems? (.ref S) >>= _) _ _ s
    rcases eS with eS | ⟨m, t, eS⟩
    · refine wpAny_bind (wpAny_seqItems eS rfl ?_)
      show wpAny _ A.in1 (tryCatch (pyNext (.ref a)) _ >>= _) _ _ s
      refine wpAny_bind (wpAny_tryCatch (M.next (A := A.in1) hh hdp hG hl hgs hgo (fun v s1 gs' i x acc' H Nx hb rx st' cr ks sp hsz kap => ?_) (fun s1 h' hp hk => ?_)))
      · obtain ⟨j, rfl, q⟩ := sp
        obtain ⟨tj, rfl⟩ := rx
        rw [crMax_none (h := s.heap) eS cr] at q
        obtain ⟨eG, nl, bare, _⟩ := gst_get st'
        have e1 : s1.heap.get? S = some (lstO #[] c) := by rw [ks S (List.mem_singleton.mpr rfl)]; exact eS
        show wpAny _ A.in1 (updateSeq S (fun _ => #[.int j tj, .int j tj]) >>= _) _ _ _
        refine wpAny_bind ?_
        refine wpAny_updateSeq e1 rfl ?_
        have e2 := Heap.get?_update_self (Obj.mapSeq fun _ => #[Value.int j tj, Value.int j tj]) e1 rfl
        rw [hname]
        refine wpAny_pure ⟨plainId_quiet F.plain_max_loop _, ?_⟩
        obtain ⟨n', hn, go'⟩ := kap _ (some j) (slp_upd (g := g) (gs' := gs') (gs2 := .running) (tk := s1.toks) bare hb rfl e2 (fun v z => by cases z)) ⟨tj, _, e2⟩ q
        obtain rfl : n' = n := by omega
        refine ih { s1.setGen g gs' with heap := s1.heap.update S (Obj.mapSeq fun _ => #[Value.int j tj, Value.int j tj]) } gs' _ ((Heap.get?_update_other _ _ (Ne.symm hSa)).trans eG) ?_ (setGen_at hsz) (.inr ⟨j, tj, e2⟩) go'
        obtain ⟨mc, hns, hnn⟩ := nl
        exact ⟨mc, hns.at' fun o e => (Heap.get?_update_other _ _ (Ne.symm hSc)).trans e, hnn⟩
      · obtain ⟨acc', H, cp, _, I1, cr, ks, m, em, q⟩ := hp
        have := crMax_none (h := s.heap) eS cr
        rw [this] at em
        cases em
    · refine wpAny_bind (wpAny_seqItems eS rfl ?_)
      show wpAny _ A.in1 (tryCatch (pyNext (.ref a)) _ >>= _) _ _ s
      refine wpAny_bind (wpAny_tryCatch (M.next (A := A.in1) hh hdp hG hl hgs hgo (fun v s1 gs' i x acc' H Nx hb rx st' cr ks sp hsz kap => ?_) (fun s1 h' hp hk => ?_)))
      · obtain ⟨j, rfl, q⟩ := sp
        obtain ⟨tj, rfl⟩ := rx
        rw [crMax_some (h := s.heap) eS cr] at q
        obtain ⟨eG, nl, bare, _⟩ := gst_get st'
        have e1 : s1.heap.get? S = some (lstO #[.int m t, .int m t] c) := by rw [ks S (List.mem_singleton.mpr rfl)]; exact eS
        show wpAny _ A.in1 (tryCatch (holding [.int j tj, .int j tj] (richCompare .Gt (.int j tj) (.int m t) >>= _)) _ >>= _) _ _ _
        refine wpAny_bind (wpAny_tryCatch (wpAny_holding (wpAny_bind (P.gt_int ?_))))
        refine wpAny_bind (wpAny_holding (wpAny_truthy_bool ?_))
        refine wpAny_bind (wpAny_letGo (wpAny_pure ?_))
        by_cases hb' : m < j
        · rw [decide_eq_true hb']
          simp only [if_true]
          have q : Nx (some j) H := by
            have z : Nx (some (if m < j then j else m)) H := q
            rw [if_pos hb'] at z
            exact z
          refine wpAny_bind ?_
          refine wpAny_updateSeq e1 rfl (wpAny_bind (wpAny_letGo ?_))
          have e2 := Heap.get?_update_self (Obj.mapSeq fun _ => #[Value.int j tj, Value.int j tj]) e1 rfl
          rw [hname]
          refine wpAny_pure ⟨plainId_quiet F.plain_max_loop _, ?_⟩
          obtain ⟨n', hn, go'⟩ := kap _ (some j) (slp_upd (g := g) (gs' := gs') (gs2 := .running) (tk := s1.toks) bare hb rfl e2 (fun v z => by cases z)) ⟨tj, _, e2⟩ q
          obtain rfl : n' = n := by omega
          refine ih { s1.setGen g gs' with heap := s1.heap.update S (Obj.mapSeq fun _ => #[Value.int j tj, Value.int j tj]) } gs' _ ((Heap.get?_update_other _ _ (Ne.symm hSa)).trans eG) ?_ (setGen_at hsz) (.inr ⟨j, tj, e2⟩) go'
          obtain ⟨mc, hns, hnn⟩ := nl
          exact ⟨mc, hns.at' fun o e => (Heap.get?_update_other _ _ (Ne.symm hSc)).trans e, hnn⟩
        · rw [decide_eq_false hb']
          simp only [Bool.false_eq_true, if_false]
          have q : Nx (some m) H := by
            have z : Nx (some (if m < j then j else m)) H := q
            rw [if_neg hb'] at z
            exact z
          refine wpAny_bind (wpAny_letGo ?_)
          rw [hname]
          refine wpAny_pure ⟨plainId_quiet F.plain_max_loop _, ?_⟩
          obtain ⟨n', hn, go'⟩ := kap ((s1.setGen g gs').setGen g .running) (some m) ⟨rfl, allBare_setGen (s := s1.setGen g gs') (allBare_setGen bare hb) rfl, fun _ _ _ e => e, fun b hb => by rw [List.mem_singleton.mp hb]; exact ⟨_, e1, fun v z => by cases z⟩⟩ ⟨t, _, e1⟩ q
          obtain rfl : n' = n := by omega
          exact ih _ gs' _ eG nl (setGen_at hsz) (.inr ⟨m, t, e1⟩) go'
      · obtain ⟨acc', H, cp, ecp, I1, cr, ks, m', em, q⟩ := hp
        have := crMax_some (h := s.heap) eS cr
        rw [this] at em
        cases em
        have e1 : h'.get? S = some (lstO #[.int m t, .int m t] c) := hk _ _ (by rw [ks S (List.mem_singleton.mpr rfl)]; exact eS)
        have nS : H S = none := by
          have hm : S ∈ cp.map (·.1) := by rw [ecp]; exact List.mem_singleton.mpr rfl
          obtain ⟨p, hp, e⟩ := List.mem_map.mp hm
          rw [← e]
          exact (I1.pin p (List.mem_append_right _ (List.mem_cons_of_mem _ hp))).2.1
        show wpAny _ A.in1 (updateSeq S (fun _ => #[]) >>= _) _ _ _
        refine wpAny_bind ?_
        refine wpAny_updateSeq e1 rfl (wpAny_bind (wpAny_letGo (wpAny_pure ?_)))
        have J1 := M.back (s' := { s1.setGen g .finished with heap := h' }) I1 rfl (allBare_setGen I1.bare rfl) hk
        obtain ⟨f0, f1, f2, f3, f4, f5⟩ := M.inv.fpOk hS5 nS
        exact hret (.int m) _ H _ (J1.turned (t' := s1.toks) (fun b o hb e => (Heap.get?_update_other _ _ (Ne.symm hb)).trans e) f0 f1 f3 f4 f5) ⟨t, rfl⟩ q
end
end GX

namespace GX
open PySem PySem.Spec PyProof.Rows L2 GenW
section
variable {X : Cx} {tg elt iter : Expr} {ifs : List Expr} {scope : Scope} {gpos p pos : Pos} {own : List (Str × Nat)} {ti : TI} {tc : TC} {P0 : Addr} {k : Nat} {g' : TG} {tt : TT} {te : Value → TE}
theorem room_in {A : Around} (r : Room (k + 3) A) (e : Env) : Room k (A.in1.in1.deeper e) := ⟨r.hd, by have := r.dp; show A.depth + 1 + 3 * k + 5 < _; omega, by have := r.un; show A.units + 1 + 1 + 3 + 16 * k + 200 < _; omega⟩
theorem pe_allX (hr : Room (k + 3) X.A) (hN : X.N.Nodup) (glob : Gl X "all") (free : X.mg "all" = none) (BA : X.base.BuiltinsAt X.mg P0) (hi : PI X tg iter ti) (hpc : PC X gpos scope tc) (ok : GOk X.N X.env.scope scope own)
    (hg : Fam X k scope fun Y _ => PG Y tg g') (ht : Fam X k scope fun Y _ => PTs Y ifs tt) (he : Fam X k scope fun Y code => PE Y elt (te code)) (hs : ∀ v, genFold iter X.env v = pure v := by intro _; rfl)
    (one : starEach [.GeneratorExp elt [⟨tg, iter, ifs, 0⟩] scope gpos] X.env = [(false, eval (.GeneratorExp elt [⟨tg, iter, ifs, 0⟩] scope gpos) X.env)] := by rfl) :
    PE X (.Call (.Name "all" p) [.GeneratorExp elt [⟨tg, iter, ifs, 0⟩] scope gpos] [] pos) (tGx () stAll fiAll tc ti g' tt te (own.map (·.2))) := by
  constructor
  intro pins s σ H Q I h
  refine wpAny_Call_Name_kw (ld_blt I glob free (show bootBuiltins "all" = some (.builtin "all") by decide +kernel) (callWith_builtin1 ?_ one (by rfl)) (by decide) (by decide))
  rw [one]
  refine Calls.spliced_cons (gx_eval I hN hr hi hpc BA ok hs h fun J code H3 s3 it fp tn a g gob s5 want M => Calls.spliced_nil ?_)
  obtain ⟨W, ⟨m0, w0⟩, turn⟩ := want
  have hd : X.A.depth < recursionLimit := by have := hr.dp; omega
  have hB := M.bok (A := X.A.in1.in1) hr.hd I.ok.frames
  have I5 := M.sub _ hB
  have rm := room_in hr (gEnv X scope s3 code)
  refine call_function_tree F.kind_all F.plain_all F.entry_all (F.args_all1 _) ?_
  unfold Builtin.«all»
  refine wpAny_bind (m := oneArg "all" _) (wpAny_pure ?_)
  refine wpAny_bind (wpAny_pyIter_gen (M.isGen M.get) ?_)
  refine wpAny_pure ⟨plainId_quiet F.plain_all_loop _, M.all_loop (fpY := fp) (tnY := tn) (σ0 := wipe σ (own.map (·.2))) hr.hd hd (fun v u H s' I' r q => ⟨v, H, I', r, q⟩) (m0 + 1) s5 _ M.get I5.nolimit M.gen ?_⟩
  refine ⟨rfl, ?_⟩
  exact M.wake (A := X.A.in1.in1) (s2 := s5.setGen g .running) ok.co hr.hd I.ok.frames (hg _ _ _ _ _ rm rfl) (ht _ _ _ _ _ rm rfl) (he _ _ _ _ _ rm rfl) turn w0 (Nat.lt_succ_self _) rfl (allBare_setGen I5.bare rfl) (fun _ _ e => e) (fun _ h => nomatch h) trivial
theorem pe_anyX (hr : Room (k + 3) X.A) (hN : X.N.Nodup) (glob : Gl X "any") (free : X.mg "any" = none) (BA : X.base.BuiltinsAt X.mg P0) (hi : PI X tg iter ti) (hpc : PC X gpos scope tc) (ok : GOk X.N X.env.scope scope own)
    (hg : Fam X k scope fun Y _ => PG Y tg g') (ht : Fam X k scope fun Y _ => PTs Y ifs tt) (he : Fam X k scope fun Y code => PE Y elt (te code)) (hs : ∀ v, genFold iter X.env v = pure v := by intro _; rfl)
    (one : starEach [.GeneratorExp elt [⟨tg, iter, ifs, 0⟩] scope gpos] X.env = [(false, eval (.GeneratorExp elt [⟨tg, iter, ifs, 0⟩] scope gpos) X.env)] := by rfl) :
    PE X (.Call (.Name "any" p) [.GeneratorExp elt [⟨tg, iter, ifs, 0⟩] scope gpos] [] pos) (tGx () stAny fiAny tc ti g' tt te (own.map (·.2))) := by
  constructor
  intro pins s σ H Q I h
  refine wpAny_Call_Name_kw (ld_blt I glob free (show bootBuiltins "any" = some (.builtin "any") by decide +kernel) (callWith_builtin1 ?_ one (by rfl)) (by decide) (by decide))
  rw [one]
  refine Calls.spliced_cons (gx_eval I hN hr hi hpc BA ok hs h fun J code H3 s3 it fp tn a g gob s5 want M => Calls.spliced_nil ?_)
  obtain ⟨W, ⟨m0, w0⟩, turn⟩ := want
  have hd : X.A.depth < recursionLimit := by have := hr.dp; omega
  have hB := M.bok (A := X.A.in1.in1) hr.hd I.ok.frames
  have I5 := M.sub _ hB
  have rm := room_in hr (gEnv X scope s3 code)
  refine call_function_tree F.kind_any F.plain_any F.entry_any (F.args_any1 _) ?_
  unfold Builtin.«any»
  refine wpAny_bind (m := oneArg "any" _) (wpAny_pure ?_)
  refine wpAny_bind (wpAny_pyIter_gen (M.isGen M.get) ?_)
  refine wpAny_pure ⟨plainId_quiet F.plain_any_loop _, M.any_loop (fpY := fp) (tnY := tn) (σ0 := wipe σ (own.map (·.2))) hr.hd hd (fun v u H s' I' r q => ⟨v, H, I', r, q⟩) (m0 + 1) s5 _ M.get I5.nolimit M.gen ?_⟩
  refine ⟨rfl, ?_⟩
  exact M.wake (A := X.A.in1.in1) (s2 := s5.setGen g .running) ok.co hr.hd I.ok.frames (hg _ _ _ _ _ rm rfl) (ht _ _ _ _ _ rm rfl) (he _ _ _ _ _ rm rfl) turn w0 (Nat.lt_succ_self _) rfl (allBare_setGen I5.bare rfl) (fun _ _ e => e) (fun _ h => nomatch h) trivial
theorem pe_sumX (hr : Room (k + 3) X.A) (hN : X.N.Nodup) (glob : Gl X "sum") (free : X.mg "sum" = none) (BA : X.base.BuiltinsAt X.mg P0) (hi : PI X tg iter ti) (hpc : PC X gpos scope tc) (ok : GOk X.N X.env.scope scope own)
    (hg : Fam X k scope fun Y _ => PG Y tg g') (ht : Fam X k scope fun Y _ => PTs Y ifs tt) (he : Fam X k scope fun Y code => PE Y elt (te code)) (hs : ∀ v, genFold iter X.env v = pure v := by intro _; rfl)
    (one : starEach [.GeneratorExp elt [⟨tg, iter, ifs, 0⟩] scope gpos] X.env = [(false, eval (.GeneratorExp elt [⟨tg, iter, ifs, 0⟩] scope gpos) X.env)] := by rfl) :
    PE X (.Call (.Name "sum" p) [.GeneratorExp elt [⟨tg, iter, ifs, 0⟩] scope gpos] [] pos) (tGx 0 stSum fiSum tc ti g' tt te (own.map (·.2))) := by
  constructor
  intro pins s σ H Q I h
  refine wpAny_Call_Name_kw (ld_blt I glob free (show bootBuiltins "sum" = some (.builtin "sum") by decide +kernel) (callWith_builtin1 ?_ one (by rfl)) (by decide) (by decide))
  rw [one]
  refine Calls.spliced_cons (gx_eval I hN hr hi hpc BA ok hs h fun J code H3 s3 it fp tn a g gob s5 want M => Calls.spliced_nil ?_)
  obtain ⟨W, ⟨m0, w0⟩, turn⟩ := want
  have hd : X.A.depth < recursionLimit := by have := hr.dp; omega
  have hB := M.bok (A := X.A.in1.in1) hr.hd I.ok.frames
  have I5 := M.sub _ hB
  have rm := room_in hr (gEnv X scope s3 code)
  have hSc : cStatics < s5.heap.objs.size := let ⟨_, hn, _⟩ := I5.nolimit; hn.lt
  refine call_function_tree F.kind_sum F.plain_sum F.entry_sum (F.args_sum1 _) ?_
  unfold Builtin.«sum»
  simp only [List.length_cons, List.length_nil]
  rw [if_neg (by decide)]
  refine wpAny_bind (wpAny_of_eq (show Builtin.Builtins.bindParams "sum" ["start"] 0 { } = pure [none] from rfl) ?_)
  refine wpAny_bind (wpAny_pyIter_gen (M.isGen M.get) ?_)
  refine wpAny_bind (wpAny_mkInt ?_)
  refine wpAny_bind (wpAny_pure ?_)
  simp only [List.forIn_cons, List.forIn_nil]
  refine wpAny_bind (wpAny_bind (wpAny_bind (wpAny_isInstance (T := "int") (b := false) (typeIs_int _ _ _) PySem.sub_int_str ?_)))
  simp only [Bool.false_eq_true, if_false]
  refine wpAny_pure (wpAny_bind (wpAny_bind (wpAny_isInstance (T := "int") (b := false) (typeIs_int _ _ _) PySem.sub_int_bytes ?_)))
  simp only [Bool.false_eq_true, if_false]
  refine wpAny_pure (wpAny_bind (wpAny_bind (wpAny_isInstance (T := "int") (b := false) (typeIs_int _ _ _) PySem.sub_int_bytearray ?_)))
  simp only [Bool.false_eq_true, if_false]
  refine wpAny_pure (wpAny_pure ?_)
  refine wpAny_bind (wpAny_newObj_type ?_)
  have eS : ({ s5 with heap := s5.heap.push { cls := .type "list", data := .seq #[Value.int 0 s5.toks] }, toks := s5.toks + 1 } : Shared).heap.get? s5.heap.objs.size = some (lstO #[.int 0 s5.toks] 0) := Heap.get?_push_size _ rfl
  have kp : ∀ b o, s5.heap.get? b = some o → (s5.heap.push { cls := .type "list", data := .seq #[Value.int 0 s5.toks] }).get? b = some o := fun b o e => Heap.get?_push_of_some _ e
  have al : a < s5.heap.objs.size := Heap.lt_size M.get
  refine wpAny_pure ⟨plainId_quiet F.plain_sum_loop _, M.sum_loop (fpY := fp) (tnY := tn) (σ0 := wipe σ (own.map (·.2))) hr.hd hd (Nat.ne_of_lt al) (Nat.ne_of_lt hSc) (fun v u H s' I' r q => ⟨v, H, I', r, q⟩) (m0 + 1) _ _ 0 _ 0 0 (.inl rfl) (kp _ _ M.get) (I5.nolimit.keeps kp) M.gen eS ?_⟩
  refine ⟨rfl, ?_⟩
  refine M.wake (A := X.A.in1.in1) ok.co hr.hd I.ok.frames (hg _ _ _ _ _ rm rfl) (ht _ _ _ _ _ rm rfl) (he _ _ _ _ _ rm rfl) turn w0 (Nat.lt_succ_self _) rfl (allBare_setGen (s := { s5 with heap := _, toks := _ }) I5.bare rfl) kp (fun b hb => ?_) ⟨_, _, eS⟩
  rw [List.mem_singleton.mp hb]
  exact ⟨Nat.le_refl _, _, eS, fun v z => by cases z⟩
theorem pe_maxX (hr : Room (k + 3) X.A) (hN : X.N.Nodup) (glob : Gl X "max") (free : X.mg "max" = none) (BA : X.base.BuiltinsAt X.mg P0) (hi : PI X tg iter ti) (hpc : PC X gpos scope tc) (ok : GOk X.N X.env.scope scope own)
    (hg : Fam X k scope fun Y _ => PG Y tg g') (ht : Fam X k scope fun Y _ => PTs Y ifs tt) (he : Fam X k scope fun Y code => PE Y elt (te code)) (hs : ∀ v, genFold iter X.env v = pure v := by intro _; rfl)
    (one : starEach [.GeneratorExp elt [⟨tg, iter, ifs, 0⟩] scope gpos] X.env = [(false, eval (.GeneratorExp elt [⟨tg, iter, ifs, 0⟩] scope gpos) X.env)] := by rfl) :
    PE X (.Call (.Name "max" p) [.GeneratorExp elt [⟨tg, iter, ifs, 0⟩] scope gpos] [] pos) (tGx none stMax fiMax tc ti g' tt te (own.map (·.2))) := by
  constructor
  intro pins s σ H Q I h
  have hname : (toString "max" ++ toString ".loop" : String) = "max.loop" := by decide
  refine wpAny_Call_Name_kw (ld_blt I glob free (show bootBuiltins "max" = some (.builtin "max") by decide +kernel) (callWith_builtin1 ?_ one (by rfl)) (by decide) (by decide))
  rw [one]
  refine Calls.spliced_cons (gx_eval I hN hr hi hpc BA ok hs h fun J code H3 s3 it fp tn a g gob s5 want M => Calls.spliced_nil ?_)
  obtain ⟨W, ⟨m0, w0⟩, turn⟩ := want
  have hd : X.A.depth < recursionLimit := by have := hr.dp; omega
  have hB := M.bok (A := X.A.in1.in1) hr.hd I.ok.frames
  have I5 := M.sub _ hB
  have rm := room_in hr (gEnv X scope s3 code)
  have hSc : cStatics < s5.heap.objs.size := let ⟨_, hn, _⟩ := I5.nolimit; hn.lt
  refine call_function_tree F.kind_max F.plain_max F.entry_max (F.args_max1 _) ?_
  show wpAny _ X.A.in1 (Builtin.Builtins.bindParams "max" ["key", "default"] 0 ⟨[], []⟩ >>= _) _ _ _
  refine wpAny_bind (wpAny_of_eq (show Builtin.Builtins.bindParams "max" ["key", "default"] 0 ⟨[], []⟩ = pure [none, none] from rfl) ?_)
  refine wpAny_bind (wpAny_pure ?_)
  refine wpAny_bind (wpAny_pyIter_gen (M.isGen M.get) ?_)
  refine wpAny_bind (wpAny_newObj_type ?_)
  have eS : ({ s5 with heap := s5.heap.push { cls := .type "list", data := .seq #[] } } : Shared).heap.get? s5.heap.objs.size = some (lstO #[] 0) := Heap.get?_push_size _ rfl
  have kp : ∀ b o, s5.heap.get? b = some o → (s5.heap.push { cls := .type "list", data := .seq #[] }).get? b = some o := fun b o e => Heap.get?_push_of_some _ e
  have al : a < s5.heap.objs.size := Heap.lt_size M.get
  rw [hname]
  refine wpAny_pure ⟨plainId_quiet F.plain_max_loop _, M.max_loop (fpY := fp) (tnY := tn) (σ0 := wipe σ (own.map (·.2))) hr.hd hd (Nat.ne_of_lt al) (Nat.ne_of_lt hSc) I5.sz (fun v u H s' I' r q => ⟨v, H, I', r, q⟩) (m0 + 1) _ _ 0 (kp _ _ M.get) (I5.nolimit.keeps kp) M.gen (.inl eS) ?_⟩
  refine ⟨rfl, ?_⟩
  refine M.wake (A := X.A.in1.in1) ok.co hr.hd I.ok.frames (hg _ _ _ _ _ rm rfl) (ht _ _ _ _ _ rm rfl) (he _ _ _ _ _ rm rfl) turn w0 (Nat.lt_succ_self _) rfl (allBare_setGen (s := { s5 with heap := _ }) I5.bare rfl) kp (fun b hb => ?_) ⟨_, eS⟩
  rw [List.mem_singleton.mp hb]
  exact ⟨Nat.le_refl _, _, eS, fun v z => by cases z⟩
end
end GX

namespace GX
open PySem PySem.Spec PyProof.Rows L2 GenW
section
variable {J : It} {n : Nat} {G : Hp → Prop} {Y : Nat → Hp → V → Hp → Prop} {g : TG} {tt : TT} {te : TE} {vs : List Nat} {σ : L2.St} {Q : VK} {H2 : Hp}
theorem turns_all (w : Walk J n G Y) (fb : Nat → Bool) (Iv : Hp → Prop) (h0 : Iv H2) (hG : ∀ H, Iv H → G H)
    (turn : ∀ i x H H' (Kt : V → Hp → Prop) (Kn : Hp → Prop), i < n → Iv H → Y i H x H' → (∀ H4, Iv H4 → Kt (.bl (fb i)) H4) → (fb i = true → ∀ H4, Iv H4 → Kn H4) → g x (wipe σ vs) H' fun σ2 H2 => wipe σ2 vs = wipe σ vs ∧ tt σ2 H2 fun b H3 => if b = true then te σ2 H3 Kt else Kn H3)
    (fin : ∀ H b, Iv H → (b = true ↔ ∀ i, i < n → fb i = true) → Q (.bl b) H) : ∃ W : Nat → Nat → Unit → Hp → Prop, (∃ m, W 0 m () H2) ∧ TurnsR (stAll Q) (fiAll Q) J g tt te vs σ W := by
  refine ⟨fun i m _ H => m = n - i ∧ i ≤ n ∧ Iv H ∧ ∀ j, j < i → fb j = true, ⟨n, by simp, Nat.zero_le _, h0, fun j h => absurd h (Nat.not_lt_zero _)⟩, ?_⟩
  rintro i m _ H ⟨rfl, hi, iv, al⟩
  have q := hG H iv
  by_cases hlt : i < n
  · refine .inr ⟨w.goes i H hlt q, fun _ H' => Iv H' ∧ fb i = true, fun _ H' ⟨z1, z2⟩ => ⟨n - (i + 1), by omega, rfl, hlt, z1, fun j hj => ?_⟩, fun x H' y => turn i x H H' _ _ hlt iv (w.yields i H x H' hlt q y) (fun H4 iv4 => ⟨fb i, rfl, ?_⟩) (fun e H4 iv4 => ⟨iv4, e⟩)⟩
    · by_cases e : j = i
      · rw [e]; exact z2
      · exact al j (by omega)
    · cases e : fb i with
      | true => rw [if_pos rfl]; exact ⟨iv4, rfl⟩
      | false =>
        rw [if_neg Bool.false_ne_true]
        refine fin H4 false iv4 ⟨(fun z => nomatch z), fun z => ?_⟩
        rw [z i hlt] at e
        cases e
  · have e : i = n := by omega
    subst e
    exact .inl ⟨w.stops H q, fin H true iv ⟨fun _ j hj => al j hj, fun _ => rfl⟩⟩
theorem turns_any (w : Walk J n G Y) (fb : Nat → Bool) (Iv : Hp → Prop) (h0 : Iv H2) (hG : ∀ H, Iv H → G H)
    (turn : ∀ i x H H' (Kt : V → Hp → Prop) (Kn : Hp → Prop), i < n → Iv H → Y i H x H' → (∀ H4, Iv H4 → Kt (.bl (fb i)) H4) → (fb i = false → ∀ H4, Iv H4 → Kn H4) → g x (wipe σ vs) H' fun σ2 H2 => wipe σ2 vs = wipe σ vs ∧ tt σ2 H2 fun b H3 => if b = true then te σ2 H3 Kt else Kn H3)
    (fin : ∀ H b, Iv H → (b = true ↔ ∃ i, i < n ∧ fb i = true) → Q (.bl b) H) : ∃ W : Nat → Nat → Unit → Hp → Prop, (∃ m, W 0 m () H2) ∧ TurnsR (stAny Q) (fiAny Q) J g tt te vs σ W := by
  refine ⟨fun i m _ H => m = n - i ∧ i ≤ n ∧ Iv H ∧ ∀ j, j < i → fb j = false, ⟨n, by simp, Nat.zero_le _, h0, fun j h => absurd h (Nat.not_lt_zero _)⟩, ?_⟩
  rintro i m _ H ⟨rfl, hi, iv, al⟩
  have q := hG H iv
  by_cases hlt : i < n
  · refine .inr ⟨w.goes i H hlt q, fun _ H' => Iv H' ∧ fb i = false, fun _ H' ⟨z1, z2⟩ => ⟨n - (i + 1), by omega, rfl, hlt, z1, fun j hj => ?_⟩, fun x H' y => turn i x H H' _ _ hlt iv (w.yields i H x H' hlt q y) (fun H4 iv4 => ⟨fb i, rfl, ?_⟩) (fun e H4 iv4 => ⟨iv4, e⟩)⟩
    · by_cases e : j = i
      · rw [e]; exact z2
      · exact al j (by omega)
    · cases e : fb i with
      | true => rw [if_pos rfl]; exact fin H4 true iv4 ⟨fun _ => ⟨i, hlt, e⟩, fun _ => rfl⟩
      | false => rw [if_neg Bool.false_ne_true]; exact ⟨iv4, rfl⟩
  · have e : i = n := by omega
    subst e
    refine .inl ⟨w.stops H q, fin H false iv ⟨(fun z => nomatch z), fun ⟨j, hj, z⟩ => ?_⟩⟩
    rw [al j hj] at z
    cases z
theorem turns_sum (w : Walk J n G Y) (v : Nat → Int) (Iv : Hp → Prop) (h0 : Iv H2) (hG : ∀ H, Iv H → G H)
    (turn : ∀ i x H H' (Kt : V → Hp → Prop) (Kn : Hp → Prop), i < n → Iv H → Y i H x H' → (∀ H4, Iv H4 → Kt (.int (v i)) H4) → (v i = 0 → ∀ H4, Iv H4 → Kn H4) → g x (wipe σ vs) H' fun σ2 H2 => wipe σ2 vs = wipe σ vs ∧ tt σ2 H2 fun b H3 => if b = true then te σ2 H3 Kt else Kn H3)
    (fin : ∀ H, Iv H → Q (.int (preSum v n)) H) : ∃ W : Nat → Nat → Int → Hp → Prop, (∃ m, W 0 m 0 H2) ∧ TurnsR (stSum Q) (fiSum Q) J g tt te vs σ W := by
  refine ⟨fun i m acc H => m = n - i ∧ i ≤ n ∧ Iv H ∧ acc = preSum v i, ⟨n, by simp, Nat.zero_le _, h0, rfl⟩, ?_⟩
  rintro i m acc H ⟨rfl, hi, iv, rfl⟩
  have q := hG H iv
  by_cases hlt : i < n
  · refine .inr ⟨w.goes i H hlt q, fun acc' H' => Iv H' ∧ acc' = preSum v (i + 1), fun acc' H' ⟨z1, z2⟩ => ⟨n - (i + 1), by omega, rfl, hlt, z1, z2⟩, fun x H' y => turn i x H H' _ _ hlt iv (w.yields i H x H' hlt q y) (fun H4 iv4 => ⟨v i, rfl, iv4, rfl⟩) (fun e H4 iv4 => ⟨iv4, ?_⟩)⟩
    show preSum v i = preSum v i + v i
    omega
  · have e : i = n := by omega
    subst e
    exact .inl ⟨w.stops H q, fin H iv⟩
theorem turns_max (w : Walk J n G Y) (v : Nat → Int) (hn : 0 < n) (Iv : Hp → Prop) (h0 : Iv H2) (hG : ∀ H, Iv H → G H)
    (turn : ∀ i x H H' (Kt : V → Hp → Prop) (Kn : Hp → Prop), i < n → Iv H → Y i H x H' → (∀ H4, Iv H4 → Kt (.int (v i)) H4) → g x (wipe σ vs) H' fun σ2 H2 => wipe σ2 vs = wipe σ vs ∧ tt σ2 H2 fun b H3 => if b = true then te σ2 H3 Kt else Kn H3)
    (fin : ∀ H m, Iv H → (∃ i, i < n ∧ v i = m) → (∀ i, i < n → v i ≤ m) → Q (.int m) H) : ∃ W : Nat → Nat → Option Int → Hp → Prop, (∃ m, W 0 m none H2) ∧ TurnsR (stMax Q) (fiMax Q) J g tt te vs σ W := by
  refine ⟨fun i m acc H => m = n - i ∧ i ≤ n ∧ Iv H ∧ ((i = 0 ∧ acc = none) ∨ ∃ k, acc = some k ∧ (∃ j, j < i ∧ v j = k) ∧ ∀ j, j < i → v j ≤ k), ⟨n, by simp, Nat.zero_le _, h0, .inl ⟨rfl, rfl⟩⟩, ?_⟩
  rintro i m acc H ⟨rfl, hi, iv, hacc⟩
  have q := hG H iv
  by_cases hlt : i < n
  · refine .inr ⟨w.goes i H hlt q, fun acc' H' => Iv H' ∧ ∃ k, acc' = some k ∧ (∃ j, j < i + 1 ∧ v j = k) ∧ ∀ j, j < i + 1 → v j ≤ k, fun acc' H' ⟨z1, z2⟩ => ⟨n - (i + 1), by omega, rfl, hlt, z1, .inr z2⟩, fun x H' y => turn i x H H' _ _ hlt iv (w.yields i H x H' hlt q y) (fun H4 iv4 => ⟨v i, rfl, iv4, ?_⟩)⟩
    rcases hacc with ⟨rfl, rfl⟩ | ⟨k, rfl, ⟨j, hj, ej⟩, al⟩
    · exact ⟨v 0, rfl, ⟨0, by omega, rfl⟩, fun j hj => by
        have e : j = 0 := by omega
        rw [e]
        exact Int.le_refl _⟩
    · refine ⟨_, rfl, ?_, fun j' hj' => ?_⟩
      · by_cases c : k < v i
        · exact ⟨i, by omega, (if_pos c).symm⟩
        · exact ⟨j, by omega, by rw [ej]; exact (if_neg c).symm⟩
      · show v j' ≤ if k < v i then v i else k
        by_cases e : j' = i
        · rw [e]; split <;> omega
        · have := al j' (by omega)
          split <;> omega
  · have e : i = n := by omega
    subst e
    rcases hacc with ⟨e, _⟩ | ⟨k, rfl, hk, al⟩
    · omega
    · exact .inl ⟨w.stops H q, k, rfl, fin H k iv hk al⟩
end
end GX

/-! ### samples: what is fewest -/
theorem ris_last {lo : Int} : ∀ {rs : List (Int × Int)} {q : Int × Int}, Ris lo (rs ++ [q]) → ∀ n, InS (rs ++ [q]) n → n ≤ q.2 := fun {rs q} h n hn => by
  obtain ⟨_, h2, _, h4⟩ := Ris.front h
  rcases inS_append.mp hn with ⟨p, hp, e1, e2⟩ | ⟨p, hp, e1, e2⟩
  · have := h2 p hp; omega
  · rw [List.mem_singleton.mp hp] at e2; exact e2
/-- the least and the greatest of a set -/
theorem told_ends {pr : Int → Prop} {rs : List (Int × Int)} (h : Told pr rs) (hne : rs ≠ []) : ∃ p q : Int × Int, rs[0]? = some p ∧ rs[rs.length - 1]? = some q ∧ pr p.1 ∧ pr q.2 ∧ ∀ n, pr n → p.1 ≤ n ∧ n ≤ q.2 := by
  obtain ⟨lo, hr⟩ := h.ris
  have hl := List.dropLast_concat_getLast hne
  cases rs with
  | nil => exact absurd rfl hne
  | cons p r =>
    refine ⟨p, (p :: r).getLast hne, rfl, ?_, ?_, ?_, fun n hn => ?_⟩
    · rw [← List.getLast?_eq_getElem?, List.getLast?_eq_some_getLast hne]
    · exact (h.same _).mp ⟨p, List.mem_cons_self .., Int.le_refl _, hr.2.1⟩
    · refine (h.same _).mp ⟨_, List.getLast_mem hne, ?_, Int.le_refl _⟩
      rw [← hl] at hr
      exact (Ris.front hr).2.2.2
    · have hi := (h.same n).mpr hn
      refine ⟨?_, ?_⟩
      · rcases inS_cons.mp hi with z | z
        · exact z.1
        · have := hr.2.2.low z
          have := hr.2.1
          omega
      · rw [← hl] at hr hi
        exact ris_last hr n hi
theorem told_nil {pr : Int → Prop} {rs : List (Int × Int)} (h : Told pr rs) : rs = [] ↔ ∀ n, ¬ pr n := by
  constructor
  · intro e n hn
    have := (h.same n).mpr hn
    rw [e] at this
    exact inS_nil this
  · intro hn
    cases rs with
    | nil => rfl
    | cons p r =>
      obtain ⟨lo, hr⟩ := h.ris
      exact absurd ((h.same p.1).mp ⟨p, List.mem_cons_self .., Int.le_refl _, hr.2.1⟩) (hn _)
/-- the numbers taken so far, the runs that asked for them -/
structure Gr (L : Nat → Int × Int) (os : List Nat) (ns : List Int) (ch : List Nat) : Prop where
  map : ns = ch.map fun i => (L i).2
  sub : ∀ i ∈ ch, i ∈ os
  chain : ch.Pairwise fun i j => (L i).2 < (L j).1
  hit : ∀ i ∈ os, ∃ e ∈ ns, (L i).1 ≤ e ∧ e ≤ (L i).2
  inc : ns.Pairwise (· < ·)
theorem Gr.nil (L : Nat → Int × Int) : Gr L [] [] [] := ⟨rfl, (fun _ h => nomatch h), .nil, (fun _ h => nomatch h), .nil⟩
theorem Gr.skip {L : Nat → Int × Int} {os : List Nat} {ns : List Int} {ch : List Nat} {i : Nat} {e : Int} (g : Gr L os ns ch) (hm : ∀ j ∈ os, (L j).2 ≤ (L i).2) (he : e ∈ ns) (hi : (L i).1 ≤ e) : Gr L (os ++ [i]) ns ch := by
  refine ⟨g.map, fun j hj => List.mem_append_left _ (g.sub j hj), g.chain, fun j hj => ?_, g.inc⟩
  rcases List.mem_append.mp hj with z | z
  · exact g.hit j z
  · rw [List.mem_singleton.mp z]
    refine ⟨e, he, hi, ?_⟩
    rw [g.map] at he
    obtain ⟨j, hj, rfl⟩ := List.mem_map.mp he
    exact hm j (g.sub j hj)
theorem Gr.take {L : Nat → Int × Int} {os : List Nat} {ns : List Int} {ch : List Nat} {i : Nat} (g : Gr L os ns ch) (hi : (L i).1 ≤ (L i).2) (lt : ∀ e ∈ ns, e < (L i).1) : Gr L (os ++ [i]) (ns ++ [(L i).2]) (ch ++ [i]) := by
  refine ⟨by rw [g.map, List.map_append]; rfl, fun j hj => ?_, ?_, fun j hj => ?_, ?_⟩
  · rcases List.mem_append.mp hj with z | z
    · exact List.mem_append_left _ (g.sub j z)
    · exact List.mem_append_right _ z
  · rw [List.pairwise_append]
    refine ⟨g.chain, List.pairwise_singleton _ _, fun a ha b hb => ?_⟩
    rw [List.mem_singleton.mp hb]
    exact lt _ (by rw [g.map]; exact List.mem_map_of_mem ha)
  · rcases List.mem_append.mp hj with z | z
    · obtain ⟨e, he, h1⟩ := g.hit j z
      exact ⟨e, List.mem_append_left _ he, h1⟩
    · rw [List.mem_singleton.mp z]
      exact ⟨_, List.mem_append_right _ (List.mem_singleton.mpr rfl), hi, Int.le_refl _⟩
  · rw [List.pairwise_append]
    refine ⟨g.inc, List.pairwise_singleton _ _, fun a ha b hb => ?_⟩
    rw [List.mem_singleton.mp hb]
    have := lt a ha
    omega
theorem chain_some {L : Nat → Int × Int} {row : List Int} : ∀ {ch : List Nat}, ch.Pairwise (fun i j => (L i).2 < (L j).1) → (∀ i ∈ ch, ∃ e ∈ row, (L i).1 ≤ e ∧ e ≤ (L i).2) → ∃ es : List Int, es.length = ch.length ∧ (∀ e ∈ es, e ∈ row) ∧ es.Pairwise (· < ·) ∧ ∀ e ∈ es, ∃ i ∈ ch, (L i).1 ≤ e
  | [], _, _ => ⟨[], rfl, (fun _ h => nomatch h), .nil, (fun _ h => nomatch h)⟩
  | i :: ch, hc, h => by
    obtain ⟨h1, h2⟩ := List.pairwise_cons.mp hc
    obtain ⟨es, l, a, b, c⟩ := chain_some h2 fun j hj => h j (List.mem_cons_of_mem _ hj)
    obtain ⟨e, he, e1, e2⟩ := h i (List.mem_cons_self ..)
    refine ⟨e :: es, by rw [List.length_cons, List.length_cons, l], fun x hx => ?_, List.pairwise_cons.mpr ⟨fun x hx => ?_, b⟩, fun x hx => ?_⟩
    · rcases List.mem_cons.mp hx with z | z
      · rw [z]; exact he
      · exact a x z
    · obtain ⟨j, hj, lj⟩ := c x hx
      have := h1 j hj
      omega
    · rcases List.mem_cons.mp hx with z | z
      · exact ⟨i, List.mem_cons_self .., by rw [z]; exact e1⟩
      · obtain ⟨j, hj, lj⟩ := c x z
        exact ⟨j, List.mem_cons_of_mem _ hj, lj⟩
theorem Gr.low {L : Nat → Int × Int} {os : List Nat} {ns : List Int} {ch : List Nat} (g : Gr L os ns ch) {row : List Int} (h : ∀ i ∈ os, ∃ e ∈ row, (L i).1 ≤ e ∧ e ≤ (L i).2) : ns.length ≤ row.length := by
  obtain ⟨es, l, a, b, _⟩ := chain_some g.chain fun i hi => h i (g.sub i hi)
  rw [g.map, List.length_map, ← l]
  exact nodup_len (List.Pairwise.imp (fun z => by omega) b) a
/-- every choice among so many numbers -/
def rowsF (fr : List Int) : List (List Int) := fr.foldl (fun some n => some ++ some.map (· ++ [n])) [[]]
theorem rowsF_snoc (fr : List Int) (n : Int) : rowsF (fr ++ [n]) = rowsF fr ++ (rowsF fr).map (· ++ [n]) := by simp [rowsF]
theorem rows_from : ∀ (fr : List Int) (acc : List (List Int)) (row : List Int), row ∈ fr.foldl (fun some n => some ++ some.map (· ++ [n])) acc → ∃ r ∈ acc, ∃ s, row = r ++ s ∧ ∀ e ∈ s, e ∈ fr
  | [], _, row, h => ⟨row, h, [], by simp, fun _ h => nomatch h⟩
  | n :: fr, acc, row, h => by
    obtain ⟨r, hr, s, e, hs⟩ := rows_from fr _ row h
    rcases List.mem_append.mp hr with z | z
    · exact ⟨r, z, s, e, fun x hx => List.mem_cons_of_mem _ (hs x hx)⟩
    · obtain ⟨r', hr', rfl⟩ := List.mem_map.mp z
      refine ⟨r', hr', n :: s, by rw [e]; simp, fun x hx => ?_⟩
      rcases List.mem_cons.mp hx with y | y
      · rw [y]; exact List.mem_cons_self ..
      · exact List.mem_cons_of_mem _ (hs x y)
theorem rows_mem {fr row : List Int} (h : row ∈ rowsF fr) : ∀ e ∈ row, e ∈ fr := by
  obtain ⟨r, hr, s, rfl, hs⟩ := rows_from fr _ row h
  rw [List.mem_singleton.mp hr]
  exact hs
theorem rows_all (p : Int → Bool) : ∀ (fr : List Int) (acc : List (List Int)) (r : List Int), r ∈ acc → r ++ fr.filter p ∈ fr.foldl (fun some n => some ++ some.map (· ++ [n])) acc
  | [], _, r, h => by simpa using h
  | n :: fr, acc, r, h => by
    by_cases hp : p n = true
    · rw [List.filter_cons_of_pos hp, show r ++ n :: fr.filter p = (r ++ [n]) ++ fr.filter p by simp]
      exact rows_all p fr _ _ (List.mem_append_right _ (List.mem_map_of_mem h))
    · rw [List.filter_cons_of_neg hp]
      exact rows_all p fr _ _ (List.mem_append_left _ h)
theorem rows_filter (fr : List Int) (p : Int → Bool) : fr.filter p ∈ rowsF fr := by
  have := rows_all p fr [[]] [] (List.mem_singleton.mpr rfl)
  rw [List.nil_append] at this
  exact this
theorem inc_eq : ∀ {l m : List Int}, l.Pairwise (· < ·) → m.Pairwise (· < ·) → (∀ x, x ∈ l ↔ x ∈ m) → l = m
  | [], [], _, _, _ => rfl
  | [], y :: m, _, _, h => absurd ((h y).mpr (List.mem_cons_self ..)) (List.not_mem_nil)
  | x :: l, [], _, _, h => absurd ((h x).mp (List.mem_cons_self ..)) (List.not_mem_nil)
  | x :: l, y :: m, hl, hm, h => by
    obtain ⟨l1, l2⟩ := List.pairwise_cons.mp hl
    obtain ⟨m1, m2⟩ := List.pairwise_cons.mp hm
    have exy : x = y := by
      rcases List.mem_cons.mp ((h x).mp (List.mem_cons_self ..)) with z | z
      · exact z
      · rcases List.mem_cons.mp ((h y).mpr (List.mem_cons_self ..)) with w | w
        · exact w.symm
        · have := m1 x z
          have := l1 y w
          omega
    subst exy
    rw [inc_eq l2 m2 fun z => ⟨fun hz => ?_, fun hz => ?_⟩]
    · rcases List.mem_cons.mp ((h z).mp (List.mem_cons_of_mem _ hz)) with w | w
      · have := l1 z hz
        omega
      · exact w
    · rcases List.mem_cons.mp ((h z).mpr (List.mem_cons_of_mem _ hz)) with w | w
      · have := m1 z hz
        omega
      · exact w
theorem rows_inc {fr ns : List Int} (hf : fr.Pairwise (· < ·)) (hn : ns.Pairwise (· < ·)) (h : ∀ e ∈ ns, e ∈ fr) : ns ∈ rowsF fr := by
  have e : fr.filter (fun x => decide (x ∈ ns)) = ns := inc_eq (List.Pairwise.filter _ hf) hn fun x => by
    rw [List.mem_filter, decide_eq_true_iff]
    exact ⟨fun z => z.2, fun z => ⟨h x z, z⟩⟩
  rw [← e]
  exact rows_filter fr _
/-- every run has one of the row's numbers -/
def hitsAll (rs : List (Int × Int)) (row : List Int) : Prop := ∀ r ∈ rs, ∃ e ∈ row, r.1 ≤ e ∧ e ≤ r.2

/-! ### fewest by trying -/
/-- truths, one for each item -/
theorem lc_bs {K : PySem.W.Frag} {a : Addr} {xs : List V} {g : TG} {tt : TT} {te : TE} {vs : List Nat} {σ : L2.St} {H1 : Hp} {D : Addr} {Qd : Hp → Prop} (bs : List Bool) (nD : H1 D = none) (ea : H1 a = some (.lst xs)) (hl : bs.length = xs.length) (hz : xs.length ≤ 1000)
    (turn : ∀ (i : Nat) (x : V) (b : Bool) (H : Hp) (Kt : V → Hp → Prop) (Kn : Hp → Prop), xs[i]? = some x → bs[i]? = some b → Same H1 H → (∀ H4, Same H H4 → Kt (.bl b) H4) → g x (wipe σ vs) H fun σ2 H2 => wipe σ2 vs = wipe σ vs ∧ tt σ2 H2 fun b H3 => if b = true then te σ2 H3 Kt else Kn H3)
    (fin : ∀ H, Same H1 H → H D = some (.lst (bs.map V.bl)) → Qd H) : LcW (Itl K a) g tt te vs σ D Qd H1 := by
  refine lc_it walk_list (fun j H => Same H1 H ∧ H D = some (.lst ((bs.take j).map V.bl))) ⟨same_upd nD, upd_same⟩ (fun i H _ p => SqL.of (p.1 _ _ ea)) (fun i x H H' hi hP hy => ?_) (fun H hP => ?_)
  · obtain ⟨sm, eD⟩ := hP
    obtain ⟨rfl, hx⟩ := hy
    have hb : bs[i]? = some bs[i] := List.getElem?_eq_getElem (by omega)
    refine turn i x _ H' _ _ hx hb sm fun H4 s4 => ⟨_, s4 _ _ eD, Nat.lt_of_lt_of_le (show _ < 1000 by rw [List.length_map, List.length_take]; omega) (by decide), fun b o e => ?_, ?_⟩
    · rw [upd_ne (ne_of_none e nD)]
      exact s4 _ _ (sm b o e)
    · rw [upd_same, List.take_add_one, hb, List.map_append]
      rfl
  · obtain ⟨sm, eD⟩ := hP
    rw [← hl, List.take_length] at eD
    exact fin H sm eD

/-! ### the cheapest places -/
/-- how far back the place ahead of s may lie -/
structure BackAt (rs : List (Int × Int)) (s b : Int) : Prop where
  lo : 0 ≤ b
  all : ∀ r ∈ rs, r.2 + 2 ≤ s → r.1 + 1 ≤ b
  one : b = 0 ∨ ∃ r ∈ rs, r.2 + 2 ≤ s ∧ b = r.1 + 1
theorem BackAt.lt {rs : List (Int × Int)} {s b : Int} (h : BackAt rs s b) (hr : ∀ r ∈ rs, r.1 ≤ r.2) (hs : 1 ≤ s) : b < s := by
  rcases h.one with z | ⟨r, h1, h2, h3⟩
  · omega
  · have := hr r h1
    omega
/-- places from the last to the first, each no further back than may be -/
def Way (rs : List (Int × Int)) : Int → List Int → Prop
  | s, [] => BackAt rs s 0
  | s, x :: l => x + 1 < s ∧ 0 ≤ x ∧ (∃ b, BackAt rs s b ∧ b ≤ x + 1) ∧ Way rs (x + 1) l
theorem BackAt.eq {rs : List (Int × Int)} {s b b' : Int} (h : BackAt rs s b) (h' : BackAt rs s b') : b = b' := by
  have a1 : b ≤ b' := by
    rcases h.one with z | ⟨r, h1, h2, h3⟩
    · have := h'.lo; omega
    · have := h'.all r h1 h2; omega
  have a2 : b' ≤ b := by
    rcases h'.one with z | ⟨r, h1, h2, h3⟩
    · have := h.lo; omega
    · have := h.all r h1 h2; omega
  omega
/-- each run that ends ahead of s has one of l -/
def HitB (rs : List (Int × Int)) (s : Int) (l : List Int) : Prop := ∀ r ∈ rs, r.2 + 2 ≤ s → ∃ x ∈ l, r.1 ≤ x ∧ x ≤ r.2
theorem Way.hit {rs : List (Int × Int)} : ∀ {l : List Int} {s : Int}, (∀ r ∈ rs, 0 ≤ r.1) → Way rs s l → HitB rs s l
  | [], s, h0, h => fun r hr e => by
    have := h.all r hr e
    have := h0 r hr
    omega
  | x :: l, s, h0, h => fun r hr e => by
    obtain ⟨h1, h2, ⟨b, hb, hx⟩, h4⟩ := h
    by_cases c : r.2 + 2 ≤ x + 1
    · obtain ⟨y, hy, e1⟩ := Way.hit h0 h4 r hr c
      exact ⟨y, List.mem_cons_of_mem _ hy, e1⟩
    · have := hb.all r hr e
      exact ⟨x, List.mem_cons_self .., by omega, by omega⟩
theorem back_ex (rs : List (Int × Int)) (h0 : ∀ r ∈ rs, 0 ≤ r.1) (s : Int) : ∃ b, BackAt rs s b := by
  induction rs with
  | nil => exact ⟨0, Int.le_refl _, (fun _ h => nomatch h), .inl rfl⟩
  | cons r rs ih =>
    obtain ⟨b, hb⟩ := ih fun x hx => h0 x (List.mem_cons_of_mem _ hx)
    have hr0 := h0 r (List.mem_cons_self ..)
    by_cases c : r.2 + 2 ≤ s ∧ b < r.1 + 1
    · refine ⟨r.1 + 1, by omega, fun x hx e => ?_, .inr ⟨r, List.mem_cons_self .., c.1, rfl⟩⟩
      rcases List.mem_cons.mp hx with z | z
      · rw [z]; omega
      · have := hb.all x z e; omega
    · refine ⟨b, hb.lo, fun x hx e => ?_, ?_⟩
      · rcases List.mem_cons.mp hx with z | z
        · rw [z] at e ⊢; omega
        · exact hb.all x z e
      · rcases hb.one with z | ⟨x, h1, h2, h3⟩
        · exact .inl z
        · exact .inr ⟨x, List.mem_cons_of_mem _ h1, h2, h3⟩
/-- falling, all within -/
def Fall : Int → List Int → Prop
  | _, [] => True
  | s, x :: l => x + 1 < s ∧ 0 ≤ x ∧ Fall (x + 1) l
theorem Fall.lt : ∀ {l : List Int} {s : Int}, Fall s l → ∀ x ∈ l, x + 1 < s
  | y :: l, s, h, x, hx => by
    rcases List.mem_cons.mp hx with z | z
    · rw [z]; exact h.1
    · have := Fall.lt h.2.2 x z
      have := h.1
      omega
theorem Way.fall {rs : List (Int × Int)} : ∀ {l : List Int} {s : Int}, Way rs s l → Fall s l
  | [], _, _ => trivial
  | _ :: _, _, h => ⟨h.1, h.2.1, Way.fall h.2.2.2⟩
theorem Way.of {rs : List (Int × Int)} (h0 : ∀ r ∈ rs, 0 ≤ r.1) : ∀ {l : List Int} {s : Int}, Fall s l → HitB rs s l → Way rs s l
  | [], s, _, h => ⟨Int.le_refl _, fun r hr e => (let ⟨_, hx, _⟩ := h r hr e; nomatch hx), .inl rfl⟩
  | x :: l, s, f, h => by
    obtain ⟨b, hb⟩ := back_ex rs h0 s
    refine ⟨f.1, f.2.1, ⟨b, hb, ?_⟩, Way.of h0 f.2.2 fun r hr e => ?_⟩
    · rcases hb.one with z | ⟨r, h1, h2, h3⟩
      · have := f.2.1; omega
      · obtain ⟨y, hy, e1, e2⟩ := h r h1 h2
        rcases List.mem_cons.mp hy with z | z
        · rw [z] at e1; omega
        · have := Fall.lt f.2.2 y z; omega
    · obtain ⟨y, hy, e1, e2⟩ := h r hr (by have := f.1; omega)
      rcases List.mem_cons.mp hy with z | z
      · rw [z] at e2; omega
      · exact ⟨y, z, e1, e2⟩
/-- what places cost -/
def costF (pr : Int → Int) (l : List Int) : Int := (l.map pr).sum
/-- the least costs up to the k-th spot: c of a spot with its own price, back where it comes from -/
structure Costs (rs : List (Int × Int)) (pr : Int → Int) (k : Int) (c back : Int → Int) : Prop where
  zero : c 0 = 0
  from_ : ∀ s, 1 ≤ s → s ≤ k → 0 ≤ back s ∧ back s < s ∧ (∃ b, BackAt rs s b ∧ b ≤ back s) ∧ c s = c (back s) + pr (s - 1)
  least : ∀ s, 1 ≤ s → s ≤ k → ∀ b o, BackAt rs s b → b ≤ o → o < s → c s ≤ c o + pr (s - 1)
theorem Costs.low {rs : List (Int × Int)} {pr : Int → Int} {k : Int} {c back : Int → Int} (C : Costs rs pr k c back) : ∀ {l : List Int} {s : Int}, 1 ≤ s → s ≤ k → Way rs s l → c s ≤ costF pr l + pr (s - 1)
  | [], s, h1, h2, h => by
    have := C.least s h1 h2 0 0 h (Int.le_refl _) (by omega)
    have := C.zero
    show c s ≤ 0 + _
    omega
  | x :: l, s, h1, h2, h => by
    obtain ⟨e1, e2, ⟨b, hb, hx⟩, h4⟩ := h
    have a1 := C.least s h1 h2 b (x + 1) hb hx e1
    have a2 := C.low (l := l) (s := x + 1) (by omega) (by omega) h4
    have e : x + 1 - 1 = x := by omega
    rw [e] at a2
    show c s ≤ (pr x + costF pr l) + _
    omega
/-- the way back from a spot -/
theorem Costs.way {rs : List (Int × Int)} {pr : Int → Int} {k : Int} {c back : Int → Int} (C : Costs rs pr k c back) {l : List Int} {s : Int} (h1 : 1 ≤ s) (h2 : s ≤ k) (h : if back s = 0 then l = [] else ∃ l', l = (back s - 1) :: l' ∧ Way rs (back s) l' ∧ costF pr l' + pr (back s - 1) = c (back s)) : Way rs s l ∧ costF pr l + pr (s - 1) = c s := by
  obtain ⟨f1, f2, ⟨b, hb, f3⟩, f4⟩ := C.from_ s h1 h2
  split at h
  · next z =>
    subst h
    rw [z] at f3 f4
    have b0 : b = 0 := by have := hb.lo; omega
    subst b0
    refine ⟨hb, ?_⟩
    have := C.zero
    show 0 + _ = _
    omega
  · next z =>
    obtain ⟨l', rfl, hw, hc⟩ := h
    refine ⟨⟨by omega, by omega, ⟨b, hb, by omega⟩, by rw [show back s - 1 + 1 = back s by omega]; exact hw⟩, ?_⟩
    show (pr (back s - 1) + costF pr l') + _ = _
    omega

/-! ### rows that are lists or tuples -/
def IntsQ (H : Hp) (a : Addr) (ns : List Int) : Prop := SqH H a (ns.map V.int)
def LsQ (H : Hp) (a : Addr) (rs : List (Int × Int)) : Prop := ∃ us, SqH H a us ∧ Prs H us rs
theorem SqH.sq {K : PySem.W.Frag} {H : Hp} {a : Addr} {xs : List V} (h : SqH H a xs) : Sq K H a xs := h.elim (fun e => .inl (SqL.of e)) (fun e => .inr (.inl (.inl e)))
theorem SqH.lq {K : PySem.W.Frag} {H : Hp} {a : Addr} {xs : List V} (h : SqH H a xs) : SqL K H a xs ∨ SqT K H a xs := h.elim (fun e => .inl (SqL.of e)) (fun e => .inr (.inl (.inl e)))
theorem SqH.same {H H' : Hp} {a : Addr} {xs : List V} (h : SqH H a xs) (s : Same H H') : SqH H' a xs := h.elim (fun e => .inl (s _ _ e)) (fun e => .inr (s _ _ e))
theorem SqH.kp {H H' : Hp} {a d c : Addr} {xs : List V} (h : SqH H a xs) (h1 : a ≠ d) (h2 : a ≠ c) (k : Kp d c H H') : SqH H' a xs := h.elim (fun e => .inl (k _ _ h1 h2 e)) (fun e => .inr (k _ _ h1 h2 e))
theorem LsQ.same {H H' : Hp} {a : Addr} {rs : List (Int × Int)} (h : LsQ H a rs) (s : Same H H') : LsQ H' a rs := by
  obtain ⟨us, e, p⟩ := h
  exact ⟨us, e.same s, p.1, fun i r er => let ⟨x, h1, h2⟩ := p.2 i r er; ⟨x, h1, s _ _ h2⟩⟩
theorem SqH.ql {K : PySem.W.Frag} {H : Hp} {a : Addr} {xs : List V} (h : SqH H a xs) : SqT K H a xs ∨ SqL K H a xs := h.elim (fun e => .inr (SqL.of e)) (fun e => .inl (.inl (.inl e)))

/-! ### min of pairs -/
def lexLe (p q : Int × Int) : Prop := p.1 < q.1 ∨ (p.1 = q.1 ∧ p.2 ≤ q.2)
instance (p q : Int × Int) : Decidable (lexLe p q) := by unfold lexLe; infer_instance
theorem lexLe.refl (p : Int × Int) : lexLe p p := .inr ⟨rfl, Int.le_refl _⟩
theorem lexLe.trans {p q r : Int × Int} (h : lexLe p q) (h' : lexLe q r) : lexLe p r := by
  unfold lexLe at *
  omega
theorem lexLe.total {p q : Int × Int} (h : ¬ lexLe p q) : lexLe q p := by
  unfold lexLe at *
  omega
theorem lt_pairs (p q : Int × Int) : PySem.W.dataLt (pairD q) (pairD p) = !decide (lexLe p q) := by
  have h := congrFun (congrFun (PySem.W.dataLe_ii (fun x : Int × Int => x.1) (fun x : Int × Int => x.2)) p) q
  have h' : (!PySem.W.dataLt (pairD q) (pairD p)) = decide (p.1 < q.1 ∨ (p.1 = q.1 ∧ p.2 ≤ q.2)) := h
  have e : decide (lexLe p q) = decide (p.1 < q.1 ∨ (p.1 = q.1 ∧ p.2 ≤ q.2)) := by unfold lexLe; rfl
  rw [e, ← h', Bool.not_not]
theorem min_pairs : ∀ (ps : List (Int × Int)) (p : Int × Int), ∃ m, m ∈ p :: ps ∧ (∀ q ∈ p :: ps, lexLe m q) ∧ PySem.W.minD (pairD p) (ps.map pairD) = pairD m
  | [], p => ⟨p, List.mem_cons_self .., fun q hq => by rw [List.mem_singleton.mp hq]; exact lexLe.refl p, rfl⟩
  | q :: ps, p => by
    have e : PySem.W.minD (pairD p) ((q :: ps).map pairD) = PySem.W.minD (if PySem.W.dataLt (pairD q) (pairD p) then pairD q else pairD p) (ps.map pairD) := rfl
    rw [e, lt_pairs p q]
    by_cases c : lexLe p q
    · rw [decide_eq_true c]
      obtain ⟨m, h1, h2, h3⟩ := min_pairs ps p
      refine ⟨m, ?_, fun x hx => ?_, h3⟩
      · rcases List.mem_cons.mp h1 with z | z
        · rw [z]; exact List.mem_cons_self ..
        · exact List.mem_cons_of_mem _ (List.mem_cons_of_mem _ z)
      · rcases List.mem_cons.mp hx with z | z
        · rw [z]; exact h2 p (List.mem_cons_self ..)
        · rcases List.mem_cons.mp z with y | y
          · rw [y]; exact (h2 p (List.mem_cons_self ..)).trans c
          · exact h2 x (List.mem_cons_of_mem _ y)
    · rw [decide_eq_false c]
      obtain ⟨m, h1, h2, h3⟩ := min_pairs ps q
      refine ⟨m, List.mem_cons_of_mem _ h1, fun x hx => ?_, h3⟩
      rcases List.mem_cons.mp hx with z | z
      · rw [z]; exact (h2 q (List.mem_cons_self ..)).trans (lexLe.total c)
      · exact h2 x z
theorem Reads.int_inj {h : Heap} {v : Value} {i j : Int} {as : List Addr} (r : Reads h v (.int j) as) (e : ∃ t, v = .int i t) : i = j := by
  obtain ⟨t, rfl⟩ := e
  cases r
  rfl
theorem reads_prs {X : Cx} {pins : List (Addr × Obj)} {σ : L2.St} {H : Hp} {s : Shared} (I : Inv X pins σ H s) : ∀ {us : List V} {ps : List (Int × Int)} {its : List Value}, Prs H us ps → Vals us its → ReadsAll s.heap its (ps.map pairD) []
  | [], [], _, _, .nil => .nil
  | [], _ :: _, _, h, _ => nomatch h.1
  | _ :: _, [], _, h, _ => nomatch h.1
  | u :: us, p :: ps, _, h, .cons (b := b) r t => by
    obtain ⟨a, e1, e2⟩ := h.2 0 p rfl
    have eu : u = .ref a := Option.some.inj e1
    subst eu
    cases r
    obtain ⟨ta, tb, hT⟩ := pair_in I e2
    have rest := reads_prs I (ps := ps) ⟨Nat.succ.inj h.1, fun i q e => h.2 (i + 1) q e⟩ t
    obtain ⟨o, ho, hc, n, hd⟩ := hT
    exact .cons (as := []) (.tuple ho hc hd (.cons (.int _ _) (.cons (.int _ _) .nil))) rest
def rMinP : List V → Hp → VK → Prop := fun vs H Q => ∃ (a : Addr) (us : List V) (ps : List (Int × Int)), vs = [V.ref a] ∧ H a = some (.lst us) ∧ Prs H us ps ∧ ps ≠ [] ∧ ∀ p T, p ∈ ps → (∀ q ∈ ps, lexLe p q) → H T = some (.tup [.int p.1, .int p.2]) → Q (.ref T) H
theorem cr_minP {X : Cx} (hc : X.calm = true) (hu : X.A.units + 64 < cLine) : CallR X (.builtin "min") rMinP := fun pins s σ H vs us Q I r h => by
  obtain ⟨a, ws, ps, rfl, ha, hp, hne, q⟩ := h
  obtain ⟨its, rv, hl, hz⟩ := I.list (SqL.of ha)
  rw [Vals.ref1 r]
  cases ps with
  | nil => exact absurd rfl hne
  | cons p ps =>
    have hr := reads_prs I hp rv
    refine PySem.W.min_list_data (x := pairD p) (xs := ps.map pairD) (I.ok.hd hc) hl.isList (by simpa using hr) ?_ ?_ fun i v h' tk bs hv hR hk => ?_
    · have e : pairD p :: List.map pairD ps = (p :: ps).map pairD := rfl
      rw [e]
      refine ⟨fun x hx y hy => ?_, fun x hx => ?_⟩
      · obtain ⟨x', _, rfl⟩ := List.mem_map.mp hx
        obtain ⟨y', _, rfl⟩ := List.mem_map.mp hy
        simp [pairD, PySem.W.alike, PySem.W.alikeAll]
      · obtain ⟨x', _, rfl⟩ := List.mem_map.mp hx
        exact fun z => nomatch z
    · have := depth_prs (p :: ps)
      rw [List.map_cons] at this
      omega
    · obtain ⟨m, m1, m2, m3⟩ := min_pairs ps p
      rw [m3] at hR
      have hv' : its[i]? = some v := by simpa using hv
      have hi : i < ws.length := by rw [rv.length]; exact (List.getElem?_eq_some_iff.mp hv').1
      obtain ⟨g, T, eg, ew, eT⟩ := prs_at hp (List.getElem?_eq_getElem hi)
      obtain ⟨u, hu', ru⟩ := rv.get (List.getElem?_eq_getElem hi)
      rw [hv'] at hu'
      cases hu'
      rw [ew] at ru
      cases ru
      obtain ⟨ta, tb, o, ho, hcl, n, hd⟩ := pair_in I eT
      have gm : g = m := by
        cases hR with
        | tuple ho' hc' hd' rr =>
          rw [hk _ _ ho] at ho'
          cases ho'
          rw [hd] at hd'
          cases hd'
          cases rr with
          | cons r1 rr =>
            cases rr with
            | cons r2 rr =>
              exact Prod.ext (Reads.int_inj r1 ⟨_, rfl⟩) (Reads.int_inj r2 ⟨_, rfl⟩)
      rw [gm] at eT
      exact ⟨.ref T, H, I.kept hk, rfl, q m T m1 m2 eT⟩

/-! ### enumerate(list, start=k) -/
def IteF (K : PySem.W.Frag) (k0 : Int) (a : Addr) : It :=
  ⟨fun i H => ∃ (xs : List V) (x : V), SqL K H a xs ∧ xs[i]? = some x, fun i H v H' => ∃ T x, v = .ref T ∧ H T = none ∧ H' = upd H T (.tup [.int (k0 + (i : Nat)), x]) ∧ ∀ xs, SqL K H a xs → xs[i]? = some x, fun i H => ∃ xs : List V, SqL K H a xs ∧ xs.length = i⟩
theorem turn_enumF {P : Program} {w : World} {K : PySem.W.Frag} {elts : List Expr} {kk : Nat} {tpos : Pos} (k0 : Int) (a e it : Addr) (nea : e ≠ a) (nia : a ≠ it) :
    Turn P w K (.Tuple elts kk tpos) (IteF K k0 a) [e, it] e (fun i h => (∃ old, IsEnum h e it (k0 + ((i : Nat) : Int)) old) ∧ h.IsListIter it a i ∧ e ≠ it) where
  mem := by simp
  obj := fun i h st b hb => by
    obtain ⟨⟨old, he⟩, ⟨o, ho, hc, hd⟩, _⟩ := st
    have e' : b = e ∨ b = it := by simpa using hb
    rcases e' with z | z
    · rw [z]; exact ⟨_, he, fun v q => nomatch q⟩
    · rw [z]; exact ⟨o, ho, fun v q => by rw [hd] at q; cases q⟩
  keep := fun i h h' st k => let ⟨⟨old, he⟩, hi, hne⟩ := st; ⟨⟨old, k e (by simp) _ he⟩, hi.at fun o q => k it (by simp) o q, hne⟩
  item := by
    intro X hP hw hK hc i pins s σ H E I hf st hg
    subst hP hw hK
    obtain ⟨⟨old, he⟩, hit, hne⟩ := st
    obtain ⟨xs, x, hq, hx⟩ := hg
    obtain ⟨its, rv, p, hz⟩ := I.list hq
    obtain ⟨u, hu, ru⟩ := rv.get hx
    have hel : e < s.heap.objs.size := Heap.lt_size he
    have hil : it < s.heap.objs.size := by obtain ⟨_, q, _⟩ := hit; exact Heap.lt_size q
    have hlt : i < its.toArray.size := by simpa using (List.getElem?_eq_some_iff.mp hu).1
    refine wpAny_pyNext_enum_itemC (Draws.list (show X.A.in1.handled = none from I.ok.hd hc) it a nia its.toArray) he ⟨hit, p.isList⟩ hlt hne (by simp [hne, nea]) fun x' h' tk hP' ho hit' hT hsz hk => ?_
    have eu : x' = u := by
      have h1 : its[i]? = some x' := by simpa using hP'
      rw [hu] at h1
      exact (Option.some.inj h1).symm
    subst eu
    refine ⟨_, rfl, wpAny_letOwnedTupleGo_enum (s := { s with heap := h', toks := tk + 1 }) ho fun h'' he' sb => ?_⟩
    have hT2 : h''.get? s.heap.objs.size = some { cls := .type "tuple", data := .seq #[.int (k0 + (i : Int)) tk, x'] } := (sb.2 _ (Nat.ne_of_gt hel)).trans hT
    have new : ObjOk X.prog X.w (upd H s.heap.objs.size (.tup [.int (k0 + (i : Nat)), x])) h'' s.heap.objs.size (.tup [.int (k0 + (i : Nat)), x]) :=
      ⟨by show 2 ≤ sizeLine; decide, [.int (k0 + (i : Int)) tk, x'], .cons ⟨_, rfl⟩ (.cons ru .nil), ⟨_, hT2, rfl, _, rfl⟩⟩
    have I1 : Inv X pins σ (upd H s.heap.objs.size (.tup [.int (k0 + (i : Nat)), x])) { s with heap := h'', toks := tk + 1 } :=
      I.turnedNew (ch := [e, it]) (fun b ob hb q => (sb.2 b (fun z => hb (by simp [z]))).trans (hk b ob (fun z => hb (by simp [z])) (fun z => hb (by simp [z])) q)) hf (Nat.le_refl _) new
    refine ⟨.ref s.heap.objs.size, _, I1, rfl, ⟨_, x, rfl, I.hok.fresh (Nat.le_refl _), rfl, fun ys hy => by rw [I.list_inj hy hq]; exact hx⟩, ⟨⟨x', ?_⟩, hit'.1.at fun o q => (sb.2 it (Ne.symm hne)).trans q, hne⟩, fun b hb => ?_⟩
    · have e1 : k0 + ((i + 1 : Nat) : Int) = k0 + (i : Int) + 1 := by omega
      rw [e1]; exact he'
    · have hb' : b < s.heap.objs.size := by
        have e' : b = e ∨ b = it := by simpa using hb
        rcases e' with z | z
        · rw [z]; exact hel
        · rw [z]; exact hil
      rw [upd_ne (Nat.ne_of_lt hb')]
      exact (hf b hb).1
  done := by
    intro X hP hw hK hc i pins s σ H E I hf st hg
    subst hP hw hK
    obtain ⟨⟨old, he⟩, hit, hne⟩ := st
    obtain ⟨xs, hq, hx⟩ := hg
    obtain ⟨its, rv, p, hz⟩ := I.list hq
    obtain ⟨f0, f1, f2, f3, f4, f5⟩ := hf it (by simp)
    have hl := rv.length
    have hn : its.toArray.size = i := by simp; omega
    refine wpAny_pyNext_enum_endD (Draws.list (show X.A.in1.handled = none from I.ok.hd hc) it a nia its.toArray) he ⟨by rw [hn]; exact hit, p.isList⟩ fun h' eb => ⟨rfl, I.turned (t' := s.toks) (fun b o hb q => eb b o hb q) f0 f1 f3 f4 f5⟩
  self := fun A i s Q E st h => let ⟨⟨_, he⟩, _⟩ := st; wpAny_pyIter_enum he h
theorem callWith_typeK {M : Model} {A : Around} {E : Value → Shared → Prop} {s : Shared} {env : Env} {pos : Pos} {T : String} {e : Expr} {kws : List Keyword} {Q : Value → Shared → Prop}
    (h : wpAny M A (spliced (backTo pos (starEach [e] env))) (fun vs s₁ => wpAny M A (evalAll ((backToKw pos (keywordEach kws env)).map (·.2)))
      (fun kvs s₂ => wpAny M A (call (.type T) vs (((backToKw pos (keywordEach kws env)).filterMap (·.1)).zip kvs)) Q E s₂) E s₁) E s)
    (he : ∃ t, backTo pos (starEach [e] env) = [(false, t)])
    (hall : (backToKw pos (keywordEach kws env)).all (·.1.isSome) = true)
    (hkw : (backToKw pos (keywordEach kws env)).any (·.1.isNone) = false) :
    wpAny M A (callWith pos (.type T) [] (backTo pos (starEach [e] env)) (backToKw pos (keywordEach kws env))) Q E s := by
  obtain ⟨t, he⟩ := he
  rw [he] at h ⊢
  unfold callWith
  refine wpAny_bind (wpAny_holding (wpAny_mono (evalArgs_kwB (Q := fun a s₁ => wpAny M A (call (.type T) ([] ++ a.pos) a.kw) Q E s₁) hall h) (fun a s₁ h₁ => wpAny_bind (wpAny_standAt ?_)) fun _ _ x => x))
  simp only [hkw, List.any_cons, List.any_nil, Bool.or_false]
  refine wpAny_bind (wpAny_pure ?_)
  exact wpAny_bind (wpAny_mono h₁ (fun r s₂ hr => wpAny_bind (wpAny_holding (wpAny_point (wpAny_pure hr)))) fun _ _ x => x)
def iEnumF (K : PySem.W.Frag) (ta tk : TA) : TI := fun σ H R => ta σ H fun vs H1 => tk σ H1 fun zs H2 => ∃ a xs k0, vs = [.ref a] ∧ zs = [.int k0] ∧ SqL K H2 a xs ∧ -(2 ^ 63) ≤ k0 ∧ k0 < 2 ^ 63 ∧ R (IteF K k0 a) H2
theorem pi_enumF {X : Cx} {e : Expr} {kws : List Keyword} {ta tk : TA} {p pos tpos : Pos} {elts : List Expr} {kk : Nat} (hg : Gl X "enumerate") (hm : X.mg "enumerate" = none) (ha : PA X [e] ta) (hk : PK X kws tk)
    (he : ∃ t, backTo pos (starEach [e] X.env) = [(false, t)])
    (hall : (backToKw pos (keywordEach kws X.env)).all (·.1.isSome) = true) (hnone : (backToKw pos (keywordEach kws X.env)).any (·.1.isNone) = false) (hks : (backToKw pos (keywordEach kws X.env)).filterMap (·.1) = [Str.ofString "start"]) :
    PI X (.Tuple elts kk tpos) (.Call (.Name "enumerate" p) [e] kws pos) (iEnumF X.K ta tk) := by
  refine ⟨fun pins s σ H R I h => ?_⟩
  refine wpAny_Call_Name_kw (ld_blt I hg hm boot_enumerate (callWith_typeK (thn (ha.run pos pins s σ H _ I h) fun us s1 ⟨vs, H1, I1, r1, q1⟩ => thn (hk.run pos pins s1 σ H1 _ I1 q1) fun ws s2 ⟨zs, H2, I2, r2, q2⟩ => ?_) he hall hnone))
  obtain ⟨a, xs, k0, rfl, rfl, hq, k1, k2, q⟩ := q2
  rw [hks, Vals.ref1 r1]
  cases r2 with
  | cons r rr =>
    cases rr
    obtain ⟨tk0, rfl⟩ := r
    obtain ⟨its, rv, p', hz⟩ := I2.list hq
    have hal : a < s2.heap.objs.size := by obtain ⟨_, q, _⟩ := p'.isList; exact Heap.lt_size q
    refine enum_begins_start (begins_list a its.toArray) p'.isList k1 k2 fun h' hE hit hsz hkp => wpAny_pyIter_enum hE ?_
    have I3 : Inv X pins σ H2 { s2 with heap := h' } := I2.kept (t' := s2.toks) hkp
    refine ⟨s2.heap.objs.size + 1, [s2.heap.objs.size + 1, s2.heap.objs.size], _, _, H2, rfl, I3, turn_enumF k0 a (s2.heap.objs.size + 1) s2.heap.objs.size (Nat.ne_of_gt (Nat.lt_succ_of_lt hal)) (Nat.ne_of_lt hal), ⟨⟨.none, by rw [Int.natCast_zero, Int.add_zero]; exact hE⟩, ⟨_, hit, rfl, rfl⟩, Nat.succ_ne_self _⟩, fun b hb => ?_, q⟩
    have e' : b = s2.heap.objs.size + 1 ∨ b = s2.heap.objs.size := by simpa using hb
    have hle : s2.heap.objs.size ≤ b := by
      rcases e' with z | z
      · rw [z]; exact Nat.le_add_right _ _
      · rw [z]; exact Nat.le_refl _
    exact I2.fpOk hle (I2.hok.fresh hle)
theorem walk_enumF {K : PySem.W.Frag} {k0 : Int} {a : Addr} {xs : List V} : Walk (IteF K k0 a) xs.length (fun H => SqL K H a xs) (YPair (fun i => some (.int (k0 + (i : Nat)))) (fun i => xs[i]?)) := by
  refine ⟨fun i _ hi q => ⟨xs, xs[i], q, by simp [hi]⟩, fun _ q => ⟨xs, q, rfl⟩, fun i H v H' _ q y => ?_⟩
  obtain ⟨T, x, h1, h2, h3, h4⟩ := y
  exact ⟨T, .int (k0 + (i : Nat)), x, h1, h2, h3, rfl, h4 xs q⟩

open LamX
theorem atI_m1 {xs : List V} {v : V} (h : xs[xs.length - 1]? = some v) : atI xs (-1) = some v := by
  have lt := (List.getElem?_eq_some_iff.mp h).1
  unfold atI ixN
  rw [if_neg (by omega), if_pos (by omega)]
  show xs[(-1 + (xs.length : Int)).toNat]? = some v
  rw [show (-1 + (xs.length : Int)).toNat = xs.length - 1 by omega]
  exact h
theorem TbL.refl {P : Addr} {q : Str} {H : Hp} (t : TabS H P q) : TbL P q H H := ⟨t, fun _ _ e _ => e⟩
theorem TbL.trans {P : Addr} {q : Str} {H H1 H2 : Hp} (a : TbL P q H H1) (b : TbL P q H1 H2) : TbL P q H H2 := ⟨b.1, fun x o e n => b.2 x o (a.2 x o e n) n⟩
theorem TbL.of {P : Addr} {q : Str} {H H2 : Hp} (t : TabS H P q) (s : Same H H2) : TbL P q H H2 := ⟨t.ext s, fun b o e _ => s b o e⟩
theorem TbL.lst {P : Addr} {q : Str} {H H2 : Hp} {a : Addr} {xs : List V} (t : TbL P q H H2) (e : H a = some (.lst xs)) : H2 a = some (.lst xs) := t.2 _ _ e fun _ z => nomatch z
theorem TbL.tup {P : Addr} {q : Str} {H H2 : Hp} {a : Addr} {xs : List V} (t : TbL P q H H2) (e : H a = some (.tup xs)) : H2 a = some (.tup xs) := t.2 _ _ e fun _ z => nomatch z
theorem LsA.tbl {P : Addr} {q : Str} {H H2 : Hp} {a : Addr} {ps : List (Int × Int)} (h : LsA H a ps) (t : TbL P q H H2) : LsA H2 a ps := by
  obtain ⟨us, e, p⟩ := h
  exact ⟨us, t.lst e, p.1, fun i r er => let ⟨x, h1, h2⟩ := p.2 i r er; ⟨x, h1, t.tup h2⟩⟩
theorem TabS.upd {H : Hp} {P : Addr} {q : Str} {l : Addr} {xs : List V} {o : HO} (t : TabS H P q) (e : H l = some (.lst xs)) : TabS (L2.upd H l o) P q := by
  obtain ⟨ps, hP, ht, hc⟩ := t
  refine ⟨ps, by rw [upd_ne (ne_of hP e (fun z => nomatch z))]; exact hP, ht, fun pos cv hcv => ?_⟩
  obtain ⟨c, ec, hco⟩ := hc pos cv hcv
  refine ⟨c, ec, ?_⟩
  rw [upd_ne (ne_of hco e (fun z => by unfold CodeO at z; cases z))]
  exact hco

/-! ### the draws of runs and of what is gone -/
theorem ris_filter {pb : Int × Int → Bool} : ∀ {lo : Int} {ps : List (Int × Int)}, Ris lo ps → Ris lo (ps.filter pb)
  | _, [], _ => True.intro
  | lo, p :: r, h => by
    by_cases c : pb p = true
    · rw [List.filter_cons_of_pos c]
      exact ⟨h.1, h.2.1, ris_filter h.2.2⟩
    · rw [List.filter_cons_of_neg c]
      exact ris_filter (h.2.2.mono (by have := h.1; have := h.2.1; omega))
theorem eqv_none {α : Type} (f : α → PyData) (ps : List α) : PyData.eqv (PyData.list (ps.map f)) (PyData.list []) = ps.isEmpty := by
  cases ps with
  | nil => simp [PyData.eqv, PyData.eqvAll]
  | cons p r => simp [PyData.eqv, PyData.eqvAll]
/-- xs != [], of pairs -/
theorem ne_nilP {K : PySem.W.Frag} {H : Hp} {p l : Addr} {ps : List (Int × Int)} {Q : VK} (h : LsA H p ps) (el : H l = some (.lst [])) (q : Q (.bl (!ps.isEmpty)) H) : rNeD K (.ref p) (.ref l) H Q :=
  ⟨_, .list [], h.dp, .lst (SqL.of el) .nil, shaped_prs ps, by rfl, by rw [eqv_none]; exact q⟩
theorem LsA.kp {H H' : Hp} {d c a : Addr} {t : Int} {ps : List (Int × Int)} (h : LsA H a ps) (S : StAt H d c t) (k : Kp d c H H') (n : a ≠ d ∧ a ≠ c) : LsA H' a ps := let ⟨us, e, p⟩ := h; ⟨us, k _ _ n.1 n.2 e, p.kp S k⟩
theorem pick_at {xs : List V} {n : Nat} (hn : xs.length = n) {r : Int} (r0 : 0 ≤ r) (r1 : r < n) : ∃ v, atI xs r = some v ∧ v ∈ xs := by
  obtain ⟨k, rfl⟩ := Int.eq_ofNat_of_zero_le r0
  have lt : k < xs.length := by omega
  exact ⟨_, atI_nat (List.getElem?_eq_getElem lt), List.getElem_mem lt⟩
def spGone : Sp := fun vs H Q _ => ∃ (d c : Addr) (t most rare : Int), vs = [.ref d, .int most, .int rare] ∧ StAt H d c t ∧ t < 2 ^ 58 ∧ 1 ≤ rare ∧ rare ≤ 1000 ∧
  ∀ l gs H' t', H l = none → LsA H' l gs → Ris 0 gs → (∀ p ∈ gs, p.2 ≤ most) → gs.length ≤ 24 → t ≤ t' → t' ≤ t + 200 → StAt H' d c t' → Kp d c H H' → Q (.ref l) H'
def RunOk (most : Int) (rs : List (Int × Int)) : Prop := ∀ r ∈ rs, 0 ≤ r.1 ∧ r.1 ≤ r.2 ∧ r.2 ≤ most
def spRuns : Sp := fun vs H Q _ => ∃ (d c : Addr) (t many most wide : Int), vs = [.ref d, .int many, .int most, .int wide] ∧ StAt H d c t ∧ t < 2 ^ 58 ∧ 0 ≤ many ∧ many ≤ 900 ∧ 0 ≤ most ∧ most ≤ 2 ^ 60 ∧ 1 ≤ wide ∧ wide ≤ 2 ^ 60 ∧
  ∀ l rs H' t', H l = none → LsA H' l rs → RunOk most rs → (rs.length : Int) = many → t ≤ t' → t' ≤ t + 10 * many → StAt H' d c t' → Kp d c H H' → Q (.ref l) H'
abbrev sGone : Stmt := topS 25
theorem scGone : FnScope ["_law_state", "_law_most", "_law_rare", "_law_found", "_law_number", "_law_turn", "_law_last", "_law_pair"] ["_law_state", "_law_most", "_law_rare"] (defScope sGone) := ⟨rfl, rfl, rfl, by decide +kernel, rfl, by decide +kernel, by decide +kernel⟩
abbrev sRuns : Stmt := topS 26
theorem scRuns : FnScope ["_law_state", "_law_many", "_law_most", "_law_wide", "_law_runs_here", "_law_turn", "_law_kind", "_law_first", "_law_last"] ["_law_state", "_law_many", "_law_most", "_law_wide"] (defScope sRuns) := ⟨rfl, rfl, rfl, by decide +kernel, rfl, by decide +kernel, by decide +kernel⟩
section
variable {K : PySem.W.Frag} {mg : Str → Option Value} {P : Program} {w : World} {base : Heap}
theorem ok_Gone {f : Addr} {fd : FuncData} (F : Fun K "_law_gone" "_law_gone" sGone f fd) (C__law_take : Cal P w K mg base 1 "_law_take" ["_law_state", "_law_many"] spTake) (m_range : mg "range" = none) : FnOk P w K mg base CX0 2 f fd ["_law_state", "_law_most", "_law_rare"] spGone := by
  refine F.ok scGone (fun vs H Q E h => ?_) (fun cdv A outer s H vs Q E hr h => ?_)
  · obtain ⟨d, c, t, most, rare, rfl, _⟩ := h
    rfl
  · obtain ⟨d, c, t, most, rare, rfl, hS, ht, r0, r1, q⟩ := h
    refine ⟨_, pss_cons (ps_par rfl scGone.nd (i := 3) (j := 4) rfl rfl (by decide) rfl rfl (pa_cons (pe_lst pa_nil) (pa_cons (pe_own C__law_take hr (by rfl) (pa_cons (pv 0) (pa_cons pe_int pa_nil))) pa_nil)) (by rfl))
      (pss_cons (ps_for PassesOwn.never rfl (pi_range1 rfl m_range (pa_cons pe_int pa_nil)) (pg_name (i := 5) scGone.nd rfl (.inl rfl))
        (Evl.pss_cut (ps_if (PW.pt (pw_and (pt_cmpR op_le (pv 4) (pv 1) (nomark _)) (pw_and1 (pt_cmpR op_gt (pe_own C__law_take hr (by rfl) (pa_cons (pv 0) (pa_cons (pv 2) pa_nil))) pe_int (nomark _))))) (pss_cons (ps_set (i := 6) scGone.nd rfl (.inl rfl) (pe_op op_add (pv 4) (pe_ix ix_list (pe_lst (pa_cons pe_int (pa_cons (pe_own C__law_take hr (by rfl) (pa_cons (pv 0) (pa_cons pe_int pa_nil))) pa_nil))) (pe_own C__law_take hr (by rfl) (pa_cons (pv 0) (pa_cons pe_int pa_nil))) (fun _ _ => rfl))))
          (pss_cons (ps_expr (pe_bm PySem.F.plainAttrs_list PySem.F.slot_list_append PySem.F.type_list_append mt_append (pv 3) (pa_cons (pe_tup (pa_cons (pv 4) (pa_cons (pv 6) pa_nil))) pa_nil)))
          (pss_one (ps_set (i := 4) scGone.nd rfl (.inl rfl) (pv 6)))))
          pss_nil)
        (pss_one (ps_set (i := 4) scGone.nd rfl (.inl rfl) (pe_op op_add (pe_op op_add (pv 4) pe_int) (pe_own C__law_take hr (by rfl) (pa_cons (pv 0) (pa_cons (pv 2) pa_nil))))))))
      (pss_one (ps_ret (pe_lc (own := [("_law_pair", 7)]) (g := (gName 7)) (tt := (tTest (tOp (rI0 fun i j => .bl (decide (i ≤ j))) (tOp (rIxT K) (tVar 7) (tC (.int 1))) (tVar 1)))) (te := (tVar 7)) rfl scGone.nd (pi_list (pv 3)) (blkOk_by (own := [("_law_pair", 7)]) (N := ["_law_state", "_law_most", "_law_rare", "_law_found", "_law_number", "_law_turn", "_law_last", "_law_pair"]) (sc := defScope sGone) (by decide +kernel)) (fun _ _ _ _ _ => (pg_name (i := 7) scGone.nd rfl (.inl rfl))) (fun _ _ _ _ _ => (pts_one (pt_cmpR op_le (pe_ix ix_tup (pv 7) pe_int (fun _ _ => rfl)) (pv 1) (nomark _)))) (fun _ _ _ _ _ => (pv 7)))))), ?_⟩
    refine ⟨Nat.zero_le _, fun p np => ?_⟩
    have sp := same_upd (o := .lst []) np
    have offp := hS.off np
    refine ⟨_, rfl, d, c, t, 3, rfl, hS.same sp, by omega, by decide, by decide, fun n0 H1 n00 n01 hS1 k1 => ⟨_, _, rfl, ?_⟩⟩
    have k01 := (Kp.same d c sp).trans k1
    refine ⟨24, rfl, by decide, by decide, for_range (n := 24) (fun i σ Hx => ∃ (gs : List (Int × Int)) (num t' : Int) (y5 y6 y7 : Option V), σ = [some (.ref d), some (.int most), some (.int rare), some (.ref p), some (.int num), y5, y6, y7] ∧ LsA Hx p gs ∧ Ris 0 gs ∧ (∀ q ∈ gs, q.2 + 2 ≤ num) ∧ 0 ≤ num ∧ gs.length ≤ i ∧ t ≤ t' ∧ t' ≤ t + 1 + 5 * (i : Int) ∧ StAt Hx d c t' ∧ Kp d c H Hx) ⟨[], n0, t + 1, _, _, _, rfl, LsA.nil (k1 _ _ offp.1 offp.2 upd_same), True.intro, (fun _ h => nomatch h), n00, Nat.le_refl _, by omega, by omega, hS1, k01⟩ (fun i σ Hx hi hP => ?_) (fun σ Hx hP => ?_)⟩
    · obtain ⟨gs, num, t', y5, y6, y7, rfl, hL, hr, hq, h0, hl, u0, u1, hS2, k2⟩ := hP
      have hi24 : (i : Int) < 24 := by omega
      refine ⟨fun σ' H' => ∃ (gs : List (Int × Int)) (num t' : Int) (y6 : Option V), σ' = [some (.ref d), some (.int most), some (.int rare), some (.ref p), some (.int num), some (.int (0 + (i : Int))), y6, y7] ∧ LsA H' p gs ∧ Ris 0 gs ∧ (∀ q ∈ gs, q.2 ≤ num) ∧ 0 ≤ num ∧ gs.length ≤ i + 1 ∧ t ≤ t' ∧ t' ≤ t + 4 + 5 * (i : Int) ∧ StAt H' d c t' ∧ Kp d c H H', ?_, ?_⟩
      · have skip : ∀ H' t3, LsA H' p gs → t ≤ t3 → t3 ≤ t + 4 + 5 * (i : Int) → StAt H' d c t3 → Kp d c H H' → ∃ (gs' : List (Int × Int)) (num' t' : Int) (y6' : Option V), [some (V.ref d), some (.int most), some (.int rare), some (.ref p), some (.int num), some (.int (0 + (i : Int))), y6, y7] = [some (.ref d), some (.int most), some (.int rare), some (.ref p), some (.int num'), some (.int (0 + (i : Int))), y6', y7] ∧ LsA H' p gs' ∧ Ris 0 gs' ∧ (∀ q ∈ gs', q.2 ≤ num') ∧ 0 ≤ num' ∧ gs'.length ≤ i + 1 ∧ t ≤ t' ∧ t' ≤ t + 4 + 5 * (i : Int) ∧ StAt H' d c t' ∧ Kp d c H H' := fun H' t3 h1 h2 h3 h4 h5 => ⟨gs, num, t3, y6, rfl, h1, hr, fun q hq' => by have := hq q hq'; omega, h0, by omega, h2, h3, h4, h5⟩
        refine ⟨_, rfl, _, rfl, _, _, rfl, rfl, _, rfl, ite2 (fun c1 => ?_) (fun c1 => ite2 (fun z => nomatch z) (fun _ => skip Hx t' hL u0 (by omega) hS2 k2))⟩
        refine ⟨_, rfl, _, rfl, d, c, t', rare, rfl, hS2, by omega, by omega, by omega, fun r2 H3 r20 r21 hS3 k3 => ?_⟩
        have hL3 := hL.kp hS2 k3 offp
        refine ⟨_, _, rfl, rfl, _, rfl, ite2 (fun c2 => ?_) (fun c2 => skip H3 (t' + 1) hL3 (by omega) (by omega) hS3 (k2.trans k3))⟩
        refine ⟨_, rfl, _, rfl, d, c, t' + 1, 3, rfl, hS3, by omega, by decide, by decide, fun r3 H4 r30 r31 hS4 k4 => ?_⟩
        refine ⟨(by show 2 ≤ sizeLine; decide), fun L nL => ?_⟩
        have sL := same_upd (o := .lst [.int 0, .int r3]) nL
        have offL := hS4.off nL
        refine ⟨_, rfl, d, c, t' + 1 + 1, 2, rfl, hS4.same sL, by omega, by decide, by decide, fun r4 H5 r40 r41 hS5 k5 => ?_⟩
        obtain ⟨v, v0, ev⟩ := pick2 (fun v => 0 ≤ v) (x := 0) (y := r3) r40 r41 (Int.le_refl _) r30
        refine ⟨L, _, r4, _, rfl, rfl, SqL.of (k5 _ _ offL.1 offL.2 upd_same), ev, num, v, rfl, rfl, ?_⟩
        have hL5 := ((hL3.kp hS3 k4 offp).same sL).kp (hS4.same sL) k5 offp
        have k05 := ((k2.trans k3).trans k4).trans ((Kp.same d c sL).trans k5)
        obtain ⟨us, ep, hpr⟩ := hL5
        refine ⟨_, rfl, .inl ⟨rfl, _, SqL.of ep⟩, _, rfl, _, rfl, (by show 2 ≤ sizeLine; decide), fun T nT => ?_⟩
        have sT := same_upd (o := .tup [.int num, .int (num + v)]) nT
        have lu := hpr.1
        refine ⟨p, _, _, rfl, rfl, sT _ _ ep, small1000 (by omega), ?_⟩
        refine ⟨_, rfl, gs ++ [(num, num + v)], num + v, t' + 1 + 1 + 1, _, rfl, ⟨_, upd_same, ((hpr.same sT).snoc upd_same).upd_lst (sT _ _ ep)⟩, hr.snoc h0 hq (by omega), fun q hq' => ?_, by omega, by rw [List.length_append]; show gs.length + 1 ≤ _; omega, by omega, by omega, (hS5.same sT).upd offp.1 offp.2, fun b o b1 b2 e => ?_⟩
        · rcases List.mem_append.mp hq' with z | z
          · have := hq q z; omega
          · rw [List.mem_singleton.mp z]; exact Int.le_refl _
        · rw [upd_ne (ne_of_none e np)]
          exact sT _ _ (k05 b o b1 b2 e)
      · rintro σ3 H3 ⟨gs, num, t3, y6, rfl, hL, hr, hq, h0, hl, v0, v1, hS3, k3⟩
        refine ⟨_, rfl, _, _, rfl, rfl, _, rfl, _, rfl, d, c, t3, rare, rfl, hS3, by omega, by omega, by omega, fun r2 H4 r20 r21 hS4 k4 => ⟨_, _, rfl, rfl, ?_⟩⟩
        exact ⟨gs, num + 2 + r2, t3 + 1, _, _, _, rfl, hL.kp hS3 k4 offp, hr, fun q hq' => by have := hq q hq'; omega, by omega, hl, by omega, by omega, hS4, k3.trans k4⟩
    · obtain ⟨gs, num, t', y5, y6, y7, rfl, hL, hr, hq, h0, hl, u0, u1, hS2, k2⟩ := hP
      obtain ⟨us, ep, hpr⟩ := hL
      refine ⟨_, rfl, p, rfl, ⟨_, SqL.of ep⟩, fun G nG => lc_list (xs := us) (fun j H' => Same Hx H' ∧ ∃ ws, H' G = some (.lst ws) ∧ Prs H' ws ((gs.take j).filter fun p => decide (p.2 ≤ most))) ⟨same_upd nG, [], upd_same, Prs.nil⟩ (fun j H' _ hP => SqL.of (hP.1 _ _ ep)) (fun j x H' hx hP => ?_) (fun H9 hP => ?_)⟩
      · obtain ⟨sm, ws, eG, hw⟩ := hP
        obtain ⟨g, T, eg, rfl, eT⟩ := prs_at hpr hx
        have et : (gs.take (j + 1)).filter (fun p => decide (p.2 ≤ most)) = (gs.take j).filter (fun p => decide (p.2 ≤ most)) ++ (if g.2 ≤ most then [g] else []) := by
          rw [List.take_add_one, eg, List.filter_append]
          show _ ++ List.filter (fun p => decide (p.2 ≤ most)) [g] = _
          by_cases c : g.2 ≤ most <;> simp [c]
        have lg : j < gs.length := (List.getElem?_eq_some_iff.mp eg).1
        refine ⟨rfl, _, rfl, T, _, 1, _, rfl, rfl, .inl (.inl (sm _ _ eT)), atI_nat (j := 1) rfl, _, rfl, _, _, rfl, rfl, _, rfl, ite2 (fun c1 => ?_) (fun c1 => ?_)⟩
        · have c1' : g.2 ≤ most := of_decide_eq_true c1
          have lw : ws.length ≤ 24 := by
            rw [hw.1]
            exact Nat.le_trans (List.length_filter_le ..) (by rw [List.length_take]; omega)
          refine ⟨_, rfl, _, eG, small1000 (by omega), fun b o e => ?_, _, upd_same, ?_⟩
          · rw [upd_ne (ne_of_none e nG)]
            exact sm b o e
          · rw [et, if_pos c1']
            exact (hw.snoc (sm _ _ eT)).upd_lst eG
        · refine ⟨sm, ws, eG, ?_⟩
          rw [et, if_neg (fun z => c1 (decide_eq_true z)), List.append_nil]
          exact hw
      · obtain ⟨sm, ws, eG, hw⟩ := hP
        have ll : us.length = gs.length := hpr.1
        rw [ll, List.take_length] at hw
        exact q G _ H9 t' (k2.free hS2 nG) ⟨ws, eG, hw⟩ (ris_filter hr) (fun p hp => of_decide_eq_true (List.mem_filter.mp hp).2) (Nat.le_trans (List.length_filter_le ..) hl) u0 (by omega) (hS2.same sm) (k2.trans (Kp.same d c sm))
theorem ok_Runs {f : Addr} {fd : FuncData} (F : Fun K "_law_runs" "_law_runs" sRuns f fd) (C__law_take : Cal P w K mg base 1 "_law_take" ["_law_state", "_law_many"] spTake) (m_range : mg "range" = none) (m_min : mg "min" = none) (m_len : mg "len" = none) : FnOk P w K mg base CX0 2 f fd ["_law_state", "_law_many", "_law_most", "_law_wide"] spRuns := by
  refine F.ok scRuns (fun vs H Q E h => ?_) (fun cdv A outer s H vs Q E hr h => ?_)
  · obtain ⟨d, c, t, many, most, wide, rfl, _⟩ := h
    rfl
  · obtain ⟨d, c, t, many, most, wide, rfl, hS, ht, m0, m1, mo0, mo1, w0, w1, q⟩ := h
    refine ⟨_, pss_cons (ps_set (i := 4) scRuns.nd rfl (.inl rfl) (pe_lst pa_nil))
      (pss_cons (ps_for PassesOwn.never rfl (pi_range1 rfl m_range (pa_cons (pv 1) pa_nil)) (pg_name (i := 5) scRuns.nd rfl (.inl rfl))
        (pss_cons (ps_set (i := 6) scRuns.nd rfl (.inl rfl) (pe_own C__law_take hr (by rfl) (pa_cons (pv 0) (pa_cons pe_int pa_nil))))
        (pss_cons (ps_set (i := 7) scRuns.nd rfl (.inl rfl) (pe_own C__law_take hr (by rfl) (pa_cons (pv 0) (pa_cons (pe_op op_add (pv 2) pe_int) pa_nil))))
        (pss_cons (ps_set (i := 8) scRuns.nd rfl (.inl rfl) (pe_callB (call_min2 rfl) (by rfl) m_min (by decide +kernel) (pa_cons (pv 2) (pa_cons (pe_op op_add (pv 7) (pe_own C__law_take hr (by rfl) (pa_cons (pv 0) (pa_cons (pv 3) pa_nil)))) pa_nil))))
        (Evl.pss_cut (ps_if (PW.pt (pw_and (pt_cmpR op_eq (pv 6) pe_int (nomark _)) (pw_and1 (pt_cmpR (op_neD hr.units) (pv 4) (pe_lst pa_nil) (nomark _))))) (pss_one (ps_asg (pe_ix ix_list (pv 4) (pe_own C__law_take hr (by rfl) (pa_cons (pv 0) (pa_cons (pe_callB call_len_seq (by rfl) m_len PySem.boot_len (pa_cons (pv 4) pa_nil)) pa_nil))) (fun _ _ => rfl)) (pg_tup rfl (pgs_cons (pg_name (i := 7) scRuns.nd rfl (.inl rfl)) (pgs_cons (pg_name (i := 8) scRuns.nd rfl (.inl rfl)) pgs_nil)))))
          pss_nil)
        (Evl.pss_cut (ps_if (PW.pt (pw_and (pt_cmpR op_eq (pv 6) pe_int (nomark _)) (pw_and1 (pt_cmpR (op_neD hr.units) (pv 4) (pe_lst pa_nil) (nomark _))))) (pss_cons (ps_set (i := 7) scRuns.nd rfl (.inl rfl) (pe_callB (call_min2 rfl) (by rfl) m_min (by decide +kernel) (pa_cons (pv 2) (pa_cons (pe_op op_add (pe_ix ix_tup (pe_ix ix_list (pv 4) (pe_un un_neg pe_int) (fun _ _ => rfl)) pe_int (fun _ _ => rfl)) (pe_own C__law_take hr (by rfl) (pa_cons (pv 0) (pa_cons pe_int pa_nil)))) pa_nil))))
          (pss_one (ps_set (i := 8) scRuns.nd rfl (.inl rfl) (pe_callB (call_min2 rfl) (by rfl) m_min (by decide +kernel) (pa_cons (pv 2) (pa_cons (pe_op op_add (pv 7) (pe_own C__law_take hr (by rfl) (pa_cons (pv 0) (pa_cons (pv 3) pa_nil)))) pa_nil))))))
          pss_nil)
        (pss_one (ps_expr (pe_bm PySem.F.plainAttrs_list PySem.F.slot_list_append PySem.F.type_list_append mt_append (pv 4) (pa_cons (pe_tup (pa_cons (pv 7) (pa_cons (pv 8) pa_nil))) pa_nil))))))))))
      (pss_one (ps_ret (pv 4)))), ?_⟩
    refine ⟨Nat.zero_le _, fun p np => ?_⟩
    have sp := same_upd (o := .lst []) np
    have offp := hS.off np
    refine ⟨_, rfl, many, rfl, by omega, by omega, for_range (n := many.toNat) (fun i σ Hx => ∃ (rs : List (Int × Int)) (t' : Int) (y5 y6 y7 y8 : Option V), σ = [some (.ref d), some (.int many), some (.int most), some (.int wide), some (.ref p), y5, y6, y7, y8] ∧ LsA Hx p rs ∧ RunOk most rs ∧ rs.length = i ∧ t ≤ t' ∧ t' ≤ t + 10 * (i : Int) ∧ StAt Hx d c t' ∧ Kp d c H Hx) ⟨[], t, _, _, _, _, rfl, LsA.nil upd_same, (fun _ h => nomatch h), rfl, by omega, by omega, hS.same sp, Kp.same d c sp⟩ (fun i σ Hx hi hP => ?_) (fun σ Hx hP => ?_)⟩
    · obtain ⟨rs, t', y5, y6, y7, y8, rfl, hL, hro, hl, u0, u1, hS2, k2⟩ := hP
      refine ⟨_, rfl, d, c, t', 5, rfl, hS2, by omega, by decide, by decide, fun kd H3 kd0 kd1 hS3 k3 => ?_⟩
      refine ⟨_, rfl, _, rfl, _, _, rfl, rfl, d, c, t' + 1, most + 1, rfl, hS3, by omega, by omega, by omega, fun fi H4 fi0 fi1 hS4 k4 => ?_⟩
      refine ⟨_, rfl, _, rfl, _, rfl, _, rfl, d, c, t' + 1 + 1, wide, rfl, hS4, by omega, by omega, by omega, fun wi H5 wi0 wi1 hS5 k5 => ⟨_, _, rfl, rfl, _, _, rfl, ?_⟩⟩
      have hL5 := ((hL.kp hS2 k3 offp).kp hS3 k4 offp).kp hS4 k5 offp
      have k25 := (k3.trans k4).trans k5
      have mn : ∀ a b : Int, a ≤ most → 0 ≤ b → a ≤ (if a + b < most then a + b else most) ∧ (if a + b < most then a + b else most) ≤ most := fun a b h1 h2 => by split <;> omega
      refine ⟨fun σ' H' => ∃ (f l t3 : Int), σ' = [some (.ref d), some (.int many), some (.int most), some (.int wide), some (.ref p), some (.int (0 + (i : Int))), some (.int kd), some (.int f), some (.int l)] ∧ 0 ≤ f ∧ f ≤ l ∧ l ≤ most ∧ LsA H' p rs ∧ t' ≤ t3 ∧ t3 ≤ t' + 4 ∧ StAt H' d c t3 ∧ Kp d c H H', ?_, ?_⟩
      · have skip : ∀ H', Same H5 H' → ∃ (f l t3 : Int), [some (V.ref d), some (.int many), some (.int most), some (.int wide), some (.ref p), some (.int (0 + (i : Int))), some (.int kd), some (.int fi), some (.int (if fi + wi < most then fi + wi else most))] = [some (.ref d), some (.int many), some (.int most), some (.int wide), some (.ref p), some (.int (0 + (i : Int))), some (.int kd), some (.int f), some (.int l)] ∧ 0 ≤ f ∧ f ≤ l ∧ l ≤ most ∧ LsA H' p rs ∧ t' ≤ t3 ∧ t3 ≤ t' + 4 ∧ StAt H' d c t3 ∧ Kp d c H H' := fun H' s' => ⟨fi, _, t' + 1 + 1 + 1, rfl, fi0, (mn fi wi (by omega) wi0).1, (mn fi wi (by omega) wi0).2, hL5.same s', by omega, by omega, hS5.same s', (k2.trans k25).trans (Kp.same d c s')⟩
        refine ⟨_, rfl, rfl, _, rfl, ite2 (fun c1 => ?_) (fun c1 => ite2 (fun z => nomatch z) (fun _ => skip H5 (Same.refl _)))⟩
        refine ⟨_, rfl, Nat.zero_le _, fun n nn => ?_⟩
        have sn := same_upd (o := .lst []) nn
        refine ne_nilP (hL5.same sn) upd_same ⟨_, rfl, ite2 (fun c2 => ?_) (fun c2 => skip _ sn)⟩
        have pos : 0 < rs.length := by
          cases rs with
          | nil => cases c2
          | cons => simp
        have hL6 := hL5.same sn
        have hS6 := hS5.same sn
        obtain ⟨us, ep, hpr⟩ := id hL6
        have lu := hpr.1
        refine ⟨_, rfl, _, rfl, _, rfl, p, _, rfl, .inl (SqL.of ep), d, c, t' + 1 + 1 + 1, (rs.length : Int), by rw [lu]; rfl, hS6, by omega, by omega, by omega, fun r H6 r0 r1 hS7 k7 => ?_⟩
        obtain ⟨v, ev, hv⟩ := pick_at (xs := us) (n := rs.length) lu r0 r1
        obtain ⟨j, hj⟩ := List.getElem?_of_mem hv
        obtain ⟨g, T, eg, rfl, eT⟩ := prs_at hpr hj
        have eT6 := (hpr.kp hS6 k7)
        obtain ⟨g', T', eg', z', eT'⟩ := prs_at eT6 hj
        cases z'
        rw [eg] at eg'
        cases eg'
        obtain ⟨g0, g1, g2⟩ := hro g (List.mem_of_getElem? eg)
        refine ⟨p, _, r, _, rfl, rfl, SqL.of (k7 _ _ offp.1 offp.2 ep), ev, T, _, rfl, .inl (.inl eT'), rfl, _, _, rfl, _, _, rfl, rfl, ?_⟩
        exact ⟨g.1, g.2, t' + 1 + 1 + 1 + 1, rfl, g0, g1, g2, hL6.kp hS6 k7 offp, by omega, by omega, hS7, ((k2.trans k25).trans (Kp.same d c sn)).trans k7⟩
      rintro σ6 H6 ⟨f1, l1, t6, rfl, f10, f11, f12, hL6, v0, v1, hS6, k6⟩
      refine ⟨fun σ' H' => ∃ (f l t3 : Int), σ' = [some (.ref d), some (.int many), some (.int most), some (.int wide), some (.ref p), some (.int (0 + (i : Int))), some (.int kd), some (.int f), some (.int l)] ∧ 0 ≤ f ∧ f ≤ l ∧ l ≤ most ∧ LsA H' p rs ∧ t' ≤ t3 ∧ t3 ≤ t' + 8 ∧ StAt H' d c t3 ∧ Kp d c H H', ?_, ?_⟩
      · have skip : ∀ H', Same H6 H' → ∃ (f l t3 : Int), [some (V.ref d), some (.int many), some (.int most), some (.int wide), some (.ref p), some (.int (0 + (i : Int))), some (.int kd), some (.int f1), some (.int l1)] = [some (.ref d), some (.int many), some (.int most), some (.int wide), some (.ref p), some (.int (0 + (i : Int))), some (.int kd), some (.int f), some (.int l)] ∧ 0 ≤ f ∧ f ≤ l ∧ l ≤ most ∧ LsA H' p rs ∧ t' ≤ t3 ∧ t3 ≤ t' + 8 ∧ StAt H' d c t3 ∧ Kp d c H H' := fun H' s' => ⟨f1, l1, t6, rfl, f10, f11, f12, hL6.same s', by omega, by omega, hS6.same s', k6.trans (Kp.same d c s')⟩
        refine ⟨_, rfl, rfl, _, rfl, ite2 (fun c1 => ?_) (fun c1 => ite2 (fun z => nomatch z) (fun _ => skip H6 (Same.refl _)))⟩
        refine ⟨_, rfl, Nat.zero_le _, fun n nn => ?_⟩
        have sn := same_upd (o := .lst []) nn
        refine ne_nilP (hL6.same sn) upd_same ⟨_, rfl, ite2 (fun c2 => ?_) (fun c2 => skip _ sn)⟩
        have hne : rs ≠ [] := fun z => by rw [z] at c2; cases c2
        have hL7 := hL6.same sn
        have hS7 := hS6.same sn
        obtain ⟨us, ep, hpr⟩ := id hL7
        obtain ⟨rs', g, rfl⟩ : ∃ rs' g, rs = rs' ++ [g] := ⟨_, _, (List.dropLast_concat_getLast hne).symm⟩
        obtain ⟨us', T, rfl, eT, _⟩ := hpr.last
        obtain ⟨g0, g1, g2⟩ := hro g (List.mem_append_right _ (List.mem_singleton.mpr rfl))
        have em : atI (us' ++ [V.ref T]) (-1) = some (.ref T) := atI_last _ _
        refine ⟨_, rfl, _, rfl, 1, rfl, p, _, -1, _, rfl, rfl, SqL.of ep, em, ?_⟩
        refine ⟨T, _, 1, _, rfl, rfl, .inl (.inl eT), atI_nat (j := 1) rfl, ?_⟩
        refine ⟨_, rfl, d, c, t6, 2, rfl, hS7, by omega, by decide, by decide, fun r2 H8 r20 r21 hS8 k8 => ⟨_, _, rfl, rfl, _, _, rfl, ?_⟩⟩
        refine ⟨_, rfl, _, rfl, _, rfl, _, rfl, d, c, t6 + 1, wide, rfl, hS8, by omega, by omega, by omega, fun r3 H9 r30 r31 hS9 k9 => ⟨_, _, rfl, rfl, _, _, rfl, ?_⟩⟩
        have mm : ∀ x : Int, 0 ≤ x → 0 ≤ (if x < most then x else most) ∧ (if x < most then x else most) ≤ most := fun x h => by split <;> omega
        have m2 := mm (g.2 + r2) (by omega)
        exact ⟨_, _, t6 + 1 + 1, rfl, m2.1, (mn _ r3 m2.2 r30).1, (mn _ r3 m2.2 r30).2, (hL7.kp hS7 k8 offp).kp hS8 k9 offp, by omega, by omega, hS9, ((k6.trans (Kp.same d c sn)).trans k8).trans k9⟩
      rintro σ7 H7 ⟨f2, l2, t7, rfl, f20, f21, f22, hL7, v20, v21, hS7, k7⟩
      obtain ⟨us, ep, hpr⟩ := hL7
      refine ⟨_, rfl, .inl ⟨rfl, _, SqL.of ep⟩, _, rfl, _, rfl, (by show 2 ≤ sizeLine; decide), fun T nT => ?_⟩
      have sT := same_upd (o := .tup [.int f2, .int l2]) nT
      have lu := hpr.1
      refine ⟨p, _, _, rfl, rfl, sT _ _ ep, small1000 (by omega), ?_⟩
      refine ⟨rs ++ [(f2, l2)], t7, _, _, _, _, rfl, ⟨_, upd_same, ((hpr.same sT).snoc upd_same).upd_lst (sT _ _ ep)⟩, fun r hr' => ?_, by rw [List.length_append]; show rs.length + 1 = _; omega, by omega, by omega, (hS7.same sT).upd offp.1 offp.2, fun b o b1 b2 e => ?_⟩
      · rcases List.mem_append.mp hr' with z | z
        · exact hro r z
        · rw [List.mem_singleton.mp z]; exact ⟨f20, f21, f22⟩
      · rw [upd_ne (ne_of_none e np)]
        exact sT _ _ (k7 b o b1 b2 e)
    · obtain ⟨rs, t', y5, y6, y7, y8, rfl, hL, hro, hl, u0, u1, hS2, k2⟩ := hP
      exact ⟨_, rfl, q p rs Hx t' np hL hro (by omega) u0 (by omega) hS2 k2⟩
end

/-! ### great numbers -/
abbrev sGreat : Stmt := topS 24
theorem scGreat : FnScope ["_law_state", "_law_parts", "_law_turn"] ["_law_state"] (defScope sGreat) := ⟨rfl, rfl, rfl, by decide +kernel, rfl, by decide +kernel, by decide +kernel⟩
def spGreat : Sp := fun vs H Q _ => ∃ (d c : Addr) (t : Int), vs = [.ref d] ∧ StAt H d c t ∧ t + 3 < 2 ^ 60 ∧ ∀ r H', 0 ≤ r → r < 10 ^ 30 → StAt H' d c (t + 3) → Kp d c H H' → Q (.int r) H'
section
variable {K : PySem.W.Frag} {mg : Str → Option Value} {P : Program} {w : World} {base : Heap}
theorem ok_great {f : Addr} {fd : FuncData} (F : Fun K "_law_great" "_law_great" sGreat f fd) (CT : Cal P w K mg base 1 "_law_take" ["_law_state", "_law_many"] spTake) (mr : mg "range" = none) : FnOk P w K mg base CX0 2 f fd ["_law_state"] spGreat := by
  refine F.ok scGreat (fun vs H Q E h => ?_) (fun cdv A outer s H vs Q E hr h => ?_)
  · obtain ⟨d, c, t, rfl, _⟩ := h
    rfl
  · obtain ⟨d, c, t, rfl, hS, ht, q⟩ := h
    refine ⟨_, pss_cons (ps_setLc (i := 1) (own := [("_law_turn", 2)]) (g := gName 2) (tt := tYes) (te := tCall spTake [] E0 (tCons (tVar 0) (tCons (tOp (rI CPow fun i j => .int (i ^ j.toNat)) (tC (.int 10)) (tC (.int 10))) tNil))) rfl scGreat.nd rfl rfl rfl (pi_range1 rfl mr (pa_cons pe_int pa_nil))
            (blkOk_by (own := [("_law_turn", 2)]) (N := ["_law_state", "_law_parts", "_law_turn"]) (sc := defScope sGreat) (by decide +kernel)) (fun _ _ _ _ _ => pg_name (i := 2) scGreat.nd rfl (.inl rfl)) (fun _ _ _ _ _ => pts_nil) (fun _ _ _ _ _ => pe_own CT hr (by rfl) (pa_cons (pv 0) (pa_cons (pe_op op_pow pe_int pe_int) pa_nil))))
      (pss_one (ps_ret (pe_op op_add (pe_op op_add (pe_op op_mul (pe_ix ix_list (pv 1) pe_int (fun _ _ => rfl)) (pe_op op_pow pe_int pe_int)) (pe_op op_mul (pe_ix ix_list (pv 1) pe_int (fun _ _ => rfl)) (pe_op op_pow pe_int pe_int))) (pe_ix ix_list (pv 1) pe_int (fun _ _ => rfl))))), ?_⟩
    refine ⟨3, rfl, by decide, by decide, fun D nD => lc_range (n := 3) (fun j H' => ∃ ns : List Int, H' D = some (.lst (ns.map V.int)) ∧ ns.length = j ∧ (∀ x ∈ ns, 0 ≤ x ∧ x < 10 ^ 10) ∧ StAt H' d c (t + j) ∧ Kp d c H H') ⟨[], upd_same, rfl, (fun _ z => nomatch z), (by show StAt _ d c (t + 0); rw [Int.add_zero]; exact hS.same (same_upd nD)), Kp.same d c (same_upd nD)⟩ (fun j H' hj hP => ?_) (fun H1 hP => ?_)⟩
    · obtain ⟨ns, eD, hl, hns, hS', k'⟩ := hP
      have offD := hS.off nD
      refine ⟨rfl, _, rfl, 10, 10, rfl, rfl, ⟨by decide, by decide, by decide⟩, d, c, t + j, 10 ^ 10, rfl, hS', by omega, by decide, by decide, fun r H2 r0 r1 hS2 k2 => ?_⟩
      refine ⟨_, k2 _ _ offD.1 offD.2 eD, small1000 (by rw [List.length_map]; omega), ns ++ [r], by rw [upd_same, List.map_append]; rfl, by rw [List.length_append, hl]; rfl, fun x hx => ?_, ?_, fun b o b1 b2 e => ?_⟩
      · rcases List.mem_append.mp hx with z | z
        · exact hns x z
        · rw [List.mem_singleton.mp z]; exact ⟨r0, r1⟩
      · have ej : t + ((j + 1 : Nat) : Int) = t + (j : Int) + 1 := by omega
        rw [ej]
        exact hS2.upd offD.1 offD.2
      · rw [upd_ne (ne_of_none e nD)]
        exact k2 b o b1 b2 (k' b o b1 b2 e)
    · obtain ⟨ns, eD, hl, hns, hS1, k1⟩ := hP
      match ns, hl with
      | [x, y, z], _ =>
        obtain ⟨x0, x1⟩ := hns x (by simp)
        obtain ⟨y0, y1⟩ := hns y (by simp)
        obtain ⟨z0, z1⟩ := hns z (by simp)
        refine ⟨_, rfl, D, _, 0, .int x, rfl, rfl, SqL.of eD, rfl, 10, 20, rfl, rfl, ⟨by decide, by decide, by decide⟩, x, 10 ^ 20, rfl, rfl, .inl ⟨by omega, by omega⟩, ?_⟩
        refine ⟨_, rfl, D, _, 1, .int y, rfl, rfl, SqL.of eD, rfl, 10, 10, rfl, rfl, ⟨by decide, by decide, by decide⟩, y, 10 ^ 10, rfl, rfl, .inl ⟨by omega, by omega⟩, x * 10 ^ 20, y * 10 ^ 10, rfl, rfl, ?_⟩
        refine ⟨_, rfl, D, _, 2, .int z, rfl, rfl, SqL.of eD, rfl, x * 10 ^ 20 + y * 10 ^ 10, z, rfl, rfl, ?_⟩
        exact q _ H1 (by omega) (by omega) hS1 k1
end

/-! ### all of a run is gone -/
def inB2 (p : Int × Int) (n : Int) : Bool := decide (p.1 ≤ n) && decide (n ≤ p.2)
theorem inB2_iff {p : Int × Int} {n : Int} : inB2 p n = true ↔ p.1 ≤ n ∧ n ≤ p.2 := by simp [inB2]
def goneB (gs : List (Int × Int)) (n : Int) : Bool := gs.any fun p => inB2 p n
theorem goneB_iff {gs : List (Int × Int)} {n : Int} : goneB gs n = true ↔ InS gs n := by
  unfold goneB
  rw [List.any_eq_true]
  exact ⟨fun ⟨p, h1, h2⟩ => ⟨p, h1, inB2_iff.mp h2⟩, fun ⟨p, h1, h2⟩ => ⟨p, h1, inB2_iff.mpr h2⟩⟩
def allGB (gs : List (Int × Int)) (r : Int × Int) : Bool := ((List.range (r.2 + 1 - r.1).toNat).map fun k : Nat => goneB gs (r.1 + (k : Int))).all id
theorem allGB_iff {gs : List (Int × Int)} {r : Int × Int} : allGB gs r = true ↔ ∀ n, r.1 ≤ n → n ≤ r.2 → InS gs n := by
  unfold allGB
  rw [List.all_map, List.all_eq_true]
  constructor
  · intro h n h1 h2
    have := h (n - r.1).toNat (List.mem_range.mpr (by omega))
    have e : r.1 + ((n - r.1).toNat : Int) = n := by omega
    have this : goneB gs (r.1 + ((n - r.1).toNat : Int)) = true := this
    rw [e] at this
    exact goneB_iff.mp this
  · intro h k hk
    have := List.mem_range.mp hk
    exact goneB_iff.mpr (h _ (by omega) (by omega))

open LamX
/-! ### the fewest samples -/
theorem u65 {k : Nat} {A : Around} (r : Room k A) : A.units + 65 < cLine := by have := r.un; omega
/-- lists of sets -/
def LR (H : Hp) (us : List V) (ls : List (List (Int × Int))) : Prop := us.length = ls.length ∧ ∀ (i : Nat) l, ls[i]? = some l → ∃ a, us[i]? = some (.ref a) ∧ LsA H a l
theorem LR.same {H H' : Hp} {us : List V} {ls : List (List (Int × Int))} (h : LR H us ls) (s : Same H H') : LR H' us ls := ⟨h.1, fun i r e => let ⟨a, h1, h2⟩ := h.2 i r e; ⟨a, h1, h2.same s⟩⟩
theorem LR.tbl {P : Addr} {q : Str} {H H2 : Hp} {us : List V} {ls : List (List (Int × Int))} (h : LR H us ls) (t : TbL P q H H2) : LR H2 us ls := ⟨h.1, fun i r e => let ⟨a, h1, h2⟩ := h.2 i r e; ⟨a, h1, h2.tbl t⟩⟩
theorem LR.nil {H : Hp} : LR H [] [] := ⟨rfl, fun i p e => by simp at e⟩
theorem LR.snoc {H : Hp} {us : List V} {ls : List (List (Int × Int))} {a : Addr} {l : List (Int × Int)} (h : LR H us ls) (e : LsA H a l) : LR H (us ++ [.ref a]) (ls ++ [l]) := by
  refine ⟨by rw [List.length_append, List.length_append, h.1]; rfl, fun i r er => ?_⟩
  by_cases hi : i < ls.length
  · rw [List.getElem?_append_left hi] at er
    obtain ⟨b, h1, h2⟩ := h.2 i r er
    exact ⟨b, by rw [List.getElem?_append_left (by rw [h.1]; exact hi)]; exact h1, h2⟩
  · rw [List.getElem?_append_right (by omega)] at er
    have h0 : i - ls.length < 1 := (List.getElem?_eq_some_iff.mp er).1
    obtain rfl : i = ls.length := by omega
    rw [Nat.sub_self] at er
    cases er
    exact ⟨a, by rw [← h.1, List.getElem?_append_right (Nat.le_refl _), Nat.sub_self]; rfl, e⟩
def setD' (ps : List (Int × Int)) : PyData := .list (ps.map pairD)
theorem dp_sets {K : PySem.W.Frag} {H : Hp} : ∀ {us : List V} {ls : List (List (Int × Int))}, LR H us ls → DpAll K H us (ls.map setD')
  | [], [], _ => .nil
  | [], _ :: _, h => nomatch h.1
  | _ :: _, [], h => nomatch h.1
  | u :: us, l :: ls, h => by
    obtain ⟨a, e1, e2⟩ := h.2 0 l rfl
    have eu : u = .ref a := Option.some.inj e1
    subst eu
    exact .cons e2.dp (dp_sets ⟨Nat.succ.inj h.1, fun i r e => h.2 (i + 1) r e⟩)
theorem lay_sets : ∀ ls : List (List (Int × Int)), PyData.canLayAll0 (ls.map setD') = true
  | [] => by simp only [List.map_nil, PyData.canLayAll0]
  | l :: r => by
    rw [List.map_cons, PyData.canLayAll0, lay_sets r, setD', PyData.canLay0, lay_prs]
    rfl
theorem depth_sets : ∀ ls : List (List (Int × Int)), PyData.depthAll (ls.map setD') ≤ 2
  | [] => by simp only [List.map_nil, PyData.depthAll]; omega
  | l :: r => by
    rw [List.map_cons, PyData.depthAll, setD', PyData.depth]
    have := depth_sets r
    have := depth_prs l
    omega
theorem shaped_sets (ls : List (List (Int × Int))) : SeqAt.shaped (PyData.list (ls.map setD')) = true := by
  unfold SeqAt.shaped
  rw [PyData.canLay0, lay_sets, PyData.depth, Bool.true_and]
  exact decide_eq_true (by have := depth_sets ls; omega)
theorem eqv_set (l : List (Int × Int)) : PyData.eqv (setD' l) (.list []) = l.isEmpty := eqv_none _ _
/-- the least and the greatest of the i-th set -/
def Lf (ls : List (List (Int × Int))) (i : Nat) : Int × Int := match ls[i]? with
  | some l => (((l[0]?).getD (0, 0)).1, ((l[l.length - 1]?).getD (0, 0)).2)
  | none => (0, 0)
def kI (ls : List (List (Int × Int))) : V → Int
  | .int n => (Lf ls n.toNat).2
  | _ => 0
/-- what samples are rightly told -/
structure SampOk (rs gs : List (Int × Int)) (ns : List Int) : Prop where
  free : ∀ e ∈ ns, ¬ InS gs e ∧ ∃ r ∈ rs, r.1 ≤ e ∧ e ≤ r.2
  inc : ns.Pairwise (· < ·)
  hit : hitsAll rs ns
  low : ∀ row, (∀ e ∈ row, ¬ InS gs e) → hitsAll rs row → ns.length ≤ row.length
theorem told_Lf {rs gs : List (Int × Int)} {ls : List (List (Int × Int))} (hlj : ls.length = rs.length) (htold : ∀ (i : Nat) r l, rs[i]? = some r → ls[i]? = some l → Told (fun n => (r.1 ≤ n ∧ n ≤ r.2) ∧ ¬ InS gs n) l) (hne : ∀ l ∈ ls, l ≠ []) {i : Nat} (hi : i < rs.length) :
    ∃ r l p q, rs[i]? = some r ∧ ls[i]? = some l ∧ l[0]? = some p ∧ l[l.length - 1]? = some q ∧ Lf ls i = (p.1, q.2) ∧ ((r.1 ≤ p.1 ∧ p.1 ≤ r.2) ∧ ¬ InS gs p.1) ∧ ((r.1 ≤ q.2 ∧ q.2 ≤ r.2) ∧ ¬ InS gs q.2) ∧ ∀ n, ((r.1 ≤ n ∧ n ≤ r.2) ∧ ¬ InS gs n) → p.1 ≤ n ∧ n ≤ q.2 := by
  have e1 : rs[i]? = some rs[i] := List.getElem?_eq_getElem hi
  have hi2 : i < ls.length := by omega
  have e2 : ls[i]? = some ls[i] := List.getElem?_eq_getElem hi2
  obtain ⟨p, q, h1, h2, h3, h4, h5⟩ := told_ends (htold i _ _ e1 e2) (hne _ (List.getElem_mem hi2))
  refine ⟨_, _, p, q, e1, e2, h1, h2, ?_, h3, h4, h5⟩
  unfold Lf
  rw [e2]
  simp only [h1, h2]
  rfl
theorem samp_of {rs gs : List (Int × Int)} {ls : List (List (Int × Int))} (hlj : ls.length = rs.length) (htold : ∀ (i : Nat) r l, rs[i]? = some r → ls[i]? = some l → Told (fun n => (r.1 ≤ n ∧ n ≤ r.2) ∧ ¬ InS gs n) l) (hne : ∀ l ∈ ls, l ≠ []) {os : List Nat} {ns : List Int} {ch : List Nat} (ho : ∀ i, i ∈ os ↔ i < rs.length) (g : Gr (Lf ls) os ns ch) : SampOk rs gs ns := by
  have fr : ∀ e ∈ ns, ¬ InS gs e ∧ ∃ r ∈ rs, r.1 ≤ e ∧ e ≤ r.2 := fun e he => by
    rw [g.map] at he
    obtain ⟨i, hi, rfl⟩ := List.mem_map.mp he
    obtain ⟨r, l, p, q, e1, e2, h1, h2, h3, h4, h5, h6⟩ := told_Lf hlj htold hne ((ho i).mp (g.sub i hi))
    show ¬ InS gs (Lf ls i).2 ∧ ∃ r ∈ rs, r.1 ≤ (Lf ls i).2 ∧ (Lf ls i).2 ≤ r.2
    rw [h3]
    exact ⟨h5.2, r, List.mem_of_getElem? e1, h5.1⟩
  refine ⟨fr, g.inc, fun r hr => ?_, fun row hf hh => g.low fun i hi => ?_⟩
  · obtain ⟨i, hi⟩ := List.getElem?_of_mem hr
    have lt : i < rs.length := (List.getElem?_eq_some_iff.mp hi).1
    obtain ⟨r', l, p, q, e1, e2, h1, h2, h3, h4, h5, h6⟩ := told_Lf hlj htold hne lt
    rw [hi] at e1
    cases e1
    obtain ⟨e, he, a1, a2⟩ := g.hit i ((ho i).mpr lt)
    rw [h3] at a1 a2
    refine ⟨e, he, ?_, ?_⟩
    · have : p.1 ≤ e := a1
      have := h4.1.1
      omega
    · have : e ≤ q.2 := a2
      have := h5.1.2
      omega
  · have lt := (ho i).mp hi
    obtain ⟨r', l, p, q, e1, e2, h1, h2, h3, h4, h5, h6⟩ := told_Lf hlj htold hne lt
    obtain ⟨e, he, a1, a2⟩ := hh r' (List.mem_of_getElem? e1)
    obtain ⟨b1, b2⟩ := h6 e ⟨⟨a1, a2⟩, hf e he⟩
    rw [h3]
    exact ⟨e, he, b1, b2⟩
/-- the places in the order of their greatest -/
theorem order_of (ls : List (List (Int × Int))) (n : Nat) : ∃ os : List Nat, (rngV n).mergeSort (PySem.W.dataLe false fun x => PyData.int (kI ls x)) = os.map (fun i : Nat => V.int (i : Int)) ∧ (∀ i, i ∈ os ↔ i < n) ∧ os.length = n ∧ os.Pairwise fun i j => (Lf ls i).2 ≤ (Lf ls j).2 := by
  rw [PySem.W.dataLe_int]
  have hp := List.mergeSort_perm (rngV n) (fun a b => decide (kI ls a ≤ kI ls b))
  have hs := List.pairwise_mergeSort (le := fun a b => decide (kI ls a ≤ kI ls b)) (fun a b c h1 h2 => decide_eq_true (Int.le_trans (of_decide_eq_true h1) (of_decide_eq_true h2))) (fun a b => by
    rcases Int.le_total (kI ls a) (kI ls b) with z | z
    · rw [decide_eq_true z]; rfl
    · rw [decide_eq_true z, Bool.or_true]) (rngV n)
  revert hp hs
  generalize (rngV n).mergeSort (fun a b => decide (kI ls a ≤ kI ls b)) = xs
  intro hp hs
  have bk : ∀ x ∈ xs, ∃ i : Nat, i < n ∧ x = V.int (i : Int) := fun x hx => by
    obtain ⟨i, hi, rfl⟩ := List.mem_map.mp (hp.mem_iff.mp hx)
    exact ⟨i, List.mem_range.mp hi, rfl⟩
  let nt : V → Nat := fun x => match x with | .int n => n.toNat | _ => 0
  have e : xs = (xs.map nt).map (fun i : Nat => V.int (i : Int)) := by
    rw [List.map_map]
    conv => lhs; rw [← List.map_id xs]
    refine List.map_congr_left fun x hx => ?_
    obtain ⟨i, _, rfl⟩ := bk x hx
    show V.int (i : Int) = V.int (((i : Int).toNat : Nat) : Int)
    simp
  refine ⟨xs.map nt, e, fun i => ⟨fun hi => ?_, fun hi => ?_⟩, by rw [List.length_map, hp.length_eq, List.length_map, List.length_range], ?_⟩
  · obtain ⟨x, hx, rfl⟩ := List.mem_map.mp hi
    obtain ⟨i, hi, rfl⟩ := bk x hx
    show (i : Int).toNat < n
    omega
  · exact List.mem_map.mpr ⟨V.int (i : Int), hp.mem_iff.mpr (List.mem_map.mpr ⟨i, List.mem_range.mpr hi, rfl⟩), by show (i : Int).toNat = i; omega⟩
  · rw [List.pairwise_map]
    refine List.Pairwise.imp_of_mem (fun {a b} ha hb h => ?_) hs
    obtain ⟨i, _, rfl⟩ := bk a ha
    obtain ⟨j, _, rfl⟩ := bk b hb
    exact of_decide_eq_true h

/-! ### the greedy way, step by step -/
def grS (L : Nat → Int × Int) (s : List Int × List Nat) (i : Nat) : List Int × List Nat := if ∀ e ∈ s.1, e < (L i).1 then (s.1 ++ [(L i).2], s.2 ++ [i]) else s
def grF (L : Nat → Int × Int) (os : List Nat) : List Int × List Nat := os.foldl (grS L) ([], [])
theorem grF_snoc {L : Nat → Int × Int} {os : List Nat} {i : Nat} : grF L (os ++ [i]) = grS L (grF L os) i := by
  unfold grF
  rw [List.foldl_append]
  rfl
theorem sorted_one : ∀ {xs ys : List Int}, xs.Perm ys → xs.Pairwise (· ≤ ·) → ys.Pairwise (· ≤ ·) → xs = ys
  | [], ys, h, _, _ => (List.nil_perm.mp h).symm ▸ rfl
  | x :: xs, [], h, _, _ => absurd h.length_eq (by simp)
  | x :: xs, y :: ys, h, h1, h2 => by
    obtain ⟨a1, a2⟩ := List.pairwise_cons.mp h1
    obtain ⟨b1, b2⟩ := List.pairwise_cons.mp h2
    have le1 : x ≤ y := by
      rcases List.mem_cons.mp (h.mem_iff.mpr (List.mem_cons_self ..) : y ∈ x :: xs) with z | z
      · rw [z]; exact Int.le_refl _
      · exact a1 y z
    have le2 : y ≤ x := by
      rcases List.mem_cons.mp (h.mem_iff.mp (List.mem_cons_self ..) : x ∈ y :: ys) with z | z
      · rw [z]; exact Int.le_refl _
      · exact b1 x z
    obtain rfl : x = y := Int.le_antisymm le1 le2
    rw [sorted_one ((List.perm_cons x).mp h) a2 b2]
/-- what is told of runs none of which is gone whole -/
structure LeastT (rs gs : List (Int × Int)) (ns ap : List Int) : Prop where
  ex : ∃ (ls : List (List (Int × Int))) (os ch : List Nat), ls.length = rs.length ∧ (∀ (i : Nat) r l, rs[i]? = some r → ls[i]? = some l → Told (fun n => (r.1 ≤ n ∧ n ≤ r.2) ∧ ¬ InS gs n) l) ∧ (∀ l ∈ ls, l ≠ []) ∧
    (rngV rs.length).mergeSort (PySem.W.dataLe false fun x => PyData.int (kI ls x)) = os.map (fun i : Nat => V.int (i : Int)) ∧ (∀ i, i ∈ os ↔ i < rs.length) ∧ grF (Lf ls) os = (ns, ch) ∧ Gr (Lf ls) os ns ch ∧ ap.Perm (ch.map fun i : Nat => (i : Int)) ∧ ap.Pairwise (· ≤ ·)
theorem LeastT.uniq {rs gs : List (Int × Int)} {ns ap ns' ap' : List Int} (h : LeastT rs gs ns ap) (h' : LeastT rs gs ns' ap') : ns = ns' ∧ ap = ap' := by
  obtain ⟨ls, os, ch, h1, h2, h3, h4, h5, h6, h7, h8, h9⟩ := h.ex
  obtain ⟨ls', os', ch', k1, k2, k3, k4, k5, k6, k7, k8, k9⟩ := h'.ex
  have el : ls = ls' := by
    refine List.ext_getElem? fun i => ?_
    by_cases c : i < rs.length
    · have e0 : rs[i]? = some rs[i] := List.getElem?_eq_getElem c
      have e1 : ls[i]? = some (ls[i]'(by omega)) := List.getElem?_eq_getElem _
      have e2 : ls'[i]? = some (ls'[i]'(by omega)) := List.getElem?_eq_getElem _
      rw [e1, e2, Told.one (h2 i _ _ e0 e1) (k2 i _ _ e0 e2) fun _ => Iff.rfl]
    · rw [List.getElem?_eq_none (by omega), List.getElem?_eq_none (by omega)]
  subst el
  rw [h4] at k4
  have eo : os = os' := by
    have hinj : ∀ {a b : List Nat}, a.map (fun i : Nat => V.int (i : Int)) = b.map (fun i : Nat => V.int (i : Int)) → a = b := fun {a b} e => by
      have := congrArg (List.map fun v : V => match v with | .int n => n.toNat | _ => 0) e
      simpa [List.map_map, Function.comp_def] using this
    exact hinj k4
  subst eo
  rw [h6] at k6
  cases k6
  exact ⟨rfl, sorted_one (h8.trans k8.symm) h9 k9⟩
/-- what of it is to be looked at -/
structure SampT (rs gs : List (Int × Int)) (ns ap : List Int) : Prop extends SampOk rs gs ns where
  len : ap.length = ns.length
  ainc : ap.Pairwise (· < ·)
  arng : ∀ p ∈ ap, 0 ≤ p ∧ p < rs.length
  far : ∀ p ∈ ap, ∀ q ∈ ap, p ≠ q → ∀ rp rq, rs[p.toNat]? = some rp → rs[q.toNat]? = some rq → ∀ n, ¬ (((rp.1 ≤ n ∧ n ≤ rp.2) ∧ (rq.1 ≤ n ∧ n ≤ rq.2)) ∧ ¬ InS gs n)
theorem LeastT.samp {rs gs : List (Int × Int)} {ns ap : List Int} (h : LeastT rs gs ns ap) : SampT rs gs ns ap := by
  obtain ⟨ls, os, ch, h1, h2, h3, h4, h5, h6, h7, h8, h9⟩ := h.ex
  have low2 : ∀ i ∈ ch, (Lf ls i).1 ≤ (Lf ls i).2 := fun i hi => by
    obtain ⟨r, l, p, q, e1, e2, f1, f2, f3, f4, f5, f6⟩ := told_Lf h1 h2 h3 ((h5 i).mp (h7.sub i hi))
    rw [f3]
    exact (f6 p.1 f4).2
  have nd : ch.Nodup := by
    refine List.Pairwise.imp_of_mem (fun {a b} ha hb hab z => ?_) h7.chain
    have := low2 a ha
    rw [z] at hab this
    omega
  have inB : ∀ p ∈ ap, ∃ i ∈ ch, p = ((i : Nat) : Int) := fun p hp => by
    obtain ⟨i, hi, e⟩ := List.mem_map.mp (h8.mem_iff.mp hp)
    exact ⟨i, hi, e.symm⟩
  have apart : ∀ i ∈ ch, ∀ j ∈ ch, i ≠ j → (Lf ls i).2 < (Lf ls j).1 ∨ (Lf ls j).2 < (Lf ls i).1 := by
    have hc := h7.chain
    clear h6 h7 h8 h9 low2 nd inB
    induction ch with
    | nil => intro i hi; cases hi
    | cons c cs ih =>
      obtain ⟨a1, a2⟩ := List.pairwise_cons.mp hc
      intro i hi j hj ne
      rcases List.mem_cons.mp hi with y | y <;> rcases List.mem_cons.mp hj with z | z
      · exact absurd (y.trans z.symm) ne
      · rw [y]; exact .inl (a1 j z)
      · rw [z]; exact .inr (a1 i y)
      · exact ih a2 i y j z ne
  refine ⟨samp_of h1 h2 h3 h5 h7, by rw [h8.length_eq, List.length_map, h7.map, List.length_map], ?_, fun p hp => ?_, fun p hp q hq ne rp rq ep eq n hn => ?_⟩
  · have nda : ap.Nodup := h8.nodup_iff.mpr (by
      refine List.pairwise_map.mpr (List.Pairwise.imp (fun h z => h ?_) nd)
      exact Int.ofNat_inj.mp z)
    exact List.Pairwise.imp₂ (fun a b (h1 : a ≤ b) (h2 : a ≠ b) => by omega) h9 nda
  · obtain ⟨i, hi, rfl⟩ := inB p hp
    have := (h5 i).mp (h7.sub i hi)
    omega
  · obtain ⟨i, hi, rfl⟩ := inB p hp
    obtain ⟨j, hj, rfl⟩ := inB q hq
    have nij : i ≠ j := fun z => ne (by rw [z])
    obtain ⟨r, l, p0, q0, e1, e2, f1, f2, f3, f4, f5, f6⟩ := told_Lf h1 h2 h3 ((h5 i).mp (h7.sub i hi))
    obtain ⟨r', l', p1, q1, e1', e2', f1', f2', f3', f4', f5', f6'⟩ := told_Lf h1 h2 h3 ((h5 j).mp (h7.sub j hj))
    rw [show ((i : Nat) : Int).toNat = i by omega, e1] at ep
    rw [show ((j : Nat) : Int).toNat = j by omega, e1'] at eq
    cases ep
    cases eq
    have g1 := f6 n ⟨hn.1.1, hn.2⟩
    have g2 := f6' n ⟨hn.1.2, hn.2⟩
    have g3 := apart i hi j hj nij
    rw [f3, f3'] at g3
    rcases g3 with z | z
    · have z : q0.2 < p1.1 := z
      omega
    · have z : q1.2 < p0.1 := z
      omega

/-! ## generator expressions with two fors -/
namespace GX
open PySem PySem.Spec PyProof.Rows L2 GenW
abbrev two (elt tg iter : Expr) (ifs : List Expr) (tg2 iter2 : Expr) (ifs2 : List Expr) (scope : Scope) (gpos : Pos) : Expr := .GeneratorExp elt (⟨tg, iter, ifs, 0⟩ :: [⟨tg2, iter2, ifs2, 0⟩]) scope gpos
section
variable {elt tg iter tg2 iter2 : Expr} {ifs ifs2 : List Expr} {scope : Scope} {gpos : Pos}
theorem compTurn_two (it acc : Value) (env : Env) : compTurn (two elt tg iter ifs tg2 iter2 ifs2 scope gpos) 0 it acc env = (do
      standAt iter.pos
      match ← pyNext it with
      | none => pure (.done .next)
      | some v =>
        letOwnedTupleGo tg it v
        assign tg env v
        let mut ok := true
        for c in ifs do
          if ok then ok ← isTrue c env (eval c env)
        if ok then
          let x ← eval iter2 env
          standAt iter2.pos
          let x ← foldedSetIterable iter2 env x
          let _ ← runOwn (.compStart (two elt tg iter ifs tg2 iter2 ifs2 scope gpos) 1 (← holding [x] (pyIter x)) acc env) env
        again (.compLoop (two elt tg iter ifs tg2 iter2 ifs2 scope gpos) 0 it acc env)) := by rfl
theorem compTurn_two_in (it acc : Value) (env : Env) : compTurn (two elt tg iter ifs tg2 iter2 ifs2 scope gpos) 1 it acc env = (do
      standAt iter2.pos
      match ← pyNext it with
      | none => pure (.done .next)
      | some v =>
        letOwnedTupleGo tg2 it v
        assign tg2 env v
        let mut ok := true
        for c in ifs2 do
          if ok then ok ← isTrue c env (eval c env)
        if ok then
          (do let v ← eval elt env; standAt elt.pos; let _ ← yieldOut env v)
        again (.compLoop (two elt tg iter ifs tg2 iter2 ifs2 scope gpos) 1 it acc env)) := by rfl
theorem over_two {A : Around} {it acc : Value} {env : Env} : A.over (.compLoop (two elt tg iter ifs tg2 iter2 ifs2 scope gpos) 0 it acc env) [] = A.deeper env := by
  first
    | rfl
    | (obtain ⟨hd, d, fr, gs, u⟩ := A; simp [Around.over, Around.deeper, marksOver, frameCount, unitsOf, envsOf, guardsOf, pushEnvs, pushGuards, Code.envs, Code.env?, Code.isFrame, Code.guards, Code.isGuard, Code.weight, Code.frames, Code.isCreation, Code.isCaller, Code.cUnits])
theorem over_two0 {A : Around} {it acc : Value} {env : Env} : A.over (.compStart (two elt tg iter ifs tg2 iter2 ifs2 scope gpos) 0 it acc env) [] = A.deeper env := by
  first
    | rfl
    | (obtain ⟨hd, d, fr, gs, u⟩ := A; simp [Around.over, Around.deeper, marksOver, frameCount, unitsOf, envsOf, guardsOf, pushEnvs, pushGuards, Code.envs, Code.env?, Code.isFrame, Code.guards, Code.isGuard, Code.weight, Code.frames, Code.isCreation, Code.isCaller, Code.cUnits])
theorem over_twoI {A : Around} {it acc it2 acc2 : Value} {env : Env} {k : Result → Sem Fin} {g : Bool} {l kp : List Value} {p : Pos} : A.over (.compLoop (two elt tg iter ifs tg2 iter2 ifs2 scope gpos) 1 it2 acc2 env) [.ret k none g l (.compLoop (two elt tg iter ifs tg2 iter2 ifs2 scope gpos) 0 it acc env) p kp] = A.deeper env := by
  first
    | rfl
    | (obtain ⟨hd, d, fr, gs, u⟩ := A; simp [Around.over, Around.deeper, marksOver, frameCount, unitsOf, envsOf, guardsOf, pushEnvs, pushGuards, Code.envs, Code.env?, Code.isFrame, Code.guards, Code.isGuard, Code.weight, Code.frames, Code.isCreation, Code.isCaller, Code.cUnits])
end
/-- the reading of the turns of two fors -/
def TurnsR2 {α : Type} (Stp : Stps α) (Fin : α → Hp → Prop) (J : It) (g : TG) (tt : TT) (ti2 : TI) (g2 : TG) (tt2 : TT) (te : TE) (vs vs2 : List Nat) (σ : L2.St) (W : Nat → Nat → α → Hp → Prop) : Prop := ∀ i m a H, W i m a H →
  (J.stop i H ∧ Fin a H) ∨ (J.go i H ∧ ∀ x H', J.yld i H x H' → g x (wipe σ vs) H' fun σ2 H2 => wipe σ2 vs = wipe σ vs ∧ tt σ2 H2 fun b H3 =>
    if b = true then ti2 σ2 H3 fun J2 H4 => ∃ W2 : Nat → Nat → α → Hp → Prop, (∃ m1, m1 < m ∧ W2 0 m1 a H4) ∧ ∀ j m1 a1 H5, W2 j m1 a1 H5 →
      (J2.stop j H5 ∧ ∃ m', m' < m1 ∧ W (i + 1) m' a1 H5) ∨ (J2.go j H5 ∧ ∃ Nx : α → Hp → Prop, (∀ a' H', Nx a' H' → ∃ m', m' < m1 ∧ W2 (j + 1) m' a' H') ∧ ∀ y H6, J2.yld j H5 y H6 → g2 y (wipe σ2 vs2) H6 fun σ3 H7 => wipe σ3 vs2 = wipe σ2 vs2 ∧ tt2 σ3 H7 fun b2 H8 =>
        if b2 = true then te σ3 H8 fun z H9 => Stp a1 z H9 Nx else Nx a1 H8)
    else ∃ m', m' < m ∧ W (i + 1) m' a H3)
section
variable {α : Type} {CRel : α → Heap → Prop} {Stp : Stps α} {Fin : α → Hp → Prop} {Xg : Cx} {gp : Addr × Obj} {fp : List Addr} {tn : Nat → Heap → Prop} {Ss : List Addr} {σ : L2.St}
theorem GSt.wokenK {fp : List Addr} {tn : Nat → Heap → Prop} {σ0 : L2.St} {i : Nat} {H : Hp} {s s' : Shared} (hk : ∀ i h h', tn i h → (∀ b ∈ fp, ∀ o, h.get? b = some o → h'.get? b = some o) → tn i h') (hS : SsOk Xg gp fp Ss) (h : GSt Xg gp fp tn Ss σ0 i H s) (z : Slp Ss s s') : GSt Xg gp fp tn Ss σ0 i H s' := by
  obtain ⟨cp, ecp, I, st, nf⟩ := h
  have free : ∀ b ∈ Ss, H b = none ∧ b ∉ Xg.fs := fun b hb => by
    rw [← ecp] at hb
    obtain ⟨p, hp, rfl⟩ := List.mem_map.mp hb
    obtain ⟨_, h2, _, h4, _⟩ := I.pin p (List.mem_append_right _ (List.mem_cons_of_mem _ hp))
    exact ⟨h2, h4⟩
  obtain ⟨z1, z2, z3, z4⟩ := z
  obtain ⟨hh, g, d, t, o⟩ := s'
  have ho : o = s.os := z1
  subst ho
  have I0 : Inv Xg [gp] σ0 H s := I.pins_of fun p hp => I.pin p (List.mem_append_right _ (by rw [List.mem_singleton.mp hp]; exact List.mem_cons_self ..))
  have nt : ∀ b u, H b = some u → b ∉ Ss := fun b u q hb => by rw [(free b hb).1] at q; cases q
  have J : Inv Xg [gp] σ0 H { s with heap := hh, gens := g, drawn := d, toks := t } := by
    refine I0.step (g' := g) (t' := t) (d' := d) (ch := Ss) (fun b hb => ?_) (fun b ob _ _ hc q _ => z3 b ob hc q) (fun b ob _ _ hc q _ => ⟨ob.slots, z3 b ob hc q⟩) (fun _ _ _ _ n => n) (fun b ob hc q => ⟨ob, z3 b ob hc q⟩)
      (fun _ _ q => q) (fun _ _ _ q => q) (fun b ps q => ⟨#[], by rw [q]; simp⟩) (fun m hm => ?_) (fun b u q => ?_) z2
    · obtain ⟨a1, a2, a3, a4, a5⟩ := hS.all b hb
      refine ⟨.inr a1, a2, a3, fun p hp => ?_⟩
      rw [hS.pn] at hp
      rw [List.mem_singleton.mp hp]
      exact Ne.symm a5
    · obtain ⟨ob, es, ep, ho, r⟩ := hm
      exact ⟨ob, es, ep, z3 _ ob (fun q => (hS.all _ q).2.1 rfl) ho, r⟩
    · refine (I0.hok b u q).stay (fun c v hc y => z3 c v ?_ y) (fun _ y => y) fun _ _ y => y
      rcases hc with y | y
      · rw [y]; exact nt b u q
      · exact nt c _ y
  obtain ⟨cp2, e2, k2⟩ := pins_exist Ss hh z4
  refine ⟨cp2, e2, J.pins_of fun p hp => ?_, hk _ _ _ st fun b hb ob e => z3 b ob (fun q => (hS.all b q).2.2.2.1 hb) e, nf⟩
  rcases List.mem_cons.mp hp with hp | hp
  · rw [hp]
    exact J.pin gp (List.mem_append_right _ (List.mem_cons_self ..))
  · have hm : p.1 ∈ Ss := by rw [← e2]; exact List.mem_map_of_mem hp
    exact ⟨(k2 p hp).1, (free _ hm).1, (hS.all _ hm).2.1, (free _ hm).2, (k2 p hp).2⟩
theorem GSt.loose {fp : List Addr} {tn : Nat → Heap → Prop} {σ0 σ1 : L2.St} {i : Nat} {H : Hp} {s : Shared} (h : GSt Xg gp fp tn Ss σ0 i H s) (hl : σ1.length = σ0.length) (w : ∀ (i : Nat) v, σ1[i]? = some (some v) → σ0[i]? = some (some v)) : GSt Xg gp [] (fun _ _ => True) Ss σ1 0 H s :=
  let ⟨cp, ecp, I, _, _⟩ := h
  ⟨cp, ecp, I.weak hl w, True.intro, fun _ z => nomatch z⟩
theorem gx_loop2 {B : Around} {tg elt iter tg2 iter2 : Expr} {ifs ifs2 : List Expr} {scope : Scope} {gpos : Pos} {it : Addr} {J : It} {g : TG} {tt : TT} {ti2 : TI} {g2 : TG} {tt2 : TT} {te : TE} {vs vs2 : List Nat} {W : Nat → Nat → α → Hp → Prop} (hov : B.deeper Xg.env = Xg.A) (hc : Xg.calm = true) (hco : Xg.env.scope.isCoroutine = false) (hxe : Xg.xe = fun _ _ => False)
    (T : Turn Xg.prog Xg.w Xg.K tg J fp it tn) (hfp : ∀ b ∈ fp, ∀ H', H' b = none → FpOk Xg [] H' b) (hS : SsOk Xg gp fp Ss) (hgf : gp.1 ∉ fp) (hg : PG Xg tg g) (ht : PTs Xg ifs tt) (hi2 : PI Xg tg2 iter2 ti2) (hs2 : ∀ v, foldedSetIterable iter2 Xg.env v = pure v) (hg2 : PG Xg tg2 g2) (ht2 : PTs Xg ifs2 tt2) (he : PE Xg elt te) (hvs : ∀ v ∈ vs2, v ∈ vs) (turn : TurnsR2 Stp Fin J g tt ti2 g2 tt2 te vs vs2 σ W) :
    ∀ (m n i : Nat) (acc : α) (H : Hp) (s₀ s : Shared), m < n → W i m acc H → CRel acc s₀.heap → (∀ b ∈ Ss, s.heap.get? b = s₀.heap.get? b) → GSt Xg gp fp tn Ss (wipe σ vs) i H s →
      Seg (model Xg.prog Xg.w) B (RG CRel Fin Xg gp Ss (wipe σ vs)) (YG CRel Stp Xg gp [] (fun _ _ => True) Ss (wipe σ vs)) n s₀ (.compLoop (two elt tg iter ifs tg2 iter2 ifs2 scope gpos) 0 (.ref it) .none Xg.env)
        ((model Xg.prog Xg.w).den (.compLoop (two elt tg iter ifs tg2 iter2 ifs2 scope gpos) 0 (.ref it) .none Xg.env)) [] s := by
  have hover : B.over (.compLoop (two elt tg iter ifs tg2 iter2 ifs2 scope gpos) 0 (.ref it) .none Xg.env) [] = Xg.A := over_two.trans hov
  have hxe' : ∀ {α : Type} {t : Sem α} {Q : α → Shared → Prop} {E : Value → Shared → Prop} {s : Shared}, wpAny (model Xg.prog Xg.w) Xg.A t Q Xg.xe s → wpAny (model Xg.prog Xg.w) Xg.A t Q E s := fun h => wpAny_mono h (fun _ _ z => z) fun _ _ z => by rw [hxe] at z; exact z.elim
  intro m
  induction m using Nat.strongRecOn with
  | ind m ih =>
    intro n i acc H s₀ s hmn w crel ksS hst
    obtain ⟨cp, ecp, I, st, nf⟩ := hst
    have fpOk : ∀ {pins : List (Addr × Obj)} {σ' : L2.St} {H' : Hp} {s' : Shared}, pins.map (·.1) = gp.1 :: Ss → Inv Xg pins σ' H' s' → (∀ b ∈ fp, H' b = none) → ∀ b ∈ fp, FpOk Xg pins H' b := fun {pins σ' H' s'} ep I' hn b hb => by
      obtain ⟨a0, a1, a2, a3, a4, _⟩ := hfp b hb H' (hn b hb)
      refine ⟨a0, a1, a2, a3, a4, fun p hp z => ?_⟩
      rw [hS.pn, List.nil_append] at hp
      have hm : p.1 ∈ gp.1 :: Ss := by rw [← ep]; exact List.mem_map_of_mem hp
      rcases List.mem_cons.mp hm with q | q
      · rw [z] at q; exact hgf (q ▸ hb)
      · rw [z] at q; exact (hS.all b q).2.2.2.1 hb
    have epin : (gp :: cp).map (·.1) = gp.1 :: Ss := by rw [List.map_cons, ecp]
    have ownSs : ∀ {cp extra : List (Addr × Obj)} {σ' σ2' : L2.St} {H' H2' : Hp} {s s' s₀ : Shared}, cp.map (·.1) = Ss → (∀ b ∈ Ss, s.heap.get? b = s₀.heap.get? b) → Inv Xg (gp :: cp) σ2' H2' s → Inv Xg ((gp :: cp) ++ extra) σ' H' s' → ∀ b ∈ Ss, s'.heap.get? b = s₀.heap.get? b := fun {cp extra σ' σ2' H' H2' s s' s₀} ecp ksS I I' b hb => by
      rw [← ksS b hb]
      rw [← ecp] at hb
      obtain ⟨p, hp, rfl⟩ := List.mem_map.mp hb
      rw [(I'.pin p (List.mem_append_right _ (List.mem_append_left _ (List.mem_cons_of_mem _ hp)))).1, (I.pin p (List.mem_append_right _ (List.mem_cons_of_mem _ hp))).1]
    show Seg _ B _ _ _ s₀ _ ((compTurn (two elt tg iter ifs tg2 iter2 ifs2 scope gpos) 0 (.ref it) .none Xg.env).onRaise (leaving Xg.env)) [] s
    rw [compTurn_two, Sem.onRaise_eq_wrap]
    refine seg_bind_wrap (wpAny_standAt ?_)
    rcases turn i m acc H w with ⟨stop, qf⟩ | ⟨go, step⟩
    · refine seg_bind_wrap ?_
      rw [hover]
      refine wpAny_mono (T.done Xg rfl rfl rfl hc i (gp :: cp) s (wipe σ vs) H (fun _ _ => False) I (fpOk epin I nf) st stop) (fun r s1 ⟨hr, I1⟩ => ?_) fun _ _ z => z.elim
      subst hr
      exact seg_end (.ok .next) ⟨rfl, acc, H, cp, ecp, I1, crel, ownSs (extra := []) ecp ksS I (by rw [List.append_nil]; exact I1), qf⟩
    · refine seg_bind_wrap ?_
      rw [hover]
      refine wpAny_mono (T.item Xg rfl rfl rfl hc i (gp :: cp) s (wipe σ vs) H (fun _ _ => False) I (fpOk epin I nf) st go) (fun r s1 ⟨u, hr, h1⟩ => ?_) fun _ _ z => z.elim
      subst hr
      refine seg_bind_wrap ?_
      rw [hover]
      refine wpAny_mono h1 (fun _ s2 ⟨x, H2, I2, rx, y2, st2, n2⟩ => ?_) fun _ _ z => z.elim
      have I2' := I2.pinned (fpOk epin I2 n2) (T.obj _ _ st2)
      refine seg_bind_wrap ?_
      rw [hover]
      refine wpAny_mono (hxe' (hg.run _ s2 (wipe σ vs) H2 x u _ I2' rx (step x H2 y2))) (fun _ s3 ⟨σ3, H3, I3, hw3, q3⟩ => ?_) fun _ _ z => z
      refine seg_bind_wrap ?_
      rw [hover]
      refine wpAny_mono (hxe' (ht.run _ s3 σ3 H3 _ I3 q3)) (fun b s4 ⟨H4, I4, q4⟩ => ?_) fun _ _ z => z
      have hl3 : (wipe σ vs).length = σ3.length := by rw [← hw3, wipe_length]
      have wk3 : ∀ (j : Nat) v, (wipe σ vs)[j]? = some (some v) → (wipe σ3 vs2)[j]? = some (some v) := fun j v e => by
        rw [← hw3] at e
        obtain ⟨e1, e2⟩ := wipe_some e
        rw [wipe_out fun z => e2 (hvs j z)]
        exact e1
      -- the turn's end
      have fin : ∀ {s' : Shared} {H' : Hp}, Inv Xg ((gp :: cp) ++ pinsAt fp s2.heap) σ3 H' s' → GSt Xg gp fp tn Ss (wipe σ vs) (i + 1) H' s' := fun {s' H'} I' => by
        have pin' : ∀ b ∈ fp, ∀ o, s2.heap.get? b = some o → s'.heap.get? b = some o ∧ H' b = none := fun b hb o e =>
          let z := I'.pin (b, o) (List.mem_append_right _ (List.mem_append_right _ (mem_pinsAt hb e)))
          ⟨z.1, z.2.1⟩
        refine ⟨cp, ecp, (I'.unpinned (pins := gp :: cp)).weak hl3 (fun j v e => ?_), T.keep _ _ _ st2 fun b hb o e => (pin' b hb o e).1, fun b hb => ?_⟩
        · rw [← hw3] at e
          exact (wipe_some e).1
        · obtain ⟨o, e, _⟩ := T.obj _ _ st2 b hb
          exact (pin' b hb o e).2
      cases b with
      | false =>
        simp only [Bool.false_eq_true, if_false] at q4 ⊢
        obtain ⟨m', hm, w'⟩ := q4
        exact seg_again rfl (ih m' hm n (i + 1) acc H4 s₀ s4 (by omega) w' crel (ownSs ecp ksS I I4) (fin I4))
      | true =>
        simp only [if_true] at q4 ⊢
        refine seg_bind_wrap ?_
        rw [hover]
        refine wpAny_mono (hxe' (hi2.run _ s4 σ3 H4 _ I4 q4)) (fun xv s5 h5 => ?_) fun _ _ z => z
        refine seg_bind_wrap (wpAny_standAt ?_)
        refine seg_bind_wrap (wpAny_of_eq (hs2 xv) ?_)
        refine seg_bind_wrap (wpAny_holding ?_)
        rw [hover]
        refine wpAny_mono (hxe' h5) (fun itv s6 h6 => ?_) fun _ _ z => z
        obtain ⟨it2, fp2, tn2, J2, H6, e, I6, T2, stB0, f2, W2, ⟨m1, hm1, w1⟩, turn2⟩ := h6
        subst e
        have cpI : ∀ b ∈ fp2, b ≠ gp.1 ∧ b ∉ Ss ∧ b ∉ fp := fun b hb => by
          obtain ⟨_, _, _, _, _, a5⟩ := f2 b hb
          have off : ∀ p ∈ (gp :: cp) ++ pinsAt fp s2.heap, p.1 ≠ b := fun p hp => a5 p (List.mem_append_right _ hp)
          refine ⟨Ne.symm (off gp (List.mem_append_left _ (List.mem_cons_self ..))), fun z => ?_, fun z => ?_⟩
          · rw [← ecp] at z
            obtain ⟨p, hp, e⟩ := List.mem_map.mp z
            exact off p (List.mem_append_left _ (List.mem_cons_of_mem _ hp)) e
          · obtain ⟨o, e, _⟩ := T.obj _ _ st2 b z
            exact off (b, o) (List.mem_append_right _ (mem_pinsAt z e)) rfl
        have hS2 : SsOk Xg gp (fp ++ fp2) Ss := ⟨fun b hb => by
          obtain ⟨a1, a2, a3, a4, a5⟩ := hS.all b hb
          refine ⟨a1, a2, a3, fun z => ?_, a5⟩
          rcases List.mem_append.mp z with y | y
          · exact a4 y
          · exact (cpI b y).2.1 hb, hS.pn⟩
        have fp2Ok : ∀ {cp' : List (Addr × Obj)} {h : Heap} {H' : Hp}, cp'.map (·.1) = Ss → (∀ b ∈ fp2, H' b = none) → ∀ b ∈ fp2, FpOk Xg ((gp :: cp') ++ pinsAt fp h) H' b := fun {cp' h H'} ec hn b hb => by
          obtain ⟨_, a1, a2, a3, a4, _⟩ := f2 b hb
          obtain ⟨n1, n2, n3⟩ := cpI b hb
          refine ⟨hn b hb, a1, a2, a3, a4, fun p hp z => ?_⟩
          rw [hS.pn, List.nil_append] at hp
          rcases List.mem_append.mp hp with q | q
          · rcases List.mem_cons.mp q with y | y
            · rw [y] at z; exact n1 z.symm
            · exact n2 (by rw [← ec, ← z]; exact List.mem_map_of_mem y)
          · exact n3 (z ▸ (of_pinsAt q).1)
        have kp12 : ∀ j (h h' : Heap), (tn (i + 1) h ∧ tn2 j h) → (∀ b ∈ fp ++ fp2, ∀ o, h.get? b = some o → h'.get? b = some o) → tn (i + 1) h' ∧ tn2 j h' := fun j h h' z k => ⟨T.keep _ _ _ z.1 fun b hb => k b (List.mem_append_left _ hb), T2.keep _ _ _ z.2 fun b hb => k b (List.mem_append_right _ hb)⟩
        have main : ∀ (k : Result → Sem PySem.Fin) (p : Pos), k (.ok .next) = .pure (.again (.compLoop (two elt tg iter ifs tg2 iter2 ifs2 scope gpos) 0 (.ref it) .none Xg.env)) → ∀ (m1 n j : Nat) (a1 : α) (H5 : Hp) (s₀ s : Shared), m1 < n → m1 < m → W2 j m1 a1 H5 → CRel a1 s₀.heap → (∀ b ∈ Ss, s.heap.get? b = s₀.heap.get? b) → GSt Xg gp (fp ++ fp2) (fun j h => tn (i + 1) h ∧ tn2 j h) Ss (wipe σ3 vs2) j H5 s →
            Seg (model Xg.prog Xg.w) B (RG CRel Fin Xg gp Ss (wipe σ vs)) (YG CRel Stp Xg gp [] (fun _ _ => True) Ss (wipe σ vs)) n s₀ (.compLoop (two elt tg iter ifs tg2 iter2 ifs2 scope gpos) 1 (.ref it2) .none Xg.env)
              ((model Xg.prog Xg.w).den (.compLoop (two elt tg iter ifs tg2 iter2 ifs2 scope gpos) 1 (.ref it2) .none Xg.env)) [.ret k none false [] (.compLoop (two elt tg iter ifs tg2 iter2 ifs2 scope gpos) 0 (.ref it) .none Xg.env) p []] s := by
          intro k p hk m1
          have hover1 : B.over (.compLoop (two elt tg iter ifs tg2 iter2 ifs2 scope gpos) 1 (.ref it2) .none Xg.env) [.ret k none false [] (.compLoop (two elt tg iter ifs tg2 iter2 ifs2 scope gpos) 0 (.ref it) .none Xg.env) p []] = Xg.A := over_twoI.trans hov
          induction m1 using Nat.strongRecOn with
          | ind m1 ih1 =>
            intro n j a1 H5 s₀ s hmn hmm w1 crel ksS hst
            obtain ⟨cp, ecp, I, ⟨stA, stB⟩, nf⟩ := hst
            have epin : (gp :: cp).map (·.1) = gp.1 :: Ss := by rw [List.map_cons, ecp]
            have nfA : ∀ b ∈ fp, H5 b = none := fun b hb => nf b (List.mem_append_left _ hb)
            have nfB : ∀ b ∈ fp2, H5 b = none := fun b hb => nf b (List.mem_append_right _ hb)
            have Ip := I.pinned (fpOk epin I nfA) (T.obj _ _ stA)
            have outA : ∀ {extra : List (Addr × Obj)} {σ' : L2.St} {s' : Shared} {H' : Hp}, Inv Xg (((gp :: cp) ++ pinsAt fp s.heap) ++ extra) σ' H' s' → tn (i + 1) s'.heap ∧ ∀ b ∈ fp, H' b = none := fun {extra σ' s' H'} I' => by
              have pin' : ∀ b ∈ fp, ∀ o, s.heap.get? b = some o → s'.heap.get? b = some o ∧ H' b = none := fun b hb o e =>
                let z := I'.pin (b, o) (List.mem_append_right _ (List.mem_append_left _ (List.mem_append_right _ (mem_pinsAt hb e))))
                ⟨z.1, z.2.1⟩
              refine ⟨T.keep _ _ _ stA fun b hb o e => (pin' b hb o e).1, fun b hb => ?_⟩
              obtain ⟨o, e, _⟩ := T.obj _ _ stA b hb
              exact (pin' b hb o e).2
            show Seg _ B _ _ _ s₀ _ ((compTurn (two elt tg iter ifs tg2 iter2 ifs2 scope gpos) 1 (.ref it2) .none Xg.env).onRaise (fun x => do noteFrame x Xg.env; theTreesLotGoes x)) [_] s
            rw [compTurn_two_in, Sem.onRaise_eq_wrap]
            refine seg_bind_wrap (wpAny_standAt ?_)
            rcases turn2 j m1 a1 H5 w1 with ⟨stop, m', hm', w'⟩ | ⟨go, Nx, hNx, step⟩
            · refine seg_bind_wrap ?_
              rw [hover1]
              refine wpAny_mono (T2.done Xg rfl rfl rfl hc j ((gp :: cp) ++ pinsAt fp s.heap) s (wipe σ3 vs2) H5 (fun _ _ => False) Ip (fp2Ok ecp nfB) stB stop) (fun r s1 ⟨hr, I1⟩ => ?_) fun _ _ z => z.elim
              subst hr
              refine seg_leaf (.ok .next) ?_
              rw [hk]
              have I1' : Inv Xg (((gp :: cp) ++ pinsAt fp s.heap) ++ []) (wipe σ3 vs2) H5 s1 := by rw [List.append_nil]; exact I1
              obtain ⟨o1, o2⟩ := outA I1'
              exact seg_again rfl (ih m' (by omega) n (i + 1) a1 H5 s₀ s1 (by omega) w' crel (ownSs ecp ksS I I1) ⟨cp, ecp, (I1.unpinned (pins := gp :: cp)).weak (by rw [wipe_length, wipe_length, ← wipe_length σ3 vs, hw3, wipe_length]) wk3, o1, o2⟩)
            · refine seg_bind_wrap ?_
              rw [hover1]
              refine wpAny_mono (T2.item Xg rfl rfl rfl hc j ((gp :: cp) ++ pinsAt fp s.heap) s (wipe σ3 vs2) H5 (fun _ _ => False) Ip (fp2Ok ecp nfB) stB go) (fun r s1 ⟨u, hr, h1⟩ => ?_) fun _ _ z => z.elim
              subst hr
              refine seg_bind_wrap ?_
              rw [hover1]
              refine wpAny_mono h1 (fun _ s2' ⟨x, H2, I2, rx, y2, st2, n2⟩ => ?_) fun _ _ z => z.elim
              have I2' := I2.pinned (fp2Ok ecp n2) (T2.obj _ _ st2)
              refine seg_bind_wrap ?_
              rw [hover1]
              refine wpAny_mono (hxe' (hg2.run _ s2' (wipe σ3 vs2) H2 x u _ I2' rx (step x H2 y2))) (fun _ s3' ⟨σ4, H3, I3, hw4, q3⟩ => ?_) fun _ _ z => z
              refine seg_bind_wrap ?_
              rw [hover1]
              refine wpAny_mono (hxe' (ht2.run _ s3' σ4 H3 _ I3 q3)) (fun b s4' ⟨H4, I4, q4⟩ => ?_) fun _ _ z => z
              have fin1 : ∀ {s' : Shared} {H' : Hp}, Inv Xg (((gp :: cp) ++ pinsAt fp s.heap) ++ pinsAt fp2 s2'.heap) σ4 H' s' → GSt Xg gp (fp ++ fp2) (fun j h => tn (i + 1) h ∧ tn2 j h) Ss (wipe σ3 vs2) (j + 1) H' s' := fun {s' H'} I' => by
                have pin' : ∀ b ∈ fp2, ∀ o, s2'.heap.get? b = some o → s'.heap.get? b = some o ∧ H' b = none := fun b hb o e =>
                  let z := I'.pin (b, o) (List.mem_append_right _ (List.mem_append_right _ (mem_pinsAt hb e)))
                  ⟨z.1, z.2.1⟩
                have hl : (wipe σ3 vs2).length = σ4.length := by rw [← hw4, wipe_length]
                obtain ⟨o1, o2⟩ := outA I'
                refine ⟨cp, ecp, ((I'.unpinned (pins := (gp :: cp) ++ pinsAt fp s.heap)).unpinned (pins := gp :: cp)).weak hl (fun j v e => ?_), ⟨o1, T2.keep _ _ _ st2 fun b hb o e => (pin' b hb o e).1⟩, fun b hb => ?_⟩
                · rw [← hw4] at e
                  exact (wipe_some e).1
                · rcases List.mem_append.mp hb with y | y
                  · exact o2 b y
                  · obtain ⟨o, e, _⟩ := T2.obj _ _ st2 b y
                    exact (pin' b y o e).2
              have own4 : ∀ {extra : List (Addr × Obj)} {σ' : L2.St} {H' : Hp} {s' : Shared}, Inv Xg (((gp :: cp) ++ pinsAt fp s.heap) ++ extra) σ' H' s' → ∀ b ∈ Ss, s'.heap.get? b = s₀.heap.get? b := fun {extra σ' H' s'} I' => ownSs (extra := pinsAt fp s.heap ++ extra) ecp ksS I (by rw [← List.append_assoc]; exact I')
              cases b with
              | false =>
                simp only [Bool.false_eq_true, if_false] at q4 ⊢
                obtain ⟨m', hm, w'⟩ := hNx _ _ q4
                exact seg_again rfl (ih1 m' hm n (j + 1) a1 H4 s₀ s4' (by omega) (by omega) w' crel (own4 I4) (fin1 I4))
              | true =>
                simp only [if_true] at q4 ⊢
                have hy : ∀ v, yieldOut Xg.env v = yieldValue v := fun v => by simp only [yieldOut, hco, Bool.false_eq_true, if_false]
                simp only [hy]
                obtain ⟨n', rfl⟩ : ∃ n', n = n' + 1 := ⟨n - 1, by omega⟩
                rw [Sem.bind_eq_wrap', Sem.bind_eq_wrap', Sem.wrap_wrap, Sem.wrap_wrap]
                refine seg_wrap ?_
                rw [hover1]
                refine wpAny_mono (hxe' (he.run _ s4' σ4 H4 _ I4 q4)) (fun yv s5' ⟨y, H5', I5, ry, q5⟩ => ?_) fun _ _ z => z
                have G5 := fin1 I5
                refine seg_at (seg_yield rfl rfl rfl ⟨0, y, a1, H5', Nx, ry, G5.loose (by rw [wipe_length, wipe_length, ← wipe_length σ3 vs, hw3, wipe_length]) wk3, crel, own4 I5, q5, fun s6 acc' sl cr nx => ?_⟩)
                obtain ⟨m', hm, w'⟩ := hNx _ _ nx
                exact seg_again rfl (ih1 m' hm n' (j + 1) acc' H5' s6 s6 (by omega) (by omega) w' cr (fun _ _ => rfl) (G5.wokenK kp12 hS2 sl))
        refine seg_call fun p => ?_
        have st6 : GSt Xg gp (fp ++ fp2) (fun j h => tn (i + 1) h ∧ tn2 j h) Ss (wipe σ3 vs2) 0 H6 s6 := by
          have G6 := fin I6
          obtain ⟨cp', ec', _, t6, n6⟩ := G6
          refine ⟨cp, ecp, (I6.unpinned (pins := gp :: cp)).weak (wipe_length ..) (fun j v e => (wipe_some e).1), ⟨t6, stB0⟩, fun b hb => ?_⟩
          rcases List.mem_append.mp hb with y | y
          · exact n6 b y
          · exact (f2 b y).1
        have loop := fun (k : Result → Sem PySem.Fin) (hk : k (.ok .next) = .pure (.again (.compLoop (two elt tg iter ifs tg2 iter2 ifs2 scope gpos) 0 (.ref it) .none Xg.env))) => main k p hk m1 n 0 acc H6 s₀ s6 (by omega) hm1 w1 crel (ownSs ecp ksS I I6) st6
        show Seg _ B _ _ _ s₀ _ ((compStart (two elt tg iter ifs tg2 iter2 ifs2 scope gpos) 1 (.ref it2) .none Xg.env).onRaise (fun x => do noteFrame x Xg.env; standAt theWindowsPlace)) [_] s6
        unfold compStart
        rw [Sem.onRaise_eq_wrap]
        show Seg _ B _ _ _ s₀ _ ((ask >>= _).wrap _ _ _ _) [_] s6
        refine seg_bind_wrap (wpAny_askSetting ?_)
        split
        · exact seg_again rfl (loop _ rfl)
        · first
            | exact seg_bind_wrap (wpAny_rule (seg_bind_wrap (wpAny_standAt (seg_bind_wrap (T2.self _ 0 s6 _ _ stB0 (seg_again rfl (loop _ rfl)))))))
            | (refine seg_bind_wrap (wpAny_rule ?_); show Seg _ B _ _ _ s₀ _ ((standAt iter2.pos >>= _).wrap _ _ _ _) [_] s6; exact seg_bind_wrap (wpAny_standAt (seg_bind_wrap (T2.self _ 0 s6 _ _ stB0 (seg_again rfl (loop _ rfl))))))
end
end GX

namespace GX
open PySem PySem.Spec PyProof.Rows L2 GenW
section
variable {X : Cx} {pins : List (Addr × Obj)} {σ : L2.St} {tg elt iter : Expr} {ifs : List Expr} {scope : Scope} {gpos : Pos} {own : List (Str × Nat)} {J : It} {code : Value} {H3 : Hp} {s3 : Shared} {it : Addr} {fp : List Addr} {tn : Nat → Heap → Prop} {a : Addr} {g : Nat} {gob : Obj} {s5 : Shared}
/-- the first turn -/
theorem Made.wake2 {tg2 iter2 : Expr} {ifs2 : List Expr} {ti2 : TI} {g2 : TG} {tt2 : TT} {vs2 : List Nat} (M : Made X pins σ tg elt iter ifs [⟨tg2, iter2, ifs2, 0⟩] scope gpos own J code H3 s3 it fp tn a g gob s5) {α : Type} {CRel : α → Heap → Prop} {Stp : Stps α} {Fin : α → Hp → Prop} {Ss : List Addr} {g' : TG} {tt : TT} {te : TE} {W : Nat → Nat → α → Hp → Prop} {A : Around} {m0 n : Nat} {a0 : α} {s2 : Shared}
    (hco : scope.isCoroutine = false) (hd : A.handled = none) (hf : A.frames = some X.stack) (hg : PG (M.cx A) tg g') (ht : PTs (M.cx A) ifs tt) (hi2 : PI (M.cx A) tg2 iter2 ti2) (hs2 : ∀ v, foldedSetIterable iter2 (gEnv X scope s3 code) v = pure v) (hg2 : PG (M.cx A) tg2 g2) (ht2 : PTs (M.cx A) ifs2 tt2) (he : PE (M.cx A) elt te) (hvs : ∀ v ∈ vs2, v ∈ own.map (·.2)) (turn : TurnsR2 Stp Fin J g' tt ti2 g2 tt2 te (own.map (·.2)) vs2 σ W) (w0 : W 0 m0 a0 H3) (hmn : m0 < n)
    (ho : s2.os = s5.os) (hb : AllBare s2.gens) (hk : ∀ b o, s5.heap.get? b = some o → s2.heap.get? b = some o) (hS : ∀ b ∈ Ss, s5.heap.objs.size ≤ b ∧ ∃ o, s2.heap.get? b = some o ∧ ∀ v, o.data ≠ .cell v) (cr : CRel a0 s2.heap) :
    Seg (model X.prog X.w) A (RG CRel Fin (M.cx A) (a, gob) Ss (wipe σ (own.map (·.2)))) (YG CRel Stp (M.cx A) (a, gob) [] (fun _ _ => True) Ss (wipe σ (own.map (·.2)))) n s2 (.compStart (.GeneratorExp elt (⟨tg, iter, ifs, 0⟩ :: [⟨tg2, iter2, ifs2, 0⟩]) scope gpos) 0 (.ref it) .none (gEnv X scope s3 code))
      ((model X.prog X.w).den (.compStart (.GeneratorExp elt (⟨tg, iter, ifs, 0⟩ :: [⟨tg2, iter2, ifs2, 0⟩]) scope gpos) 0 (.ref it) .none (gEnv X scope s3 code))) [] s2 := by
  have hB := M.bok hd hf
  have I5 := M.sub _ hB
  have SO := M.ss hB fun b hb => (hS b hb).1
  have hgf : a ∉ fp := fun z => Nat.lt_irrefl _ (Nat.lt_of_lt_of_le (M.fps a z).2 M.ag)
  have fpOk : ∀ b ∈ fp, ∀ H' : Hp, H' b = none → FpOk (M.cx A) [] H' b := fun b hb H' hn => by
    refine ⟨hn, (I5.ok.exf b hb).1, I5.ok.exfs b hb, .inl hb, fun x c e => (I5.ok.exf b hb).2 x c e, fun p hp => absurd (show p ∈ ([] : List (Addr × Obj)) ++ [] from hp) (by simp)⟩
  have I2 : Inv (M.cx A) [(a, gob)] (wipe σ (own.map (·.2))) H3 s2 := by
    have J := inv_gens (g' := s2.gens) (d' := s2.drawn) (t' := s2.toks) I5 hk hb
    rw [GxR.sh_eta s5 s2 ho] at J
    exact J
  obtain ⟨cp, ecp, hcp⟩ := pins_exist Ss s2.heap fun b hb => (hS b hb).2
  have st2 : GSt (M.cx A) (a, gob) fp tn Ss (wipe σ (own.map (·.2))) 0 H3 s2 := by
    refine ⟨cp, ecp, I2.pins_of fun p hp => ?_, M.turn.keep _ _ _ M.st fun b _ o e => hk b o e, fun b hb => (M.fps b hb).1.1⟩
    rcases List.mem_cons.mp hp with z | z
    · rw [z]
      exact I2.pin (a, gob) (List.mem_append_right _ (List.mem_cons_self ..))
    · have hm : p.1 ∈ Ss := by rw [← ecp]; exact List.mem_map_of_mem z
      have lt := (hS _ hm).1
      exact ⟨(hcp p z).1, I5.hok.fresh lt, (SO.all _ hm).2.1, I5.nofs lt, (hcp p z).2⟩
  have loop := gx_loop2 (iter := iter) (iter2 := iter2) (gpos := gpos) (B := A) (CRel := CRel) (Xg := M.cx A) (scope := scope) (it := it) rfl rfl hco rfl M.turn fpOk SO hgf hg ht hi2 hs2 hg2 ht2 he hvs turn m0 n 0 a0 H3 s2 s2 hmn w0 cr (fun _ _ => rfl) st2
  have hover : A.over (.compStart (.GeneratorExp elt (⟨tg, iter, ifs, 0⟩ :: [⟨tg2, iter2, ifs2, 0⟩]) scope gpos) 0 (.ref it) .none (gEnv X scope s3 code)) [] = A.deeper (gEnv X scope s3 code) := over_two0
  show Seg _ A _ _ _ s2 _ ((compStart (.GeneratorExp elt (⟨tg, iter, ifs, 0⟩ :: [⟨tg2, iter2, ifs2, 0⟩]) scope gpos) 0 (.ref it) .none (gEnv X scope s3 code)).onRaise (leaving (gEnv X scope s3 code))) [] s2
  unfold compStart
  rw [Sem.onRaise_eq_wrap]
  show Seg _ A _ _ _ s2 _ ((ask >>= _).wrap _ _ _ _) [] s2
  have st := M.turn.keep _ _ _ M.st fun b _ o e => hk b o e
  refine seg_bind_wrap (wpAny_askSetting ?_)
  split
  · exact seg_again rfl loop
  · first
      | exact seg_bind_wrap (wpAny_rule (seg_bind_wrap (wpAny_standAt (seg_bind_wrap (M.turn.self _ 0 s2 _ _ st (seg_again rfl loop))))))
      | (refine seg_bind_wrap (wpAny_rule ?_); show Seg _ A _ _ _ s2 _ ((standAt iter.pos >>= _).wrap _ _ _ _) [] s2; exact seg_bind_wrap (wpAny_standAt (seg_bind_wrap (M.turn.self _ 0 s2 _ _ st (seg_again rfl loop)))))
end
def tGx2 {α : Type} (a0 : α) (Stp : VK → Stps α) (Fin : VK → α → Hp → Prop) (tc : TC) (ti : TI) (g : TG) (tt : TT) (ti2 : TI) (g2 : TG) (tt2 : TT) (te : Value → TE) (vs vs2 : List Nat) : TE := fun σ H Q => ti σ H fun J H1 => tc σ H1 fun code H2 => ∃ W : Nat → Nat → α → Hp → Prop, (∃ m, W 0 m a0 H2) ∧ TurnsR2 (Stp Q) (Fin Q) J g tt ti2 g2 tt2 (te code) vs vs2 σ W
section
variable {X : Cx} {tg elt iter tg2 iter2 : Expr} {ifs ifs2 : List Expr} {scope : Scope} {gpos p pos : Pos} {own : List (Str × Nat)} {ti ti2 : TI} {tc : TC} {P0 : Addr} {k : Nat} {g' g2 : TG} {tt tt2 : TT} {te : Value → TE} {vs2 : List Nat}
theorem pe_allX2 (hr : Room (k + 3) X.A) (hN : X.N.Nodup) (glob : Gl X "all") (free : X.mg "all" = none) (BA : X.base.BuiltinsAt X.mg P0) (hi : PI X tg iter ti) (hpc : PC X gpos scope tc) (ok : GOk X.N X.env.scope scope own)
    (hg : Fam X k scope fun Y _ => PG Y tg g') (ht : Fam X k scope fun Y _ => PTs Y ifs tt) (hi2 : Fam X k scope fun Y _ => PI Y tg2 iter2 ti2) (hs2 : ∀ (e : Env) v, foldedSetIterable iter2 e v = pure v) (hg2 : Fam X k scope fun Y _ => PG Y tg2 g2) (ht2 : Fam X k scope fun Y _ => PTs Y ifs2 tt2) (hvs : ∀ v ∈ vs2, v ∈ own.map (·.2)) (he : Fam X k scope fun Y code => PE Y elt (te code)) (hs : ∀ v, genFold iter X.env v = pure v := by intro _; rfl)
    (one : starEach [.GeneratorExp elt (⟨tg, iter, ifs, 0⟩ :: [⟨tg2, iter2, ifs2, 0⟩]) scope gpos] X.env = [(false, eval (.GeneratorExp elt (⟨tg, iter, ifs, 0⟩ :: [⟨tg2, iter2, ifs2, 0⟩]) scope gpos) X.env)] := by rfl) :
    PE X (.Call (.Name "all" p) [.GeneratorExp elt (⟨tg, iter, ifs, 0⟩ :: [⟨tg2, iter2, ifs2, 0⟩]) scope gpos] [] pos) (tGx2 () stAll fiAll tc ti g' tt ti2 g2 tt2 te (own.map (·.2)) vs2) := by
  constructor
  intro pins s σ H Q I h
  refine wpAny_Call_Name_kw (ld_blt I glob free (show bootBuiltins "all" = some (.builtin "all") by decide +kernel) (callWith_builtin1 ?_ one (by rfl)) (by decide) (by decide))
  rw [one]
  refine Calls.spliced_cons (gx_eval I hN hr hi hpc BA ok hs h fun J code H3 s3 it fp tn a g gob s5 want M => Calls.spliced_nil ?_)
  obtain ⟨W, ⟨m0, w0⟩, turn⟩ := want
  have hd : X.A.depth < recursionLimit := by have := hr.dp; omega
  have hB := M.bok (A := X.A.in1.in1) hr.hd I.ok.frames
  have I5 := M.sub _ hB
  have rm := room_in hr (gEnv X scope s3 code)
  refine call_function_tree F.kind_all F.plain_all F.entry_all (F.args_all1 _) ?_
  unfold Builtin.«all»
  refine wpAny_bind (m := oneArg "all" _) (wpAny_pure ?_)
  refine wpAny_bind (wpAny_pyIter_gen (M.isGen M.get) ?_)
  refine wpAny_pure ⟨plainId_quiet F.plain_all_loop _, M.all_loop (fpY := []) (tnY := fun _ _ => True) (σ0 := wipe σ (own.map (·.2))) hr.hd hd (fun v u H s' I' r q => ⟨v, H, I', r, q⟩) (m0 + 1) s5 _ M.get I5.nolimit M.gen ?_⟩
  refine ⟨rfl, ?_⟩
  exact M.wake2 (A := X.A.in1.in1) (s2 := s5.setGen g .running) ok.co hr.hd I.ok.frames (hg _ _ _ _ _ rm rfl) (ht _ _ _ _ _ rm rfl) (hi2 _ _ _ _ _ rm rfl) (hs2 _) (hg2 _ _ _ _ _ rm rfl) (ht2 _ _ _ _ _ rm rfl) (he _ _ _ _ _ rm rfl) hvs turn w0 (Nat.lt_succ_self _) rfl (allBare_setGen I5.bare rfl) (fun _ _ e => e) (fun _ h => nomatch h) trivial
end
section
variable {J : It} {n : Nat} {G : Hp → Prop} {Y : Nat → Hp → V → Hp → Prop} {g g2 : TG} {tt tt2 : TT} {ti2 : TI} {te : TE} {vs vs2 : List Nat} {σ : L2.St} {Q : VK} {H2 : Hp}
/-- what the inner turns are to do -/
def InAll (Iv : Hp → Prop) (kn : Nat) (fb : Nat → Bool) (g2 : TG) (tt2 : TT) (te : TE) (vs2 : List Nat) (σ2 : L2.St) (J2 : It) (H4 : Hp) : Prop :=
  ∃ (G2 : Hp → Prop) (Y2 : Nat → Hp → V → Hp → Prop), Walk J2 kn G2 Y2 ∧ (∀ H, Iv H → G2 H) ∧ Iv H4 ∧ ∀ (j : Nat) (y : V) (H5 H6 : Hp) (Kt : V → Hp → Prop) (Kn : Hp → Prop), j < kn → Iv H5 → Y2 j H5 y H6 → (∀ H7, Iv H7 → Kt (.bl (fb j)) H7) → g2 y (wipe σ2 vs2) H6 fun σ3 H7 => wipe σ3 vs2 = wipe σ2 vs2 ∧ tt2 σ3 H7 fun b H8 => if b = true then te σ3 H8 Kt else Kn H8
theorem turns_all2 (w : Walk J n G Y) (kn : Nat → Nat) (Bd : Nat) (hkn : ∀ i, i < n → kn i ≤ Bd) (fb : Nat → Nat → Bool) (Iv : Hp → Prop) (h0 : Iv H2) (hG : ∀ H, Iv H → G H)
    (turn : ∀ i x H H' (R2 : L2.St → It → Hp → Prop) (Kn : Hp → Prop), i < n → Iv H → Y i H x H' → (∀ σ2 J2 H4, InAll Iv (kn i) (fb i) g2 tt2 te vs2 σ2 J2 H4 → R2 σ2 J2 H4) → g x (wipe σ vs) H' fun σ2 H2 => wipe σ2 vs = wipe σ vs ∧ tt σ2 H2 fun b H3 => if b = true then ti2 σ2 H3 (R2 σ2) else Kn H3)
    (fin : ∀ H b, Iv H → (b = true ↔ ∀ i j, i < n → j < kn i → fb i j = true) → Q (.bl b) H) : ∃ W : Nat → Nat → Unit → Hp → Prop, (∃ m, W 0 m () H2) ∧ TurnsR2 (stAll Q) (fiAll Q) J g tt ti2 g2 tt2 te vs vs2 σ W := by
  refine ⟨fun i m _ H => m = (n - i) * (Bd + 2) ∧ i ≤ n ∧ Iv H ∧ ∀ i' j', i' < i → j' < kn i' → fb i' j' = true, ⟨n * (Bd + 2), by rw [Nat.sub_zero], Nat.zero_le _, h0, fun i' j' h => absurd h (Nat.not_lt_zero _)⟩, ?_⟩
  rintro i m _ H ⟨rfl, hi, iv, al⟩
  have q := hG H iv
  by_cases hlt : i < n
  · have em : (n - i) * (Bd + 2) = (n - (i + 1)) * (Bd + 2) + (Bd + 2) := by
      rw [show n - i = (n - (i + 1)) + 1 by omega, Nat.succ_mul]
    refine .inr ⟨w.goes i H hlt q, fun x H' y => turn i x H H' (fun σ2 J2 H4 => _) _ hlt iv (w.yields i H x H' hlt q y) (fun σ2 J2 H4 hin => ?_)⟩
    obtain ⟨G2, Y2, w2, hG2, iv4, t2⟩ := hin
    refine ⟨fun j m1 _ H5 => m1 = (n - (i + 1)) * (Bd + 2) + (Bd + 1 - j) ∧ j ≤ kn i ∧ Iv H5 ∧ ∀ j', j' < j → fb i j' = true, ⟨_, by rw [em]; omega, rfl, Nat.zero_le _, iv4, fun j' h => absurd h (Nat.not_lt_zero _)⟩, ?_⟩
    rintro j m1 _ H5 ⟨rfl, hj, iv5, al5⟩
    have hB := hkn i hlt
    have q5 := hG2 H5 iv5
    by_cases hjl : j < kn i
    · refine .inr ⟨w2.goes j H5 hjl q5, fun _ H' => Iv H' ∧ fb i j = true, fun _ H' ⟨z1, z2⟩ => ⟨(n - (i + 1)) * (Bd + 2) + (Bd + 1 - (j + 1)), by omega, rfl, hjl, z1, fun j' hj' => ?_⟩, fun y H6 hy => t2 j y H5 H6 _ _ hjl iv5 (w2.yields j H5 y H6 hjl q5 hy) (fun H7 iv7 => ⟨fb i j, rfl, ?_⟩)⟩
      · by_cases e : j' = j
        · rw [e]; exact z2
        · exact al5 j' (by omega)
      · cases e : fb i j with
        | true => rw [if_pos rfl]; exact ⟨iv7, rfl⟩
        | false =>
          rw [if_neg Bool.false_ne_true]
          refine fin H7 false iv7 ⟨(fun z => nomatch z), fun z => ?_⟩
          rw [z i j hlt hjl] at e
          cases e
    · have ej : j = kn i := by omega
      refine .inl ⟨by rw [ej]; exact w2.stops H5 q5, (n - (i + 1)) * (Bd + 2), by omega, rfl, hlt, iv5, fun i' j' h1 h2 => ?_⟩
      by_cases e : i' = i
      · rw [e] at h2 ⊢; exact al5 j' (by omega)
      · exact al i' j' (by omega) h2
  · have e : i = n := by omega
    subst e
    exact .inl ⟨w.stops H q, fin H true iv ⟨fun _ i' j' h1 h2 => al i' j' h1 h2, fun _ => rfl⟩⟩
end
end GX

open LamX
/-! ### a lambda is made: all but its own table stands -/
def ButAt (P : Addr) (H H1 : Hp) : Prop := ∀ b o, b ≠ P → H b = some o → H1 b = some o
theorem lam_make3 {X : Cx} {pins : List (Addr × Obj)} {σ : L2.St} {H : Hp} {s : Shared} {c P : Addr} {params : Arguments} {body : Expr} {scope : Scope} {pos : Pos} {E : Value → Shared → Prop} {Q : Value → Shared → Prop} (I : Inv X pins σ H s) (TB : LamX.TabB X.base X.mg c P) (hcode : X.env.code = .ref c)
    (hT : TabS H P (X.env.qual ++ "<lambda>")) (hdef : defaultsOf params X.env = ([], [])) (hfree : ∀ y ∈ scope.names, y.2 = .free → ∃ c, X.env.cells.lookup y.1 = some c)
    (fin : ∀ (f c' : Addr) (pm ctv : Value) (H1 : Hp) (s' : Shared), Inv X pins σ H1 s' → ButAt P H H1 → TabS H1 P (X.env.qual ++ "<lambda>") →
      s'.heap.get? f = some (PySem.W.kla_obj "<lambda>" (X.env.qual ++ "<lambda>") params body scope (cloFrom X.env.cells scope.names []) pm c' ctv) → H1 c' = some (CodeO c' (X.env.qual ++ "<lambda>")) → Q (.ref f) s') :
    wpAny (model X.prog X.w) X.A (eval (.Lambda params body scope pos) X.env) Q E s := by
  obtain ⟨tb, atP, triples, named⟩ := id hT
  have there : s.heap.get? P = some { cls := .none, data := .fields tb } := I.hok P _ atP
  refine PySem.W.kla_eval hdef ?_
  cases found : codeAmong pos tb.toList with
  | some old =>
    obtain ⟨c', rfl, isCode⟩ := named pos old found
    exact PySem.W.kla_makeFunctionHit (mg := X.mg) (c := c) (P := P) (ps := tb) (closure_ok hfree) I.ok.glob (I.mod.glob.keeps I.bk) hcode (TB.code.keeps I.bk) there triples found (TB.bm.keeps I.bk) fun ctv h' tk kept _ =>
      fin h'.objs.size c' _ ctv H _ (I.kept fun b o e => Heap.get?_push_of_some _ (kept b o e)) (fun _ _ _ e => e) hT (Heap.get?_push_size _ rfl) isCode
  | none =>
    refine PySem.W.kla_makeFunction (mg := X.mg) (c := c) (P := P) (ps := tb) (closure_ok hfree) I.ok.glob (I.mod.glob.keeps I.bk) hcode (TB.code.keeps I.bk) there triples found TB.gP (TB.bm.keeps I.bk) fun c' ctv h' tk kept ge _ rec_ grown => ?_
    obtain ⟨c2, oc, vs, t, same, hoc, hd, hv⟩ := rec_
    cases same
    have new : H c' = none := I.hok.fresh ge
    have J := inv_table (t' := tk) (more := #[rawInt pos.line, rawInt pos.col, .ref c']) (h' := h'.push (PySem.W.kla_obj "<lambda>" (X.env.qual ++ "<lambda>") params body scope (cloFrom X.env.cells scope.names []) ((X.mg "__name__").getD .none) c' ctv)) I atP
      (fun b o hb e => Heap.get?_push_of_some _ (kept b o hb e)) (Heap.get?_push_of_some _ grown) ge ⟨oc, vs, t, Heap.get?_push_of_some _ hoc, hd, hv⟩
    have but : ButAt P H (upd (upd H P (.tbl (tb ++ #[rawInt pos.line, rawInt pos.col, .ref c']))) c' (CodeO c' (X.env.qual ++ "<lambda>"))) := fun b o hb e => by
      rw [upd_ne (ne_of_none e new), upd_ne hb]
      exact e
    have aslist : (tb ++ #[rawInt pos.line, rawInt pos.col, .ref c']).toList = tb.toList ++ [rawInt pos.line, rawInt pos.col, .ref c'] := by simp
    refine fin h'.objs.size c' _ ctv _ _ J but ⟨_, by rw [upd_ne (ne_of_none atP new), upd_same], by rw [aslist]; exact PySem.TriplesOk_snoc _ _ _ _ triples, fun p' cv hcv => ?_⟩ (Heap.get?_push_size _ rfl) upd_same
    rw [aslist] at hcv
    rcases among_app _ triples hcv with z | z
    · obtain ⟨c0, e1, e2⟩ := named p' cv z
      exact ⟨c0, e1, but _ _ (fun w => by rw [w, atP] at e2; exact codeO_ne tb (Option.some.inj e2).symm) e2⟩
    · exact ⟨c', z, upd_same⟩
def tSortL3 (P : Addr) (q : Str) (Kf : L2.St → Hp → V → PyData → Prop) (t : TA) : TE := fun σ H Q => t σ H fun vs H1 => TabS H1 P q ∧ ∃ (a : Addr) (n : Nat) (k : V → PyData), vs = [.ref a] ∧ H1 a = some (.rng 0 (n : Int)) ∧ n ≤ 10000 ∧
  PySem.W.AllAlike ((rngV n).map k) ∧ PySem.W.Sortable ((rngV n).map k) ∧ (∀ x ∈ rngV n, (k x).depth ≤ 8) ∧ (∀ x ∈ rngV n, ∀ H2, TbL P q H1 H2 → Kf σ H2 x (k x)) ∧ ∀ H2 p, TbL P q H1 H2 → ButAt P H1 H2 → H2 p = none → Q (.ref p) (upd H2 p (.lst ((rngV n).mergeSort (PySem.W.dataLe false k))))
section
variable {X : Cx} {c P : Addr} {e : Expr} {t : TA} {params : Arguments} {body : Expr} {scope : Scope} {a : Str} {lpos kpos p pos : Pos} {Kf : L2.St → Hp → V → PyData → Prop}
theorem pe_sortedL3 (TB : LamX.TabB X.base X.mg c P) (hcode : X.env.code = .ref c) (hg : Gl X "sorted") (hm : X.mg "sorted" = none) (hr : Room 3 X.A) (ha : PA X [e] t) (hdef : defaultsOf params X.env = ([], [])) (LP : LamP X.env.scope scope a)
    (hbind : ∀ (v pm ctv : Value) (c' : Addr), bindArgs (PySem.W.kla_fn "<lambda>" (X.env.qual ++ "<lambda>") params body scope (cloFrom X.env.cells scope.names []) pm (.ref c') ctv) ⟨[v], []⟩ = pure [(a, v)])
    (hkey : KeyBody X scope a body Kf) (h1 : backTo pos (starEach [e] X.env) = (false, eval e X.env) :: backTo pos (starEach [] X.env) := by rfl) (h2 : (backTo pos (starEach [e] X.env)).any (·.1) = false := by rfl) :
    PE X (.Call (.Name "sorted" p) [e] [⟨some "key", .Lambda params body scope lpos, kpos⟩] pos) (tSortL3 P (X.env.qual ++ "<lambda>") Kf t) := by
  refine ⟨fun pins s σ H Q I h => ?_⟩
  refine wpAny_Call_Name_kw (ld_blt I hg hm (show bootBuiltins "sorted" = some (.builtin "sorted") by decide +kernel) ?_ (by decide) (by decide))
  refine PyProof.Rows.callWith_kw (thn (ha.run pos pins s σ H _ I h) fun us s1 ⟨vs, H1, I1, r1, hT, aL, n, k, ev, hS, hn, hal, hso, hdp, hkf, q1⟩ => ?_) h1 h2 rfl rfl
  subst ev
  obtain rfl := Vals.ref1 r1
  show wpAny _ _ (evalAll [do let v ← eval (.Lambda params body scope lpos) X.env; standAt pos; pure v]) _ _ s1
  have hfree : ∀ y ∈ scope.names, y.2 = .free → ∃ c, X.env.cells.lookup y.1 = some c := fun y hy e => by
    rcases LP.free y hy e with z | z
    · exact I.ok.has _ (.inl z)
    · exact I.ok.has _ (.inr z)
  refine wpAny_evalAll_cons (wpAny_bind (lam_make3 I1 TB hcode hT hdef hfree fun f c' pm ctv H2 s2 I2 b2 T2 hf hc => wpAny_bind (wpAny_standAt (wpAny_pure (wpAny_evalAll_nil ?_)))))
  have x2 : ∀ b o, H1 b = some o → (∀ ps, o ≠ .tbl ps) → H2 b = some o := fun b o e n => b2 b o (fun z => by
    obtain ⟨ps, hP, _⟩ := hT
    rw [z, hP] at e
    exact n ps (Option.some.inj e).symm) e
  have tb2 : TbL P (X.env.qual ++ "<lambda>") H1 H2 := ⟨T2, x2⟩
  have hS2 : H2 aL = some (.rng 0 (n : Int)) := x2 _ _ hS (fun _ w => nomatch w)
  obtain ⟨t0, t1, t2, hra⟩ := (show ObjOk X.prog X.w H2 s2.heap aL (.rng 0 (n : Int)) from I2.hok aL _ hS2)
  show wpAny _ _ (call (.builtin "sorted") [.ref aL] [(Str.ofString "key", .ref f)]) _ _ s2
  have hun := hr.un
  refine sorted_key_range k hr.hd hra hn hal hso (fun x hx => by have := hdp x hx; omega) (fun v x hR hx h tk kp => ?_) (fun pn out c h' tk n0 kp ho eo => ?_)
  · have I3 : Inv X pins σ H2 { s2 with heap := h, toks := tk } := I2.kept kp
    have hf3 := kp _ _ hf
    obtain ⟨⟨oc, vs', t', hoc, hdc, hvc⟩, _, _⟩ := I2.hok c' _ hc
    have hr2 : Room 1 X.A.in1.in1 := hr.in1.in1
    refine wpAny_call (codeAny_mono (R := fun r s' => ∃ u, r = .ok (.ret u) ∧ PySem.W.KeyPure (k x) { s2 with heap := h, toks := tk } u s') ?_ fun r s' hq => ?_)
    · refine PySem.W.kla_callFunE (by have := hr2.dp; omega) hf3 rfl LP.co LP.gen rfl ⟨c', oc, vs', t', rfl, kp _ _ hoc, hdc, hvc⟩ ?_
      rw [hbind]
      refine wpAny_pure (wpAny_newFunctionEnv (fun y hy => LP.own y hy) (fun y hy => by rw [List.mem_singleton.mp hy]; exact LP.par) (fun h₁ hns hsb => ⟨I3.nolimit.fresh _ hsb, ?_⟩) LP.kind)
      have kp1 : ∀ b o, h.get? b = some o → h₁.get? b = some o := fun b o e => hsb.extBut b o (Nat.ne_of_lt (Heap.lt_size e)) (Heap.get?_push_of_some _ e)
      show codeAny _ _ (.expr body (lamEnv X scope h.objs.size f c')) _ _
      refine PySem.W.kla_codeExpr (wpAny_mono (hkey pins σ H2 { s2 with heap := h, toks := tk } { s2 with heap := h₁, toks := tk + 1 } _ h.objs.size f c' v x (k x) I3 kp1 hns hR (hkf x hx H2 tb2)) (fun u s' hq => ?_) fun _ _ z => z.elim)
      obtain ⟨h5, tk5, rfl, k5, rd⟩ := hq
      exact ⟨u, rfl, h5, tk5, rfl, fun b o e => k5 b o (kp1 b o e), rd⟩
    · obtain ⟨u, rfl, hk⟩ := hq
      exact hk
  · have hlen : ((rngV n).mergeSort (PySem.W.dataLe false k)).length ≤ sizeLine := by rw [List.length_mergeSort, List.length_map, List.length_range]; exact Nat.le_trans hn (by decide)
    have np : H2 pn = none := HOk.gone (show HOk X.prog X.w H2 s2.heap from I2.hok) n0
    exact ⟨.ref _, upd H2 pn (.lst ((rngV n).mergeSort (PySem.W.dataLe false k))), Inv.laidN (t' := tk) I2 kp n0 np ⟨hlen, _, c, eo, ho⟩, rfl, q1 H2 _ tb2 b2 np⟩
end

/-! ### rows walked by generator expressions, comprehensions -/
theorem NoTab.same {H H' : Hp} (s : Same H H') : GX.NoTab H H' := .of s
theorem SqH.noTab {H H' : Hp} {a : Addr} {xs : List V} (h : SqH H a xs) (n : GX.NoTab H H') : SqH H' a xs := h.elim (fun e => .inl (n.lst e)) (fun e => .inr (n.tup e))
theorem LsQ.noTab {H H' : Hp} {a : Addr} {rs : List (Int × Int)} (h : LsQ H a rs) (n : GX.NoTab H H') : LsQ H' a rs := by
  obtain ⟨us, e, p⟩ := h
  exact ⟨us, e.noTab n, p.1, fun i r er => let ⟨x, h1, h2⟩ := p.2 i r er; ⟨x, h1, n.tup h2⟩⟩
theorem IntsQ.noTab {H H' : Hp} {a : Addr} {ns : List Int} (h : IntsQ H a ns) (n : GX.NoTab H H') : IntsQ H' a ns := SqH.noTab h n
theorem LsQ.pr {K : PySem.W.Frag} {H : Hp} {a : Addr} {rs : List (Int × Int)} (h : LsQ H a rs) : PrA K H a rs := let ⟨us, e, p⟩ := h; ⟨us, e.sq, p⟩
theorem iseq_lc {K : PySem.W.Frag} {H : Hp} {a : Addr} {xs : List V} {g : TG} {tt : TT} {te : TE} {vs : List Nat} {σ : L2.St} {Qd : Addr → Hp → Prop} (h : SqH H a xs) (r : ∀ J G, Walk J xs.length G (YAt xs) → (∀ H', GX.NoTab H H' → G H') → ∀ D, H D = none → LcR J g tt te vs σ D Qd H) :
    ((∃ xs, SqL K H a xs) ∧ ∀ D, H D = none → LcR (Itl K a) g tt te vs σ D Qd H) ∨ ((∃ xs, SqT K H a xs) ∧ ∀ D, H D = none → LcR (Itt K a) g tt te vs σ D Qd H) := by
  rcases h with e | e
  · exact .inl ⟨⟨_, SqL.of e⟩, r _ _ walk_list fun H' n => SqL.of (n.lst e)⟩
  · exact .inr ⟨⟨_, .inl (.inl e)⟩, r _ _ walk_tup fun H' n => .inl (.inl (n.tup e))⟩

theorem but_free {P : Addr} {q : Str} {H H2 : Hp} {T : Addr} (t2 : TabS H2 P q) (b : ButAt P H H2) (n : H2 T = none) : H T = none := by
  cases e : H T with
  | none => rfl
  | some o =>
    obtain ⟨ps, e2, _⟩ := t2
    by_cases c : T = P
    · rw [c, e2] at n; cases n
    · rw [b _ _ c e] at n; cases n
abbrev qL : Str := "least_samples" ++ ".<locals>." ++ "<lambda>"
def spLeast (K : PySem.W.Frag) (Pt : Addr) : Sp := fun vs H Q _ => ∃ (a b : Addr) (rs gs : List (Int × Int)), vs = [.ref a, .ref b] ∧ LsQ H a rs ∧ LsQ H b gs ∧ rs.length ≤ 700 ∧ gs.length ≤ 700 ∧ (∀ r ∈ rs, r.1 ≤ r.2) ∧ Ris 0 gs ∧ TabS H Pt qL ∧
  (∀ (i : Nat) r, rs[i]? = some r → allGB gs r = true → (∀ (j : Nat) r', j < i → rs[j]? = some r' → allGB gs r' = false) → ∀ H2 T, TbL Pt qL H H2 → ButAt Pt H H2 → H T = none → H2 T = some (.tup [.str "blind", .int (i : Int)]) → Q (.ref T) H2) ∧
  ((∀ r ∈ rs, allGB gs r = false) → ∀ H2 T N A ns ap, TbL Pt qL H H2 → ButAt Pt H H2 → H T = none → H2 T = some (.tup [.str "samples", .ref N, .ref A]) → H2 N = some (.lst (ns.map V.int)) → H2 A = some (.lst (ap.map V.int)) → N ≠ A → H N = none → H A = none → LeastT rs gs ns ap → Q (.ref T) H2)
abbrev sLeast : Stmt := topS 20
theorem scLeast : FnScope ["runs", "gone", "numbers", "apart", "place", "first", "last", "left", "run"] ["runs", "gone"] (defScope sLeast) := ⟨rfl, rfl, rfl, by decide +kernel, rfl, by decide +kernel, by decide +kernel⟩
section
variable {K : PySem.W.Frag} {mg : Str → Option Value} {P : Program} {w : World} {base : Heap}
theorem ok_Least {f : Addr} {c Pt : Addr} {oc kV doc pm ct : Value} {od an : Option Addr} {osl : Array (Option Value)}
    (lk : K.lookup f = some ⟨oc, od, .func (PySem.W.fnOf "least_samples" "least_samples" (defArgs sLeast) (defBody sLeast) (defScope sLeast) .none kV doc pm an (.ref c) ct), osl⟩) (hcd : PySem.W.codeIn K (.ref c) "least_samples" = true)
    (TB : LamX.TabB base mg c Pt) (C_without : Cal P w K mg base 3 "without" ["one", "other"] (spWithout K)) (m_sorted : mg "sorted" = none) (m_range : mg "range" = none) (m_len : mg "len" = none) :
    FnOk P w K mg base CX0 4 f (PySem.W.fnOf "least_samples" "least_samples" (defArgs sLeast) (defBody sLeast) (defScope sLeast) .none kV doc pm an (.ref c) ct) ["runs", "gone"] (spLeast K Pt) := by
  refine fn_of lk hcd scLeast (fun vs H Q E h => ?_) (fun A outer s H vs Q E hr h => ?_)
  · obtain ⟨a, b, rs, gs, rfl, _⟩ := h
    rfl
  · obtain ⟨a, b, rs, gs, rfl, hA, hB, hra, hgb, hro, hrg, hT, qb, qs⟩ := h
    refine ⟨_, PSs.nox (pss_cons (ps_set (i := 7) scLeast.nd rfl (.inr rfl) (pe_lc (own := [("run", 8)]) (g := (gName 8)) (tt := tYes) (te := (tCall (spWithout K) [] E0 (tCons (tLst (tCons (tVar 8) tNil)) (tCons (tVar 1) tNil)))) rfl scLeast.nd (pi_seq (pv 0)) (blkOk_by (own := [("run", 8)]) (N := ["runs", "gone", "numbers", "apart", "place", "first", "last", "left", "run"]) (sc := defScope sLeast) (by decide +kernel)) (fun _ _ _ _ _ => (pg_name (i := 8) scLeast.nd rfl (.inl rfl))) (fun _ _ _ _ _ => pts_nil) (fun _ _ _ _ _ => (pe_own C_without hr (by rfl) (pa_cons (pe_lst (pa_cons (pv 8) pa_nil)) (pa_cons (pv 1) pa_nil))))))
      (pss_cons (ps_if (pt_cmpR (op_inD (u65 hr)) (pe_lst pa_nil) (pv 7) (by rfl)) (pss_one (ps_ret (pe_tup (pa_cons pe_str (pa_cons (pe_bm PySem.F.plainAttrs_list PySem.F.slot_list_index PySem.F.type_list_index (mt_indexD (u65 hr)) (pv 7) (pa_cons (pe_lst pa_nil) pa_nil)) pa_nil)))))
        pss_nil)
      (pss_cons (ps_set (i := 2) scLeast.nd rfl (.inl rfl) (pe_lst pa_nil))
      (pss_cons (ps_set (i := 3) scLeast.nd rfl (.inl rfl) (pe_lst pa_nil))
      (pss_cons (ps_for PassesOwn.never rfl (pi_list (pe_sortedL3 TB rfl (by rfl) m_sorted hr (pa_cons (pe_callTy cr_range1 (by rfl) m_range (by decide +kernel) (pa_cons (pe_callB call_len_seq (by rfl) m_len PySem.boot_len (pa_cons (pv 7) pa_nil)) pa_nil)) pa_nil) (by rfl) (lamP_by (sc := defScope sLeast) (by decide +kernel)) (fun _ _ _ _ => rfl) (key_last1 (i := 7) (lamP_by (sc := defScope sLeast) (by decide +kernel)) rfl rfl rfl (by decide) (by decide) (by decide)))) (pg_name (i := 4) scLeast.nd rfl (.inl rfl))
        (pss_cons (ps_par rfl scLeast.nd (i := 5) (j := 6) rfl rfl (by decide) rfl rfl (pa_cons (pe_ix ix_tup (pe_ix ix_list (pe_ix ix_list (pv 7) (pv 4) (fun _ _ => rfl)) pe_int (fun _ _ => rfl)) pe_int (fun _ _ => rfl)) (pa_cons (pe_ix ix_tup (pe_ix ix_list (pe_ix ix_list (pv 7) (pv 4) (fun _ _ => rfl)) (pe_un un_neg pe_int) (fun _ _ => rfl)) pe_int (fun _ _ => rfl)) pa_nil)) (by rfl))
        (pss_one (ps_if (PW.pt (pw_or (pt_not (pt_truth (pv 2) (by intro _; rfl))) (pw_or1 (pt_cmpR op_lt (pe_ix ix_list (pv 2) (pe_un un_neg pe_int) (fun _ _ => rfl)) (pv 5) (nomark _))))) (pss_cons (ps_expr (pe_bm PySem.F.plainAttrs_list PySem.F.slot_list_append PySem.F.type_list_append mt_append (pv 2) (pa_cons (pv 6) pa_nil)))
          (pss_one (ps_expr (pe_bm PySem.F.plainAttrs_list PySem.F.slot_list_append PySem.F.type_list_append mt_append (pv 3) (pa_cons (pv 4) pa_nil)))))
          pss_nil))))
      (pss_one (ps_ret (pe_tup (pa_cons pe_str (pa_cons (pv 2) (pa_cons (pe_callB cr_sortedI (by rfl) m_sorted (by decide +kernel) (pa_cons (pv 3) pa_nil)) pa_nil))))))))))), ?_⟩
    obtain ⟨ua, ea, pa⟩ := id hA
    have hlen : ua.length = rs.length := pa.1
    refine ⟨_, rfl, a, rfl, iseq_lc ea fun J G wk hG L nL => lc_it wk (fun j H' => Same H H' ∧ ∃ us ls, H' L = some (.lst us) ∧ LR H' us ls ∧ ls.length = j ∧ (∀ v ∈ us, v ≠ .ref L) ∧ ∀ (i : Nat) r l, rs[i]? = some r → ls[i]? = some l → Told (fun n => (r.1 ≤ n ∧ n ≤ r.2) ∧ ¬ InS gs n) l) ⟨same_upd nL, [], [], upd_same, LR.nil, rfl, (fun _ h => nomatch h), fun i r l _ e => by simp at e⟩ (fun j H' _ hP => hG H' (NoTab.same hP.1)) (fun j x H'' H' hi hP hy => ?_) (fun H1 hP => ?_)⟩
    · obtain ⟨rfl, hx⟩ := hy
      obtain ⟨sm, us, ls, eL, hLR, hlj, hng, htold⟩ := hP
      obtain ⟨r, T, er, rfl, eT⟩ := prs_at pa hx
      have hj : j < rs.length := (List.getElem?_eq_some_iff.mp er).1
      have hrr := hro r (List.mem_of_getElem? er)
      refine ⟨rfl, _, rfl, (by show 1 ≤ sizeLine; decide), fun l1 nl1 => ?_⟩
      have sl1 := same_upd (o := .lst [.ref T]) nl1
      have p1 : LsA (upd H' l1 (.lst [.ref T])) l1 [r] := ⟨_, upd_same, Prs.nil.snoc (sl1 _ _ (sm _ _ eT))⟩
      refine ⟨_, rfl, l1, b, [r], gs, rfl, p1.pr, (hB.same (sm.trans sl1)).pr, ⟨r.1, Int.le_refl _, hrr, True.intro⟩, ⟨0, hrg⟩, by show 1 + gs.length ≤ 800; omega, fun l2 l H4 nl2 hl2 htl _ s4 => ?_⟩
      have eL4 := s4 _ _ (sl1 _ _ eL)
      have n2L : l2 ≠ L := fun z => by rw [z, sl1 _ _ eL] at nl2; cases nl2
      have lus : us.length = j := by rw [hLR.1, hlj]
      refine ⟨_, eL4, small1000 (by omega), fun b' o e => ?_, us ++ [.ref l2], ls ++ [l], upd_same, ?_, by rw [List.length_append, hlj]; rfl, fun v hv => ?_, fun i r' l' er' el' => ?_⟩
      · rw [upd_ne (ne_of_none e nL)]
        exact s4 _ _ (sl1 _ _ (sm b' o e))
      · have h1 := (hLR.same (sl1.trans s4)).snoc hl2
        refine ⟨h1.1, fun i r' e => ?_⟩
        obtain ⟨x, f1, us', f2, f3⟩ := h1.2 i r' e
        have nx : x ≠ L := fun z => by
          have hm := List.mem_of_getElem? f1
          rcases List.mem_append.mp hm with y | y
          · exact hng _ y (by rw [z])
          · exact n2L ((V.ref.inj (List.mem_singleton.mp y)).symm.trans z)
        exact ⟨x, f1, us', by rw [upd_ne nx]; exact f2, f3.upd_lst eL4⟩
      · rcases List.mem_append.mp hv with z | z
        · exact hng v z
        · rw [List.mem_singleton.mp z]
          exact fun w => n2L (V.ref.inj w)
      · by_cases hi : i < ls.length
        · rw [List.getElem?_append_left hi] at el'
          exact htold i r' l' er' el'
        · rw [List.getElem?_append_right (by omega)] at el'
          have h0 : i - ls.length < 1 := (List.getElem?_eq_some_iff.mp el').1
          obtain rfl : i = ls.length := by omega
          rw [Nat.sub_self] at el'
          cases el'
          rw [hlj, er] at er'
          cases er'
          refine htl.cong fun n => ?_
          rw [inS_cons]
          exact ⟨fun ⟨z, y⟩ => ⟨z.elim id (fun w => absurd w inS_nil), y⟩, fun ⟨z, y⟩ => ⟨.inl z, y⟩⟩
    · obtain ⟨s1, us, ls, eL, hLR, hlj, hng, htold⟩ := hP
      rw [hlen] at hlj
      have lus : us.length = rs.length := by rw [hLR.1, hlj]
      -- which are empty
      have emp : ∀ (i : Nat) r l, rs[i]? = some r → ls[i]? = some l → (l.isEmpty = true ↔ allGB gs r = true) := fun i r l er el => by
        rw [List.isEmpty_iff, told_nil (htold i r l er el), allGB_iff]
        refine ⟨fun h n h1 h2 => ?_, fun h n ⟨⟨h1, h2⟩, h3⟩ => h3 (h n h1 h2)⟩
        exact Classical.byContradiction fun z => h n ⟨⟨h1, h2⟩, z⟩
      refine ⟨Nat.zero_le _, fun E0' nE => ?_⟩
      have sE := same_upd (o := .lst []) nE
      have dpL : ∀ {H' : Hp}, Same H1 H' → Dp K H' (.ref L) (.list (ls.map setD')) := fun s' => .lst (SqL.of (s' _ _ eL)) (dp_sets (hLR.same s'))
      refine ⟨_, rfl, .list [], ls.map setD', .lst (SqL.of upd_same) .nil, dpL sE, by rfl, shaped_sets ls, ?_⟩
      have ea' : ((ls.map setD').any fun z => PyData.eqv z (.list [])) = ls.any List.isEmpty := by
        rw [List.any_map]
        congr 1
        funext l
        exact eqv_set l
      rw [ea']
      refine ⟨_, rfl, ite2 (fun c1 => ?_) (fun c1 => ?_)⟩
      · -- one is gone whole
        have ex : ∃ l ∈ ls, List.isEmpty l = true := by
          obtain ⟨l, h1, h2⟩ := List.any_eq_true.mp c1
          exact ⟨l, h1, h2⟩
        have jl := List.findIdx_lt_length_of_exists ex
        have je := List.findIdx_getElem (p := List.isEmpty) (xs := ls) (w := jl)
        have jn : ∀ (m : Nat) l, m < ls.findIdx List.isEmpty → ls[m]? = some l → l.isEmpty = false := fun m l hm hl => by
          have := List.not_of_lt_findIdx hm
          obtain ⟨lt, e⟩ := List.getElem?_eq_some_iff.mp hl
          rw [← e]
          simpa using this
        revert jl je jn
        generalize ls.findIdx List.isEmpty = j
        intro jl je jn
        refine ⟨_, rfl, .inl ⟨rfl, _, SqL.of (sE _ _ eL)⟩, Nat.zero_le _, fun E1 nE1 => ?_⟩
        have sE1 := same_upd (o := .lst []) nE1
        refine ⟨L, .ref E1, .list [], ls.map setD', j, setD' ls[j], rfl, rfl, dpL (sE.trans sE1), .lst (SqL.of upd_same) .nil, shaped_sets ls, by rfl, by rw [List.getElem?_map, List.getElem?_eq_getElem jl]; rfl, by rw [eqv_set]; exact je, fun m z hm hz => ?_, (by show 2 ≤ sizeLine; decide), fun T nT => ?_⟩
        · rw [List.getElem?_map] at hz
          cases hl : ls[m]? with
          | none => rw [hl] at hz; cases hz
          | some l =>
            rw [hl] at hz
            cases hz
            rw [eqv_set]
            exact jn m l hm hl
        · have jr : j < rs.length := by omega
          have sT := same_upd (o := .tup [.str "blind", .int (j : Int)]) nT
          refine qb j rs[j] (List.getElem?_eq_getElem jr) ((emp j _ _ (List.getElem?_eq_getElem jr) (List.getElem?_eq_getElem jl)).mp je) (fun m r' hm hr' => ?_) _ T (TbL.of hT (((s1.trans sE).trans sE1).trans sT)) (fun b' o _ e => (((s1.trans sE).trans sE1).trans sT) b' o e) (((s1.trans sE).trans sE1).free nT) upd_same
          have ml : m < ls.length := by omega
          have := jn m _ hm (List.getElem?_eq_getElem ml)
          cases hg : allGB gs r' with
          | false => rfl
          | true =>
            rw [(emp m r' _ hr' (List.getElem?_eq_getElem ml)).mpr hg] at this
            cases this
      · -- none is
        have hne : ∀ l ∈ ls, l ≠ [] := fun l hl z => c1 (List.any_eq_true.mpr ⟨l, hl, by rw [z]; rfl⟩)
        have none : ∀ r ∈ rs, allGB gs r = false := fun r hr => by
          obtain ⟨m, hm⟩ := List.getElem?_of_mem hr
          have ml : m < ls.length := by rw [hlj]; exact (List.getElem?_eq_some_iff.mp hm).1
          cases hg : allGB gs r with
          | false => rfl
          | true =>
            have := (emp m r _ hm (List.getElem?_eq_getElem ml)).mpr hg
            rw [List.isEmpty_iff] at this
            exact absurd this (hne _ (List.getElem_mem ml))
        refine ⟨Nat.zero_le _, fun N nN => ⟨Nat.zero_le _, fun A2 nA2 => ?_⟩⟩
        have sN := same_upd (o := .lst []) nN
        have sA := same_upd (o := .lst []) nA2
        have s0 := ((s1.trans sE).trans sN).trans sA
        have eLa := ((sE.trans sN).trans sA) _ _ eL
        have hLRa := hLR.same ((sE.trans sN).trans sA)
        have nNA : N ≠ A2 := fun z => by
          have := upd_same (H := upd H1 E0' (.lst [])) (a := N) (o := .lst [])
          rw [← z, this] at nA2
          cases nA2
        refine ⟨_, rfl, L, us, rfl, .inl (SqL.of eLa), (rs.length : Int), by rw [lus], fun R nR => ?_⟩
        have sR := same_upd (o := .rng 0 (rs.length : Int)) nR
        refine ⟨hT.ext (s0.trans sR), R, rs.length, fun x => PyData.int (kI ls x), rfl, upd_same, by omega, ?_, ?_, ?_, ?_, ?_⟩
        · intro d1 h1 d2 h2
          obtain ⟨x1, _, rfl⟩ := List.mem_map.mp h1
          obtain ⟨x2, _, rfl⟩ := List.mem_map.mp h2
          rfl
        · refine .inr fun d1 h1 => ?_
          obtain ⟨x1, _, rfl⟩ := List.mem_map.mp h1
          exact ⟨(fun z => nomatch z), fun _ z => nomatch z⟩
        · intro x _
          show PyData.depth (PyData.int _) ≤ 8
          rw [PyData.depth]
          omega
        · intro x hx H2 tb
          obtain ⟨i, hi, rfl⟩ := List.mem_map.mp hx
          have hi := List.mem_range.mp hi
          obtain ⟨r, l, p, q, e1, e2, h1, h2, h3, h4, h5, h6⟩ := told_Lf hlj htold hne hi
          have hLR2 := (hLRa.same sR).tbl tb
          obtain ⟨m, f1, ms, em, pm'⟩ := hLR2.2 i l e2
          obtain ⟨T, g1, g2⟩ := pm'.2 (l.length - 1) q h2
          refine ⟨L, m, T, us, ms, _, (i : Int), q.2, rfl, rfl, SqL.of (tb.lst (sR _ _ eLa)), atI_nat f1, SqL.of em, ?_, .inl (.inl g2), atI_nat (j := 1) rfl, ?_⟩
          · exact atI_m1 (by rw [pm'.1]; exact g1)
          · show PyData.int (Lf ls (i : Int).toNat).2 = _
            rw [show ((i : Int).toNat) = i by omega, h3]
        · intro H2 p tb bt np
          obtain ⟨os, eo, ho, hol, hos⟩ := order_of ls rs.length
          rw [eo]
          have sp := same_upd (o := .lst (os.map fun i : Nat => V.int (i : Int))) np
          have tb2 := tb.trans (TbL.of tb.1 sp)
          have eLp := tb2.lst (sR _ _ eLa)
          have hLRp := (hLRa.same sR).tbl tb2
          have eNp := tb2.lst (sR _ _ (sA _ _ (upd_same (H := upd H1 E0' (.lst [])) (a := N) (o := .lst []))))
          have eAp := tb2.lst (sR _ _ (upd_same (H := upd (upd H1 E0' (.lst [])) N (.lst [])) (a := A2) (o := .lst [])))
          have epp : upd H2 p (.lst (os.map fun i : Nat => V.int (i : Int))) p = some (.lst (os.map fun i : Nat => V.int (i : Int))) := upd_same
          have hT2 := tb2.1
          have npN : p ≠ N := fun z => by rw [z, tb.lst (sR _ _ (sA _ _ (upd_same (H := upd H1 E0' (.lst [])) (a := N) (o := .lst []))))] at np; cases np
          have npA : p ≠ A2 := fun z => by rw [z, tb.lst (sR _ _ (upd_same (H := upd (upd H1 E0' (.lst [])) N (.lst [])) (a := A2) (o := .lst [])))] at np; cases np
          have nLN : L ≠ N := fun z => by rw [z] at eL; rw [sE _ _ eL] at nN; cases nN
          have nLA : L ≠ A2 := fun z => by rw [z] at eL; rw [sN _ _ (sE _ _ eL)] at nA2; cases nA2
          have tb0 : TbL Pt qL H (upd H2 p (.lst (os.map fun i : Nat => V.int (i : Int)))) := (TbL.of hT (s0.trans sR)).trans tb2
          have bt0 : ButAt Pt H (upd H2 p (.lst (os.map fun i : Nat => V.int (i : Int)))) := fun b' o nb e => sp _ _ (bt b' o nb (sR _ _ (s0 _ _ e)))
          have fN : H N = Option.none := (s1.trans sE).free nN
          have fA : H A2 = Option.none := ((s1.trans sE).trans sN).free nA2
          have oldN : ∀ b' o, H b' = some o → b' ≠ N ∧ b' ≠ A2 := fun b' o e => ⟨ne_of_none (sE _ _ (s1 _ _ e)) nN, ne_of_none (sN _ _ (sE _ _ (s1 _ _ e))) nA2⟩
          -- the sets' lists stay
          have offL : ∀ (i : Nat) l m, ls[i]? = some l → us[i]? = some (.ref m) → m ≠ N ∧ m ≠ A2 := fun i l m el em => by
            obtain ⟨m', f1, ms, f2, _⟩ := hLR.2 i l el
            rw [em] at f1
            cases f1
            exact ⟨ne_of_none (sE _ _ f2) nN, ne_of_none (sN _ _ (sE _ _ f2)) nA2⟩
          generalize upd H2 p (.lst (os.map fun i : Nat => V.int (i : Int))) = H3 at *
          refine ⟨p, rfl, ⟨_, SqL.of epp⟩, for_list (xs := os.map fun i : Nat => V.int (i : Int)) (fun i σ Hx => ∃ (ns : List Int) (ch : List Nat) (y4 y5 y6 y8 : Option V), σ = [some (.ref a), some (.ref b), some (.ref N), some (.ref A2), y4, y5, y6, some (.ref L), y8] ∧ grF (Lf ls) (os.take i) = (ns, ch) ∧ Gr (Lf ls) (os.take i) ns ch ∧ ch.length ≤ i ∧ Hx N = some (.lst (ns.map V.int)) ∧ Hx A2 = some (.lst ((ch.map fun i : Nat => (i : Int)).map V.int)) ∧ TabS Hx Pt qL ∧ ∀ b' o, b' ≠ N → b' ≠ A2 → H3 b' = some o → Hx b' = some o) ⟨[], [], _, _, _, _, rfl, rfl, Gr.nil _, Nat.le_refl _, eNp, eAp, hT2, fun _ _ _ _ e => e⟩ (fun i σ Hx _ hP => ?_) (fun i x σ Hx hx hP => ?_) (fun σ Hx hP => ?_)⟩
          · obtain ⟨ns, ch, y4, y5, y6, y8, rfl, hF, hG, hcl, eN, eA, hTx, kp⟩ := hP
            exact SqL.of (kp _ _ npN npA epp)
          · obtain ⟨ns, ch, y4, y5, y6, y8, rfl, hF, hG, hcl, eN, eA, hTx, kp⟩ := hP
            have hi : i < os.length := by
              have := (List.getElem?_eq_some_iff.mp hx).1
              rwa [List.length_map] at this
            have eoi : os[i]? = some os[i] := List.getElem?_eq_getElem hi
            rw [List.getElem?_map, eoi] at hx
            cases hx
            have lt : os[i] < rs.length := (ho _).mp (List.getElem_mem hi)
            obtain ⟨r, l, p0, q0, e1, e2, h1, h2, h3, h4, h5, h6⟩ := told_Lf hlj htold hne lt
            obtain ⟨m, f1, ms, em, pm'⟩ := hLRp.2 os[i] l e2
            obtain ⟨T0, g1, g2⟩ := pm'.2 0 p0 h1
            obtain ⟨T1, g3, g4⟩ := pm'.2 (l.length - 1) q0 h2
            obtain ⟨o1, o2⟩ := offL os[i] l m e2 f1
            have eLx := kp _ _ nLN nLA eLp
            have emx := kp _ _ o1 o2 em
            have tN : ∀ {T : Addr} {z : List V}, H3 T = some (.tup z) → T ≠ N ∧ T ≠ A2 := fun e => ⟨ne_of e eNp (fun z => nomatch z), ne_of e eAp (fun z => nomatch z)⟩
            have g2x := kp _ _ (tN g2).1 (tN g2).2 g2
            have g4x := kp _ _ (tN g4).1 (tN g4).2 g4
            refine ⟨_, rfl, _, rfl, L, _, (os[i] : Int), _, rfl, rfl, SqL.of eLx, atI_nat f1, m, _, 0, _, rfl, rfl, SqL.of emx, atI_nat (j := 0) g1, T0, _, 0, _, rfl, rfl, .inl (.inl g2x), atI_nat (j := 0) rfl, ?_⟩
            refine ⟨_, rfl, _, rfl, L, _, (os[i] : Int), _, rfl, rfl, SqL.of eLx, atI_nat f1, 1, rfl, m, _, -1, _, rfl, rfl, SqL.of emx, atI_m1 (by rw [pm'.1]; exact g3), T1, _, 1, _, rfl, rfl, .inl (.inl g4x), atI_nat (j := 1) rfl, _, _, rfl, ?_⟩
            have et : os.take (i + 1) = os.take i ++ [os[i]] := by rw [List.take_add_one, eoi]; rfl
            have L1 : (Lf ls os[i]).1 = p0.1 := by rw [h3]
            have L2' : (Lf ls os[i]).2 = q0.2 := by rw [h3]
            have le12 : (Lf ls os[i]).1 ≤ (Lf ls os[i]).2 := by
              rw [L1, L2']
              exact (h6 p0.1 h4).2
            have prev : ∀ j ∈ os.take i, (Lf ls j).2 ≤ (Lf ls os[i]).2 := fun j hj => by
              have hp := hos
              rw [← List.take_append_drop i os, List.pairwise_append] at hp
              exact hp.2.2 j hj _ (by rw [List.drop_eq_getElem_cons hi]; exact List.mem_cons_self ..)
            have app : (∀ e ∈ ns, e < (Lf ls os[i]).1) → ∃ (ns' : List Int) (ch' : List Nat) (y4 y5 y6 y8' : Option V), [some (V.ref a), some (.ref b), some (.ref N), some (.ref A2), some (.int (os[i] : Int)), some (.int p0.1), some (.int q0.2), some (.ref L), y8] = [some (.ref a), some (.ref b), some (.ref N), some (.ref A2), y4, y5, y6, some (.ref L), y8'] ∧ grF (Lf ls) (os.take (i + 1)) = (ns', ch') ∧ Gr (Lf ls) (os.take (i + 1)) ns' ch' ∧ ch'.length ≤ i + 1 ∧ upd (upd Hx N (.lst (ns.map V.int ++ [.int q0.2]))) A2 (.lst ((ch.map fun i : Nat => (i : Int)).map V.int ++ [.int (os[i] : Int)])) N = some (.lst (ns'.map V.int)) ∧ upd (upd Hx N (.lst (ns.map V.int ++ [.int q0.2]))) A2 (.lst ((ch.map fun i : Nat => (i : Int)).map V.int ++ [.int (os[i] : Int)])) A2 = some (.lst ((ch'.map fun i : Nat => (i : Int)).map V.int)) ∧ TabS (upd (upd Hx N (.lst (ns.map V.int ++ [.int q0.2]))) A2 (.lst ((ch.map fun i : Nat => (i : Int)).map V.int ++ [.int (os[i] : Int)]))) Pt qL ∧ ∀ b' o, b' ≠ N → b' ≠ A2 → H3 b' = some o → upd (upd Hx N (.lst (ns.map V.int ++ [.int q0.2]))) A2 (.lst ((ch.map fun i : Nat => (i : Int)).map V.int ++ [.int (os[i] : Int)])) b' = some o := fun lt' => by
              refine ⟨ns ++ [q0.2], ch ++ [os[i]], _, _, _, _, rfl, ?_, ?_, by rw [List.length_append]; show ch.length + 1 ≤ _; omega, ?_, ?_, ?_, fun b' o b1 b2 e => ?_⟩
              · rw [et, grF_snoc, hF]
                show (if _ then _ else _) = _
                rw [if_pos lt', L2']
              · rw [et, ← L2']
                exact hG.take le12 lt'
              · rw [upd_ne nNA, upd_same, List.map_append]
                rfl
              · rw [upd_same, List.map_append, List.map_append]
                rfl
              · exact TabS.upd (xs := (ch.map fun i : Nat => (i : Int)).map V.int) (TabS.upd hTx eN) (by rw [upd_ne nNA.symm]; exact eA)
              · rw [upd_ne b2, upd_ne b1]
                exact kp b' o b1 b2 e
            have skip : ∀ e ∈ ns, (Lf ls os[i]).1 ≤ e → ∃ (ns' : List Int) (ch' : List Nat) (y4 y5 y6 y8' : Option V), [some (V.ref a), some (.ref b), some (.ref N), some (.ref A2), some (.int (os[i] : Int)), some (.int p0.1), some (.int q0.2), some (.ref L), y8] = [some (.ref a), some (.ref b), some (.ref N), some (.ref A2), y4, y5, y6, some (.ref L), y8'] ∧ grF (Lf ls) (os.take (i + 1)) = (ns', ch') ∧ Gr (Lf ls) (os.take (i + 1)) ns' ch' ∧ ch'.length ≤ i + 1 ∧ Hx N = some (.lst (ns'.map V.int)) ∧ Hx A2 = some (.lst ((ch'.map fun i : Nat => (i : Int)).map V.int)) ∧ TabS Hx Pt qL ∧ ∀ b' o, b' ≠ N → b' ≠ A2 → H3 b' = some o → Hx b' = some o := fun e he hle => ⟨ns, ch, _, _, _, _, rfl, by rw [et, grF_snoc, hF]; show (if _ then _ else _) = _; rw [if_neg (fun z => by have := z e he; omega)], by rw [et]; exact hG.skip prev he hle, by omega, eN, eA, hTx, kp⟩
            have lns : ns.length = ch.length := by rw [hG.map, List.length_map]
            refine ⟨_, rfl, _, .inl ⟨_, SqL.of eN, rfl⟩, ?_⟩
            have eA' : upd Hx N (.lst (ns.map V.int ++ [.int q0.2])) A2 = some (.lst ((ch.map fun i : Nat => (i : Int)).map V.int)) := by rw [upd_ne nNA.symm]; exact eA
            have sm1 : (ns.map V.int).length < sizeLine := small1000 (by rw [List.length_map]; omega)
            have sm2 : ((ch.map fun i : Nat => (i : Int)).map V.int).length < sizeLine := small1000 (by rw [List.length_map, List.length_map]; omega)
            refine ite2 (fun c2 => ite2 (fun _ => ?_) (fun z => absurd rfl z)) (fun c2 => ?_)
            · have c2 : (!(!(ns.map V.int).isEmpty)) = true := c2
              have n0 : ns = [] := by
                cases ns with
                | nil => rfl
                | cons => simp at c2
              exact ⟨_, rfl, .inl ⟨rfl, _, SqL.of eN⟩, _, rfl, N, _, _, rfl, rfl, eN, sm1, _, rfl, .inl ⟨rfl, _, SqL.of eA'⟩, _, rfl, A2, _, _, rfl, rfl, eA', sm2, app (fun e he => by rw [n0] at he; cases he)⟩
            · have c2 : ¬ (!(!(ns.map V.int).isEmpty)) = true := c2
              have n0 : ns ≠ [] := fun z => c2 (by rw [z]; rfl)
              obtain ⟨ns0, e0, e0e⟩ : ∃ ns0 e0, ns = ns0 ++ [e0] := ⟨_, _, (List.dropLast_concat_getLast n0).symm⟩
              have at0 : atI (ns.map V.int) (-1) = some (.int e0) := by
                rw [e0e, List.map_append]
                exact atI_last _ _
              have mx : ∀ e ∈ ns, e ≤ e0 := fun e he => by
                have hi' := hG.inc
                rw [e0e, List.pairwise_append] at hi'
                rw [e0e] at he
                rcases List.mem_append.mp he with z | z
                · exact Int.le_of_lt (hi'.2.2 e z e0 (List.mem_singleton.mpr rfl))
                · rw [List.mem_singleton.mp z]; exact Int.le_refl _
              refine ⟨_, rfl, 1, rfl, N, _, -1, _, rfl, rfl, SqL.of eN, at0, _, rfl, _, _, rfl, rfl, _, rfl, ite2 (fun c3 => ?_) (fun c3 => ?_)⟩
              · have lt3 : e0 < p0.1 := of_decide_eq_true c3
                exact ⟨_, rfl, .inl ⟨rfl, _, SqL.of eN⟩, _, rfl, N, _, _, rfl, rfl, eN, sm1, _, rfl, .inl ⟨rfl, _, SqL.of eA'⟩, _, rfl, A2, _, _, rfl, rfl, eA', sm2, app (fun e he => by have := mx e he; rw [L1]; omega)⟩
              · have le3 : p0.1 ≤ e0 := by
                  have : ¬ e0 < p0.1 := fun z => c3 (decide_eq_true z)
                  omega
                exact skip e0 (by rw [e0e]; exact List.mem_append_right _ (List.mem_singleton.mpr rfl)) (by rw [L1]; exact le3)
          · obtain ⟨ns, ch, y4, y5, y6, y8, rfl, hF, hG, hcl, eN, eA, hTx, kp⟩ := hP
            rw [List.length_map, List.take_length] at hG hF
            refine ⟨_, rfl, _, rfl, A2, _, rfl, SqL.of eA, fun ns' p' pm srt np' => ⟨(by show 3 ≤ sizeLine; decide), fun T nT => ?_⟩⟩
            have s5 := same_upd (o := .lst (ns'.map V.int)) np'
            have s6 := same_upd (o := .tup [.str "samples", .ref N, .ref p']) nT
            have bt5 : ButAt Pt H Hx := fun b' o nb e => kp b' o (oldN b' o e).1 (oldN b' o e).2 (bt0 b' o nb e)
            have npN' : N ≠ p' := fun z => by rw [← z, eN] at np'; cases np'
            refine qs none _ T N p' ns ns' ⟨hTx.ext (s5.trans s6), fun b' o e nt => s6 _ _ (s5 _ _ (kp b' o (oldN b' o e).1 (oldN b' o e).2 (tb0.2 b' o e nt)))⟩ (fun b' o nb e => s6 _ _ (s5 _ _ (bt5 b' o nb e))) (but_free (hTx.ext s5) (fun b' o nb e => s5 _ _ (bt5 b' o nb e)) nT) upd_same (s6 _ _ (s5 _ _ eN)) (s6 _ _ upd_same) npN' fN (but_free hTx bt5 np') ⟨⟨ls, os, ch, hlj, htold, hne, eo, fun i => ho i, hF, hG, pm, srt⟩⟩
end

/-! ### dues: as much as any choice of places costs -/
abbrev inR (r : Int × Int) (p : Int) : Prop := r.1 ≤ p ∧ p ≤ r.2
/-- what is left behind a due -/
def subF (left : Int → Int) (r : Int × Int) (d : Int) : Int → Int := fun p => if inR r p then left p - d else left p
/-- each due is the least that is left in its run -/
def Greedy : (Int → Int) → List ((Int × Int) × Int) → Prop
  | _, [] => True
  | left, (r, d) :: l => (∃ p, inR r p ∧ left p = d) ∧ (∀ p, inR r p → d ≤ left p) ∧ Greedy (subF left r d) l
theorem sub_nn {left : Int → Int} {r : Int × Int} {d : Int} {B : Int → Prop} (h : ∀ p, inR r p → d ≤ left p) (h0 : ∀ p, B p → 0 ≤ left p) : ∀ p, B p → 0 ≤ subF left r d p := fun p hp => by
  unfold subF
  split
  · rename_i c
    have := h p c
    omega
  · exact h0 p hp
theorem costF_cons' (pr : Int → Int) (x : Int) (l : List Int) : costF pr (x :: l) = pr x + costF pr l := rfl
/-- those of no run cost the same -/
theorem cost_out {left : Int → Int} {r : Int × Int} {d : Int} : ∀ {l : List Int}, (∀ p ∈ l, ¬ inR r p) → costF (subF left r d) l = costF left l
  | [], _ => rfl
  | x :: l, h => by
    rw [costF_cons', costF_cons', cost_out fun p hp => h p (List.mem_cons_of_mem _ hp)]
    unfold subF
    rw [if_neg (h x (List.mem_cons_self ..))]
theorem cost_part {left : Int → Int} {r : Int × Int} {q : Int} (hq : inR r q) : ∀ {l : List Int}, (∀ p ∈ l, 0 ≤ left p) → q ∈ l → costF left (l.filter fun p => !decide (inR r p)) + left q ≤ costF left l
  | [], _, h => nomatch h
  | x :: l, h0, h => by
    have hx := h0 x (List.mem_cons_self ..)
    have tl : ∀ {l : List Int}, (∀ p ∈ l, 0 ≤ left p) → costF left (l.filter fun p => !decide (inR r p)) ≤ costF left l := by
      intro l
      induction l with
      | nil => exact fun _ => Int.le_refl _
      | cons y l ih =>
        intro h
        have hy := h y (List.mem_cons_self ..)
        have := ih fun p hp => h p (List.mem_cons_of_mem _ hp)
        rw [List.filter_cons]
        split
        · rw [costF_cons', costF_cons']; omega
        · rw [costF_cons']; omega
    rw [List.filter_cons]
    by_cases c : inR r x
    · rw [if_neg (by rw [decide_eq_true c]; decide), costF_cons']
      rcases List.mem_cons.mp h with z | z
      · rw [← z]
        have := tl fun p hp => h0 p (List.mem_cons_of_mem _ hp)
        omega
      · have := cost_part hq (fun p hp => h0 p (List.mem_cons_of_mem _ hp)) z
        omega
    · rw [if_pos (by rw [decide_eq_false c]; rfl), costF_cons', costF_cons']
      have z : q ∈ l := (List.mem_cons.mp h).elim (fun e => absurd (e ▸ hq) c) id
      have := cost_part hq (fun p hp => h0 p (List.mem_cons_of_mem _ hp)) z
      omega
theorem max_in {r : Int × Int} : ∀ {l : List Int}, (∃ p ∈ l, inR r p) → ∃ q ∈ l, inR r q ∧ ∀ p ∈ l, inR r p → p ≤ q
  | [], h => by obtain ⟨_, hp, _⟩ := h; cases hp
  | x :: l, h => by
    by_cases c : ∃ p ∈ l, inR r p
    · obtain ⟨q, h1, h2, h3⟩ := max_in c
      by_cases cx : inR r x ∧ q < x
      · refine ⟨x, List.mem_cons_self .., cx.1, fun p hp hpr => ?_⟩
        rcases List.mem_cons.mp hp with z | z
        · omega
        · have := h3 p z hpr; omega
      · refine ⟨q, List.mem_cons_of_mem _ h1, h2, fun p hp hpr => ?_⟩
        rcases List.mem_cons.mp hp with z | z
        · rw [z] at hpr ⊢
          by_cases w : q < x
          · exact absurd ⟨hpr, w⟩ cx
          · omega
        · exact h3 p z hpr
    · obtain ⟨p, hp, hpr⟩ := h
      rcases List.mem_cons.mp hp with z | z
      · refine ⟨x, List.mem_cons_self .., z ▸ hpr, fun p' hp' hpr' => ?_⟩
        rcases List.mem_cons.mp hp' with w | w
        · omega
        · exact absurd ⟨p', w, hpr'⟩ c
      · exact absurd ⟨p, z, hpr⟩ c
def duesF (l : List ((Int × Int) × Int)) : Int := (l.map (·.2)).sum
/-- runs by their ends: some places cost no more than the dues -/
theorem dual : ∀ {l : List ((Int × Int) × Int)} {left : Int → Int} {B : Int → Prop}, (∀ x ∈ l, ∀ p, inR x.1 p → B p) → (∀ p, B p → 0 ≤ left p) → (l.map (·.1.2)).Pairwise (· ≤ ·) → Greedy left l →
    ∃ S : List Int, (∀ x ∈ l, ∃ p ∈ S, inR x.1 p) ∧ (∀ p ∈ S, B p) ∧ costF left S ≤ duesF l
  | [], left, B, _, _, _, _ => ⟨[], (fun _ h => nomatch h), (fun _ h => nomatch h), Int.le_refl _⟩
  | (r, d) :: l, left, B, hB, h0, hs, hg => by
    obtain ⟨⟨p0, hp0, e0⟩, hmin, hg'⟩ := hg
    rw [List.map_cons, List.pairwise_cons] at hs
    have nn := sub_nn (B := B) hmin h0
    obtain ⟨S, h1, h2, h3⟩ := dual (B := B) (fun x hx => hB x (List.mem_cons_of_mem _ hx)) nn hs.2 hg'
    have ed : duesF ((r, d) :: l) = d + duesF l := rfl
    by_cases c : ∃ p ∈ S, inR r p
    · obtain ⟨q, q1, q2, q3⟩ := max_in c
      have hq := cost_part q2 (fun p hp => nn p (h2 p hp)) q1
      have ho : costF (subF left r d) (S.filter fun p => !decide (inR r p)) = costF left (S.filter fun p => !decide (inR r p)) := cost_out fun p hp z => by
        have := (List.mem_filter.mp hp).2
        rw [decide_eq_true z] at this
        cases this
      have eq : subF left r d q = left q - d := if_pos q2
      refine ⟨q :: S.filter fun p => !decide (inR r p), fun x hx => ?_, fun p hp => ?_, ?_⟩
      · rcases List.mem_cons.mp hx with z | z
        · rw [z]; exact ⟨q, List.mem_cons_self .., q2⟩
        · obtain ⟨p, hp, hpx⟩ := h1 x z
          by_cases cp : inR r p
          · have := q3 p hp cp
            have hxl : r.2 ≤ x.1.2 := hs.1 _ (List.mem_map_of_mem (f := fun x : (Int × Int) × Int => x.1.2) z)
            exact ⟨q, List.mem_cons_self .., by have := hpx.1; omega, by have := q2.2; omega⟩
          · exact ⟨p, List.mem_cons_of_mem _ (List.mem_filter.mpr ⟨hp, by rw [decide_eq_false cp]; rfl⟩), hpx⟩
      · rcases List.mem_cons.mp hp with z | z
        · rw [z]; exact h2 q q1
        · exact h2 p (List.mem_filter.mp z).1
      · rw [costF_cons', ed]
        omega
    · have ho : costF (subF left r d) S = costF left S := cost_out fun p hp z => c ⟨p, hp, z⟩
      refine ⟨p0 :: S, fun x hx => ?_, fun p hp => ?_, ?_⟩
      · rcases List.mem_cons.mp hx with z | z
        · rw [z]; exact ⟨p0, List.mem_cons_self .., hp0⟩
        · obtain ⟨p, hp, hpx⟩ := h1 x z
          exact ⟨p, List.mem_cons_of_mem _ hp, hpx⟩
      · rcases List.mem_cons.mp hp with z | z
        · rw [z]; exact hB _ (List.mem_cons_self ..) _ hp0
        · exact h2 p z
      · rw [costF_cons', ed]
        omega
/-- what a place has to pay -/
def paidF (l : List ((Int × Int) × Int)) (p : Int) : Int := (l.map fun x => if inR x.1 p then x.2 else 0).sum
theorem greedy_left : ∀ {l : List ((Int × Int) × Int)} {left : Int → Int} {B : Int → Prop}, (∀ x ∈ l, ∀ p, inR x.1 p → B p) → (∀ p, B p → 0 ≤ left p) → Greedy left l → (∀ x ∈ l, 0 ≤ x.2) ∧ ∀ p, B p → paidF l p ≤ left p
  | [], left, B, _, h0, _ => ⟨(fun _ h => nomatch h), h0⟩
  | (r, d) :: l, left, B, hB, h0, hg => by
    obtain ⟨⟨p0, hp0, e0⟩, hmin, hg'⟩ := hg
    obtain ⟨h1, h2⟩ := greedy_left (B := B) (fun x hx => hB x (List.mem_cons_of_mem _ hx)) (sub_nn hmin h0) hg'
    refine ⟨fun x hx => ?_, fun p hp => ?_⟩
    · rcases List.mem_cons.mp hx with z | z
      · rw [z]
        show 0 ≤ d
        rw [← e0]
        exact h0 p0 (hB _ (List.mem_cons_self ..) _ hp0)
      · exact h1 x z
    · have := h2 p hp
      have e : paidF ((r, d) :: l) p = (if inR r p then d else 0) + paidF l p := rfl
      rw [e]
      unfold subF at this
      split at this
      · rename_i c; rw [if_pos c]; omega
      · rename_i c; rw [if_neg c]; omega
theorem Greedy.snoc : ∀ {l : List ((Int × Int) × Int)} {left : Int → Int} {r : Int × Int} {d : Int}, Greedy left l → (∃ p, inR r p ∧ left p - paidF l p = d) → (∀ p, inR r p → d ≤ left p - paidF l p) → Greedy left (l ++ [(r, d)])
  | [], left, r, d, _, h1, h2 => ⟨by obtain ⟨p, a, b⟩ := h1; exact ⟨p, a, by have : paidF [] p = 0 := rfl; omega⟩, fun p hp => by have := h2 p hp; have : paidF [] p = 0 := rfl; omega, trivial⟩
  | (r0, d0) :: l, left, r, d, hg, h1, h2 => by
    obtain ⟨g1, g2, g3⟩ := hg
    have e : ∀ p, subF left r0 d0 p - paidF l p = left p - paidF ((r0, d0) :: l) p := fun p => by
      have e : paidF ((r0, d0) :: l) p = (if inR r0 p then d0 else 0) + paidF l p := rfl
      rw [e]
      unfold subF
      split <;> omega
    exact ⟨g1, g2, g3.snoc (by obtain ⟨p, a, b⟩ := h1; exact ⟨p, a, by rw [e]; exact b⟩) fun p hp => by rw [e]; exact h2 p hp⟩
theorem paid_snoc (l : List ((Int × Int) × Int)) (r : Int × Int) (d p : Int) : paidF (l ++ [(r, d)]) p = paidF l p + if inR r p then d else 0 := by
  unfold paidF
  rw [List.map_append, List.sum_append]
  simp

theorem preSum_list {f : Int → Int} {l : List Int} {v : Nat → Int} (h : ∀ (i : Nat) p, l[i]? = some p → v i = f p) : ∀ n, n ≤ l.length → preSum v n = costF f (l.take n)
  | 0, _ => by rw [List.take_zero]; rfl
  | n + 1, hn => by
    have e : l[n]? = some l[n] := List.getElem?_eq_getElem (by omega)
    have hv := h n _ e
    show preSum v n + v n = _
    rw [preSum_list h n (by omega), List.take_add_one, e, hv]
    unfold costF
    rw [List.map_append, List.sum_append]
    simp

/-! ### zip of a list and a tuple -/
def ItzM (K : PySem.W.Frag) (a b : Addr) : It :=
  ⟨fun i H => ∃ (xs ys : List V) (x y : V), SqL K H a xs ∧ SqT K H b ys ∧ xs[i]? = some x ∧ ys[i]? = some y,
    fun i H v H' => ∃ T x y, v = .ref T ∧ H T = none ∧ H' = upd H T (.tup [x, y]) ∧ (∀ xs, SqL K H a xs → xs[i]? = some x) ∧ ∀ ys, SqT K H b ys → ys[i]? = some y,
    fun i H => ∃ xs ys : List V, SqL K H a xs ∧ SqT K H b ys ∧ i ≤ xs.length ∧ i ≤ ys.length ∧ (i = xs.length ∨ i = ys.length)⟩
theorem turn_zipM {P : Program} {w : World} {K : PySem.W.Frag} {elts : List Expr} {kk : Nat} {tpos : Pos} {a b z TI TO i1 i2 : Addr} (D : ZipSep2 z TI TO i1 i2 [i1, a] [i2, b]) (n1 : a ≠ i1) (n2 : b ≠ i2) :
    Turn P w K (.Tuple elts kk tpos) (ItzM K a b) [z, TI, TO, i1, i2] z (fun i h => IsZip h z TI TO .none ∧ IsTupOf2 h TI (.ref i1) (.ref i2) ∧ (∃ x y, IsTupOf2 h TO x y) ∧ h.IsListIter i1 a i ∧ h.IsTupleIter i2 b i) where
  mem := by simp
  obj := fun i h st c hc => by
    obtain ⟨hz, hTI, ⟨x, y, hTO⟩, ⟨o1, e1, _, d1⟩, ⟨o2, e2, _, d2⟩⟩ := st
    have e' : c = z ∨ c = TI ∨ c = TO ∨ c = i1 ∨ c = i2 := by simpa using hc
    rcases e' with q | q | q | q | q
    · rw [q]; exact ⟨_, hz, fun v q => nomatch q⟩
    · rw [q]; exact ⟨_, hTI, fun v q => nomatch q⟩
    · rw [q]; exact ⟨_, hTO, fun v q => nomatch q⟩
    · rw [q]; exact ⟨o1, e1, fun v q => by rw [d1] at q; cases q⟩
    · rw [q]; exact ⟨o2, e2, fun v q => by rw [d2] at q; cases q⟩
  keep := fun i h h' st k => by
    obtain ⟨hz, hTI, ⟨x, y, hTO⟩, h1, h2⟩ := st
    exact ⟨k z (by simp) _ hz, k TI (by simp) _ hTI, ⟨x, y, k TO (by simp) _ hTO⟩, h1.at fun o q => k i1 (by simp) o q, h2.at fun o q => k i2 (by simp) o q⟩
  item := by
    intro X hP hw hK hc i pins s σ H E I hf st hg
    subst hP hw hK
    obtain ⟨hz, hTI, ⟨x0, y0, hTO⟩, h1, h2⟩ := st
    obtain ⟨xs, ys, x, y, hqx, hqy, hx, hy⟩ := hg
    obtain ⟨its, rv, p, _⟩ := I.list hqx
    obtain ⟨its2, rv2, p2, _⟩ := I.tuple hqy
    obtain ⟨u, hu, ru⟩ := rv.get hx
    obtain ⟨u2, hu2, ru2⟩ := rv2.get hy
    have hui : its.toArray[i]? = some u := by simpa using hu
    have hui2 : its2.toArray[i]? = some u2 := by simpa using hu2
    have hzl : z < s.heap.objs.size := Heap.lt_size hz
    have D1 := Draws.list (prog := X.prog) (w := X.w) (A := X.A.in1) (I.ok.hd hc) i1 a n1 its.toArray
    have D2 := Draws.tuple (prog := X.prog) (w := X.w) (A := X.A.in1) (I.ok.hd hc) i2 b n2 its2.toArray
    refine wpAny_pyNext_zipD2_item D D1 D2 hz hTI hTO ⟨h1, p.isList⟩ ⟨h2, p2⟩ (Array.getElem?_eq_some_iff.mp hui).1 (Array.getElem?_eq_some_iff.mp hui2).1 fun v1 v2 h' tk e1 e2 z' TO' h1' h2' hT hsz hk => ?_
    have ev1 : u = v1 := Option.some.inj (hui.symm.trans e1)
    have ev2 : u2 = v2 := Option.some.inj (hui2.symm.trans e2)
    subst ev1 ev2
    refine ⟨_, rfl, wpAny_letOwnedTupleGo_zip (s := { s with heap := h', toks := tk }) z' fun h'' z'' sb => ?_⟩
    have hT2 : h''.get? s.heap.objs.size = some { cls := .type "tuple", data := .seq #[u, u2] } := (sb.2 _ (Nat.ne_of_gt hzl)).trans hT
    have new : ObjOk X.prog X.w (upd H s.heap.objs.size (.tup [x, y])) h'' s.heap.objs.size (.tup [x, y]) :=
      ⟨by show 2 ≤ sizeLine; decide, [u, u2], .cons ru (.cons ru2 .nil), ⟨_, hT2, rfl, _, rfl⟩⟩
    have I1 : Inv X pins σ (upd H s.heap.objs.size (.tup [x, y])) { s with heap := h'', toks := tk } :=
      I.turnedNew (t' := tk) (ch := [z, TI, TO, i1, i2]) (fun c o hb q => (sb.2 c (fun q' => hb (by simp [q']))).trans (hk c o (fun q' => hb (by simp [q'])) (fun q' => hb (by simp [q'])) (fun q' => hb (by simp [q'])) (fun q' => hb (by simp [q'])) q)) hf (Nat.le_refl _) new
    refine ⟨.ref s.heap.objs.size, _, I1, rfl, ⟨_, x, y, rfl, I.hok.fresh (Nat.le_refl _), rfl, fun l hl => by rw [I.list_inj hl hqx]; exact hx, fun l hl => by rw [I.tuple_inj hl hqy]; exact hy⟩, ⟨z'', ?_, ⟨u, u2, ?_⟩, ?_, ?_⟩, fun c hcm => ?_⟩
    · exact (sb.2 _ D.TIz).trans (hk _ _ D.TIz D.TITO D.TIi1 D.TIi2 hTI)
    · exact (sb.2 _ D.TOz).trans TO'
    · exact h1'.1.at fun o q => (sb.2 _ D.zi1.symm).trans q
    · exact h2'.1.at fun o q => (sb.2 _ D.zi2.symm).trans q
    · have hlt : c < s.heap.objs.size := by
        have e' : c = z ∨ c = TI ∨ c = TO ∨ c = i1 ∨ c = i2 := by simpa using hcm
        rcases e' with q | q | q | q | q
        · rw [q]; exact hzl
        · rw [q]; exact Heap.lt_size hTI
        · rw [q]; exact Heap.lt_size hTO
        · rw [q]; obtain ⟨_, e1, _⟩ := h1; exact Heap.lt_size e1
        · rw [q]; obtain ⟨_, e2, _⟩ := h2; exact Heap.lt_size e2
      rw [upd_ne (Nat.ne_of_lt hlt)]
      exact (hf c hcm).1
  done := by
    intro X hP hw hK hc i pins s σ H E I hf st hg
    subst hP hw hK
    obtain ⟨hz, hTI, ⟨x0, y0, hTO⟩, h1, h2⟩ := st
    obtain ⟨xs, ys, hqx, hqy, g1, g2, hend⟩ := hg
    obtain ⟨its, rv, p, _⟩ := I.list hqx
    obtain ⟨its2, rv2, p2, _⟩ := I.tuple hqy
    have l1 : its.toArray.size = xs.length := by rw [List.size_toArray, rv.length]
    have l2 : its2.toArray.size = ys.length := by rw [List.size_toArray, rv2.length]
    have D1 := Draws.list (prog := X.prog) (w := X.w) (A := X.A.in1) (I.ok.hd hc) i1 a n1 its.toArray
    have D2 := Draws.tuple (prog := X.prog) (w := X.w) (A := X.A.in1) (I.ok.hd hc) i2 b n2 its2.toArray
    exact wpAny_pyNext_zipD2_end D D1 D2 hz hTI hTO ⟨h1, p.isList⟩ ⟨h2, p2⟩ (by omega) (by omega) (by omega) fun h' tk hk => ⟨rfl, I.turnedL (t' := tk) (ch := [z, TI, TO, i1, i2]) (fun c o hb q =>
      hk c o (fun q' => hb (by simp [q'])) (fun q' => hb (by simp [q'])) (fun q' => hb (by simp [q'])) (fun q' => hb (by simp [q'])) q) hf⟩
  self := fun A i s Q E st h => wpAny_pyIter_zip st.1 h
def iZipM (K : PySem.W.Frag) (ta : TA) : TI := fun σ H R => ta σ H fun vs H1 => ∃ a b xs ys, vs = [.ref a, .ref b] ∧ ((SqL K H1 a xs ∧ SqL K H1 b ys ∧ R (Itz K a b) H1) ∨ (SqL K H1 a xs ∧ SqT K H1 b ys ∧ R (ItzM K a b) H1))
theorem pi_zipM {X : Cx} {e e2 : Expr} {ta : TA} {p pos tpos : Pos} {elts : List Expr} {kk : Nat} (hg : Gl X "zip") (hm : X.mg "zip" = none) (ha : PA X [e, e2] ta)
    (hs : starEach [e, e2] X.env = (false, eval e X.env) :: starEach [e2] X.env := by rfl) (hpl : (backTo pos (starEach [e2] X.env)).any (·.1) = false := by rfl) :
    PI X (.Tuple elts kk tpos) (.Call (.Name "zip" p) [e, e2] [] pos) (iZipM X.K ta) := by
  refine ⟨fun pins s σ H R I h => ?_⟩
  refine Call_ (ld_blt I hg hm PyProof.Rows.boot_zip (PyProof.Rows.callWith_type1 (thn (ha.run pos pins s σ H _ I h) fun us s1 ⟨vs, H1, I1, r1, q1⟩ => ?_) hs hpl))
  obtain ⟨a, b, xs, ys, ex, q1⟩ := q1
  subst ex
  cases r1 with
  | cons r rr =>
    cases rr with
    | cons r' rr =>
      cases rr
      cases r
      cases r'
      have fresh5 : ∀ c, c ∈ [s1.heap.objs.size + 4, s1.heap.objs.size + 2, s1.heap.objs.size + 3, s1.heap.objs.size, s1.heap.objs.size + 1] → FpOk X pins H1 c := fun c hcm => by
        have e' : c = s1.heap.objs.size + 4 ∨ c = s1.heap.objs.size + 2 ∨ c = s1.heap.objs.size + 3 ∨ c = s1.heap.objs.size ∨ c = s1.heap.objs.size + 1 := by simpa using hcm
        have hle : s1.heap.objs.size ≤ c := by
          rcases e' with z | z | z | z | z
          · rw [z]; exact Nat.le_add_right _ _
          · rw [z]; exact Nat.le_add_right _ _
          · rw [z]; exact Nat.le_add_right _ _
          · rw [z]; exact Nat.le_refl _
          · rw [z]; exact Nat.le_add_right _ _
        exact I1.fpOk hle (I1.hok.fresh hle)
      rcases q1 with ⟨hqx, hqy, q⟩ | ⟨hqx, hqy, q⟩
      · obtain ⟨its, rv, p1, _⟩ := I1.list hqx
        obtain ⟨its2, rv2, p2, _⟩ := I1.list hqy
        refine call_zip_2 p1.isList p2.isList fun h' hz hTI hTO h1 h2 hsz hk => wpAny_pyIter_zip hz ?_
        have I2 : Inv X pins σ H1 { s1 with heap := h' } := I1.kept (t' := s1.toks) hk
        exact ⟨s1.heap.objs.size + 4, [s1.heap.objs.size + 4, s1.heap.objs.size + 2, s1.heap.objs.size + 3, s1.heap.objs.size, s1.heap.objs.size + 1], _, _, H1, rfl, I2, turn_zip (PySem.W.ktu_apart s1.heap.objs.size a b p1.lt p2.lt), ⟨hz, hTI, ⟨_, _, hTO⟩, h1, h2⟩, fresh5, q⟩
      · obtain ⟨its, rv, p1, _⟩ := I1.list hqx
        obtain ⟨its2, rv2, p2, _⟩ := I1.tuple hqy
        have la : a < s1.heap.objs.size := p1.lt
        have lb : b < s1.heap.objs.size := let ⟨_, ho, _⟩ := id p2; Heap.lt_size ho
        refine zip_begins2 (begins_list a its.toArray) (begins_tuple b its2.toArray) p1.isList p2 fun h' hz hTI hTO h1 h2 hsz hk => wpAny_pyIter_zip hz ?_
        have I2 : Inv X pins σ H1 { s1 with heap := h' } := I1.kept (t' := s1.toks) hk
        exact ⟨s1.heap.objs.size + 4, [s1.heap.objs.size + 4, s1.heap.objs.size + 2, s1.heap.objs.size + 3, s1.heap.objs.size, s1.heap.objs.size + 1], _, _, H1, rfl, I2, turn_zipM (zip_sep2 (N := s1.heap.objs.size) (fun c hc => by rw [List.mem_singleton.mp hc]; exact la) (fun c hc => by rw [List.mem_singleton.mp hc]; exact lb)) (Nat.ne_of_lt la) (Nat.ne_of_lt (Nat.lt_succ_of_lt lb)), ⟨hz, hTI, ⟨_, _, hTO⟩, ⟨_, h1, rfl, rfl⟩, ⟨_, h2, rfl, rfl⟩⟩, fresh5, q⟩
theorem walk_zipM {K : PySem.W.Frag} {a b : Addr} {xs ys : List V} (hl : xs.length = ys.length) : Walk (ItzM K a b) xs.length (fun H => SqL K H a xs ∧ SqT K H b ys) (YPair (fun i => xs[i]?) (fun i => ys[i]?)) where
  goes := fun i _ hi q => ⟨xs, ys, xs[i], ys[i]'(hl ▸ hi), q.1, q.2, List.getElem?_eq_getElem hi, List.getElem?_eq_getElem (hl ▸ hi)⟩
  stops := fun _ q => ⟨xs, ys, q.1, q.2, Nat.le_refl _, Nat.le_of_eq hl, .inl rfl⟩
  yields := fun i H v H' _ q ⟨T, x, y, h1, h2, h3, h4, h5⟩ => ⟨T, x, y, h1, h2, h3, h4 xs q.1, h5 ys q.2⟩
/-! ### zip of a tuple and a list -/
def ItzN (K : PySem.W.Frag) (a b : Addr) : It :=
  ⟨fun i H => ∃ (xs ys : List V) (x y : V), SqT K H a xs ∧ SqL K H b ys ∧ xs[i]? = some x ∧ ys[i]? = some y,
    fun i H v H' => ∃ T x y, v = .ref T ∧ H T = none ∧ H' = upd H T (.tup [x, y]) ∧ (∀ xs, SqT K H a xs → xs[i]? = some x) ∧ ∀ ys, SqL K H b ys → ys[i]? = some y,
    fun i H => ∃ xs ys : List V, SqT K H a xs ∧ SqL K H b ys ∧ i ≤ xs.length ∧ i ≤ ys.length ∧ (i = xs.length ∨ i = ys.length)⟩
theorem turn_zipN {P : Program} {w : World} {K : PySem.W.Frag} {elts : List Expr} {kk : Nat} {tpos : Pos} {a b z TI TO i1 i2 : Addr} (D : ZipSep2 z TI TO i1 i2 [i1, a] [i2, b]) (n1 : a ≠ i1) (n2 : b ≠ i2) :
    Turn P w K (.Tuple elts kk tpos) (ItzN K a b) [z, TI, TO, i1, i2] z (fun i h => IsZip h z TI TO .none ∧ IsTupOf2 h TI (.ref i1) (.ref i2) ∧ (∃ x y, IsTupOf2 h TO x y) ∧ h.IsTupleIter i1 a i ∧ h.IsListIter i2 b i) where
  mem := by simp
  obj := fun i h st c hc => by
    obtain ⟨hz, hTI, ⟨x, y, hTO⟩, ⟨o1, e1, _, d1⟩, ⟨o2, e2, _, d2⟩⟩ := st
    have e' : c = z ∨ c = TI ∨ c = TO ∨ c = i1 ∨ c = i2 := by simpa using hc
    rcases e' with q | q | q | q | q
    · rw [q]; exact ⟨_, hz, fun v q => nomatch q⟩
    · rw [q]; exact ⟨_, hTI, fun v q => nomatch q⟩
    · rw [q]; exact ⟨_, hTO, fun v q => nomatch q⟩
    · rw [q]; exact ⟨o1, e1, fun v q => by rw [d1] at q; cases q⟩
    · rw [q]; exact ⟨o2, e2, fun v q => by rw [d2] at q; cases q⟩
  keep := fun i h h' st k => by
    obtain ⟨hz, hTI, ⟨x, y, hTO⟩, h1, h2⟩ := st
    exact ⟨k z (by simp) _ hz, k TI (by simp) _ hTI, ⟨x, y, k TO (by simp) _ hTO⟩, h1.at fun o q => k i1 (by simp) o q, h2.at fun o q => k i2 (by simp) o q⟩
  item := by
    intro X hP hw hK hc i pins s σ H E I hf st hg
    subst hP hw hK
    obtain ⟨hz, hTI, ⟨x0, y0, hTO⟩, h1, h2⟩ := st
    obtain ⟨xs, ys, x, y, hqx, hqy, hx, hy⟩ := hg
    obtain ⟨its, rv, p, _⟩ := I.tuple hqx
    obtain ⟨its2, rv2, p2, _⟩ := I.list hqy
    obtain ⟨u, hu, ru⟩ := rv.get hx
    obtain ⟨u2, hu2, ru2⟩ := rv2.get hy
    have hui : its.toArray[i]? = some u := by simpa using hu
    have hui2 : its2.toArray[i]? = some u2 := by simpa using hu2
    have hzl : z < s.heap.objs.size := Heap.lt_size hz
    have D1 := Draws.tuple (prog := X.prog) (w := X.w) (A := X.A.in1) (I.ok.hd hc) i1 a n1 its.toArray
    have D2 := Draws.list (prog := X.prog) (w := X.w) (A := X.A.in1) (I.ok.hd hc) i2 b n2 its2.toArray
    refine wpAny_pyNext_zipD2_item D D1 D2 hz hTI hTO ⟨h1, p⟩ ⟨h2, p2.isList⟩ (Array.getElem?_eq_some_iff.mp hui).1 (Array.getElem?_eq_some_iff.mp hui2).1 fun v1 v2 h' tk e1 e2 z' TO' h1' h2' hT hsz hk => ?_
    have ev1 : u = v1 := Option.some.inj (hui.symm.trans e1)
    have ev2 : u2 = v2 := Option.some.inj (hui2.symm.trans e2)
    subst ev1 ev2
    refine ⟨_, rfl, wpAny_letOwnedTupleGo_zip (s := { s with heap := h', toks := tk }) z' fun h'' z'' sb => ?_⟩
    have hT2 : h''.get? s.heap.objs.size = some { cls := .type "tuple", data := .seq #[u, u2] } := (sb.2 _ (Nat.ne_of_gt hzl)).trans hT
    have new : ObjOk X.prog X.w (upd H s.heap.objs.size (.tup [x, y])) h'' s.heap.objs.size (.tup [x, y]) :=
      ⟨by show 2 ≤ sizeLine; decide, [u, u2], .cons ru (.cons ru2 .nil), ⟨_, hT2, rfl, _, rfl⟩⟩
    have I1 : Inv X pins σ (upd H s.heap.objs.size (.tup [x, y])) { s with heap := h'', toks := tk } :=
      I.turnedNew (t' := tk) (ch := [z, TI, TO, i1, i2]) (fun c o hb q => (sb.2 c (fun q' => hb (by simp [q']))).trans (hk c o (fun q' => hb (by simp [q'])) (fun q' => hb (by simp [q'])) (fun q' => hb (by simp [q'])) (fun q' => hb (by simp [q'])) q)) hf (Nat.le_refl _) new
    refine ⟨.ref s.heap.objs.size, _, I1, rfl, ⟨_, x, y, rfl, I.hok.fresh (Nat.le_refl _), rfl, fun l hl => by rw [I.tuple_inj hl hqx]; exact hx, fun l hl => by rw [I.list_inj hl hqy]; exact hy⟩, ⟨z'', ?_, ⟨u, u2, ?_⟩, ?_, ?_⟩, fun c hcm => ?_⟩
    · exact (sb.2 _ D.TIz).trans (hk _ _ D.TIz D.TITO D.TIi1 D.TIi2 hTI)
    · exact (sb.2 _ D.TOz).trans TO'
    · exact h1'.1.at fun o q => (sb.2 _ D.zi1.symm).trans q
    · exact h2'.1.at fun o q => (sb.2 _ D.zi2.symm).trans q
    · have hlt : c < s.heap.objs.size := by
        have e' : c = z ∨ c = TI ∨ c = TO ∨ c = i1 ∨ c = i2 := by simpa using hcm
        rcases e' with q | q | q | q | q
        · rw [q]; exact hzl
        · rw [q]; exact Heap.lt_size hTI
        · rw [q]; exact Heap.lt_size hTO
        · rw [q]; obtain ⟨_, e1, _⟩ := h1; exact Heap.lt_size e1
        · rw [q]; obtain ⟨_, e2, _⟩ := h2; exact Heap.lt_size e2
      rw [upd_ne (Nat.ne_of_lt hlt)]
      exact (hf c hcm).1
  done := by
    intro X hP hw hK hc i pins s σ H E I hf st hg
    subst hP hw hK
    obtain ⟨hz, hTI, ⟨x0, y0, hTO⟩, h1, h2⟩ := st
    obtain ⟨xs, ys, hqx, hqy, g1, g2, hend⟩ := hg
    obtain ⟨its, rv, p, _⟩ := I.tuple hqx
    obtain ⟨its2, rv2, p2, _⟩ := I.list hqy
    have l1 : its.toArray.size = xs.length := by rw [List.size_toArray, rv.length]
    have l2 : its2.toArray.size = ys.length := by rw [List.size_toArray, rv2.length]
    have D1 := Draws.tuple (prog := X.prog) (w := X.w) (A := X.A.in1) (I.ok.hd hc) i1 a n1 its.toArray
    have D2 := Draws.list (prog := X.prog) (w := X.w) (A := X.A.in1) (I.ok.hd hc) i2 b n2 its2.toArray
    exact wpAny_pyNext_zipD2_end D D1 D2 hz hTI hTO ⟨h1, p⟩ ⟨h2, p2.isList⟩ (by omega) (by omega) (by omega) fun h' tk hk => ⟨rfl, I.turnedL (t' := tk) (ch := [z, TI, TO, i1, i2]) (fun c o hb q =>
      hk c o (fun q' => hb (by simp [q'])) (fun q' => hb (by simp [q'])) (fun q' => hb (by simp [q'])) (fun q' => hb (by simp [q'])) q) hf⟩
  self := fun A i s Q E st h => wpAny_pyIter_zip st.1 h
def iZipN (K : PySem.W.Frag) (ta : TA) : TI := fun σ H R => ta σ H fun vs H1 => ∃ a b xs ys, vs = [.ref a, .ref b] ∧ SqT K H1 a xs ∧ SqL K H1 b ys ∧ R (ItzN K a b) H1
theorem pi_zipN {X : Cx} {e e2 : Expr} {ta : TA} {p pos tpos : Pos} {elts : List Expr} {kk : Nat} (hg : Gl X "zip") (hm : X.mg "zip" = none) (ha : PA X [e, e2] ta)
    (hs : starEach [e, e2] X.env = (false, eval e X.env) :: starEach [e2] X.env := by rfl) (hpl : (backTo pos (starEach [e2] X.env)).any (·.1) = false := by rfl) :
    PI X (.Tuple elts kk tpos) (.Call (.Name "zip" p) [e, e2] [] pos) (iZipN X.K ta) := by
  refine ⟨fun pins s σ H R I h => ?_⟩
  refine Call_ (ld_blt I hg hm PyProof.Rows.boot_zip (PyProof.Rows.callWith_type1 (thn (ha.run pos pins s σ H _ I h) fun us s1 ⟨vs, H1, I1, r1, q1⟩ => ?_) hs hpl))
  obtain ⟨a, b, xs, ys, ex, q1⟩ := q1
  subst ex
  cases r1 with
  | cons r rr =>
    cases rr with
    | cons r' rr =>
      cases rr
      cases r
      cases r'
      have fresh5 : ∀ c, c ∈ [s1.heap.objs.size + 4, s1.heap.objs.size + 2, s1.heap.objs.size + 3, s1.heap.objs.size, s1.heap.objs.size + 1] → FpOk X pins H1 c := fun c hcm => by
        have e' : c = s1.heap.objs.size + 4 ∨ c = s1.heap.objs.size + 2 ∨ c = s1.heap.objs.size + 3 ∨ c = s1.heap.objs.size ∨ c = s1.heap.objs.size + 1 := by simpa using hcm
        have hle : s1.heap.objs.size ≤ c := by
          rcases e' with z | z | z | z | z
          · rw [z]; exact Nat.le_add_right _ _
          · rw [z]; exact Nat.le_add_right _ _
          · rw [z]; exact Nat.le_add_right _ _
          · rw [z]; exact Nat.le_refl _
          · rw [z]; exact Nat.le_add_right _ _
        exact I1.fpOk hle (I1.hok.fresh hle)
      obtain ⟨hqx, hqy, q⟩ := q1
      obtain ⟨its, rv, p1, _⟩ := I1.tuple hqx
      obtain ⟨its2, rv2, p2, _⟩ := I1.list hqy
      have la : a < s1.heap.objs.size := let ⟨_, ho, _⟩ := id p1; Heap.lt_size ho
      have lb : b < s1.heap.objs.size := p2.lt
      refine zip_begins2 (begins_tuple a its.toArray) (begins_list b its2.toArray) p1 p2.isList fun h' hz hTI hTO h1 h2 hsz hk => wpAny_pyIter_zip hz ?_
      have I2 : Inv X pins σ H1 { s1 with heap := h' } := I1.kept (t' := s1.toks) hk
      exact ⟨s1.heap.objs.size + 4, [s1.heap.objs.size + 4, s1.heap.objs.size + 2, s1.heap.objs.size + 3, s1.heap.objs.size, s1.heap.objs.size + 1], _, _, H1, rfl, I2, turn_zipN (zip_sep2 (N := s1.heap.objs.size) (fun c hc => by rw [List.mem_singleton.mp hc]; exact la) (fun c hc => by rw [List.mem_singleton.mp hc]; exact lb)) (Nat.ne_of_lt la) (Nat.ne_of_lt (Nat.lt_succ_of_lt lb)), ⟨hz, hTI, ⟨_, _, hTO⟩, ⟨_, h1, rfl, rfl⟩, ⟨_, h2, rfl, rfl⟩⟩, fresh5, q⟩
theorem walk_zipN {K : PySem.W.Frag} {a b : Addr} {xs ys : List V} (hl : xs.length = ys.length) : Walk (ItzN K a b) xs.length (fun H => SqT K H a xs ∧ SqL K H b ys) (YPair (fun i => xs[i]?) (fun i => ys[i]?)) where
  goes := fun i _ hi q => ⟨xs, ys, xs[i], ys[i]'(hl ▸ hi), q.1, q.2, List.getElem?_eq_getElem hi, List.getElem?_eq_getElem (hl ▸ hi)⟩
  stops := fun _ q => ⟨xs, ys, q.1, q.2, Nat.le_refl _, Nat.le_of_eq hl, .inl rfl⟩
  yields := fun i H v H' _ q ⟨T, x, y, h1, h2, h3, h4, h5⟩ => ⟨T, x, y, h1, h2, h3, h4 xs q.1, h5 ys q.2⟩
theorem PI.or {X : Cx} {tg e : Expr} {r r' : TI} (h : PI X tg e r) (h' : PI X tg e r') : PI X tg e (fun σ H R => r σ H R ∨ r' σ H R) := ⟨fun pins s σ H R I q => q.elim (h.run pins s σ H R I) (h'.run pins s σ H R I)⟩
def iZipQ (K : PySem.W.Frag) (ta : TA) : TI := fun σ H R => RZ.iZipA K ta σ H R ∨ iZipM K ta σ H R ∨ iZipN K ta σ H R
theorem pi_zipQ {X : Cx} {e e2 : Expr} {ta : TA} {p pos tpos : Pos} {elts : List Expr} {kk : Nat} (hg : Gl X "zip") (hm : X.mg "zip" = none) (ha : PA X [e, e2] ta)
    (hs : starEach [e, e2] X.env = (false, eval e X.env) :: starEach [e2] X.env := by rfl) (hpl : (backTo pos (starEach [e2] X.env)).any (·.1) = false := by rfl) :
    PI X (.Tuple elts kk tpos) (.Call (.Name "zip" p) [e, e2] [] pos) (iZipQ X.K ta) := PI.or (RZ.pi_zipA hg hm ha hs hpl) (PI.or (pi_zipM hg hm ha hs hpl) (pi_zipN hg hm ha hs hpl))
/-- rows of one length by pairs: each way of holding them -/
def ZipJ (K : PySem.W.Frag) (J : It) (n : Nat) (H0 : Hp) (fx fy : Nat → Option V) : Prop := ∃ G, Walk J n G (YPair fx fy) ∧ ∀ H, GX.NoTab H0 H → G H

/-! ### enumerate over a list or a tuple -/
theorem meets_enB {v : Value} {o : Obj} {G : Heap → Prop} (B : Begins v o G) : Meets (Builtin.«enumerate.__new__» ⟨[.type "enumerate", v], []⟩) (fun _ R s => G s.heap ∧
    R (.ok (.ret (.ref (s.heap.push o).objs.size))) { s with heap := (s.heap.push o).push { cls := .type "enumerate", data := .fields #[.none, .bool false, .ref s.heap.objs.size, rawInt 0, .none, .none] } }) :=
  .of_wp fun prog w A R s given => by
    obtain ⟨hp, g, d, tk, os⟩ := s
    obtain ⟨hg, given⟩ := given
    have sub0 := sub_enumerate
    have begun : ∀ {A' : Around} {E' Q' : Value → Shared → Prop}, Q' (.ref hp.objs.size) ⟨hp.push o, g, d, tk, os⟩ → wpAny (model prog w) A' (pyIter v) Q' E' ⟨hp, g, d, tk, os⟩ := fun q => B.iter prog w _ _ ⟨hp, g, d, tk, os⟩ _ hg q
    wp_walk using begun
    refine wpAny_stack_any fun stk => wpAny_pure ?_
    split
    · rename_i c0 _ _ _ _ _
      cases (c0 == Value.type "enumerate") <;> (wp_walk using begun; exact ⟨_, rfl, given⟩)
    · wp_walk using begun
      exact ⟨_, rfl, given⟩
theorem call_enB {prog : Program} {w : World} {A : Around} {E Q : Value → Shared → Prop} {s : Shared} {v : Value} {o : Obj} {G : Heap → Prop} (B : Begins v o G) (hg : G s.heap)
    (h : ∀ h', IsEnum h' (s.heap.objs.size + 1) s.heap.objs.size 0 .none → h'.get? s.heap.objs.size = some o → (∀ b o, s.heap.get? b = some o → h'.get? b = some o) → Q (.ref (s.heap.objs.size + 1)) { s with heap := h' }) : wpAny (model prog w) A (call (.type "enumerate") [v]) Q E s := by
  refine callType_new F.called_enumerate (by decide) (F.typeCall_enumerate_1 _) (F.newCall_enumerate_1 _) (fun obj => F.args_object_init_2 obj _) F.entry_enumerate_new (meets_enB B) ⟨hg, ?_⟩
  have z1 : (s.heap.push o).objs.size = s.heap.objs.size + 1 := Heap.size_push ..
  show _ ∧ _
  rw [z1]
  have made : IsEnum ((s.heap.push o).push { cls := .type "enumerate", data := .fields #[.none, .bool false, .ref s.heap.objs.size, rawInt 0, .none, .none] }) (s.heap.objs.size + 1) s.heap.objs.size 0 .none := by
    have e0 := Heap.get?_push_size (s.heap.push o) (o := { cls := .type "enumerate", data := .fields #[.none, .bool false, .ref s.heap.objs.size, rawInt 0, .none, .none] }) rfl
    rw [z1] at e0
    exact e0
  exact ⟨⟨_, made, rfl⟩, h _ made (Heap.get?_push_of_some _ (Heap.get?_push_size _ B.free)) fun b o x => Heap.get?_push_of_some _ (Heap.get?_push_of_some _ x)⟩
/-- the tuple at a as it stands, each item in a new pair -/
def IteT (K : PySem.W.Frag) (a : Addr) : It := ⟨fun i H => ∃ (xs : List V) (x : V), SqT K H a xs ∧ xs[i]? = some x, fun i H v H' => ∃ T x, v = .ref T ∧ H T = none ∧ H' = upd H T (.tup [.int (i : Nat), x]) ∧ ∀ xs, SqT K H a xs → xs[i]? = some x, fun i H => ∃ xs : List V, SqT K H a xs ∧ xs.length = i⟩
theorem turn_enT {P : Program} {w : World} {K : PySem.W.Frag} {elts : List Expr} {kk : Nat} {tpos : Pos} (a e it : Addr) (nei : e ≠ it) (nea : e ≠ a) (nai : a ≠ it) :
    Turn P w K (.Tuple elts kk tpos) (IteT K a) [e, it] e (fun i h => (∃ old, IsEnum h e it ((i : Nat) : Int) old) ∧ h.IsTupleIter it a i) where
  mem := List.mem_cons_self ..
  obj := fun i h ⟨⟨old, he⟩, ⟨o, ho, hc, hd⟩⟩ b hb => by
    rcases List.mem_cons.mp hb with z | z
    · subst z
      exact ⟨_, he, fun v q => nomatch q⟩
    · rw [List.mem_singleton.mp z]
      exact ⟨o, ho, fun v q => by rw [hd] at q; cases q⟩
  keep := fun i h h' ⟨⟨old, he⟩, hi⟩ k => ⟨⟨old, k e (List.mem_cons_self ..) _ he⟩, hi.at fun o q => k it (List.mem_cons_of_mem _ (List.mem_singleton.mpr rfl)) o q⟩
  item := by
    intro X hP hw hK hc i pins s σ H E I hf st hg
    subst hP hw hK
    obtain ⟨⟨old, he⟩, hit⟩ := st
    obtain ⟨xs, x, hq, hx⟩ := hg
    obtain ⟨its, rv, isT, _⟩ := I.tuple hq
    obtain ⟨u, hu, ru⟩ := rv.get hx
    have lte : e < s.heap.objs.size := Heap.lt_size he
    have lti : it < s.heap.objs.size := let ⟨_, q, _⟩ := hit; Heap.lt_size q
    have hui : its.toArray[i]? = some u := by simpa using hu
    have lt : i < its.toArray.size := (Array.getElem?_eq_some_iff.mp hui).1
    have D := Draws.tuple (prog := X.prog) (w := X.w) (A := X.A.in1) (I.ok.hd hc) it a nai its.toArray
    refine wpAny_pyNext_enum_itemD D he ⟨hit, isT⟩ lt nei (by intro z; rcases List.mem_cons.mp z with z | z; exact nei z; exact nea (List.mem_singleton.mp z)) fun x' h' tk hx' ho st' hT hsz hk => ?_
    have ex : u = x' := Option.some.inj (hui.symm.trans hx')
    subst ex
    refine ⟨_, rfl, wpAny_letOwnedTupleGo_enum (s := { s with heap := h', toks := tk + 1 }) ho fun h'' he' sb => ?_⟩
    have hT2 := (sb.2 _ (Nat.ne_of_gt lte)).trans hT
    have new : ObjOk X.prog X.w (upd H s.heap.objs.size (.tup [.int (i : Nat), x])) h'' s.heap.objs.size (.tup [.int (i : Nat), x]) := ⟨by show 2 ≤ sizeLine; decide, [.int i tk, u], .cons ⟨_, rfl⟩ (.cons ru .nil), ⟨_, hT2, rfl, _, rfl⟩⟩
    have I1 : Inv X pins σ (upd H s.heap.objs.size (.tup [.int (i : Nat), x])) { s with heap := h'', toks := tk + 1 } :=
      I.turnedNew (t' := tk + 1) (ch := [e, it]) (fun b ob hb q => (sb.2 b (fun z => hb (z ▸ List.mem_cons_self ..))).trans (hk b ob (fun z => hb (z ▸ List.mem_cons_self ..)) (fun z => hb (z ▸ List.mem_cons_of_mem _ (List.mem_singleton.mpr rfl))) q)) hf (Nat.le_refl _) new
    refine ⟨.ref s.heap.objs.size, _, I1, rfl, ⟨_, x, rfl, I.hok.fresh (Nat.le_refl _), rfl, fun ys hy => by rw [I.tuple_inj hy hq]; exact hx⟩, ⟨⟨u, ?_⟩, st'.1.at fun o q => (sb.2 it nei.symm).trans q⟩, fun b hb => ?_⟩
    · have e1 : ((i + 1 : Nat) : Int) = (i : Int) + 1 := by omega
      exact e1 ▸ he'
    · have ltb : b < s.heap.objs.size := by
        rcases List.mem_cons.mp hb with z | z
        · exact z ▸ lte
        · exact (List.mem_singleton.mp z) ▸ lti
      rw [upd_ne (Nat.ne_of_lt ltb)]
      exact (hf b hb).1
  done := by
    intro X hP hw hK hc i pins s σ H E I hf st hg
    subst hP hw hK
    obtain ⟨⟨old, he⟩, hit⟩ := st
    obtain ⟨xs, hq, hx⟩ := hg
    obtain ⟨its, rv, isT, _⟩ := I.tuple hq
    obtain ⟨f0, f1, _, f3, f4, f5⟩ := hf it (List.mem_cons_of_mem _ (List.mem_singleton.mpr rfl))
    have hl : its.toArray.size = i := by
      have := rv.length
      simp
      omega
    have D := Draws.tuple (prog := X.prog) (w := X.w) (A := X.A.in1) (I.ok.hd hc) it a nai its.toArray
    exact wpAny_pyNext_enum_endD D he (hl.symm ▸ ⟨hit, isT⟩) fun h' eb => ⟨rfl, I.turned (t' := s.toks) (fun b o hb q => eb b o hb q) f0 f1 f3 f4 f5⟩
  self := fun A i s Q E ⟨⟨_, he⟩, _⟩ h => wpAny_pyIter_enum he h
def iEnS (K : PySem.W.Frag) (ta : TA) : TI := fun σ H R => ta σ H fun vs H1 => ∃ a, vs = [.ref a] ∧ (((∃ xs, SqL K H1 a xs) ∧ R (Ite K a) H1) ∨ ((∃ xs, SqT K H1 a xs) ∧ R (IteT K a) H1))
theorem pi_enS {X : Cx} {e : Expr} {ta : TA} {p pos tpos : Pos} {elts : List Expr} {kk : Nat} (hg : Gl X "enumerate") (hm : X.mg "enumerate" = none) (ha : PA X [e] ta) (hs : starEach [e] X.env = [(false, eval e X.env)] := by rfl) : PI X (.Tuple elts kk tpos) (.Call (.Name "enumerate" p) [e] [] pos) (iEnS X.K ta) := by
  constructor
  intro pins s σ H R I h
  refine Call_ (ld_blt I hg hm boot_enumerate (PyProof.Rows.callWith_type1 (thn (ha.run pos pins s σ H _ I h) fun us s1 had => ?_) hs rfl))
  obtain ⟨_, H1, J, rel, a, rfl, had⟩ := had
  cases rel with | cons r rr => ?_
  cases rr
  cases r
  have apart : ∀ b ∈ [s1.heap.objs.size + 1, s1.heap.objs.size], FpOk X pins H1 b := fun b hb => by
    have le : s1.heap.objs.size ≤ b := by
      rcases List.mem_cons.mp hb with z | z
      · rw [z]; exact Nat.le_succ _
      · rw [List.mem_singleton.mp z]; exact Nat.le_refl _
    exact J.fpOk le (J.hok.fresh le)
  rcases had with ⟨⟨xs, hq⟩, q⟩ | ⟨⟨xs, hq⟩, q⟩
  · obtain ⟨its, _, isL, _⟩ := J.list hq
    exact call_enumerate_list isL.isList fun h' he hit _ hk => wpAny_pyIter_enum he ⟨_, _, _, _, H1, rfl, J.kept (t' := s1.toks) hk, turn_enum a _ _, ⟨⟨.none, he⟩, hit, Nat.succ_ne_self _⟩, apart, q⟩
  · obtain ⟨its, _, isT, _⟩ := J.tuple hq
    have lta : a < s1.heap.objs.size := let ⟨_, ho, _⟩ := id isT; Heap.lt_size ho
    exact call_enB (begins_tuple a its.toArray) isT fun h' he hit hk => wpAny_pyIter_enum he ⟨_, _, _, _, H1, rfl, J.kept (t' := s1.toks) hk, turn_enT a _ _ (Nat.succ_ne_self _) (Nat.ne_of_gt (Nat.lt_succ_of_lt lta)) (Nat.ne_of_lt lta), ⟨⟨.none, he⟩, ⟨_, hit, rfl, rfl⟩⟩, apart, q⟩
theorem walk_enT {K : PySem.W.Frag} {a : Addr} {xs : List V} : Walk (IteT K a) xs.length (fun H => SqT K H a xs) (YPair (fun i => some (.int (i : Nat))) (fun i => xs[i]?)) where
  goes := fun i _ hi q => ⟨xs, xs[i], q, List.getElem?_eq_getElem hi⟩
  stops := fun _ q => ⟨xs, q, rfl⟩
  yields := fun i H v H' _ q ⟨T, x, h1, h2, h3, h4⟩ => ⟨T, .int (i : Nat), x, h1, h2, h3, rfl, h4 xs q⟩
theorem for_enS {K : PySem.W.Frag} {a : Addr} {xs : List V} {g : TG} {tb : TS} {D : Ends} {σ : L2.St} {H0 H1 : Hp} (hq : Sq K H0 a xs) (s1 : Same H0 H1) (Pv : Nat → L2.St → Hp → Prop) (h0 : Pv 0 σ H1) (hl : ∀ i σ H', Pv i σ H' → Same H0 H')
    (turn : ∀ i x T σ H, xs[i]? = some x → Pv i σ H → H T = none → g (.ref T) σ (upd H T (.tup [.int (i : Nat), x])) fun σ2 H2 => tb { D with nx := Pv (i + 1), ct := Pv (i + 1), bk := D.nx } σ2 H2) (fin : ∀ σ H, Pv xs.length σ H → D.nx σ H) :
    ((∃ xs, SqL K H1 a xs) ∧ ForR (Ite K a) g tb D σ H1) ∨ ((∃ xs, SqT K H1 a xs) ∧ ForR (IteT K a) g tb D σ H1) := by
  have tn : ∀ i v σ H H', i < xs.length → Pv i σ H → YPair (fun i => some (.int (i : Nat))) (fun i => xs[i]?) i H v H' → g v σ H' fun σ2 H2 => tb { D with nx := Pv (i + 1), ct := Pv (i + 1), bk := D.nx } σ2 H2 := by
    rintro i v σ H H' _ hp ⟨T, x, y, rfl, nT, rfl, e1, e2⟩
    cases e1
    exact turn i y T σ H e2 hp nT
  rcases hq with h | h
  · exact .inl ⟨⟨xs, s1.seq h⟩, for_it walk_enum Pv h0 (fun i σ H' _ p => (hl i σ H' p).seq h) tn fin⟩
  · exact .inr ⟨⟨xs, same_t s1 h⟩, for_it walk_enT Pv h0 (fun i σ H' _ p => same_t (hl i σ H' p) h) tn fin⟩

/-! ### things: data that is tracked, none of it the draws' own list -/
inductive Thg (c : List Addr) (H : Hp) : V → PyData → Prop
  | non : Thg c H .non .none
  | bl (b : Bool) : Thg c H (.bl b) (.bool b)
  | int (i : Int) : Thg c H (.int i) (.int i)
  | str (x : Str) : Thg c H (.str x) (.str x)
  | lst {a : Addr} {xs : List V} {ds : List PyData} : H a = some (.lst xs) → a ∉ c → xs.length = ds.length → (∀ (i : Nat) x d, xs[i]? = some x → ds[i]? = some d → Thg c H x d) → Thg c H (.ref a) (.list ds)
  | tup {a : Addr} {xs : List V} {ds : List PyData} : H a = some (.tup xs) → xs.length = ds.length → (∀ (i : Nat) x d, xs[i]? = some x → ds[i]? = some d → Thg c H x d) → Thg c H (.ref a) (.tuple ds)
/-- a row of things -/
def ThgL (c : List Addr) (H : Hp) (xs : List V) (ds : List PyData) : Prop := xs.length = ds.length ∧ ∀ (i : Nat) x d, xs[i]? = some x → ds[i]? = some d → Thg c H x d
theorem Thg.ext {c : List Addr} {H H' : Hp} {v : V} {d : PyData} (h : Thg c H v d) (kl : ∀ a xs, a ∉ c → H a = some (.lst xs) → H' a = some (.lst xs)) (kt : ∀ a xs, H a = some (.tup xs) → H' a = some (.tup xs)) : Thg c H' v d := by
  induction h with
  | non => exact .non
  | bl b => exact .bl b
  | int i => exact .int i
  | str x => exact .str x
  | lst e n l _ ih => exact .lst (kl _ _ n e) n l ih
  | tup e l _ ih => exact .tup (kt _ _ e) l ih
theorem Thg.same {c : List Addr} {H H' : Hp} {v : V} {d : PyData} (h : Thg c H v d) (s : Same H H') : Thg c H' v d := h.ext (fun _ _ _ e => s _ _ e) fun _ _ e => s _ _ e
theorem Thg.noTab {c : List Addr} {H H' : Hp} {v : V} {d : PyData} (h : Thg c H v d) (n : GX.NoTab H H') : Thg c H' v d := h.ext (fun _ _ _ e => n.lst e) fun _ _ e => n.tup e
theorem Thg.kp {c d0 : Addr} {cs : List Addr} {H H' : Hp} {t : Int} {v : V} {d : PyData} (h : Thg cs H v d) (S : StAt H d0 c t) (k : Kp d0 c H H') (m : c ∈ cs) : Thg cs H' v d :=
  h.ext (fun a xs n e => k a _ (ne_of e S.dict (fun z => nomatch z)) (fun z => n (z ▸ m)) e) fun a xs e => by
    obtain ⟨cs, ec, _⟩ := S.cells
    exact k a _ (ne_of e S.dict (fun z => nomatch z)) (ne_of e ec (fun z => nomatch z)) e
theorem ThgL.same {c : List Addr} {H H' : Hp} {xs : List V} {ds : List PyData} (h : ThgL c H xs ds) (s : Same H H') : ThgL c H' xs ds := ⟨h.1, fun i x d e1 e2 => (h.2 i x d e1 e2).same s⟩
theorem ThgL.noTab {c : List Addr} {H H' : Hp} {xs : List V} {ds : List PyData} (h : ThgL c H xs ds) (s : GX.NoTab H H') : ThgL c H' xs ds := ⟨h.1, fun i x d e1 e2 => (h.2 i x d e1 e2).noTab s⟩
theorem ThgL.kp {c d0 : Addr} {cs : List Addr} {H H' : Hp} {t : Int} {xs : List V} {ds : List PyData} (h : ThgL cs H xs ds) (S : StAt H d0 c t) (k : Kp d0 c H H') (m : c ∈ cs) : ThgL cs H' xs ds := ⟨h.1, fun i x d e1 e2 => (h.2 i x d e1 e2).kp S k m⟩
theorem ThgL.nil {c : List Addr} {H : Hp} : ThgL c H [] [] := ⟨rfl, fun i x d e => by simp at e⟩
theorem ThgL.append {c : List Addr} {H : Hp} {xs ys : List V} {ds es : List PyData} (h : ThgL c H xs ds) (h' : ThgL c H ys es) : ThgL c H (xs ++ ys) (ds ++ es) := by
  refine ⟨by rw [List.length_append, List.length_append, h.1, h'.1], fun i x d e1 e2 => ?_⟩
  by_cases c1 : i < xs.length
  · rw [List.getElem?_append_left c1] at e1
    rw [List.getElem?_append_left (by rw [← h.1]; exact c1)] at e2
    exact h.2 i x d e1 e2
  · rw [List.getElem?_append_right (by omega)] at e1
    rw [List.getElem?_append_right (by rw [← h.1]; omega), ← h.1] at e2
    exact h'.2 _ x d e1 e2
theorem ThgL.one {c : List Addr} {H : Hp} {x : V} {d : PyData} (h : Thg c H x d) : ThgL c H [x] [d] := ⟨rfl, fun i y e e1 e2 => by
  cases i with
  | zero => cases e1; cases e2; exact h
  | succ i => simp at e1⟩
theorem ThgL.cons {c : List Addr} {H : Hp} {x : V} {d : PyData} {xs : List V} {ds : List PyData} (h : Thg c H x d) (hs : ThgL c H xs ds) : ThgL c H (x :: xs) (d :: ds) := (ThgL.one h).append hs
theorem ThgL.take {c : List Addr} {H : Hp} {xs : List V} {ds : List PyData} (h : ThgL c H xs ds) (n : Nat) : ThgL c H (xs.take n) (ds.take n) := by
  refine ⟨by rw [List.length_take, List.length_take, h.1], fun i x d e1 e2 => ?_⟩
  rw [List.getElem?_take] at e1 e2
  split at e1
  · rename_i c1
    rw [if_pos c1] at e2
    exact h.2 i x d e1 e2
  · cases e1
theorem ThgL.drop {c : List Addr} {H : Hp} {xs : List V} {ds : List PyData} (h : ThgL c H xs ds) (n : Nat) : ThgL c H (xs.drop n) (ds.drop n) := by
  refine ⟨by rw [List.length_drop, List.length_drop, h.1], fun i x d e1 e2 => ?_⟩
  rw [List.getElem?_drop] at e1 e2
  exact h.2 _ x d e1 e2
theorem ThgL.reverse {c : List Addr} {H : Hp} {xs : List V} {ds : List PyData} (h : ThgL c H xs ds) : ThgL c H xs.reverse ds.reverse := by
  refine ⟨by rw [List.length_reverse, List.length_reverse, h.1], fun i x d e1 e2 => ?_⟩
  have l1 := (List.getElem?_eq_some_iff.mp e1).1
  rw [List.length_reverse] at l1
  rw [List.getElem?_reverse l1] at e1
  rw [List.getElem?_reverse (by rw [← h.1]; exact l1), ← h.1] at e2
  exact h.2 _ x d e1 e2
theorem ThgL.set {c : List Addr} {H : Hp} {xs : List V} {ds : List PyData} {x : V} {d : PyData} (h : ThgL c H xs ds) (n : Nat) (hx : Thg c H x d) : ThgL c H (xs.set n x) (ds.set n d) := by
  refine ⟨by rw [List.length_set, List.length_set, h.1], fun i y e e1 e2 => ?_⟩
  rw [List.getElem?_set] at e1 e2
  split at e1
  · rename_i c1
    rw [if_pos c1] at e2
    split at e1
    · cases e1
      split at e2
      · cases e2; exact hx
      · cases e2
    · cases e1
  · rename_i c1
    rw [if_neg c1] at e2
    exact h.2 i y e e1 e2
theorem Thg.dp {K : PySem.W.Frag} {c : List Addr} {H : Hp} {v : V} {d : PyData} (h : Thg c H v d) : Dp K H v d := by
  have all : ∀ (xs : List V) (ds : List PyData), xs.length = ds.length → (∀ (i : Nat) x d, xs[i]? = some x → ds[i]? = some d → Dp K H x d) → DpAll K H xs ds := by
    intro xs
    induction xs with
    | nil => intro ds l _; cases ds with | nil => exact .nil | cons => cases l
    | cons x xs ih => intro ds l k; cases ds with | nil => cases l | cons e es => exact .cons (k 0 x e rfl rfl) (ih es (Nat.succ.inj l) fun i y f e1 e2 => k (i + 1) y f e1 e2)
  induction h with
  | non => exact .non
  | bl b => exact .bl b
  | int i => exact .int i
  | str x => exact .str x
  | lst e n l _ ih => exact .lst (SqL.of e) (all _ _ l ih)
  | tup e l _ ih => exact .tup (.inl (.inl e)) (all _ _ l ih)
/-- the parts of a list or a tuple -/
def rowOf : PyData → Option (List PyData)
  | .list ds => some ds
  | .tuple ds => some ds
  | _ => none
theorem Thg.row {c : List Addr} {H : Hp} {v : V} {d : PyData} {ds : List PyData} (h : Thg c H v d) (e : rowOf d = some ds) : ∃ a xs, v = .ref a ∧ SqH H a xs ∧ ThgL c H xs ds := by
  cases h with
  | non => cases e
  | bl b => cases e
  | int i => cases e
  | str x => cases e
  | lst e1 n l k => cases e; exact ⟨_, _, rfl, .inl e1, l, k⟩
  | tup e1 l k => cases e; exact ⟨_, _, rfl, .inr e1, l, k⟩
def isNumD : PyData → Bool
  | .int i => decide (0 ≤ i)
  | _ => false
def intD : PyData → Int
  | .int i => i
  | _ => 0
/-- the numbers of a row of numbers from 0 up -/
def numsOf (d : PyData) : Option (List Int) := match rowOf d with
  | some ds => if ds.all isNumD then some (ds.map intD) else none
  | none => none
theorem isNumD_int {d : PyData} (h : isNumD d = true) : ∃ i, d = .int i ∧ 0 ≤ i := by
  cases d <;> first | cases h | exact ⟨_, rfl, of_decide_eq_true h⟩
theorem nums_of {c : List Addr} {H : Hp} {v : V} {d : PyData} {ns : List Int} (h : Thg c H v d) (e : numsOf d = some ns) : ∃ a, v = .ref a ∧ IntsQ H a ns ∧ ∀ n ∈ ns, 0 ≤ n := by
  unfold numsOf at e
  cases hr : rowOf d with
  | none => rw [hr] at e; cases e
  | some ds =>
    rw [hr] at e
    by_cases c1 : ds.all isNumD = true
    · have e : (if ds.all isNumD then some (ds.map intD) else none) = some ns := e
      rw [if_pos c1] at e
      cases e
      obtain ⟨a, xs, rfl, hs, hl⟩ := h.row hr
      rw [List.all_eq_true] at c1
      have ex : xs = (ds.map intD).map V.int := by
        refine List.ext_getElem? fun i => ?_
        rw [List.getElem?_map, List.getElem?_map]
        cases hd : ds[i]? with
        | none =>
          rw [List.getElem?_eq_none_iff] at hd
          rw [List.getElem?_eq_none (by rw [hl.1]; exact hd)]
          rfl
        | some d =>
          have lt := (List.getElem?_eq_some_iff.mp hd).1
          have hx : xs[i]? = some (xs[i]'(by rw [hl.1]; exact lt)) := List.getElem?_eq_getElem _
          obtain ⟨j, rfl, _⟩ := isNumD_int (c1 d (List.mem_of_getElem? hd))
          have := hl.2 i _ _ hx hd
          rw [hx]
          generalize xs[i]'(by rw [hl.1]; exact lt) = x at this
          cases this
          rfl
      refine ⟨a, rfl, by rw [ex] at hs; exact hs, fun n hn => ?_⟩
      obtain ⟨d, hd, rfl⟩ := List.mem_map.mp hn
      obtain ⟨j, rfl, h0⟩ := isNumD_int (c1 d hd)
      exact h0
    · have e : (if ds.all isNumD then some (ds.map intD) else none) = some ns := e
      rw [if_neg c1] at e
      cases e
theorem thg_ints {c : List Addr} {H : Hp} {ns : List Int} : ThgL c H (ns.map V.int) (ns.map PyData.int) := ⟨by rw [List.length_map, List.length_map], fun i x d e1 e2 => by
  rw [List.getElem?_map] at e1 e2
  cases h : ns[i]? with
  | none => rw [h] at e1; cases e1
  | some n => rw [h] at e1 e2; cases e1; cases e2; exact .int n⟩
def incB (ns : List Int) : Bool := decide (ns.Pairwise (· < ·))
theorem inc_adj : ∀ {ns : List Int}, (∀ i, i + 1 < ns.length → ns.getD i 0 < ns.getD (i + 1) 0) → ns.Pairwise (· < ·)
  | [], _ => .nil
  | [x], _ => List.pairwise_singleton _ _
  | x :: y :: r, h => by
    have ih := inc_adj (ns := y :: r) fun i hi => h (i + 1) (by simp only [List.length_cons] at hi ⊢; omega)
    have h0 : x < y := h 0 (by simp)
    refine List.pairwise_cons.mpr ⟨fun z hz => ?_, ih⟩
    rcases List.mem_cons.mp hz with e | e
    · rw [e]; exact h0
    · have := (List.pairwise_cons.mp ih).1 z e
      omega
theorem inc_iff {ns : List Int} : ns.Pairwise (· < ·) ↔ ∀ i, i + 1 < ns.length → ns.getD i 0 < ns.getD (i + 1) 0 := ⟨fun h i hi => by
  rw [List.getD_eq_getElem?_getD, List.getD_eq_getElem?_getD, List.getElem?_eq_getElem (by omega), List.getElem?_eq_getElem hi]
  exact List.pairwise_iff_getElem.mp h i (i + 1) (by omega) hi (by omega), inc_adj⟩
def hitB (rs : List (Int × Int)) (row : List Int) : Bool := rs.all fun r => row.any fun n => decide (r.1 ≤ n) && decide (n ≤ r.2)

/-! ### sum of a row; a row from its second on -/
section
variable {X : Cx}
theorem cr_sumT (hc : X.calm = true) : CallR X (.builtin "sum") (fun vs H Q => ∃ (a : Addr) (ns : List Int), vs = [V.ref a] ∧ SqT X.K H a (ns.map V.int) ∧ Q (.int ns.sum) H) := fun pins s σ H vs us Q I r h => by
  obtain ⟨a, ns, rfl, hs, q⟩ := h
  obtain ⟨its, rv, p, _⟩ := I.tuple hs
  rw [Vals.ref1 r]
  have p : s.heap.IsTuple a its.toArray := p
  have hlt : a < s.heap.objs.size := by obtain ⟨_, e, _⟩ := p; exact Heap.lt_size e
  have lits : its.length = ns.length := by rw [← rv.length, List.length_map]
  refine call_sum_walkG (wpAny_pyIter_tuple p ⟨_, _, _, _, _, _, fun i => ns.getD i 0, rfl, Walks.tuple (A := X.A.in1) (I.ok.hd hc) _ a (Nat.ne_of_lt hlt) its.toArray, ⟨⟨_, Heap.get?_push_size _ rfl, rfl, rfl⟩, p.push _⟩, fun b hb => ?_, fun i v e => ?_, fun h' tk t' hk => ?_⟩)
  · show b < (s.heap.push _).objs.size
    rw [Heap.size_push]
    rcases List.mem_cons.mp hb with rfl | hb
    · exact Nat.lt_succ_self _
    · rw [List.mem_singleton.mp hb]
      exact Nat.lt_succ_of_lt hlt
  · have e2 : its[i]? = some v := by simpa using e
    have hi : i < ns.length := by rw [← lits]; exact (List.getElem?_eq_some_iff.mp e2).1
    obtain ⟨u, hu, ru⟩ := rv.get (i := i) (x := .int ns[i]) (by rw [List.getElem?_map, List.getElem?_eq_getElem hi]; rfl)
    rw [e2] at hu
    cases hu
    obtain ⟨t, rfl⟩ := ru
    refine ⟨t, ?_⟩
    show Value.int ns[i] t = Value.int (ns.getD i 0) t
    rw [List.getD_eq_getElem?_getD, List.getElem?_eq_getElem hi]
    rfl
  · have es : preSum (fun i => ns.getD i 0) its.toArray.size = ns.sum := by
      rw [List.size_toArray, lits, preSum_list (f := fun x => x) (l := ns) (fun i p e => by rw [List.getD_eq_getElem?_getD, e]; rfl) _ (Nat.le_refl _), List.take_length]
      unfold costF
      rw [List.map_id']
    rw [es]
    refine ⟨.int _, H, I.kept fun b o eo => hk b o (fun hmem => ?_) (Heap.get?_push_of_some _ eo), ⟨_, rfl⟩, q⟩
    rcases List.mem_cons.mp hmem with e1 | hmem
    · exact absurd (e1 ▸ Heap.lt_size eo) (Nat.lt_irrefl _)
    · cases hmem
def rSumQ (K : PySem.W.Frag) : List V → Hp → VK → Prop := fun vs H Q => rSum K vs H Q ∨ ∃ (a : Addr) (ns : List Int), vs = [V.ref a] ∧ SqT K H a (ns.map V.int) ∧ Q (.int ns.sum) H
theorem cr_sumQ (hc : X.calm = true) : CallR X (.builtin "sum") (rSumQ X.K) := (cr_sum hc).or (cr_sumT hc)
theorem rSumQ.of {K : PySem.W.Frag} {H : Hp} {a : Addr} {ns : List Int} {Q : VK} (h : IntsQ H a ns) (q : Q (.int ns.sum) H) : rSumQ K [.ref a] H Q := h.elim (fun e => .inl ⟨a, ns, rfl, SqL.of e, q⟩) (fun e => .inr ⟨a, ns, rfl, .inl (.inl e), q⟩)
def rSlQ (K : PySem.W.Frag) : V → Option Int → Option Int → Hp → VK → Prop := fun x lo hi H Q => rSlL K x lo hi H Q ∨ rSlA K x lo hi H Q
theorem sl_seq : SlR X (rSlQ X.K) := SlR.or sl_list sl_tupA
end
theorem cutV_tail (xs : List V) : cutV xs (some 1) none = xs.drop 1 := by
  unfold cutV
  rw [HT.sIx_none, show (some (1 : Int)) = some ((1 : Nat) : Int) from rfl, HT.sIx_nat]
  by_cases h : 1 ≤ xs.length
  · rw [Nat.min_eq_left h, List.take_of_length_le (by rw [List.length_drop]; omega)]
  · rw [Nat.min_eq_right (by omega), List.drop_eq_nil_of_le (Nat.le_refl _), List.drop_eq_nil_of_le (by omega), List.take_nil]
/-- the tail of a row, of the same kind -/
theorem rSlQ.tail {K : PySem.W.Frag} {H : Hp} {a : Addr} {xs : List V} {Q : VK} (h : SqH H a xs) (q : ∀ p H', Same H H' → ((H a = some (.lst xs) ∧ H' p = some (.lst (xs.drop 1))) ∨ (H a = some (.tup xs) ∧ H' p = some (.tup (xs.drop 1)))) → Q (.ref p) H') : rSlQ K (.ref a) (some 1) none H Q := by
  rcases h with e | e
  · refine .inl ⟨a, xs, rfl, SqL.of e, fun p np => ?_⟩
    exact q p _ (same_upd np) (.inl ⟨e, by rw [upd_same, cutV_tail]⟩)
  · refine .inr ⟨a, xs, rfl, .inl (.inl e), fun hw => ?_, fun _ p np => ?_⟩
    · have e0 : xs.drop 1 = xs := by
        have := hw.1
        rw [show (some (1 : Int)) = some ((1 : Nat) : Int) from rfl, HT.sIx_nat] at this
        have : xs.length = 0 := by omega
        rw [List.length_eq_zero_iff.mp this]
        rfl
      exact q a H (Same.refl _) (.inr ⟨e, by rw [e0]; exact e⟩)
    · exact q p _ (same_upd np) (.inr ⟨e, by rw [upd_same, cutV_tail]⟩)
/-! ### rows of numbers, runs, dues -/
abbrev GxJ {α : Type} (J : It) (a0 : α) (Stp : VK → GX.Stps α) (Fin : VK → α → Hp → Prop) (tc : GX.TC) (g : TG) (tt : TT) (te : Value → TE) (vs : List Nat) (σ : L2.St) (H : Hp) (Q : VK) : Prop := tc σ H fun code H2 => ∃ W : Nat → Nat → α → Hp → Prop, (∃ m, W 0 m a0 H2) ∧ GX.TurnsR (Stp Q) (Fin Q) J g tt (te code) vs σ W
theorem iseq_gx {α : Type} {a0 : α} {Stp : VK → GX.Stps α} {Fin : VK → α → Hp → Prop} {tc : GX.TC} {te : Value → TE} {Q : VK} {K : PySem.W.Frag} {H : Hp} {a : Addr} {xs : List V} {g : TG} {tt : TT} {vs : List Nat} {σ : L2.St} (h : SqH H a xs) (r : ∀ J G, Walk J xs.length G (YAt xs) → (∀ H', GX.NoTab H H' → G H') → GxJ J a0 Stp Fin tc g tt te vs σ H Q) :
    ((∃ xs, SqL K H a xs) ∧ GxJ (Itl K a) a0 Stp Fin tc g tt te vs σ H Q) ∨ ((∃ xs, SqT K H a xs) ∧ GxJ (Itt K a) a0 Stp Fin tc g tt te vs σ H Q) := by
  rcases h with e | e
  · exact .inl ⟨⟨_, SqL.of e⟩, r _ _ walk_list fun H' n => SqL.of (n.lst e)⟩
  · exact .inr ⟨⟨_, .inl (.inl e)⟩, r _ _ walk_tup fun H' n => .inl (.inl (n.tup e))⟩
theorem walk_zipTn {K : PySem.W.Frag} {a b : Addr} {xs ys : List V} {n : Nat} (hn : n = min xs.length ys.length) : Walk (RZ.ItzT K a b) n (fun H => SqT K H a xs ∧ SqT K H b ys) (YPair (fun i => xs[i]?) (fun i => ys[i]?)) := by
  subst hn
  refine ⟨fun i _ hi q => ?_, fun _ q => ⟨xs, ys, q.1, q.2, by omega⟩, fun i H v H' _ q y => ?_⟩
  · have h1 : i < xs.length := by omega
    have h2 : i < ys.length := by omega
    exact ⟨xs, ys, xs[i], ys[i], q.1, q.2, by simp [h1], by simp [h2]⟩
  · obtain ⟨T, x, z, h1, h2, h3, h4, h5⟩ := y
    exact ⟨T, x, z, h1, h2, h3, h4 xs q.1, h5 ys q.2⟩
theorem zipq_vars {K : PySem.W.Frag} {H : Hp} {a b : Addr} {xs ys : List V} {σ : L2.St} {i j : Nat} {R : It → Hp → Prop} (ei : σ[i]? = some (some (.ref a))) (ej : σ[j]? = some (some (.ref b))) (ha : SqH H a xs) (hb : SqH H b ys) (hl : xs.length = ys.length)
    (r : ∀ J G, Walk J xs.length G (YPair (fun i => xs[i]?) (fun i => ys[i]?)) → (∀ H', GX.NoTab H H' → G H') → R J H) : iZipQ K (tCons (tVar i) (tCons (tVar j) tNil)) σ H R := by
  rcases ha with e | e <;> rcases hb with e2 | e2
  · exact .inl ⟨_, ei, _, ej, a, b, xs, ys, rfl, .inl ⟨SqL.of e, SqL.of e2, r _ _ (walk_zip (by omega)) fun H' n => ⟨SqL.of (n.lst e), SqL.of (n.lst e2)⟩⟩⟩
  · exact .inr (.inl ⟨_, ei, _, ej, a, b, xs, ys, rfl, .inr ⟨SqL.of e, .inl (.inl e2), r _ _ (walk_zipM hl) fun H' n => ⟨SqL.of (n.lst e), .inl (.inl (n.tup e2))⟩⟩⟩)
  · exact .inr (.inr ⟨_, ei, _, ej, a, b, xs, ys, rfl, .inl (.inl e), SqL.of e2, r _ _ (walk_zipN hl) fun H' n => ⟨.inl (.inl (n.tup e)), SqL.of (n.lst e2)⟩⟩)
  · exact .inl ⟨_, ei, _, ej, a, b, xs, ys, rfl, .inr ⟨.inl (.inl e), .inl (.inl e2), r _ _ (walk_zipTn (by omega)) fun H' n => ⟨.inl (.inl (n.tup e)), .inl (.inl (n.tup e2))⟩⟩⟩
theorem for_enQ {K : PySem.W.Frag} {a : Addr} {xs : List V} {g : TG} {tb : TS} {D : Ends} {σ : L2.St} {H0 : Hp} (hq : SqH H0 a xs) (Pv : Nat → L2.St → Hp → Prop) (h0 : Pv 0 σ H0) (hl : ∀ i σ H', Pv i σ H' → GX.NoTab H0 H')
    (turn : ∀ i x T σ H, xs[i]? = some x → Pv i σ H → H T = none → g (.ref T) σ (upd H T (.tup [.int (i : Nat), x])) fun σ2 H2 => tb { D with nx := Pv (i + 1), ct := Pv (i + 1), bk := D.nx } σ2 H2) (fin : ∀ σ H, Pv xs.length σ H → D.nx σ H) :
    ((∃ xs, SqL K H0 a xs) ∧ ForR (Ite K a) g tb D σ H0) ∨ ((∃ xs, SqT K H0 a xs) ∧ ForR (IteT K a) g tb D σ H0) := by
  have tn : ∀ i v σ H H', i < xs.length → Pv i σ H → YPair (fun i => some (.int (i : Nat))) (fun i => xs[i]?) i H v H' → g v σ H' fun σ2 H2 => tb { D with nx := Pv (i + 1), ct := Pv (i + 1), bk := D.nx } σ2 H2 := by
    rintro i v σ H H' _ hp ⟨T, x, y, rfl, nT, rfl, e1, e2⟩
    cases e1
    exact turn i y T σ H e2 hp nT
  rcases hq with h | h
  · exact .inl ⟨⟨xs, SqL.of h⟩, for_it walk_enum Pv h0 (fun i σ H' _ p => SqL.of ((hl i σ H' p).lst h)) tn fin⟩
  · exact .inr ⟨⟨xs, .inl (.inl h)⟩, for_it walk_enT Pv h0 (fun i σ H' _ p => .inl (.inl ((hl i σ H' p).tup h))) tn fin⟩
theorem preSum_sum {α : Type} {g : α → Int} {l : List α} {v : Nat → Int} (h : ∀ (i : Nat) x, l[i]? = some x → v i = g x) : ∀ n, n ≤ l.length → preSum v n = ((l.take n).map g).sum
  | 0, _ => by rw [List.take_zero]; rfl
  | n + 1, hn => by
    have e : l[n]? = some l[n] := List.getElem?_eq_getElem (by omega)
    have hv := h n _ e
    show preSum v n + v n = _
    rw [preSum_sum h n (by omega), List.take_add_one, e, hv, List.map_append, List.sum_append]
    simp
/-! ### the checkers, of any thing -/
def tupB : PyData → Int → Bool
  | .tuple ds, m => decide ((ds.length : Int) = m)
  | _, _ => false
def belB (d : PyData) (m : Int) : Bool := match numsOf d with
  | some ns => incB ns && ns.all (fun x => decide (x < m))
  | none => false
def risB (d : PyData) : Bool := match numsOf d with
  | some ns => incB ns
  | none => false
def spIsRow : Sp := fun vs H Q _ => ∃ (c : List Addr) (v : V) (d : PyData), vs = [v] ∧ Thg c H v d ∧ ∀ H', Same H H' → Q (.bl (rowOf d).isSome) H'
def spTupOf : Sp := fun vs H Q _ => ∃ (c : List Addr) (v : V) (d : PyData) (m : Int), vs = [v, .int m] ∧ Thg c H v d ∧ Q (.bl (tupB d m)) H
def spIsNum : Sp := fun vs H Q _ => ∃ (c : List Addr) (v : V) (d : PyData), vs = [v] ∧ Thg c H v d ∧ Q (.bl (isNumD d)) H
def spNums (K : PySem.W.Frag) (Ms : GX.Mq) (Xs : List Addr) (Pn : Addr) : Sp := fun vs H Q _ => ∃ (c : List Addr) (v : V) (d : PyData), vs = [v] ∧ Thg c H v d ∧ GX.TQ Ms Xs H ∧ Pn ∈ Ms ∧ ∀ H2, GX.NoTab H H2 → GX.TQ Ms Xs H2 → Q (.bl (numsOf d).isSome) H2
def spRising (K : PySem.W.Frag) (Ms : GX.Mq) (Xs : List Addr) (Pn Pr : Addr) : Sp := fun vs H Q _ => ∃ (c : List Addr) (v : V) (d : PyData), vs = [v] ∧ Thg c H v d ∧ GX.TQ Ms Xs H ∧ Pn ∈ Ms ∧ Pr ∈ Ms ∧ ∀ H2, GX.NoTab H H2 → GX.TQ Ms Xs H2 → Q (.bl (risB d)) H2
def spBelow (K : PySem.W.Frag) (Ms : GX.Mq) (Xs : List Addr) (Pn Pr Pb : Addr) : Sp := fun vs H Q _ => ∃ (c : List Addr) (v : V) (d : PyData) (m : Int), vs = [v, .int m] ∧ Thg c H v d ∧ GX.TQ Ms Xs H ∧ Pn ∈ Ms ∧ Pr ∈ Ms ∧ Pb ∈ Ms ∧ ∀ H2, GX.NoTab H H2 → GX.TQ Ms Xs H2 → Q (.bl (belB d m)) H2
def spEach (K : PySem.W.Frag) (Ms : GX.Mq) (Xs : List Addr) (Pe : Addr) : Sp := fun vs H Q _ => ∃ (a b : Addr) (rs : List (Int × Int)) (ns : List Int), vs = [.ref a, .ref b] ∧ LsQ H a rs ∧ IntsQ H b ns ∧ GX.TQ Ms Xs H ∧ Pe ∈ Ms ∧ ∀ H2, GX.NoTab H H2 → GX.TQ Ms Xs H2 → Q (.bl (hitB rs ns)) H2
abbrev sIsRow : Stmt := topS 1
theorem scIsRow : FnScope ["thing"] ["thing"] (defScope sIsRow) := ⟨rfl, rfl, rfl, by decide +kernel, rfl, by decide +kernel, by decide +kernel⟩
abbrev sTupOf : Stmt := topS 2
theorem scTupOf : FnScope ["thing", "many"] ["thing", "many"] (defScope sTupOf) := ⟨rfl, rfl, rfl, by decide +kernel, rfl, by decide +kernel, by decide +kernel⟩
abbrev sIsNum : Stmt := topS 3
theorem scIsNum : FnScope ["thing"] ["thing"] (defScope sIsNum) := ⟨rfl, rfl, rfl, by decide +kernel, rfl, by decide +kernel, by decide +kernel⟩
abbrev sLNum : Stmt := topS 30
theorem scLNum : FnScope ["_law_thing"] ["_law_thing"] (defScope sLNum) := ⟨rfl, rfl, rfl, by decide +kernel, rfl, by decide +kernel, by decide +kernel⟩
abbrev sNums : Stmt := topS 4
theorem scNums : FnScope ["thing", "one"] ["thing"] (defScope sNums) := ⟨rfl, rfl, rfl, by decide +kernel, rfl, by decide +kernel, by decide +kernel⟩
abbrev sRising : Stmt := topS 5
theorem scRising : FnScope ["thing", "one", "other"] ["thing"] (defScope sRising) := ⟨rfl, rfl, rfl, by decide +kernel, rfl, by decide +kernel, by decide +kernel⟩
abbrev sBelow : Stmt := topS 6
theorem scBelow : FnScope ["thing", "many", "one"] ["thing", "many"] (defScope sBelow) := ⟨rfl, rfl, rfl, by decide +kernel, rfl, by decide +kernel, by decide +kernel⟩
abbrev sEach : Stmt := topS 14
theorem scEach : FnScope ["runs", "numbers", "first", "last", "number"] ["runs", "numbers"] (defScope sEach) := ⟨rfl, rfl, rfl, by decide +kernel, rfl, by decide +kernel, by decide +kernel⟩
theorem kit2F {K : PySem.W.Frag} {t a b : String} (h1 : kitB t a = some false) (h2 : kitB t b = some false) : PySem.W.kitAny K (.type t) [.type a, .type b] = some false :=
  kitAny_cons (kit_ty h1) (fun _ => kitAny_cons (kit_ty h2) (fun _ => kitAny_nil) (fun z => nomatch z)) (fun z => nomatch z)
theorem kit2L {K : PySem.W.Frag} : PySem.W.kitAny K (.type "list") [.type "list", .type "tuple"] = some true :=
  kitAny_cons (b := true) (kit_ty (by decide +kernel)) (fun z => nomatch z) (fun _ => rfl)
theorem kit2T {K : PySem.W.Frag} : PySem.W.kitAny K (.type "tuple") [.type "list", .type "tuple"] = some true :=
  kitAny_cons (b := false) (kit_ty (by decide +kernel)) (fun _ => kitAny_cons (b := true) (kit_ty (by decide +kernel)) (fun z => nomatch z) (fun _ => rfl)) (fun z => nomatch z)
/-- isinstance(x, (list, tuple)) -/
theorem isi_row {K : PySem.W.Frag} {c : List Addr} {H : Hp} {v : V} {d : PyData} (h : Thg c H v d) : ∃ t : Value, TyX K H v t ∧ PySem.W.kitAny K t [.type "list", .type "tuple"] = some (rowOf d).isSome := by
  cases h with
  | non => exact ⟨_, .base .non, kit2F (by decide +kernel) (by decide +kernel)⟩
  | bl b => exact ⟨_, .base (.bl b), kit2F (by decide +kernel) (by decide +kernel)⟩
  | int i => exact ⟨_, .base (.int i), kit2F (by decide +kernel) (by decide +kernel)⟩
  | str x => exact ⟨_, .base (.str x), kit2F (by decide +kernel) (by decide +kernel)⟩
  | lst e n l k => exact ⟨_, .base (.lst e), kit2L⟩
  | tup e l k => exact ⟨_, .base (.tup e), kit2T⟩
def isTupD : PyData → Bool
  | .tuple _ => true
  | _ => false
theorem isi_tup {K : PySem.W.Frag} {c : List Addr} {H : Hp} {v : V} {d : PyData} (h : Thg c H v d) : ∃ t : Value, TyX K H v t ∧ PySem.W.kitOne K t (.type "tuple") = some (isTupD d) := by
  cases h with
  | non => exact ⟨_, .base .non, kit_ty (by change kitB _ _ = some false; decide +kernel)⟩
  | bl b => exact ⟨_, .base (.bl b), kit_ty (by change kitB _ _ = some false; decide +kernel)⟩
  | int i => exact ⟨_, .base (.int i), kit_ty (by change kitB _ _ = some false; decide +kernel)⟩
  | str x => exact ⟨_, .base (.str x), kit_ty (by change kitB _ _ = some false; decide +kernel)⟩
  | lst e n l k => exact ⟨_, .base (.lst e), kit_ty (by change kitB _ _ = some false; decide +kernel)⟩
  | tup e l k => exact ⟨_, .base (.tup e), kit_ty (by change kitB _ _ = some true; decide +kernel)⟩
def isIntD : PyData → Bool
  | .int _ => true
  | .bool _ => true
  | _ => false
theorem isi_int {K : PySem.W.Frag} {c : List Addr} {H : Hp} {v : V} {d : PyData} (h : Thg c H v d) : ∃ t : Value, TyX K H v t ∧ PySem.W.kitOne K t (.type "int") = some (isIntD d) := by
  cases h with
  | non => exact ⟨_, .base .non, kit_ty (by change kitB _ _ = some false; decide +kernel)⟩
  | bl b => exact ⟨_, .base (.bl b), kit_ty (by change kitB _ _ = some true; decide +kernel)⟩
  | int i => exact ⟨_, .base (.int i), kit_ty (by change kitB _ _ = some true; decide +kernel)⟩
  | str x => exact ⟨_, .base (.str x), kit_ty (by change kitB _ _ = some false; decide +kernel)⟩
  | lst e n l k => exact ⟨_, .base (.lst e), kit_ty (by change kitB _ _ = some false; decide +kernel)⟩
  | tup e l k => exact ⟨_, .base (.tup e), kit_ty (by change kitB _ _ = some false; decide +kernel)⟩
def isBoolD : PyData → Bool
  | .bool _ => true
  | _ => false
theorem isi_bool {K : PySem.W.Frag} {c : List Addr} {H : Hp} {v : V} {d : PyData} (h : Thg c H v d) : ∃ t : Value, TyX K H v t ∧ PySem.W.kitOne K t (.type "bool") = some (isBoolD d) := by
  cases h with
  | non => exact ⟨_, .base .non, kit_ty (by change kitB _ _ = some false; decide +kernel)⟩
  | bl b => exact ⟨_, .base (.bl b), kit_ty (by change kitB _ _ = some true; decide +kernel)⟩
  | int i => exact ⟨_, .base (.int i), kit_ty (by change kitB _ _ = some false; decide +kernel)⟩
  | str x => exact ⟨_, .base (.str x), kit_ty (by change kitB _ _ = some false; decide +kernel)⟩
  | lst e n l k => exact ⟨_, .base (.lst e), kit_ty (by change kitB _ _ = some false; decide +kernel)⟩
  | tup e l k => exact ⟨_, .base (.tup e), kit_ty (by change kitB _ _ = some false; decide +kernel)⟩
def isStrD : PyData → Bool
  | .str _ => true
  | _ => false
theorem isi_str {K : PySem.W.Frag} {c : List Addr} {H : Hp} {v : V} {d : PyData} (h : Thg c H v d) : ∃ t : Value, TyX K H v t ∧ PySem.W.kitOne K t (.type "str") = some (isStrD d) := by
  cases h with
  | non => exact ⟨_, .base .non, kit_ty (by change kitB _ _ = some false; decide +kernel)⟩
  | bl b => exact ⟨_, .base (.bl b), kit_ty (by change kitB _ _ = some false; decide +kernel)⟩
  | int i => exact ⟨_, .base (.int i), kit_ty (by change kitB _ _ = some false; decide +kernel)⟩
  | str x => exact ⟨_, .base (.str x), kit_ty (by change kitB _ _ = some true; decide +kernel)⟩
  | lst e n l k => exact ⟨_, .base (.lst e), kit_ty (by change kitB _ _ = some false; decide +kernel)⟩
  | tup e l k => exact ⟨_, .base (.tup e), kit_ty (by change kitB _ _ = some false; decide +kernel)⟩
section
variable {K : PySem.W.Frag} {mg : Str → Option Value} {P : Program} {w : World} {base : Heap} {Pn Pr Pb Pe Py : Addr}
theorem ok_IsRow {f : Addr} {fd : FuncData} (F : Fun K "is_row" "is_row" sIsRow f fd) (m_tuple : mg "tuple" = none) (m_list : mg "list" = none) (m_isinstance : mg "isinstance" = none) : FnOk P w K mg base CX0 1 f fd ["thing"] spIsRow := by
  refine F.ok scIsRow (fun vs H Q E h => ?_) (fun cdv A outer s H vs Q E hr h => ?_)
  · obtain ⟨c, v, d, rfl, _⟩ := h
    rfl
  · obtain ⟨c, v, d, rfl, hv, q⟩ := h
    refine ⟨_, pss_one (ps_ret (pe_callB call_isiT (by rfl) m_isinstance (by decide +kernel) (pa_cons (pv 0) (pa_cons (pe_tup (pa_cons (pe_bltn (v := .ty "list") (by rfl) m_list (by decide +kernel) rfl) (pa_cons (pe_bltn (v := .ty "tuple") (by rfl) m_tuple (by decide +kernel) rfl) pa_nil))) pa_nil)))), ?_⟩
    refine ⟨_, rfl, (by show 2 ≤ sizeLine; decide), fun p np => ?_⟩
    have s1 : Same H (upd H p (.tup [.ty "list", .ty "tuple"])) := same_upd np
    obtain ⟨t, h1, h2⟩ := isi_row (K := K) (hv.same s1)
    exact ⟨v, p, _, t, _, _, rfl, upd_same, .cons (.ty _) (.cons (.ty _) .nil), h1, h2, q _ s1⟩
theorem ok_TupOf {f : Addr} {fd : FuncData} (F : Fun K "is_tuple_of" "is_tuple_of" sTupOf f fd) (m_isinstance : mg "isinstance" = none) (m_tuple : mg "tuple" = none) (m_len : mg "len" = none) : FnOk P w K mg base CX0 1 f fd ["thing", "many"] spTupOf := by
  refine F.ok scTupOf (fun vs H Q E h => ?_) (fun cdv A outer s H vs Q E hr h => ?_)
  · obtain ⟨c, v, d, m, rfl, _⟩ := h
    rfl
  · obtain ⟨c, v, d, m, rfl, hv, q⟩ := h
    refine ⟨_, pss_one (ps_ret (pe_and (pe_callB call_isi (by rfl) m_isinstance (by decide +kernel) (pa_cons (pv 0) (pa_cons (pe_bltn (v := .ty "tuple") (by rfl) m_tuple (by decide +kernel) rfl) pa_nil))) (pe_one (pe_cmpR op_eq (pe_callB call_len_seq (by rfl) m_len PySem.boot_len (pa_cons (pv 0) pa_nil)) (pv 1) (nomark _))))), ?_⟩
    obtain ⟨t, h1, h2⟩ := isi_tup (K := K) hv
    refine ⟨_, rfl, _, _, t, _, _, rfl, .ty _, h1, h2, _, rfl, ?_⟩
    cases hv with
    | tup e l k =>
      refine iteT ⟨_, rfl, _, _, rfl, .inr (.inl (.inl e)), _, rfl, rfl, ?_⟩
      rw [l]
      have e2 : ∀ n : Nat, decide (V.int (n : Int) = V.int m) = decide ((n : Int) = m) := fun n => by simp
      rw [e2]
      exact q
    | lst e n l k => exact iteF q
    | non => exact iteF q
    | bl b => exact iteF q
    | int i => exact iteF q
    | str x => exact iteF q
theorem ok_IsNum {f : Addr} {fd : FuncData} (F : Fun K "is_number" "is_number" sIsNum f fd) (m_isinstance : mg "isinstance" = none) (m_int : mg "int" = none) (m_bool : mg "bool" = none) : FnOk P w K mg base CX0 1 f fd ["thing"] spIsNum := by
  refine F.ok scIsNum (fun vs H Q E h => ?_) (fun cdv A outer s H vs Q E hr h => ?_)
  · obtain ⟨c, v, d, rfl, _⟩ := h
    rfl
  · obtain ⟨c, v, d, rfl, hv, q⟩ := h
    refine ⟨_, pss_one (ps_ret (pe_and (pe_callB call_isi (by rfl) m_isinstance (by decide +kernel) (pa_cons (pv 0) (pa_cons (pe_bltn (v := .ty "int") (by rfl) m_int (by decide +kernel) rfl) pa_nil))) (pe_and (pe_not (pe_callB call_isi (by rfl) m_isinstance (by decide +kernel) (pa_cons (pv 0) (pa_cons (pe_bltn (v := .ty "bool") (by rfl) m_bool (by decide +kernel) rfl) pa_nil)))) (pe_one (pe_cmpR op_ge (pv 0) pe_int (nomark _)))))), ?_⟩
    obtain ⟨t, h1, h2⟩ := isi_int (K := K) hv
    obtain ⟨t2, h3, h4⟩ := isi_bool (K := K) hv
    refine ⟨_, rfl, _, _, t, _, _, rfl, .ty _, h1, h2, _, rfl, ?_⟩
    cases hv with
    | int i => exact iteT ⟨_, rfl, _, _, t2, _, _, rfl, .ty _, h3, h4, _, rfl, _, rfl, iteT ⟨_, rfl, _, _, rfl, rfl, q⟩⟩
    | bl b => exact iteT ⟨_, rfl, _, _, t2, _, _, rfl, .ty _, h3, h4, _, rfl, _, rfl, iteF q⟩
    | tup e l k => exact iteF q
    | lst e n l k => exact iteF q
    | non => exact iteF q
    | str x => exact iteF q
theorem ok_LNum {f : Addr} {fd : FuncData} (F : Fun K "_law_is_number" "_law_is_number" sLNum f fd) (m_isinstance : mg "isinstance" = none) (m_int : mg "int" = none) (m_bool : mg "bool" = none) : FnOk P w K mg base CX0 1 f fd ["_law_thing"] spIsNum := by
  refine F.ok scLNum (fun vs H Q E h => ?_) (fun cdv A outer s H vs Q E hr h => ?_)
  · obtain ⟨c, v, d, rfl, _⟩ := h
    rfl
  · obtain ⟨c, v, d, rfl, hv, q⟩ := h
    refine ⟨_, pss_one (ps_ret (pe_and (pe_callB call_isi (by rfl) m_isinstance (by decide +kernel) (pa_cons (pv 0) (pa_cons (pe_bltn (v := .ty "int") (by rfl) m_int (by decide +kernel) rfl) pa_nil))) (pe_and (pe_not (pe_callB call_isi (by rfl) m_isinstance (by decide +kernel) (pa_cons (pv 0) (pa_cons (pe_bltn (v := .ty "bool") (by rfl) m_bool (by decide +kernel) rfl) pa_nil)))) (pe_one (pe_cmpR op_ge (pv 0) pe_int (nomark _)))))), ?_⟩
    obtain ⟨t, h1, h2⟩ := isi_int (K := K) hv
    obtain ⟨t2, h3, h4⟩ := isi_bool (K := K) hv
    refine ⟨_, rfl, _, _, t, _, _, rfl, .ty _, h1, h2, _, rfl, ?_⟩
    cases hv with
    | int i => exact iteT ⟨_, rfl, _, _, t2, _, _, rfl, .ty _, h3, h4, _, rfl, _, rfl, iteT ⟨_, rfl, _, _, rfl, rfl, q⟩⟩
    | bl b => exact iteT ⟨_, rfl, _, _, t2, _, _, rfl, .ty _, h3, h4, _, rfl, _, rfl, iteF q⟩
    | tup e l k => exact iteF q
    | lst e n l k => exact iteF q
    | non => exact iteF q
    | str x => exact iteF q
theorem ok_Nums {Ms : GX.Mq} {Xs : List Addr} {f c Pn : Addr} {oc kV doc pm ct : Value} {od an : Option Addr} {osl : Array (Option Value)} (lk : K.lookup f = some ⟨oc, od, .func (PySem.W.fnOf "are_numbers" "are_numbers" (defArgs sNums) (defBody sNums) (defScope sNums) .none kV doc pm an (.ref c) ct), osl⟩) (hcd : PySem.W.codeIn K (.ref c) "are_numbers" = true) (TG : GxR.TabB base mg c Pn) (C_is_row : Cal P w K mg base 1 "is_row" ["thing"] spIsRow) (C_is_number : Cal P w K mg base 1 "is_number" ["thing"] spIsNum) (m_all : mg "all" = none) : FnOk P w K mg base CX0 5 f (PySem.W.fnOf "are_numbers" "are_numbers" (defArgs sNums) (defBody sNums) (defScope sNums) .none kV doc pm an (.ref c) ct) ["thing"] (spNums K Ms Xs Pn) := by
  refine fn_of lk hcd scNums (fun vs H Q E h => ?_) (fun A outer s H vs Q E hr h => ?_)
  · obtain ⟨c0, v, d, rfl, _⟩ := h
    rfl
  · obtain ⟨c0, v, d, rfl, hv, hT, hP, q⟩ := h
    refine ⟨_, PSs.nox (pss_one (ps_ret (pe_and (pe_own C_is_row (hr.mono (show 1 ≤ 4 by decide)) (by rfl) (pa_cons (pv 0) pa_nil)) (pe_one (GX.pe_allX (k := 1) (own := [("one", 1)]) (te := fun code1 => (tCall spIsNum [] E0 (tCons (tVar 1) tNil))) (g' := (gName 1)) (tt := tYes) hr scNums.nd (by rfl) m_all TG.bm (pi_seq (pv 0)) (GX.pc_own (Ms := Ms) (Xs := Xs) TG rfl) (GX.gok_by (own := [("one", 1)]) (N := ["thing", "one"]) (sc := defScope sNums) (by decide +kernel)) (fun _ _ _ _ _ r1 gd1 => (pg_name (i := 1) scNums.nd rfl (.inl rfl))) (fun _ _ _ _ _ r1 gd1 => pts_nil) (fun _ _ _ code1 _ r1 gd1 => (pe_own C_is_number r1 (by rfl) (pa_cons (pv 1) pa_nil)))))))), ?_⟩
    refine ⟨_, rfl, c0, v, d, rfl, hv, fun H1 s1 => ⟨_, rfl, ?_⟩⟩
    have n1 := NoTab.same s1
    cases hr' : rowOf d with
    | none =>
      have e : numsOf d = none := by unfold numsOf; rw [hr']
      rw [e] at q
      exact iteF (q H1 n1 (hT.same s1))
    | some ds =>
      obtain ⟨a, xs, rfl, hA, hl⟩ := hv.row hr'
      have e : (numsOf d).isSome = ds.all isNumD := by
        unfold numsOf
        rw [hr']
        show (if ds.all isNumD then some (ds.map intD) else none).isSome = _
        cases ds.all isNumD <;> rfl
      rw [e] at q
      refine iteT ⟨_, rfl, a, rfl, iseq_gx (hA.noTab n1) fun J G wk hG => ⟨hT.same s1, hP, fun H2 c' P' n2 t2 nX eC tG => GX.turns_all wk (fun i => isNumD (ds.getD i .none)) (fun Hx => GX.NoTab H1 Hx ∧ GX.TQ Ms Xs Hx) ⟨n2, t2⟩ (fun Hx iv => hG Hx iv.1) (fun i x Hx Hx' Kt Kn hi iv hy kt _ => ?_) (fun H3 b iv hb => ?_)⟩⟩
      · obtain ⟨rfl, hx⟩ := hy
        have hi' : i < ds.length := by rw [← hl.1]; exact hi
        have ed : ds[i]? = some ds[i] := List.getElem?_eq_getElem hi'
        have eg : ds.getD i .none = ds[i] := by rw [List.getD_eq_getElem?_getD, ed]; rfl
        rw [eg] at kt
        exact ⟨rfl, _, rfl, c0, x, _, rfl, ((hl.2 i x _ hx ed).noTab n1).noTab iv.1, kt _ iv⟩
      · have e2 : b = ds.all isNumD := by
          rw [Bool.eq_iff_iff, hb, List.all_eq_true]
          constructor
          · intro h x hx
            obtain ⟨i, hi, rfl⟩ := List.getElem_of_mem hx
            have := h i (by rw [hl.1]; exact hi)
            rw [List.getD_eq_getElem?_getD, List.getElem?_eq_getElem hi] at this
            exact this
          · intro h i hi
            have hi' : i < ds.length := by rw [← hl.1]; exact hi
            rw [List.getD_eq_getElem?_getD, List.getElem?_eq_getElem hi']
            exact h _ (List.getElem_mem hi')
        rw [e2]
        exact q H3 (n1.trans iv.1) iv.2
theorem ok_Rising {Ms : GX.Mq} {Xs : List Addr} {f c Pr : Addr} {oc kV doc pm ct : Value} {od an : Option Addr} {osl : Array (Option Value)} (lk : K.lookup f = some ⟨oc, od, .func (PySem.W.fnOf "are_rising" "are_rising" (defArgs sRising) (defBody sRising) (defScope sRising) .none kV doc pm an (.ref c) ct), osl⟩) (hcd : PySem.W.codeIn K (.ref c) "are_rising" = true) (TG : GxR.TabB base mg c Pr) (C_are_numbers : Cal P w K mg base 5 "are_numbers" ["thing"] (spNums K Ms Xs Pn)) (m_all : mg "all" = none) (m_zip : mg "zip" = none) : FnOk P w K mg base CX0 6 f (PySem.W.fnOf "are_rising" "are_rising" (defArgs sRising) (defBody sRising) (defScope sRising) .none kV doc pm an (.ref c) ct) ["thing"] (spRising K Ms Xs Pn Pr) := by
  refine fn_of lk hcd scRising (fun vs H Q E h => ?_) (fun A outer s H vs Q E hr h => ?_)
  · obtain ⟨c0, v, d, rfl, _⟩ := h
    rfl
  · obtain ⟨c0, v, d, rfl, hv, hT, hPn, hP, q⟩ := h
    refine ⟨_, PSs.nox (pss_one (ps_ret (pe_and (pe_own C_are_numbers hr (by rfl) (pa_cons (pv 0) pa_nil)) (pe_one (GX.pe_allX (k := 2) (own := [("one", 1), ("other", 2)]) (te := fun code1 => (tOp (rI0 fun i j => .bl (decide (i < j))) (tVar 1) (tVar 2))) (g' := (gTup K 2 (gCons (gName 1) (gCons (gName 2) gNil)))) (tt := tYes) hr scRising.nd (by rfl) m_all TG.bm (pi_zipQ (by rfl) m_zip (pa_cons (pv 0) (pa_cons (pe_slice sl_seq (pv 0) (po_some pe_int) po_none) pa_nil))) (GX.pc_own (Ms := Ms) (Xs := Xs) TG rfl) (GX.gok_by (own := [("one", 1), ("other", 2)]) (N := ["thing", "one", "other"]) (sc := defScope sRising) (by decide +kernel)) (fun _ _ _ _ _ r1 gd1 => (pg_tup rfl (pgs_cons (pg_name (i := 1) scRising.nd rfl (.inl rfl)) (pgs_cons (pg_name (i := 2) scRising.nd rfl (.inl rfl)) pgs_nil)))) (fun _ _ _ _ _ r1 gd1 => pts_nil) (fun _ _ _ code1 _ r1 gd1 => (pe_cmpR op_lt (pv 1) (pv 2) (nomark _)))))))), ?_⟩
    refine ⟨_, rfl, c0, v, d, rfl, hv, hT, hPn, fun H1 n1 t1 => ⟨_, rfl, ?_⟩⟩
    cases hn : numsOf d with
    | none =>
      have e : risB d = false := by unfold risB; rw [hn]
      rw [e] at q
      exact iteF (q H1 n1 t1)
    | some ns =>
    have e : risB d = incB ns := by unfold risB; rw [hn]
    rw [e] at q
    obtain ⟨a, rfl, hA, h0⟩ := nums_of hv hn
    refine iteT ?_
    have hA1 := hA.noTab n1
    have lx : (ns.map V.int).length = ns.length := List.length_map ..
    have main : ∀ (J : It) (G : Hp → Prop) (H0 : Hp), GX.NoTab H1 H0 → GX.TQ Ms Xs H0 → Walk J (ns.length - 1) G (YPair (fun i => (ns.map V.int)[i]?) (fun i => ((ns.map V.int).drop 1)[i]?)) → (∀ H', GX.NoTab H0 H' → G H') →
        GxJ J () GX.stAll GX.fiAll (GX.tCo Ms Xs Pr) (gTup K 2 (gCons (gName 1) (gCons (gName 2) gNil))) tYes (fun _ => tOp (rI0 fun i j => .bl (decide (i < j))) (tVar 1) (tVar 2)) (List.map (fun x => x.2) [(("one" : Str), 1), (("other" : Str), 2)]) (L2.start ["thing", "one", "other"] [.ref a]) H0 Q := fun J G H0 nx tx wk hG => by
      refine ⟨tx, hP, fun H2 c' P' n2 t2 nX eC tG => GX.turns_all wk (fun i => decide (ns.getD i 0 < ns.getD (i + 1) 0)) (fun Hx => GX.NoTab H0 Hx ∧ GX.TQ Ms Xs Hx) ⟨n2, t2⟩ (fun Hx iv => hG Hx iv.1) (fun i x Hx Hx' Kt Kn hi iv hy kt _ => ?_) (fun H3 b iv hb => ?_)⟩
      · obtain ⟨T, u, v, rfl, nT, rfl, e1, e2⟩ := hy
        have l1 : i < ns.length := by omega
        have l2 : i + 1 < ns.length := by omega
        have e1 : (ns.map V.int)[i]? = some u := e1
        have e2 : ((ns.map V.int).drop 1)[i]? = some v := e2
        rw [List.getElem?_map, List.getElem?_eq_getElem l1] at e1
        rw [List.getElem?_drop, List.getElem?_map, show 1 + i = i + 1 by omega, List.getElem?_eq_getElem l2] at e2
        cases e1
        cases e2
        have sT := same_upd (o := .tup [.int ns[i], .int ns[i + 1]]) nT
        refine ⟨T, _, rfl, .inl (.inl upd_same), rfl, _, _, rfl, _, _, rfl, rfl, rfl, _, rfl, _, rfl, _, _, rfl, rfl, ?_⟩
        have := kt _ ⟨iv.1.trans (NoTab.same sT), iv.2.same sT⟩
        rw [List.getD_eq_getElem?_getD, List.getD_eq_getElem?_getD, List.getElem?_eq_getElem l1, List.getElem?_eq_getElem l2] at this
        exact this
      · have e2 : b = incB ns := by
          unfold incB
          rw [Bool.eq_iff_iff, hb, decide_eq_true_eq, inc_iff]
          exact ⟨fun h i hi => of_decide_eq_true (h i (by omega)), fun h i hi => decide_eq_true (h i (by omega))⟩
        rw [e2]
        exact q H3 ((n1.trans nx).trans iv.1) iv.2
    have ld : ((ns.map V.int).drop 1).length = ns.length - 1 := by rw [List.length_drop, lx]
    refine .inl ⟨_, rfl, _, rfl, _, rfl, rSlQ.tail hA1 fun p H0 s0 c => ?_⟩
    have nx := NoTab.same s0
    have tx := t1.same s0
    rcases c with ⟨e1, e2⟩ | ⟨e1, e2⟩
    · have e1' := s0 _ _ e1
      exact ⟨a, p, _, _, rfl, .inl ⟨SqL.of e1', SqL.of e2, main _ _ H0 nx tx (walk_zip (by rw [ld, lx]; omega)) fun H' n => ⟨SqL.of (n.lst e1'), SqL.of (n.lst e2)⟩⟩⟩
    · have e1' := s0 _ _ e1
      exact ⟨a, p, _, _, rfl, .inr ⟨.inl (.inl e1'), .inl (.inl e2), main _ _ H0 nx tx (walk_zipTn (by rw [ld, lx]; omega)) fun H' n => ⟨.inl (.inl (n.tup e1')), .inl (.inl (n.tup e2))⟩⟩⟩
theorem ok_Below {Ms : GX.Mq} {Xs : List Addr} {f c Pb : Addr} {oc kV doc pm ct : Value} {od an : Option Addr} {osl : Array (Option Value)} (lk : K.lookup f = some ⟨oc, od, .func (PySem.W.fnOf "are_rising_below" "are_rising_below" (defArgs sBelow) (defBody sBelow) (defScope sBelow) .none kV doc pm an (.ref c) ct), osl⟩) (hcd : PySem.W.codeIn K (.ref c) "are_rising_below" = true) (TG : GxR.TabB base mg c Pb) (C_are_rising : Cal P w K mg base 6 "are_rising" ["thing"] (spRising K Ms Xs Pn Pr)) (m_all : mg "all" = none) : FnOk P w K mg base CX0 7 f (PySem.W.fnOf "are_rising_below" "are_rising_below" (defArgs sBelow) (defBody sBelow) (defScope sBelow) .none kV doc pm an (.ref c) ct) ["thing", "many"] (spBelow K Ms Xs Pn Pr Pb) := by
  refine fn_of lk hcd scBelow (fun vs H Q E h => ?_) (fun A outer s H vs Q E hr h => ?_)
  · obtain ⟨c0, v, d, m, rfl, _⟩ := h
    rfl
  · obtain ⟨c0, v, d, m, rfl, hv, hT, hPn, hPr, hP, q⟩ := h
    refine ⟨_, PSs.nox (pss_one (ps_ret (pe_and (pe_own C_are_rising hr (by rfl) (pa_cons (pv 0) pa_nil)) (pe_one (GX.pe_allX (k := 3) (own := [("one", 2)]) (te := fun code1 => (tOp (rI0 fun i j => .bl (decide (i < j))) (tVar 2) (tVar 1))) (g' := (gName 2)) (tt := tYes) hr scBelow.nd (by rfl) m_all TG.bm (pi_seq (pv 0)) (GX.pc_own (Ms := Ms) (Xs := Xs) TG rfl) (GX.gok_by (own := [("one", 2)]) (N := ["thing", "many", "one"]) (sc := defScope sBelow) (by decide +kernel)) (fun _ _ _ _ _ r1 gd1 => (pg_name (i := 2) scBelow.nd rfl (.inl rfl))) (fun _ _ _ _ _ r1 gd1 => pts_nil) (fun _ _ _ code1 _ r1 gd1 => (pe_cmpR op_lt (pv 2) (pv 1) (nomark _)))))))), ?_⟩
    refine ⟨_, rfl, c0, v, d, rfl, hv, hT, hPn, hPr, fun H1 n1 t1 => ⟨_, rfl, ?_⟩⟩
    cases hn : numsOf d with
    | none =>
      have e : risB d = false := by unfold risB; rw [hn]
      have e2 : belB d m = false := by unfold belB; rw [hn]
      rw [e]
      rw [e2] at q
      exact iteF (q H1 n1 t1)
    | some ns =>
    have e : risB d = incB ns := by unfold risB; rw [hn]
    have e2 : belB d m = (incB ns && ns.all (fun x => decide (x < m))) := by unfold belB; rw [hn]
    rw [e]
    rw [e2] at q
    cases hi : incB ns with
    | false =>
      rw [hi] at q
      exact iteF (q H1 n1 t1)
    | true =>
    rw [hi, Bool.true_and] at q
    obtain ⟨a, rfl, hA, h0⟩ := nums_of hv hn
    refine iteT ⟨_, rfl, a, rfl, iseq_gx (hA.noTab n1) fun J G wk hG => ⟨t1, hP, fun H2 c' P' n2 t2 nX eC tG => GX.turns_all wk (fun i => decide (ns.getD i 0 < m)) (fun Hx => GX.NoTab H1 Hx ∧ GX.TQ Ms Xs Hx) ⟨n2, t2⟩ (fun Hx iv => hG Hx iv.1) (fun i x Hx Hx' Kt Kn hi iv hy kt _ => ?_) (fun H3 b iv hb => ?_)⟩⟩
    · obtain ⟨rfl, hx⟩ := hy
      rw [List.getElem?_map] at hx
      obtain ⟨p, ep, rfl⟩ := Option.map_eq_some_iff.mp hx
      have eg : ns.getD i 0 = p := by rw [List.getD_eq_getElem?_getD, ep]; rfl
      rw [eg] at kt
      exact ⟨rfl, _, rfl, _, rfl, _, _, rfl, rfl, kt Hx' iv⟩
    · have e3 : b = ns.all (fun x => decide (x < m)) := by
        rw [Bool.eq_iff_iff, hb, List.all_eq_true, List.length_map]
        constructor
        · intro h x hx
          obtain ⟨i, hi, rfl⟩ := List.getElem_of_mem hx
          have := h i hi
          rw [List.getD_eq_getElem?_getD, List.getElem?_eq_getElem hi] at this
          exact this
        · intro h i hi
          rw [List.getD_eq_getElem?_getD, List.getElem?_eq_getElem hi]
          exact h _ (List.getElem_mem hi)
      rw [e3]
      exact q H3 (n1.trans iv.1) iv.2
theorem ok_Each {Ms : GX.Mq} {Xs : List Addr} {f c Pe : Addr} {oc kV doc pm ct : Value} {od an : Option Addr} {osl : Array (Option Value)} (lk : K.lookup f = some ⟨oc, od, .func (PySem.W.fnOf "each_has_one" "each_has_one" (defArgs sEach) (defBody sEach) (defScope sEach) .none kV doc pm an (.ref c) ct), osl⟩) (hcd : PySem.W.codeIn K (.ref c) "each_has_one" = true) (TG : GxR.TabB base mg c Pe) (m_all : mg "all" = none) (m_any : mg "any" = none) : FnOk P w K mg base CX0 8 f (PySem.W.fnOf "each_has_one" "each_has_one" (defArgs sEach) (defBody sEach) (defScope sEach) .none kV doc pm an (.ref c) ct) ["runs", "numbers"] (spEach K Ms Xs Pe) := by
  refine fn_of lk hcd scEach (fun vs H Q E h => ?_) (fun A outer s H vs Q E hr h => ?_)
  · obtain ⟨a, b, rs, ns, rfl, _⟩ := h
    rfl
  · obtain ⟨a, b, rs, ns, rfl, hA, hB, hT, hP, q⟩ := h
    refine ⟨_, PSs.nox (pss_one (ps_ret (GX.pe_allX (k := 4) (own := [("first", 2), ("last", 3)]) (te := fun code1 => (GX.tGx () GX.stAny GX.fiAny (GX.tCj Ms Xs code1) (iSeq K (tVar 1)) (gName 4) tYes (fun code2 => (tChain (rI0 fun i j => .bl (decide (i ≤ j))) (rI0 fun i j => .bl (decide (i ≤ j))) (tVar 2) (tVar 4) (tVar 3))) (List.map (fun x => x.2) [("number", 4)]))) (g' := (gTup K 2 (gCons (gName 2) (gCons (gName 3) gNil)))) (tt := tYes) hr scEach.nd (by rfl) m_all TG.bm (pi_seq (pv 0)) (GX.pc_own (Ms := Ms) (Xs := Xs) TG rfl) (GX.gok_by (own := [("first", 2), ("last", 3)]) (N := ["runs", "numbers", "first", "last", "number"]) (sc := defScope sEach) (by decide +kernel)) (fun _ _ _ _ _ r1 gd1 => (pg_tup rfl (pgs_cons (pg_name (i := 2) scEach.nd rfl (.inr rfl)) (pgs_cons (pg_name (i := 3) scEach.nd rfl (.inr rfl)) pgs_nil)))) (fun _ _ _ _ _ r1 gd1 => pts_nil) (fun _ _ _ code1 _ r1 gd1 => (GX.pe_anyX (k := 1) (own := [("number", 4)]) (te := fun code2 => (tChain (rI0 fun i j => .bl (decide (i ≤ j))) (rI0 fun i j => .bl (decide (i ≤ j))) (tVar 2) (tVar 4) (tVar 3))) (g' := (gName 4)) (tt := tYes) r1 scEach.nd (by rfl) m_any TG.bm (pi_seq (pv 1)) (GX.pc_in (Ms := Ms) (Xs := Xs) (code := code1) rfl) (GX.gok_by (own := [("number", 4)]) (N := ["runs", "numbers", "first", "last", "number"]) (by show GX.gokB _ ({ kind := .function, names := [(".0", .local), ("first", .cell), ("last", .cell), ("numbers", .free), ("any", .globalImplicit)], isGenerator := true, isCoroutine := false } : Scope) _ _ = true; decide +kernel)) (fun _ _ _ _ _ r2 gd2 => (pg_name (i := 4) scEach.nd rfl (.inl rfl))) (fun _ _ _ _ _ r2 gd2 => pts_nil) (fun _ _ _ code2 _ r2 gd2 => (pe_chain op_le op_le (pv 2) (pv 4) (pv 3)))))))), ?_⟩
    obtain ⟨us, eA, pr⟩ := id hA
    refine ⟨_, rfl, a, rfl, iseq_gx eA fun J G wk hG => ⟨hT, hP, fun H2 c' P' n2 t2 nX eC tG => GX.turns_all wk (fun i => ns.any fun n => decide ((rs.getD i (0, 0)).1 ≤ n) && decide (n ≤ (rs.getD i (0, 0)).2)) (fun Hx => GX.NoTab H2 Hx ∧ GX.TQ Ms Xs Hx ∧ GxR.TabG Hx P') ⟨GX.NoTab.refl _, t2, tG⟩ (fun Hx iv => hG Hx (n2.trans iv.1)) (fun i x Hx Hx' Kt Kn hi iv hy kt _ => ?_) (fun Hx bb iv hb => ?_)⟩⟩
    · obtain ⟨rfl, hx⟩ := hy
      obtain ⟨n3, t3, g3⟩ := iv
      obtain ⟨r, T, er, rfl, eT⟩ := prs_at pr hx
      have eTx := n3.tup (n2.tup eT)
      refine ⟨T, _, rfl, .inl (.inl eTx), rfl, _, _, rfl, _, _, rfl, rfl, rfl, ?_⟩
      have er2 : rs.getD i (0, 0) = r := by rw [List.getD_eq_getElem?_getD, er]; rfl
      rw [er2] at kt
      refine ⟨_, rfl, b, rfl, iseq_gx (hB.noTab (n2.trans n3)) fun J2 G2 wk2 hG2 => ⟨c', P', rfl, n3.code eC, nX, g3, t3, fun H4 code4 n4 t4 g4 => GX.turns_any wk2 (fun j => decide (r.1 ≤ ns.getD j 0) && decide (ns.getD j 0 ≤ r.2)) (fun Hy => GX.NoTab Hx' Hy ∧ GX.TQ Ms Xs Hy ∧ GxR.TabG Hy P') ⟨n4, t4, g4⟩ (fun Hy iv => hG2 Hy iv.1) (fun j y Hy Hy' Kt2 Kn2 hj iv2 hy2 kt2 _ => ?_) (fun Hy b2 iv2 hb2 => ?_)⟩⟩
      · obtain ⟨rfl, hx2⟩ := hy2
        rw [List.getElem?_map] at hx2
        obtain ⟨n, en, rfl⟩ := Option.map_eq_some_iff.mp hx2
        have e : ns.getD j 0 = n := by rw [List.getD_eq_getElem?_getD, en]; rfl
        rw [e] at kt2
        refine ⟨rfl, _, rfl, _, rfl, _, _, rfl, rfl, _, rfl, ite2 (fun c1 => ⟨_, rfl, _, _, rfl, rfl, ?_⟩) (fun c1 => ?_)⟩
        · rw [c1] at kt2
          exact kt2 _ iv2
        · rw [Bool.eq_false_iff.mpr c1] at kt2
          exact kt2 _ iv2
      · have e2 : b2 = ns.any fun n => decide (r.1 ≤ n) && decide (n ≤ r.2) := by
          rw [Bool.eq_iff_iff, hb2, List.any_eq_true, List.length_map]
          constructor
          · rintro ⟨j, hj, z⟩
            rw [List.getD_eq_getElem?_getD, List.getElem?_eq_getElem hj] at z
            exact ⟨_, List.getElem_mem hj, z⟩
          · rintro ⟨n, hn, z⟩
            obtain ⟨j, hj, rfl⟩ := List.getElem_of_mem hn
            refine ⟨j, hj, ?_⟩
            rw [List.getD_eq_getElem?_getD, List.getElem?_eq_getElem hj]
            exact z
        rw [e2]
        exact kt Hy ⟨n3.trans iv2.1, iv2.2.1, iv2.2.2⟩
    · have e2 : bb = hitB rs ns := by
        unfold hitB
        rw [Bool.eq_iff_iff, hb, List.all_eq_true, pr.1]
        constructor
        · intro h r hr
          obtain ⟨i, hi, rfl⟩ := List.getElem_of_mem hr
          have := h i hi
          rw [List.getD_eq_getElem?_getD, List.getElem?_eq_getElem hi] at this
          exact this
        · intro h i hi
          rw [List.getD_eq_getElem?_getD, List.getElem?_eq_getElem hi]
          exact h _ (List.getElem_mem hi)
      rw [e2]
      exact q Hx (n2.trans iv.1) iv.2.1
end

/-! ### lists of whole numbers -/
def IntsA (H : Hp) (a : Addr) (ns : List Int) : Prop := H a = some (.lst (ns.map V.int))
theorem IntsA.at {ns : List Int} {i : Nat} {v : Int} (h : ns[i]? = some v) : atI (ns.map V.int) (i : Int) = some (.int v) := atI_nat (by rw [List.getElem?_map, h]; rfl)
theorem IntsA.q {H : Hp} {a : Addr} {ns : List Int} (h : IntsA H a ns) : IntsQ H a ns := .inl h
/-! ### what is left of a run, as the law finds it -/
def leftF (hi : Int) : Int → List (Int × Int) → List (Int × Int)
  | num, [] => if num ≤ hi then [(num, hi)] else []
  | num, g :: gs => if num ≤ g.2 ∧ g.1 ≤ hi then (if num < g.1 then [(num, g.1 - 1)] else []) ++ leftF hi (if g.2 + 1 > num then g.2 + 1 else num) gs else leftF hi num gs
theorem leftF_len (hi : Int) : ∀ (num : Int) (gs : List (Int × Int)), (leftF hi num gs).length ≤ gs.length + 1
  | num, [] => by unfold leftF; split <;> simp
  | num, g :: gs => by
    unfold leftF
    split
    · have := leftF_len hi (if g.2 + 1 > num then g.2 + 1 else num) gs
      rw [List.length_append, List.length_cons]
      split
      · simp only [List.length_cons, List.length_nil]; omega
      · simp only [List.length_nil]; omega
    · have := leftF_len hi num gs
      rw [List.length_cons]; omega
theorem leftF_ok (hi : Int) : ∀ (num : Int) (gs : List (Int × Int)), ∀ p ∈ leftF hi num gs, p.1 ≤ p.2
  | num, [] => fun p hp => by
    unfold leftF at hp
    split at hp
    · rw [List.mem_singleton.mp hp]; assumption
    · cases hp
  | num, g :: gs => fun p hp => by
    unfold leftF at hp
    split at hp
    · rcases List.mem_append.mp hp with z | z
      · split at z
        · rename_i c
          rw [List.mem_singleton.mp z]
          show num ≤ g.1 - 1
          omega
        · cases z
      · exact leftF_ok hi _ gs p z
    · exact leftF_ok hi _ gs p hp
theorem leftF_in {hi n : Int} : ∀ {gs : List (Int × Int)} {lo num : Int}, Ris lo gs → (InS (leftF hi num gs) n ↔ (num ≤ n ∧ n ≤ hi) ∧ ¬ InS gs n)
  | [], lo, num, _ => by
    unfold leftF
    split
    · rw [inS_cons]
      exact ⟨fun h => ⟨h.elim id fun z => absurd z inS_nil, inS_nil⟩, fun h => .inl h.1⟩
    · exact ⟨fun h => absurd h inS_nil, fun h => by omega⟩
  | g :: gs, lo, num, h => by
    have ih := fun m => leftF_in (hi := hi) (n := n) (gs := gs) (num := m) h.2.2
    have tl : InS gs n → g.2 + 2 ≤ n := fun z => h.2.2.low z
    have g12 := h.2.1
    unfold leftF
    split
    · rename_i c
      rw [inS_append, ih, inS_cons]
      have e1 : InS (if num < g.1 then [(num, g.1 - 1)] else []) n ↔ num ≤ n ∧ n < g.1 := by
        split
        · rw [inS_cons]
          refine ⟨fun z => z.elim (fun y => ?_) fun y => absurd y inS_nil, fun z => .inl ?_⟩
          · have y1 : num ≤ n := y.1
            have y2 : n ≤ g.1 - 1 := y.2
            omega
          · exact ⟨z.1, by show n ≤ g.1 - 1; omega⟩
        · exact ⟨fun z => absurd z inS_nil, fun z => by omega⟩
      rw [e1]
      constructor
      · rintro (⟨z1, z2⟩ | ⟨⟨z1, z2⟩, z3⟩)
        · refine ⟨⟨z1, by omega⟩, fun y => y.elim (fun w => ?_) fun w => ?_⟩
          · have := w.1; omega
          · have := tl w; omega
        · have z4 : g.2 + 1 ≤ n ∧ num ≤ n := by
            split at z1 <;> omega
          exact ⟨⟨z4.2, z2⟩, fun y => y.elim (fun w => by have := w.2; omega) z3⟩
      · rintro ⟨⟨z1, z2⟩, z3⟩
        by_cases c2 : n < g.1
        · exact .inl ⟨z1, c2⟩
        · refine .inr ⟨⟨?_, z2⟩, fun y => z3 (.inr y)⟩
          have : ¬ (g.1 ≤ n ∧ n ≤ g.2) := fun y => z3 (.inl y)
          split <;> omega
    · rename_i c
      rw [ih, inS_cons]
      constructor
      · rintro ⟨⟨z1, z2⟩, z3⟩
        exact ⟨⟨z1, z2⟩, fun y => y.elim (fun w => by have := w.1; have := w.2; omega) z3⟩
      · rintro ⟨z1, z3⟩
        exact ⟨z1, fun y => z3 (.inr y)⟩
/-- what is left of a run -/
abbrev leftR (gs : List (Int × Int)) (r : Int × Int) : List (Int × Int) := leftF r.2 r.1 gs
theorem leftR_nil {gs : List (Int × Int)} {r : Int × Int} {lo : Int} (h : Ris lo gs) : leftR gs r = [] ↔ allGB gs r = true := by
  rw [allGB_iff]
  constructor
  · intro e n h1 h2
    refine Classical.byContradiction fun z => ?_
    have := (leftF_in (hi := r.2) (n := n) (num := r.1) h).mpr ⟨⟨h1, h2⟩, z⟩
    rw [show leftF r.2 r.1 gs = [] from e] at this
    exact inS_nil this
  · intro hh
    cases e : leftR gs r with
    | nil => rfl
    | cons p t =>
      have hp : p ∈ leftR gs r := by rw [e]; exact List.mem_cons_self ..
      have h1 := leftF_ok r.2 r.1 gs p hp
      have h2 := (leftF_in (hi := r.2) (n := p.1) (num := r.1) h).mp ⟨p, hp, Int.le_refl _, h1⟩
      exact absurd (hh _ h2.1.1 h2.1.2) h2.2
/-- two sets have a number in both -/
def shareB (ps qs : List (Int × Int)) : Bool := ps.any fun p => qs.any fun q => decide (p.1 ≤ q.2) && decide (q.1 ≤ p.2)
theorem shareB_iff {ps qs : List (Int × Int)} (hp : ∀ p ∈ ps, p.1 ≤ p.2) (hq : ∀ q ∈ qs, q.1 ≤ q.2) : shareB ps qs = true ↔ ∃ n, InS ps n ∧ InS qs n := by
  unfold shareB
  rw [List.any_eq_true]
  constructor
  · rintro ⟨p, h1, h2⟩
    obtain ⟨q, h3, h4⟩ := List.any_eq_true.mp h2
    rw [Bool.and_eq_true, decide_eq_true_eq, decide_eq_true_eq] at h4
    have a1 := hp p h1
    have a2 := hq q h3
    by_cases c : p.1 ≤ q.1
    · exact ⟨q.1, ⟨p, h1, c, h4.2⟩, ⟨q, h3, Int.le_refl _, a2⟩⟩
    · exact ⟨p.1, ⟨p, h1, Int.le_refl _, a1⟩, ⟨q, h3, by omega, h4.1⟩⟩
  · rintro ⟨n, ⟨p, h1, h2, h3⟩, ⟨q, h4, h5, h6⟩⟩
    refine ⟨p, h1, List.any_eq_true.mpr ⟨q, h4, ?_⟩⟩
    rw [Bool.and_eq_true, decide_eq_true_eq, decide_eq_true_eq]
    omega
def spLLeft : Sp := fun vs H Q _ => ∃ (p b : Addr) (r : Int × Int) (gs : List (Int × Int)), vs = [.ref p, .ref b] ∧ H p = some (.tup [.int r.1, .int r.2]) ∧ LsA H b gs ∧ gs.length ≤ 100 ∧ ∀ l H', H l = none → LsA H' l (leftR gs r) → Same H H' → Q (.ref l) H'
def spShare : Sp := fun vs H Q _ => ∃ (a b : Addr) (ps qs : List (Int × Int)), vs = [.ref a, .ref b] ∧ LsA H a ps ∧ LsA H b qs ∧ qs.length ≤ 900 ∧ ∀ H', Same H H' → Q (.bl (shareB ps qs)) H'
/-- as many of each number, and shifted -/
def movedF (m s : Int) (ps : List (Int × Int)) : List (Int × Int) := ps.map fun p => (p.1 * m + s, p.2 * m + m - 1 + s)
def spMoved : Sp := fun vs H Q _ => ∃ (a : Addr) (m s : Int) (ps : List (Int × Int)), vs = [.ref a, .int m, .int s] ∧ LsA H a ps ∧ ps.length ≤ 900 ∧ 0 ≤ m ∧ m < 2 ^ 200 ∧ 0 ≤ s ∧ s < 2 ^ 200 ∧ (∀ p ∈ ps, 0 ≤ p.1 ∧ p.1 < 2 ^ 200 ∧ 0 ≤ p.2 ∧ p.2 < 2 ^ 200) ∧ ∀ l H', H l = none → LsA H' l (movedF m s ps) → Same H H' → Q (.ref l) H'
abbrev sLLeft : Stmt := topS 28
theorem scLLeft : FnScope ["_law_span", "_law_gone_here", "_law_found", "_law_number", "_law_first", "_law_last"] ["_law_span", "_law_gone_here"] (defScope sLLeft) := ⟨rfl, rfl, rfl, by decide +kernel, rfl, by decide +kernel, by decide +kernel⟩
abbrev sShare : Stmt := topS 29
theorem scShare : FnScope ["_law_one", "_law_other", "_law_first", "_law_last", "_law_begin_here", "_law_end"] ["_law_one", "_law_other"] (defScope sShare) := ⟨rfl, rfl, rfl, by decide +kernel, rfl, by decide +kernel, by decide +kernel⟩
abbrev sMoved : Stmt := topS 27
theorem scMoved : FnScope ["_law_pairs", "_law_many", "_law_shift", "_law_first", "_law_last"] ["_law_pairs", "_law_many", "_law_shift"] (defScope sMoved) := ⟨rfl, rfl, rfl, by decide +kernel, rfl, by decide +kernel, by decide +kernel⟩
section
variable {K : PySem.W.Frag} {mg : Str → Option Value} {P : Program} {w : World} {base : Heap}
theorem ok_LLeft {f : Addr} {fd : FuncData} (F : Fun K "_law_left" "_law_left" sLLeft f fd) (m_max : mg "max" = none) (m_int : mg "int" = none) : FnOk P w K mg base CX0 1 f fd ["_law_span", "_law_gone_here"] spLLeft := by
  refine F.ok scLLeft (fun vs H Q E h => ?_) (fun cdv A outer s H vs Q E hr h => ?_)
  · obtain ⟨p, b, r, gs, rfl, _⟩ := h
    rfl
  · obtain ⟨p, b, r, gs, rfl, eP, hB, hgb, q⟩ := h
    refine ⟨_, pss_cons (ps_par rfl scLLeft.nd (i := 2) (j := 3) rfl rfl (by decide) rfl rfl (pa_cons (pe_lst pa_nil) (pa_cons (pe_ix ix_tup (pv 0) pe_int (fun _ _ => rfl)) pa_nil)) (by rfl))
      (pss_cons (ps_for PassesOwn.never rfl (pi_list (pv 1)) (pg_tup rfl (pgs_cons (pg_name (i := 4) scLLeft.nd rfl (.inl rfl)) (pgs_cons (pg_name (i := 5) scLLeft.nd rfl (.inl rfl)) pgs_nil)))
        (pss_one (ps_if (PW.pt (pw_and (pt_cmpR op_ge (pv 5) (pv 3) (nomark _)) (pw_and1 (pt_cmpR op_le (pv 4) (pe_ix ix_tup (pv 0) pe_int (fun _ _ => rfl)) (nomark _))))) (Evl.pss_cut (ps_if (pt_cmpR op_gt (pv 4) (pv 3) (nomark _)) (pss_one (ps_expr (pe_bm PySem.F.plainAttrs_list PySem.F.slot_list_append PySem.F.type_list_append mt_append (pv 2) (pa_cons (pe_tup (pa_cons (pv 3) (pa_cons (pe_op op_sub (pv 4) pe_int) pa_nil))) pa_nil))))
            pss_nil)
          (pss_one (ps_set (i := 3) scLLeft.nd rfl (.inl rfl) (pe_callB (call_max2 rfl) (by rfl) m_max (by decide +kernel) (pa_cons (pv 3) (pa_cons (pe_op op_add (pv 5) pe_int) pa_nil))))))
          pss_nil)))
      (pss_one (ps_ret (pe_op op_cat (pv 2) (pe_op op_rep (pe_lst (pa_cons (pe_tup (pa_cons (pv 3) (pa_cons (pe_ix ix_tup (pv 0) pe_int (fun _ _ => rfl)) pa_nil))) pa_nil)) (pe_callTy call_int1 (by rfl) m_int (by decide +kernel) (pa_cons (pe_cmpR op_le (pv 3) (pe_ix ix_tup (pv 0) pe_int (fun _ _ => rfl)) (nomark _)) pa_nil))))))), ?_⟩
    obtain ⟨us, eB, pr⟩ := id hB
    have lus : us.length = gs.length := pr.1
    refine ⟨Nat.zero_le _, fun F nF => ?_⟩
    have sF := same_upd (o := .lst []) nF
    refine ⟨_, rfl, p, _, 0, _, rfl, rfl, .inl (.inl (sF _ _ eP)), atI_nat (j := 0) rfl, _, _, rfl, ?_⟩
    refine ⟨_, rfl, b, rfl, ⟨_, SqL.of (sF _ _ eB)⟩, for_list (xs := us) (fun i σ Hx => ∃ (num : Int) (pre : List (Int × Int)) (y4 y5 : Option V), σ = [some (.ref p), some (.ref b), some (.ref F), some (.int num), y4, y5] ∧ LsA Hx F pre ∧ pre.length ≤ i ∧ pre ++ leftF r.2 num (gs.drop i) = leftR gs r ∧ Same H Hx) ⟨r.1, [], _, _, rfl, LsA.nil upd_same, Nat.le_refl _, rfl, sF⟩ (fun i σ Hx _ hP => ?_) (fun i x σ Hx hx hP => ?_) (fun σ Hx hP => ?_)⟩
    · obtain ⟨num, pre, y4, y5, rfl, hF, hl, he, sm⟩ := hP
      exact SqL.of (sm _ _ eB)
    · obtain ⟨num, pre, y4, y5, rfl, hF, hl, he, sm⟩ := hP
      obtain ⟨g, T, eg, rfl, eT⟩ := prs_at pr hx
      have hi : i < gs.length := (List.getElem?_eq_some_iff.mp eg).1
      rw [drop_at eg, leftF] at he
      have ePx := sm _ _ eP
      refine ⟨T, _, rfl, .inl (.inl (sm _ _ eT)), rfl, _, _, rfl, _, _, rfl, rfl, ?_⟩
      refine ⟨_, rfl, _, rfl, _, _, rfl, rfl, _, rfl, ite2 (fun c1 => ?_) (fun c1 => ?_)⟩
      · have c1' : num ≤ g.2 := of_decide_eq_true c1
        refine ⟨_, rfl, _, rfl, p, _, 1, _, rfl, rfl, .inl (.inl ePx), atI_nat (j := 1) rfl, _, _, rfl, rfl, _, rfl, ite2 (fun c2 => ?_) (fun c2 => ?_)⟩
        · have c2' : g.1 ≤ r.2 := of_decide_eq_true c2
          rw [if_pos ⟨c1', c2'⟩] at he
          refine ⟨fun σ' H' => ∃ pre', σ' = [some (.ref p), some (.ref b), some (.ref F), some (.int num), some (.int g.1), some (.int g.2)] ∧ LsA H' F pre' ∧ pre'.length ≤ i + 1 ∧ pre' ++ leftF r.2 (if g.2 + 1 > num then g.2 + 1 else num) (gs.drop (i + 1)) = leftR gs r ∧ Same H H', ?_, fun σ' H' hM => ?_⟩
          · refine ⟨_, rfl, _, rfl, _, _, rfl, rfl, _, rfl, ite2 (fun c3 => ?_) (fun c3 => ?_)⟩
            · have c3' : num < g.1 := of_decide_eq_true c3
              rw [if_pos c3', ← List.append_assoc] at he
              obtain ⟨ws, eF, hw⟩ := hF
              refine ⟨_, rfl, .inl ⟨rfl, _, SqL.of eF⟩, _, rfl, _, rfl, _, _, rfl, rfl, (by show 2 ≤ sizeLine; decide), fun T2 n2 => ?_⟩
              have sT := same_upd (o := .tup [.int num, .int (g.1 - 1)]) n2
              refine ⟨F, _, _, rfl, rfl, sT _ _ eF, small1000 (by have := hw.1; omega), ?_⟩
              refine ⟨pre ++ [(num, g.1 - 1)], rfl, ⟨_, upd_same, ((hw.same sT).snoc upd_same).upd_lst (sT _ _ eF)⟩, by rw [List.length_append]; exact Nat.add_le_add_right hl 1, he, fun b' o e => ?_⟩
              rw [upd_ne (ne_of_none e nF)]
              exact sT _ _ (sm b' o e)
            · have c3' : ¬ num < g.1 := fun z => c3 (decide_eq_true z)
              rw [if_neg c3', List.nil_append] at he
              exact ⟨pre, rfl, hF, by omega, he, sm⟩
          · obtain ⟨pre', rfl, hF', hl', he', sm'⟩ := hM
            exact ⟨_, rfl, _, rfl, _, _, rfl, rfl, _, _, rfl, _, pre', _, _, rfl, hF', hl', he', sm'⟩
        · have c2' : ¬ g.1 ≤ r.2 := fun z => c2 (decide_eq_true z)
          rw [if_neg (fun z => c2' z.2)] at he
          exact ⟨num, pre, _, _, rfl, hF, by omega, he, sm⟩
      · have c1' : ¬ num ≤ g.2 := fun z => c1 (decide_eq_true z)
        rw [if_neg (fun z => c1' z.1)] at he
        exact ite2 (fun z => nomatch z) (fun _ => ⟨num, pre, _, _, rfl, hF, by omega, he, sm⟩)
    · obtain ⟨num, pre, y4, y5, rfl, hF, hl, he, sm⟩ := hP
      rw [lus, List.drop_length, leftF] at he
      obtain ⟨ws, eF, hw⟩ := hF
      have lw : ws.length ≤ 100 := by have := hw.1; omega
      refine ⟨_, rfl, _, rfl, _, rfl, p, _, 1, _, rfl, rfl, .inl (.inl (sm _ _ eP)), atI_nat (j := 1) rfl, (by show 2 ≤ sizeLine; decide), fun T nT => ⟨(by show 1 ≤ sizeLine; decide), fun l1 n1 => ?_⟩⟩
      have sT := same_upd (o := .tup [.int num, .int r.2]) nT
      have s1 := same_upd (o := .lst [.ref T]) n1
      have s01 := (sm.trans sT).trans s1
      refine ⟨_, rfl, _, rfl, p, _, 1, _, rfl, rfl, .inl (.inl (s01 _ _ eP)), atI_nat (j := 1) rfl, num, r.2, rfl, rfl, .inr ⟨_, rfl, ?_⟩⟩
      by_cases c : num ≤ r.2
      · rw [decide_eq_true c]
        refine ⟨l1, 1, _, rfl, rfl, upd_same, by decide, by decide, (by show 1 * 1 ≤ sizeLine; decide), fun l2 n2 => ?_⟩
        have s2 := same_upd (o := .lst (List.replicate (1 : Int).toNat [V.ref T]).flatten) n2
        refine ⟨F, l2, _, _, rfl, rfl, s2 _ _ (s1 _ _ (sT _ _ eF)), upd_same, ?_, fun l3 n3 => ?_⟩
        · show ws.length + 1 ≤ sizeLine
          exact Nat.le_trans (by omega : _ ≤ 1000) (by decide)
        · have s3 := same_upd (o := .lst (ws ++ [V.ref T])) n3
          have s03 := (s01.trans s2).trans s3
          rw [if_pos c] at he
          refine q l3 _ ((s01.trans s2).free n3) ⟨_, upd_same, ?_⟩ s03
          rw [← he]
          exact (hw.same (((sT.trans s1).trans s2).trans s3)).snoc (s3 _ _ (s2 _ _ (s1 _ _ upd_same)))
      · rw [decide_eq_false c]
        refine ⟨l1, 0, _, rfl, rfl, upd_same, by decide, by decide, (by show 1 * 0 ≤ sizeLine; decide), fun l2 n2 => ?_⟩
        have s2 := same_upd (o := .lst (List.replicate (0 : Int).toNat [V.ref T]).flatten) n2
        refine ⟨F, l2, _, _, rfl, rfl, s2 _ _ (s1 _ _ (sT _ _ eF)), upd_same, ?_, fun l3 n3 => ?_⟩
        · show ws.length + 0 ≤ sizeLine
          exact Nat.le_trans (by omega : _ ≤ 1000) (by decide)
        · have s3 := same_upd (o := .lst (ws ++ [])) n3
          have s03 := (s01.trans s2).trans s3
          rw [if_neg c] at he
          refine q l3 _ ((s01.trans s2).free n3) ⟨_, upd_same, ?_⟩ s03
          rw [← he, List.append_nil]
          show Prs _ (ws ++ []) pre
          rw [List.append_nil]
          exact hw.same (((sT.trans s1).trans s2).trans s3)
theorem ok_Share {f : Addr} {fd : FuncData} (F : Fun K "_law_share" "_law_share" sShare f fd) (m_any : mg "any" = none) : FnOk P w K mg base CX0 1 f fd ["_law_one", "_law_other"] spShare := by
  refine F.ok scShare (fun vs H Q E h => ?_) (fun cdv A outer s H vs Q E hr h => ?_)
  · obtain ⟨a, b, ps, qs, rfl, _⟩ := h
    rfl
  · obtain ⟨a, b, ps, qs, rfl, hA, hB, hqz, q⟩ := h
    refine ⟨_, pss_cons (ps_for PassesOwn.never rfl (pi_list (pv 0)) (pg_tup rfl (pgs_cons (pg_name (i := 2) scShare.nd rfl (.inr rfl)) (pgs_cons (pg_name (i := 3) scShare.nd rfl (.inr rfl)) pgs_nil)))
        (pss_one (ps_if (pt_val (pe_callB (cr_any rfl) (by rfl) m_any (by decide +kernel) (pa_cons (pe_lc (own := [("_law_begin_here", 4), ("_law_end", 5)]) (g := (gTup K 2 (gCons (gName 4) (gCons (gName 5) gNil)))) (tt := tYes) (te := (tAndV (tOp (rI0 fun i j => .bl (decide (i ≤ j))) (tVar 2) (tVar 5)) (tOp (rI0 fun i j => .bl (decide (i ≤ j))) (tVar 4) (tVar 3)))) rfl scShare.nd (pi_list (pv 1)) (blkOk_by (own := [("_law_begin_here", 4), ("_law_end", 5)]) (N := ["_law_one", "_law_other", "_law_first", "_law_last", "_law_begin_here", "_law_end"]) (sc := defScope sShare) (by decide +kernel)) (fun _ _ _ _ _ => (pg_tup rfl (pgs_cons (pg_name (i := 4) scShare.nd rfl (.inl rfl)) (pgs_cons (pg_name (i := 5) scShare.nd rfl (.inl rfl)) pgs_nil)))) (fun _ _ _ _ _ => pts_nil) (fun _ _ _ _ _ => (pe_and (pe_cmpR op_le (pv 2) (pv 5) (nomark _)) (pe_one (pe_cmpR op_le (pv 4) (pv 3) (nomark _)))))) pa_nil))) (pss_one (ps_ret pe_bl))
          pss_nil)))
      (pss_one (ps_ret pe_bl)), ?_⟩
    obtain ⟨us, eA, pr⟩ := id hA
    obtain ⟨ws, eB, pw⟩ := id hB
    have lw : ws.length = qs.length := pw.1
    refine ⟨_, rfl, a, rfl, ⟨_, SqL.of eA⟩, for_list (xs := us) (fun i σ Hx => ∃ y2 y3 y4 y5 : Option V, σ = [some (.ref a), some (.ref b), y2, y3, y4, y5] ∧ Same H Hx ∧ shareB (ps.take i) qs = false) ⟨_, _, _, _, rfl, Same.refl _, by rw [List.take_zero]; rfl⟩ (fun i σ Hx _ hP => ?_) (fun i x σ Hx hx hP => ?_) (fun σ Hx hP => ?_)⟩
    · obtain ⟨y2, y3, y4, y5, rfl, sm, hf⟩ := hP
      exact SqL.of (sm _ _ eA)
    · obtain ⟨y2, y3, y4, y5, rfl, sm, hf⟩ := hP
      obtain ⟨p, T, ep, rfl, eT⟩ := prs_at pr hx
      have et : shareB (ps.take (i + 1)) qs = (qs.map fun q => decide (p.1 ≤ q.2) && decide (q.1 ≤ p.2)).any id := by
        rw [List.take_add_one, ep]
        unfold shareB at hf ⊢
        rw [List.any_append, hf, Bool.false_or, List.any_map]
        show (List.any [p] _) = _
        rw [List.any_cons, List.any_nil, Bool.or_false]
        rfl
      refine ⟨T, _, rfl, .inl (.inl (sm _ _ eT)), rfl, _, _, rfl, _, _, rfl, rfl, ?_⟩
      refine ⟨_, rfl, b, rfl, ⟨_, SqL.of (sm _ _ eB)⟩, fun G nG => lc_bs (bs := qs.map fun q => decide (p.1 ≤ q.2) && decide (q.1 ≤ p.2)) nG (sm _ _ eB) (by rw [List.length_map, lw]) (by omega) (fun j x bb H4 Kt Kn hx2 hb2 s4 k => ?_) (fun H5 s5 eG => ?_)⟩
      · obtain ⟨g, T2, eg, rfl, eT2⟩ := prs_at pw hx2
        rw [List.getElem?_map, eg] at hb2
        cases hb2
        have s04 := sm.trans s4
        refine ⟨T2, _, rfl, .inl (.inl (s04 _ _ eT2)), rfl, _, _, rfl, _, _, rfl, rfl, rfl, ?_⟩
        have this : Kt (V.bl (decide (p.1 ≤ g.2) && decide (g.1 ≤ p.2))) _ := k _ (Same.refl _)
        refine ⟨_, rfl, _, rfl, _, _, rfl, rfl, _, rfl, ite2 (fun c1 => ⟨_, rfl, _, rfl, _, _, rfl, rfl, ?_⟩) (fun c1 => ?_)⟩
        · rw [c1] at this
          exact this
        · rw [Bool.eq_false_iff.mpr c1] at this
          exact this
      · refine ⟨G, _, rfl, SqL.of eG, _, rfl, ?_⟩
        rw [← et]
        cases c : shareB (ps.take (i + 1)) qs with
        | false => exact ite2 (fun z => nomatch z) (fun _ => ⟨_, _, _, _, rfl, sm.trans s5, rfl⟩)
        | true =>
          refine iteT ?_
          have e : shareB ps qs = true := by
            rw [← List.take_append_drop (i + 1) ps]
            unfold shareB at c ⊢
            rw [List.any_append, c, Bool.true_or]
          have := q H5 (sm.trans s5)
          rw [e] at this
          exact this
    · obtain ⟨y2, y3, y4, y5, rfl, sm, hf⟩ := hP
      rw [pr.1, List.take_length] at hf
      have := q Hx sm
      rw [hf] at this
      exact this
theorem ok_Moved {f : Addr} {fd : FuncData} (F : Fun K "_law_moved" "_law_moved" sMoved f fd) : FnOk P w K mg base CX0 1 f fd ["_law_pairs", "_law_many", "_law_shift"] spMoved := by
  refine F.ok scMoved (fun vs H Q E h => ?_) (fun cdv A outer s H vs Q E hr h => ?_)
  · obtain ⟨a, m, z, ps, rfl, _⟩ := h
    rfl
  · obtain ⟨a, m, z, ps, rfl, hA, hz, m0, m1, s0, s1, hb, q⟩ := h
    refine ⟨_, pss_one (ps_ret (pe_lc (own := [("_law_first", 3), ("_law_last", 4)]) (g := (gTup K 2 (gCons (gName 3) (gCons (gName 4) gNil)))) (tt := tYes) (te := (tTup (tCons (tOp (rI0 fun i j => .int (i + j)) (tOp (rI CMulW fun i j => .int (i * j)) (tVar 3) (tVar 1)) (tVar 2)) (tCons (tOp (rI0 fun i j => .int (i + j)) (tOp (rI0 fun i j => .int (i - j)) (tOp (rI0 fun i j => .int (i + j)) (tOp (rI CMulW fun i j => .int (i * j)) (tVar 4) (tVar 1)) (tVar 1)) (tC (.int 1))) (tVar 2)) tNil)))) rfl scMoved.nd (pi_list (pv 0)) (blkOk_by (own := [("_law_first", 3), ("_law_last", 4)]) (N := ["_law_pairs", "_law_many", "_law_shift", "_law_first", "_law_last"]) (sc := defScope sMoved) (by decide +kernel)) (fun _ _ _ _ _ => (pg_tup rfl (pgs_cons (pg_name (i := 3) scMoved.nd rfl (.inl rfl)) (pgs_cons (pg_name (i := 4) scMoved.nd rfl (.inl rfl)) pgs_nil)))) (fun _ _ _ _ _ => pts_nil) (fun _ _ _ _ _ => (pe_tup (pa_cons (pe_op op_add (pe_op op_mulW (pv 3) (pv 1)) (pv 2)) (pa_cons (pe_op op_add (pe_op op_sub (pe_op op_add (pe_op op_mulW (pv 4) (pv 1)) (pv 1)) pe_int) (pv 2)) pa_nil)))))), ?_⟩
    obtain ⟨us, eA, pr⟩ := id hA
    have lu := pr.1
    refine ⟨_, rfl, a, rfl, ⟨_, SqL.of eA⟩, fun G nG => lc_list (xs := us) (fun j H' => Same H H' ∧ ∃ ws, H' G = some (.lst ws) ∧ Prs H' ws (movedF m z (ps.take j))) ⟨same_upd nG, [], upd_same, Prs.nil⟩ (fun j H' _ hP => SqL.of (hP.1 _ _ eA)) (fun j x H' hx hP => ?_) (fun H9 hP => ?_)⟩
    · obtain ⟨sm, ws, eG, hw⟩ := hP
      obtain ⟨g, T, eg, rfl, eT⟩ := prs_at pr hx
      have hj : j < ps.length := (List.getElem?_eq_some_iff.mp eg).1
      obtain ⟨b1, b2, b3, b4⟩ := hb g (List.mem_of_getElem? eg)
      have lw : ws.length ≤ 900 := by
        rw [hw.1, movedF, List.length_map, List.length_take]; omega
      have w1 : CMulW g.1 m := wide_mul (a := 250) (b := 250) (by omega) (by omega) (by decide) (by decide) (by decide)
      have w2 : CMulW g.2 m := wide_mul (a := 250) (b := 250) (by omega) (by omega) (by decide) (by decide) (by decide)
      refine ⟨T, _, rfl, .inl (.inl (sm _ _ eT)), rfl, _, _, rfl, _, _, rfl, rfl, rfl, ?_⟩
      refine ⟨_, rfl, _, rfl, _, _, rfl, rfl, w1, _, rfl, _, _, rfl, rfl, ?_⟩
      refine ⟨_, rfl, _, rfl, _, _, rfl, rfl, w2, _, rfl, _, _, rfl, rfl, _, _, rfl, rfl, _, rfl, _, _, rfl, rfl, ?_⟩
      refine ⟨(by show 2 ≤ sizeLine; decide), fun T2 nT2 => ?_⟩
      have sT := same_upd (o := .tup [.int (g.1 * m + z), .int (g.2 * m + m - 1 + z)]) nT2
      refine ⟨_, sT _ _ eG, small1000 (by omega), fun b' o e => ?_, _, upd_same, ?_⟩
      · rw [upd_ne (ne_of_none e nG)]
        exact sT _ _ (sm b' o e)
      · have et : movedF m z (ps.take (j + 1)) = movedF m z (ps.take j) ++ [(g.1 * m + z, g.2 * m + m - 1 + z)] := by
          unfold movedF
          rw [List.take_add_one, eg, List.map_append]
          rfl
        rw [et]
        exact ((hw.same sT).snoc upd_same).upd_lst (sT _ _ eG)
    · obtain ⟨sm, ws, eG, hw⟩ := hP
      rw [lu, List.take_length] at hw
      exact q G H9 nG ⟨ws, eG, hw⟩ sm
end

/-! ### what shows samples -/
/-- two runs share nothing that is not gone -/
def FarR (gs : List (Int × Int)) (r q : Int × Int) : Prop := ∀ n, ¬ (((r.1 ≤ n ∧ n ≤ r.2) ∧ (q.1 ≤ n ∧ n ≤ q.2)) ∧ ¬ InS gs n)
def spIsIn (K : PySem.W.Frag) (Ms : GX.Mq) (Xs : List Addr) (Pi : Addr) : Sp := fun vs H Q _ => ∃ (a : Addr) (gs : List (Int × Int)) (n : Int), vs = [.ref a, .int n] ∧ LsQ H a gs ∧ GX.TQ Ms Xs H ∧ Pi ∈ Ms ∧ ∀ H2, GX.NoTab H H2 → GX.TQ Ms Xs H2 → Q (.bl (goneB gs n)) H2
def spApart (K : PySem.W.Frag) (Ms : GX.Mq) (Xs : List Addr) (Pa : Addr) : Sp := fun vs H Q _ => ∃ (a b c : Addr) (rs gs : List (Int × Int)) (ap : List Int), vs = [.ref a, .ref b, .ref c] ∧ LsQ H a rs ∧ LsQ H b gs ∧ IntsQ H c ap ∧ rs.length ≤ 700 ∧ gs.length ≤ 100 ∧ ap.length ≤ 700 ∧ (∀ r ∈ rs, r.1 ≤ r.2) ∧ Ris 0 gs ∧ (∀ p ∈ ap, 0 ≤ p ∧ p < rs.length) ∧ GX.TQ Ms Xs H ∧ Pa ∈ Ms ∧
  ∀ H2 (bb : Bool), GX.NoTab H H2 → GX.TQ Ms Xs H2 → (bb = true ↔ ∀ (i j : Nat) p q rp rq, j < i → ap[i]? = some p → ap[j]? = some q → rs[p.toNat]? = some rp → rs[q.toNat]? = some rq → FarR gs rq rp) → Q (.bl bb) H2
def idxB (gs : List (Int × Int)) : List (Int × Int) → Option Nat
  | [] => none
  | r :: rs => if allGB gs r then some 0 else (idxB gs rs).map (· + 1)
theorem idxB_some {gs : List (Int × Int)} : ∀ {rs : List (Int × Int)} {i : Nat}, idxB gs rs = some i → ∃ r, rs[i]? = some r ∧ allGB gs r = true ∧ ∀ (j : Nat) r', j < i → rs[j]? = some r' → allGB gs r' = false
  | [], i, h => nomatch h
  | r :: rs, i, h => by
    unfold idxB at h
    by_cases c : allGB gs r = true
    · rw [if_pos c] at h
      cases h
      exact ⟨r, rfl, c, fun j r' z => absurd z (Nat.not_lt_zero _)⟩
    · rw [if_neg c] at h
      obtain ⟨k, hk, rfl⟩ := Option.map_eq_some_iff.mp h
      obtain ⟨r1, e1, e2, e3⟩ := idxB_some hk
      refine ⟨r1, e1, e2, fun j r' hj e => ?_⟩
      cases j with
      | zero => cases e; exact Bool.eq_false_iff.mpr c
      | succ j => exact e3 j r' (by omega) e
theorem idxB_none {gs : List (Int × Int)} : ∀ {rs : List (Int × Int)}, idxB gs rs = none → ∀ r ∈ rs, allGB gs r = false
  | [], _, r, hr => nomatch hr
  | x :: rs, h, r, hr => by
    unfold idxB at h
    by_cases c : allGB gs x = true
    · rw [if_pos c] at h; cases h
    · rw [if_neg c] at h
      have h' : idxB gs rs = none := by
        cases z : idxB gs rs with
        | none => rfl
        | some k => rw [z] at h; cases h
      rcases List.mem_cons.mp hr with rfl | hr
      · exact Bool.eq_false_iff.mpr c
      · exact idxB_none h' r hr
def blindB (rs gs : List (Int × Int)) : PyData → Bool
  | .tuple [w, k] => PyData.eqv w (.str "blind") && (isNumD k && (match idxB gs rs with
    | some i => decide (intD k = (i : Int))
    | none => false))
  | _ => false
/-- its parts may be compared -/
def ShP (d : PyData) : Prop := ∀ ds, rowOf d = some ds → ∀ e ∈ ds, SeqAt.shaped e = true
def spSBlind (K : PySem.W.Frag) : Sp := fun vs H Q _ => ∃ (a b : Addr) (c : List Addr) (v : V) (d : PyData) (rs gs : List (Int × Int)), vs = [.ref a, .ref b, v] ∧ LsQ H a rs ∧ LsQ H b gs ∧ Thg c H v d ∧ ShP d ∧ rs.length ≤ 700 ∧ gs.length ≤ 100 ∧ (∀ r ∈ rs, r.1 ≤ r.2) ∧ Ris 0 gs ∧
  ∀ H2, Same H H2 → Q (.bl (blindB rs gs d)) H2
theorem tupB_2 {c : List Addr} {H : Hp} {v : V} {d : PyData} (h : Thg c H v d) (e : tupB d 2 = true) : ∃ t x y dx dy, v = .ref t ∧ H t = some (.tup [x, y]) ∧ d = .tuple [dx, dy] ∧ Thg c H x dx ∧ Thg c H y dy := by
  cases h with
  | tup et l k =>
    rename_i a xs ds
    have e : decide ((ds.length : Int) = 2) = true := e
    have hl : ds.length = 2 := by have := of_decide_eq_true e; omega
    match ds, xs, hl, l with
    | [dx, dy], [x, y], _, _ => exact ⟨_, x, y, dx, dy, rfl, et, rfl, k 0 _ _ rfl rfl, k 1 _ _ rfl rfl⟩
    | [dx, dy], [], _, l => cases l
    | [dx, dy], [_], _, l => cases l
    | [dx, dy], _ :: _ :: _ :: _, _, l => simp at l
  | lst et n l k => cases e
  | non => cases e
  | bl b => cases e
  | int i => cases e
  | str x => cases e
theorem blindB_not {rs gs : List (Int × Int)} {d : PyData} (h : tupB d 2 = false) : blindB rs gs d = false := by
  unfold blindB
  split
  · exact absurd h (by unfold tupB; simp)
  · rfl
abbrev sIsIn : Stmt := topS 12
theorem scIsIn : FnScope ["some", "number", "first", "last"] ["some", "number"] (defScope sIsIn) := ⟨rfl, rfl, rfl, by decide +kernel, rfl, by decide +kernel, by decide +kernel⟩
abbrev sApart : Stmt := topS 15
theorem scApart : FnScope ["runs", "gone", "apart", "left", "number", "other", "one"] ["runs", "gone", "apart"] (defScope sApart) := ⟨rfl, rfl, rfl, by decide +kernel, rfl, by decide +kernel, by decide +kernel⟩
abbrev sSBlind : Stmt := topS 16
theorem scSBlind : FnScope ["runs", "gone", "told", "left", "run"] ["runs", "gone", "told"] (defScope sSBlind) := ⟨rfl, rfl, rfl, by decide +kernel, rfl, by decide +kernel, by decide +kernel⟩
section
variable {K : PySem.W.Frag} {mg : Str → Option Value} {P : Program} {w : World} {base : Heap}
theorem ok_IsIn {Ms : GX.Mq} {Xs : List Addr} {f c Pi : Addr} {oc kV doc pm ct : Value} {od an : Option Addr} {osl : Array (Option Value)} (lk : K.lookup f = some ⟨oc, od, .func (PySem.W.fnOf "is_in" "is_in" (defArgs sIsIn) (defBody sIsIn) (defScope sIsIn) .none kV doc pm an (.ref c) ct), osl⟩) (hcd : PySem.W.codeIn K (.ref c) "is_in" = true) (TG : GxR.TabB base mg c Pi) (m_any : mg "any" = none) : FnOk P w K mg base CX0 4 f (PySem.W.fnOf "is_in" "is_in" (defArgs sIsIn) (defBody sIsIn) (defScope sIsIn) .none kV doc pm an (.ref c) ct) ["some", "number"] (spIsIn K Ms Xs Pi) := by
  refine fn_of lk hcd scIsIn (fun vs H Q E h => ?_) (fun A outer s H vs Q E hr h => ?_)
  · obtain ⟨a, gs, n, rfl, _⟩ := h
    rfl
  · obtain ⟨a, gs, n, rfl, hA, hT, hP, q⟩ := h
    refine ⟨_, PSs.nox (pss_one (ps_ret (GX.pe_anyX (k := 0) (own := [("first", 2), ("last", 3)]) (te := fun code1 => (tChain (rI0 fun i j => .bl (decide (i ≤ j))) (rI0 fun i j => .bl (decide (i ≤ j))) (tVar 2) (tVar 1) (tVar 3))) (g' := (gTup K 2 (gCons (gName 2) (gCons (gName 3) gNil)))) (tt := tYes) hr scIsIn.nd (by rfl) m_any TG.bm (pi_seq (pv 0)) (GX.pc_own (Ms := Ms) (Xs := Xs) TG rfl) (GX.gok_by (own := [("first", 2), ("last", 3)]) (N := ["some", "number", "first", "last"]) (sc := defScope sIsIn) (by decide +kernel)) (fun _ _ _ _ _ r1 gd1 => (pg_tup rfl (pgs_cons (pg_name (i := 2) scIsIn.nd rfl (.inl rfl)) (pgs_cons (pg_name (i := 3) scIsIn.nd rfl (.inl rfl)) pgs_nil)))) (fun _ _ _ _ _ r1 gd1 => pts_nil) (fun _ _ _ code1 _ r1 gd1 => (pe_chain op_le op_le (pv 2) (pv 1) (pv 3)))))), ?_⟩
    obtain ⟨us, eA, pr⟩ := id hA
    have lu := pr.1
    refine ⟨_, rfl, a, rfl, iseq_gx eA fun J G wk hG => ⟨hT, hP, fun H2 c' P' n2 t2 nX eC tG => GX.turns_any wk (fun i => inB2 (gs.getD i (0, 0)) n) (fun Hx => GX.NoTab H2 Hx ∧ GX.TQ Ms Xs Hx) ⟨GX.NoTab.refl _, t2⟩ (fun Hx iv => hG Hx (n2.trans iv.1)) (fun i x Hx Hx' Kt Kn hi iv hy kt _ => ?_) (fun Hx bb iv hb => ?_)⟩⟩
    · obtain ⟨rfl, hx⟩ := hy
      obtain ⟨r, T, er, rfl, eT⟩ := prs_at pr hx
      have e : gs.getD i (0, 0) = r := by rw [List.getD_eq_getElem?_getD, er]; rfl
      rw [e] at kt
      refine ⟨T, _, rfl, .inl (.inl (iv.1.tup (n2.tup eT))), rfl, _, _, rfl, _, _, rfl, rfl, rfl, ?_⟩
      refine ⟨_, rfl, _, rfl, _, _, rfl, rfl, _, rfl, ite2 (fun c1 => ⟨_, rfl, _, _, rfl, rfl, ?_⟩) (fun c1 => ?_)⟩
      · have this : Kt (V.bl (decide (r.1 ≤ n) && decide (n ≤ r.2))) _ := kt _ iv
        rw [c1] at this
        exact this
      · have this : Kt (V.bl (decide (r.1 ≤ n) && decide (n ≤ r.2))) _ := kt _ iv
        rw [Bool.eq_false_iff.mpr c1] at this
        exact this
    · have e : bb = goneB gs n := by
        rw [Bool.eq_iff_iff, hb, goneB, List.any_eq_true]
        constructor
        · rintro ⟨i, hi, z⟩
          have hi' : i < gs.length := by omega
          rw [List.getD_eq_getElem?_getD, List.getElem?_eq_getElem hi'] at z
          exact ⟨_, List.getElem_mem hi', z⟩
        · rintro ⟨r, hr, z⟩
          obtain ⟨i, hi, rfl⟩ := List.getElem_of_mem hr
          refine ⟨i, by omega, ?_⟩
          rw [List.getD_eq_getElem?_getD, List.getElem?_eq_getElem hi]
          exact z
      rw [e]
      exact q Hx (n2.trans iv.1) iv.2
theorem ok_Apart {Ms : GX.Mq} {Xs : List Addr} {f c Pa : Addr} {oc kV doc pm ct : Value} {od an : Option Addr} {osl : Array (Option Value)} (lk : K.lookup f = some ⟨oc, od, .func (PySem.W.fnOf "are_apart" "are_apart" (defArgs sApart) (defBody sApart) (defScope sApart) .none kV doc pm an (.ref c) ct), osl⟩) (hcd : PySem.W.codeIn K (.ref c) "are_apart" = true) (TG : GxR.TabB base mg c Pa) (C_without : Cal P w K mg base 3 "without" ["one", "other"] (spWithout K)) (C_both_of : Cal P w K mg base 1 "both_of" ["one", "other"] (spBoth K)) (m_all : mg "all" = none) (m_len : mg "len" = none) (m_range : mg "range" = none) : FnOk P w K mg base CX0 5 f (PySem.W.fnOf "are_apart" "are_apart" (defArgs sApart) (defBody sApart) (defScope sApart) .none kV doc pm an (.ref c) ct) ["runs", "gone", "apart"] (spApart K Ms Xs Pa) := by
  refine fn_of lk hcd scApart (fun vs H Q E h => ?_) (fun A outer s H vs Q E hr h => ?_)
  · obtain ⟨a, b, c, rs, gs, ap, rfl, _⟩ := h
    rfl
  · obtain ⟨a, b, c, rs, gs, ap, rfl, hA, hB, hC, hra, hgb, hap, hro, hrg, hrng, hT, hP, q⟩ := h
    refine ⟨_, PSs.nox (pss_cons (ps_set (i := 3) scApart.nd rfl (.inr rfl) (pe_lc (own := [("number", 4)]) (g := (gName 4)) (tt := tYes) (te := (tCall (spWithout K) [] E0 (tCons (tLst (tCons (tOp (TK.rIxS K) (tVar 0) (tVar 4)) tNil)) (tCons (tVar 1) tNil)))) rfl scApart.nd (pi_seq (pv 2)) (blkOk_by (own := [("number", 4)]) (N := ["runs", "gone", "apart", "left", "number", "other", "one"]) (sc := defScope sApart) (by decide +kernel)) (fun _ _ _ _ _ => (pg_name (i := 4) scApart.nd rfl (.inl rfl))) (fun _ _ _ _ _ => pts_nil) (fun _ _ _ _ _ => (pe_own C_without (hr.mono (show 3 ≤ 4 by decide)) (by rfl) (pa_cons (pe_lst (pa_cons (pe_ix ix_seq (pv 0) (pv 4) (fun _ _ => rfl)) pa_nil)) (pa_cons (pv 1) pa_nil))))))
      (pss_one (ps_ret (GX.pe_allX2 (k := 1) (own := [("other", 5), ("one", 6)]) (vs2 := [6]) (te := fun code1 => (tOp (rEqD K) (tCall (spBoth K) [] E0 (tCons (tOp (rIxL K) (tVar 3) (tVar 6)) (tCons (tOp (rIxL K) (tVar 3) (tVar 5)) tNil))) (tLst tNil))) (g' := (gName 5)) (g2 := (gName 6)) (tt := tYes) (tt2 := tYes) hr scApart.nd (by rfl) m_all TG.bm (pi_range1 rfl m_range (pa_cons (pe_callB call_len_seq (by rfl) m_len PySem.boot_len (pa_cons (pv 3) pa_nil)) pa_nil)) (GX.pc_own (Ms := Ms) (Xs := Xs) TG rfl) (GX.gok_by (own := [("other", 5), ("one", 6)]) (N := ["runs", "gone", "apart", "left", "number", "other", "one"]) (sc := defScope sApart) (by decide +kernel)) (fun _ _ _ _ _ r1 gd1 => (pg_name (i := 5) scApart.nd rfl (.inl rfl))) (fun _ _ _ _ _ r1 gd1 => pts_nil) (fun _ _ _ _ _ r1 gd1 => (pi_range1 rfl m_range (pa_cons (pv 5) pa_nil))) (fun _ _ => rfl) (fun _ _ _ _ _ r1 gd1 => (pg_name (i := 6) scApart.nd rfl (.inl rfl))) (fun _ _ _ _ _ r1 gd1 => pts_nil) (by decide) (fun _ _ _ code1 _ r1 gd1 => (pe_cmpR (op_eqD r1.units) (pe_own C_both_of r1 (by rfl) (pa_cons (pe_ix ix_list (pv 3) (pv 6) (fun _ _ => rfl)) (pa_cons (pe_ix ix_list (pv 3) (pv 5) (fun _ _ => rfl)) pa_nil))) (pe_lst pa_nil) (nomark _))))))), ?_⟩
    obtain ⟨ua, ea, pa⟩ := id hA
    have lap : (ap.map V.int).length = ap.length := List.length_map ..
    obtain ⟨rs', ers⟩ : ∃ rs' : List (Int × Int), rs' = ap.map fun p => rs.getD p.toNat (0, 0) := ⟨_, rfl⟩
    have lrs : rs'.length = ap.length := by rw [ers, List.length_map]
    have ers' : ∀ (i : Nat) p r, ap[i]? = some p → rs[p.toNat]? = some r → rs'[i]? = some r := fun i p r e1 e2 => by
      rw [ers, List.getElem?_map, e1]
      show some (rs.getD p.toNat (0, 0)) = _
      rw [List.getD_eq_getElem?_getD, e2]
      rfl
    refine ⟨_, rfl, c, rfl, iseq_lc hC fun J G wk hG L nL => lc_it wk (fun j H' => Same H H' ∧ ∃ us ls, H' L = some (.lst us) ∧ LR H' us ls ∧ ls.length = j ∧ (∀ v ∈ us, v ≠ .ref L) ∧ (∀ (i : Nat) r l, rs'[i]? = some r → ls[i]? = some l → Told (fun n => (r.1 ≤ n ∧ n ≤ r.2) ∧ ¬ InS gs n) l) ∧ ∀ l ∈ ls, l.length ≤ gs.length + 2) ⟨same_upd nL, [], [], upd_same, LR.nil, rfl, (fun _ h => nomatch h), (fun i r l _ e => by simp at e), fun _ h => nomatch h⟩ (fun j H' _ hP => hG H' (NoTab.same hP.1)) (fun j x H'' H' hi hP hy => ?_) (fun H1 hP => ?_)⟩
    · obtain ⟨rfl, hx⟩ := hy
      obtain ⟨sm, us, ls, eL, hLR, hlj, hng, htold, hsz⟩ := hP
      rw [List.getElem?_map] at hx
      obtain ⟨p, ep, rfl⟩ := Option.map_eq_some_iff.mp hx
      obtain ⟨p0, p1⟩ := hrng p (List.mem_of_getElem? ep)
      obtain ⟨pn, rfl⟩ := Int.eq_ofNat_of_zero_le p0
      have hpl : pn < rs.length := by omega
      have er0 : rs[((pn : Nat) : Int).toNat]? = some rs[pn] := List.getElem?_eq_getElem hpl
      have er := ers' j _ _ ep er0
      have hrr := hro _ (List.getElem_mem hpl)
      obtain ⟨T, f1, eT⟩ := pa.2 pn _ (List.getElem?_eq_getElem hpl)
      generalize rs[pn] = r at er hrr eT
      have hj : j < rs'.length := (List.getElem?_eq_some_iff.mp er).1
      refine ⟨rfl, _, rfl, _, rfl, a, ua, (pn : Int), .ref T, rfl, rfl, (ea.same sm).sq, atI_nat f1, (by show 1 ≤ sizeLine; decide), fun l1 nl1 => ?_⟩
      have sl1 := same_upd (o := .lst [.ref T]) nl1
      have p1 : LsA (upd H' l1 (.lst [.ref T])) l1 [r] := ⟨_, upd_same, Prs.nil.snoc (sl1 _ _ (sm _ _ eT))⟩
      refine ⟨_, rfl, l1, b, [r], gs, rfl, p1.pr, (hB.same (sm.trans sl1)).pr, ⟨r.1, Int.le_refl _, hrr, True.intro⟩, ⟨0, hrg⟩, by show 1 + gs.length ≤ 800; omega, fun l2 l H4 nl2 hl2 htl hzl s4 => ?_⟩
      have eL4 := s4 _ _ (sl1 _ _ eL)
      have n2L : l2 ≠ L := fun z => by rw [z, sl1 _ _ eL] at nl2; cases nl2
      have lus : us.length = j := by rw [hLR.1, hlj]
      refine ⟨_, eL4, small1000 (by omega), fun b' o e => ?_, us ++ [.ref l2], ls ++ [l], upd_same, ?_, by rw [List.length_append, hlj]; rfl, fun v hv => ?_, (fun i r' l' er' el' => ?_), fun l' hl' => ?_⟩
      · rw [upd_ne (ne_of_none e nL)]
        exact s4 _ _ (sl1 _ _ (sm b' o e))
      · have h1 := (hLR.same (sl1.trans s4)).snoc hl2
        refine ⟨h1.1, fun i r' e => ?_⟩
        obtain ⟨x, f1, us', f2, f3⟩ := h1.2 i r' e
        have nx : x ≠ L := fun z => by
          have hm := List.mem_of_getElem? f1
          rcases List.mem_append.mp hm with y | y
          · exact hng _ y (by rw [z])
          · exact n2L ((V.ref.inj (List.mem_singleton.mp y)).symm.trans z)
        exact ⟨x, f1, us', by rw [upd_ne nx]; exact f2, f3.upd_lst eL4⟩
      · rcases List.mem_append.mp hv with z | z
        · exact hng v z
        · rw [List.mem_singleton.mp z]
          exact fun w => n2L (V.ref.inj w)
      · by_cases hi : i < ls.length
        · rw [List.getElem?_append_left hi] at el'
          exact htold i r' l' er' el'
        · rw [List.getElem?_append_right (by omega)] at el'
          have h0 : i - ls.length < 1 := (List.getElem?_eq_some_iff.mp el').1
          obtain rfl : i = ls.length := by omega
          rw [Nat.sub_self] at el'
          cases el'
          rw [hlj, er] at er'
          cases er'
          refine htl.cong fun n => ?_
          rw [inS_cons]
          exact ⟨fun ⟨z, y⟩ => ⟨z.elim id (fun w => absurd w inS_nil), y⟩, fun ⟨z, y⟩ => ⟨.inl z, y⟩⟩
      · rcases List.mem_append.mp hl' with z | z
        · exact hsz l' z
        · rw [List.mem_singleton.mp z]
          have : [r].length = 1 := rfl
          omega
    · obtain ⟨s1, us, ls, eL, hLR, hlj, hng, htold, hsz⟩ := hP
      rw [lap] at hlj
      have lus : us.length = ap.length := by rw [hLR.1, hlj]
      have t1 := hT.same s1
      have told : ∀ (i : Nat), i < ap.length → ∃ l m, ls[i]? = some l ∧ us[i]? = some (.ref m) ∧ LsA H1 m l := fun i hi => by
        have e : ls[i]? = some (ls[i]'(by omega)) := List.getElem?_eq_getElem _
        obtain ⟨m, f1, f2⟩ := hLR.2 i _ e
        exact ⟨_, m, e, f1, f2⟩
      have hris : ∀ (i : Nat) l, ls[i]? = some l → ∃ lo, Ris lo l := fun i l el => by
        have hi : i < ls.length := (List.getElem?_eq_some_iff.mp el).1
        exact (htold i _ l (List.getElem?_eq_getElem (by omega)) el).ris
      refine ⟨_, rfl, L, us, rfl, .inl (SqL.of eL), (us.length : Int), rfl, by omega, by omega, ?_⟩
      refine ⟨t1, hP, fun H2 c' P' n2 t2 nX eC tG => GX.turns_all2 (walk_range (lo := 0) (n := ((us.length : Int)).toNat)) (fun i => i) us.length (fun i hi => by omega) (fun i j => (bothF (ls.getD j []) (ls.getD i [])).isEmpty) (fun Hx => GX.NoTab H1 Hx ∧ GX.TQ Ms Xs Hx) ⟨n2, t2⟩ (fun _ _ => True.intro) (fun i x Hx Hx' R2 Kn hi iv hy kr => ?_) (fun Hx bb iv hb => ?_)⟩
      · obtain ⟨rfl, rfl⟩ := hy
        have e0 : (0 + (i : Int)).toNat = i := by omega
        have hi' : i < ap.length := by omega
        obtain ⟨li, mi, g1, g2, _⟩ := told i hi'
        refine ⟨rfl, _, rfl, _, rfl, by omega, by omega, ?_⟩
        rw [e0]
        refine kr _ _ _ ⟨_, _, walk_range, fun _ _ => True.intro, iv, fun j y H5 H6 Kt Kn2 hj iv5 hy5 kt => ?_⟩
        obtain ⟨rfl, rfl⟩ := hy5
        obtain ⟨lj, mj, k1, k2, _⟩ := told j (by omega)
        have ej : (0 : Int) + (j : Nat) = ((j : Nat) : Int) := by omega
        have ei : (0 : Int) + (i : Nat) = ((i : Nat) : Int) := by omega
        have eL5 := iv5.1.lst eL
        have lsj : PrA K H6 mj lj := by
          obtain ⟨m, f1, f2⟩ := hLR.2 j lj k1
          rw [k2] at f1; cases f1
          obtain ⟨ws, e1, e2⟩ := f2
          exact ⟨ws, Sq.list (iv5.1.lst e1), e2.1, fun i r er => let ⟨x, h1, h2⟩ := e2.2 i r er; ⟨x, h1, iv5.1.tup h2⟩⟩
        have lsi : PrA K H6 mi li := by
          obtain ⟨m, f1, f2⟩ := hLR.2 i li g1
          rw [g2] at f1; cases f1
          obtain ⟨ws, e1, e2⟩ := f2
          exact ⟨ws, Sq.list (iv5.1.lst e1), e2.1, fun i r er => let ⟨x, h1, h2⟩ := e2.2 i r er; ⟨x, h1, iv5.1.tup h2⟩⟩
        obtain ⟨lo1, r1⟩ := hris j lj k1
        obtain ⟨lo2, r2⟩ := hris i li g1
        have z1 := hsz lj (List.mem_of_getElem? k1)
        have z2 := hsz li (List.mem_of_getElem? g1)
        refine ⟨rfl, _, rfl, _, rfl, L, us, _, .ref mj, rfl, rfl, SqL.of eL5, by rw [ej]; exact atI_nat k2, _, rfl, _, rfl, L, us, _, .ref mi, rfl, rfl, SqL.of eL5, by rw [ei]; exact atI_nat g2, mj, mi, lj, li, rfl, lsj, lsi, ⟨lo1, r1⟩, ⟨lo2, r2⟩, by omega, fun l qs H7 nl hl7 ht7 _ s7 => ?_⟩
        refine ⟨Nat.zero_le _, fun E0' nE => ?_⟩
        have sE := same_upd (o := .lst []) nE
        refine ⟨_, .list [], (hl7.same sE).dp, .lst (SqL.of upd_same) .nil, shaped_prs qs, by rfl, ?_⟩
        rw [eqv_none]
        have eq : qs = bothF (ls.getD j []) (ls.getD i []) := by
          rw [List.getD_eq_getElem?_getD, List.getD_eq_getElem?_getD, k1, g1]
          exact Told.one ht7 ⟨⟨lo1, bothF_ris r1 r2 (.inl (Int.le_refl _))⟩, fun n => bothF_in r1 r2⟩ fun _ => Iff.rfl
        rw [eq]
        exact kt _ ⟨iv5.1.trans (NoTab.same (s7.trans sE)), iv5.2.same (s7.trans sE)⟩
      · refine q Hx bb ((NoTab.same s1).trans iv.1) iv.2 (hb.trans ⟨fun h i j p q' rp rq hij ep eq er1 er2 => ?_, fun h i j hi hj => ?_⟩)
        · have hi : i < ap.length := (List.getElem?_eq_some_iff.mp ep).1
          obtain ⟨li, _, g1, _⟩ := told i hi
          obtain ⟨lj, _, k1, _⟩ := told j (by omega)
          have hb := h i j (by omega) hij
          rw [List.getD_eq_getElem?_getD, List.getD_eq_getElem?_getD, k1, g1, List.isEmpty_iff] at hb
          obtain ⟨lo1, r1⟩ := hris j lj k1
          obtain ⟨lo2, r2⟩ := hris i li g1
          intro n hn
          have m1 := ((htold j rq lj (ers' j q' rq eq er2) k1).same n).mpr ⟨hn.1.1, hn.2⟩
          have m2 := ((htold i rp li (ers' i p rp ep er1) g1).same n).mpr ⟨hn.1.2, hn.2⟩
          have := (bothF_in (n := n) r1 r2).mpr ⟨m1, m2⟩
          have hb : bothF lj li = [] := hb
          rw [hb] at this
          exact inS_nil this
        · have hi' : i < ap.length := by omega
          obtain ⟨li, _, g1, _⟩ := told i hi'
          obtain ⟨lj, _, k1, _⟩ := told j (by omega)
          obtain ⟨lo1, r1⟩ := hris j lj k1
          obtain ⟨lo2, r2⟩ := hris i li g1
          have ep : ap[i]? = some ap[i] := List.getElem?_eq_getElem hi'
          have eq : ap[j]? = some (ap[j]'(by omega)) := List.getElem?_eq_getElem _
          have b1 := hrng _ (List.mem_of_getElem? ep)
          have b2 := hrng _ (List.mem_of_getElem? eq)
          have er1 : rs[(ap[i]).toNat]? = some (rs[(ap[i]).toNat]'(by omega)) := List.getElem?_eq_getElem _
          have er2 : rs[(ap[j]'(by omega)).toNat]? = some (rs[(ap[j]'(by omega)).toNat]'(by omega)) := List.getElem?_eq_getElem _
          have far := h i j _ _ _ _ hj ep eq er1 er2
          rw [List.getD_eq_getElem?_getD, List.getD_eq_getElem?_getD, k1, g1]
          show (bothF lj li).isEmpty = true
          rw [List.isEmpty_iff]
          refine (told_nil (pr := fun n => InS lj n ∧ InS li n) ⟨⟨lo1, bothF_ris r1 r2 (.inl (Int.le_refl _))⟩, fun n => bothF_in r1 r2⟩).mpr fun n hn => far n ?_
          have m1 := ((htold j _ lj (ers' j _ _ eq er2) k1).same n).mp hn.1
          have m2 := ((htold i _ li (ers' i _ _ ep er1) g1).same n).mp hn.2
          exact ⟨⟨m1.1, m2.1⟩, m1.2⟩
theorem ok_SBlind {f : Addr} {fd : FuncData} (F : Fun K "shows_blind" "shows_blind" sSBlind f fd) (C_is_tuple_of : Cal P w K mg base 1 "is_tuple_of" ["thing", "many"] spTupOf) (C_is_number : Cal P w K mg base 1 "is_number" ["thing"] spIsNum) (C_without : Cal P w K mg base 3 "without" ["one", "other"] (spWithout K)) : FnOk P w K mg base CX0 4 f fd ["runs", "gone", "told"] (spSBlind K) := by
  refine F.ok scSBlind (fun vs H Q E h => ?_) (fun cdv A outer s H vs Q E hr h => ?_)
  · obtain ⟨a, b, c0, v, d, rs, gs, rfl, _⟩ := h
    rfl
  · obtain ⟨a, b, c0, v, d, rs, gs, rfl, hA, hB, hv, hsh, hra, hgb, hro, hrg, q⟩ := h
    refine ⟨_, pss_cons (ps_if (PW.pt (pw_or (pt_not (pt_val (pe_own C_is_tuple_of (hr.mono (show 1 ≤ 3 by decide)) (by rfl) (pa_cons (pv 2) (pa_cons pe_int pa_nil))))) (pw_or (pt_cmpR (op_neD hr.units) (pe_ix ix_tup (pv 2) pe_int (fun _ _ => rfl)) pe_str (nomark _)) (pw_or1 (pt_not (pt_val (pe_own C_is_number (hr.mono (show 1 ≤ 3 by decide)) (by rfl) (pa_cons (pe_ix ix_tup (pv 2) pe_int (fun _ _ => rfl)) pa_nil)))))))) (pss_one (ps_ret pe_bl))
        pss_nil)
      (pss_cons (ps_setLc (i := 3) (own := [("run", 4)]) (g := (gName 4)) (tt := tYes) (te := (tCall (spWithout K) [] E0 (tCons (tLst (tCons (tVar 4) tNil)) (tCons (tVar 1) tNil)))) rfl scSBlind.nd rfl rfl (sw_true rfl rfl rfl (by decide +kernel)) (pi_seq (pv 0)) (blkOk_by (own := [("run", 4)]) (N := ["runs", "gone", "told", "left", "run"]) (sc := defScope sSBlind) (by decide +kernel)) (fun _ _ _ _ _ => (pg_name (i := 4) scSBlind.nd rfl (.inl rfl))) (fun _ _ _ _ _ => pts_nil) (fun _ _ _ _ _ => (pe_own C_without hr (by rfl) (pa_cons (pe_lst (pa_cons (pv 4) pa_nil)) (pa_cons (pv 1) pa_nil)))))
      (pss_one (ps_ret (pe_and (pe_cmpR (op_inD (u65 hr)) (pe_lst pa_nil) (pv 3) (by rfl)) (pe_one (pe_cmpR op_eq (pe_ix ix_tup (pv 2) pe_int (fun _ _ => rfl)) (pe_bm PySem.F.plainAttrs_list PySem.F.slot_list_index PySem.F.type_list_index (mt_indexD (u65 hr)) (pv 3) (pa_cons (pe_lst pa_nil) pa_nil)) (nomark _))))))), ?_⟩
    obtain ⟨ua, ea, pa⟩ := id hA
    have hlen : ua.length = rs.length := pa.1
    have qf : blindB rs gs d = false → ∀ H2, Same H H2 → Q (.bl false) H2 := fun e H2 n => by rw [← e]; exact q H2 n
    refine ⟨_, rfl, c0, v, d, 2, rfl, hv, _, rfl, ite2 (fun z => ?_) (fun z => ?_)⟩
    · exact qf (blindB_not (by cases h : tupB d 2 <;> simp [h] at z ⊢)) _ (Same.refl _)
    obtain ⟨t, x, y, dx, dy, rfl, eT0, rfl, hx, hy⟩ := tupB_2 hv (by cases h : tupB d 2 <;> simp [h] at z ⊢)
    refine ⟨_, rfl, t, _, 0, _, rfl, rfl, .inl (.inl eT0), atI_nat (j := 0) rfl, dx, .str "blind", hx.dp, .str _, hsh _ rfl dx (by simp), by decide +kernel, _, rfl, ite2 (fun z => ?_) (fun z => ?_)⟩
    · exact qf (by show (PyData.eqv dx (.str "blind") && _) = false; cases h : PyData.eqv dx (.str "blind") <;> simp [h] at z ⊢) _ (Same.refl _)
    have ew : PyData.eqv dx (.str "blind") = true := by cases h : PyData.eqv dx (.str "blind") <;> simp [h] at z ⊢
    refine ⟨_, rfl, t, _, 1, _, rfl, rfl, .inl (.inl eT0), atI_nat (j := 1) rfl, c0, y, dy, rfl, hy, _, rfl, ite2 (fun z => ?_) (fun z => ?_)⟩
    · exact qf (by show (PyData.eqv dx (.str "blind") && (isNumD dy && _)) = false; rw [ew]; cases h : isNumD dy <;> simp [h] at z ⊢) _ (Same.refl _)
    obtain ⟨kk, rfl, kk0⟩ := isNumD_int (d := dy) (by cases h : isNumD dy <;> simp [h] at z ⊢)
    cases hy
    have eB : blindB rs gs (.tuple [dx, .int kk]) = (match idxB gs rs with | some i => decide (kk = (i : Int)) | none => false) := by
      show (PyData.eqv dx (.str "blind") && (isNumD (.int kk) && _)) = _
      rw [ew, show isNumD (.int kk) = true from decide_eq_true kk0]
      rfl
    refine ⟨_, rfl, a, rfl, iseq_lc ea fun J G wk hG L nL => lc_it wk (fun j H' => Same H H' ∧ ∃ us ls, H' L = some (.lst us) ∧ LR H' us ls ∧ ls.length = j ∧ (∀ v ∈ us, v ≠ .ref L) ∧ (∀ (i : Nat) r l, rs[i]? = some r → ls[i]? = some l → Told (fun n => (r.1 ≤ n ∧ n ≤ r.2) ∧ ¬ InS gs n) l) ∧ ∀ l ∈ ls, l.length ≤ gs.length + 2) ⟨same_upd nL, [], [], upd_same, LR.nil, rfl, (fun _ h => nomatch h), (fun i r l _ e => by simp at e), fun _ h => nomatch h⟩ (fun j H' _ hP => hG H' (NoTab.same hP.1)) (fun j x H'' H' hi hP hy => ?_) (fun H1 hP => ?_)⟩
    · obtain ⟨rfl, hx⟩ := hy
      obtain ⟨sm, us, ls, eL, hLR, hlj, hng, htold, hsz⟩ := hP
      obtain ⟨r, T, er, rfl, eT⟩ := prs_at pa hx
      have hrr := hro r (List.mem_of_getElem? er)
      have hj : j < rs.length := (List.getElem?_eq_some_iff.mp er).1
      refine ⟨rfl, _, rfl, (by show 1 ≤ sizeLine; decide), fun l1 nl1 => ?_⟩
      have sl1 := same_upd (o := .lst [.ref T]) nl1
      have p1 : LsA (upd H' l1 (.lst [.ref T])) l1 [r] := ⟨_, upd_same, Prs.nil.snoc (sl1 _ _ (sm _ _ eT))⟩
      refine ⟨_, rfl, l1, b, [r], gs, rfl, p1.pr, (hB.same (sm.trans sl1)).pr, ⟨r.1, Int.le_refl _, hrr, True.intro⟩, ⟨0, hrg⟩, by show 1 + gs.length ≤ 800; omega, fun l2 l H4 nl2 hl2 htl hzl s4 => ?_⟩
      have eL4 := s4 _ _ (sl1 _ _ eL)
      have n2L : l2 ≠ L := fun z => by rw [z, sl1 _ _ eL] at nl2; cases nl2
      have lus : us.length = j := by rw [hLR.1, hlj]
      refine ⟨_, eL4, small1000 (by omega), fun b' o e => ?_, us ++ [.ref l2], ls ++ [l], upd_same, ?_, by rw [List.length_append, hlj]; rfl, fun v hv => ?_, (fun i r' l' er' el' => ?_), fun l' hl' => ?_⟩
      · rw [upd_ne (ne_of_none e nL)]
        exact s4 _ _ (sl1 _ _ (sm b' o e))
      · have h1 := (hLR.same (sl1.trans s4)).snoc hl2
        refine ⟨h1.1, fun i r' e => ?_⟩
        obtain ⟨x, f1, us', f2, f3⟩ := h1.2 i r' e
        have nx : x ≠ L := fun z => by
          have hm := List.mem_of_getElem? f1
          rcases List.mem_append.mp hm with y | y
          · exact hng _ y (by rw [z])
          · exact n2L ((V.ref.inj (List.mem_singleton.mp y)).symm.trans z)
        exact ⟨x, f1, us', by rw [upd_ne nx]; exact f2, f3.upd_lst eL4⟩
      · rcases List.mem_append.mp hv with z | z
        · exact hng v z
        · rw [List.mem_singleton.mp z]
          exact fun w => n2L (V.ref.inj w)
      · by_cases hi : i < ls.length
        · rw [List.getElem?_append_left hi] at el'
          exact htold i r' l' er' el'
        · rw [List.getElem?_append_right (by omega)] at el'
          have h0 : i - ls.length < 1 := (List.getElem?_eq_some_iff.mp el').1
          obtain rfl : i = ls.length := by omega
          rw [Nat.sub_self] at el'
          cases el'
          rw [hlj, er] at er'
          cases er'
          refine htl.cong fun n => ?_
          rw [inS_cons]
          exact ⟨fun ⟨z, y⟩ => ⟨z.elim id (fun w => absurd w inS_nil), y⟩, fun ⟨z, y⟩ => ⟨.inl z, y⟩⟩
      · rcases List.mem_append.mp hl' with z | z
        · exact hsz l' z
        · rw [List.mem_singleton.mp z]
          have : [r].length = 1 := rfl
          omega
    · obtain ⟨s1, us, ls, eL, hLR, hlj, hng, htold, hsz⟩ := hP
      rw [hlen] at hlj
      have emp : ∀ (i : Nat) r l, rs[i]? = some r → ls[i]? = some l → (l.isEmpty = true ↔ allGB gs r = true) := fun i r l er el => by
        rw [List.isEmpty_iff, told_nil (htold i r l er el), allGB_iff]
        refine ⟨fun h n h1 h2 => ?_, fun h n ⟨⟨h1, h2⟩, h3⟩ => h3 (h n h1 h2)⟩
        exact Classical.byContradiction fun z => h n ⟨⟨h1, h2⟩, z⟩
      refine ⟨Nat.zero_le _, fun E0' nE => ?_⟩
      have sE := same_upd (o := .lst []) nE
      have dpL : ∀ {H' : Hp}, Same H1 H' → Dp K H' (.ref L) (.list (ls.map setD')) := fun s' => .lst (SqL.of (s' _ _ eL)) (dp_sets (hLR.same s'))
      refine ⟨_, rfl, .list [], ls.map setD', .lst (SqL.of upd_same) .nil, dpL sE, by rfl, shaped_sets ls, ?_⟩
      have ea' : ((ls.map setD').any fun z => PyData.eqv z (.list [])) = ls.any List.isEmpty := by
        rw [List.any_map]
        congr 1
        funext l
        exact eqv_set l
      rw [ea']
      cases hidx : idxB gs rs with
      | none =>
        have e0 : ls.any List.isEmpty = false := by
          rw [List.any_eq_false]
          intro l hl
          obtain ⟨j, hj, rfl⟩ := List.getElem_of_mem hl
          have jr : j < rs.length := by omega
          have h1 := idxB_none hidx _ (List.getElem_mem jr)
          have h2 := emp j _ _ (List.getElem?_eq_getElem jr) (List.getElem?_eq_getElem hj)
          intro z
          rw [h2.mp z] at h1
          cases h1
        rw [e0]
        exact ⟨_, rfl, iteF (qf (by rw [eB, hidx]) _ (s1.trans sE))⟩
      | some i0 =>
      obtain ⟨r0, er0, hg0, hf0⟩ := idxB_some hidx
      have il : i0 < rs.length := (List.getElem?_eq_some_iff.mp er0).1
      have jl : i0 < ls.length := by omega
      have je : ls[i0].isEmpty = true := (emp i0 _ _ er0 (List.getElem?_eq_getElem jl)).mpr hg0
      rw [show ls.any List.isEmpty = true from List.any_eq_true.mpr ⟨_, List.getElem_mem jl, je⟩]
      have eT1 := (s1.trans sE) _ _ eT0
      refine ⟨_, rfl, iteT ⟨_, rfl, t, _, 1, _, rfl, rfl, .inl (.inl eT1), atI_nat (j := 1) rfl, ?_⟩⟩
      refine ⟨_, rfl, .inl ⟨rfl, _, SqL.of (sE _ _ eL)⟩, Nat.zero_le _, fun E1 nE1 => ?_⟩
      have sE1 := same_upd (o := .lst []) nE1
      refine ⟨L, .ref E1, .list [], ls.map setD', i0, setD' ls[i0], rfl, rfl, dpL (sE.trans sE1), .lst (SqL.of upd_same) .nil, shaped_sets ls, by rfl, by rw [List.getElem?_map, List.getElem?_eq_getElem jl]; rfl, by rw [eqv_set]; exact je, fun m z hm hz => ?_, rfl, ?_⟩
      · rw [List.getElem?_map] at hz
        cases hl : ls[m]? with
        | none => rw [hl] at hz; cases hz
        | some l =>
          rw [hl] at hz
          cases hz
          rw [eqv_set]
          have ml : m < rs.length := by omega
          have h1 := hf0 m _ hm (List.getElem?_eq_getElem ml)
          have h2 := emp m _ _ (List.getElem?_eq_getElem ml) hl
          rw [h1] at h2
          cases c : l.isEmpty with
          | false => rfl
          | true => exact absurd (h2.mp c) Bool.false_ne_true
      · have := q _ ((s1.trans sE).trans sE1)
        rw [eB, hidx] at this
        have e9 : decide (V.int kk = V.int (i0 : Int)) = decide (kk = (i0 : Int)) := by simp
        rw [e9]
        exact this
end
/-- no two share what is left -/
def apartB (rs gs : List (Int × Int)) (ap : List Int) : Bool := (List.range ap.length).all fun i => (List.range i).all fun j => !(shareB (leftR gs (rs.getD (ap.getD i 0).toNat (0, 0))) (leftR gs (rs.getD (ap.getD j 0).toNat (0, 0))))
theorem far_share {gs : List (Int × Int)} {lo : Int} (h : Ris lo gs) {r q : Int × Int} : FarR gs r q ↔ shareB (leftR gs q) (leftR gs r) = false := by
  constructor
  · intro f
    cases c : shareB (leftR gs q) (leftR gs r) with
    | false => rfl
    | true =>
      obtain ⟨z, z1, z2⟩ := (shareB_iff (leftF_ok _ _ _) (leftF_ok _ _ _)).mp c
      have w1 := (leftF_in (hi := q.2) (n := z) (num := q.1) h).mp z1
      have w2 := (leftF_in (hi := r.2) (n := z) (num := r.1) h).mp z2
      exact absurd ⟨⟨w2.1, w1.1⟩, w1.2⟩ (f z)
  · intro c n hn
    have : shareB (leftR gs q) (leftR gs r) = true := (shareB_iff (leftF_ok _ _ _) (leftF_ok _ _ _)).mpr ⟨n, (leftF_in (hi := q.2) (n := n) (num := q.1) h).mpr ⟨hn.1.2, hn.2⟩, (leftF_in (hi := r.2) (n := n) (num := r.1) h).mpr ⟨hn.1.1, hn.2⟩⟩
    rw [this] at c
    cases c
theorem apartB_iff {rs gs : List (Int × Int)} {ap : List Int} (h : Ris 0 gs) (hr : ∀ p ∈ ap, 0 ≤ p ∧ p < (rs.length : Int)) : apartB rs gs ap = true ↔ ∀ (i j : Nat) p q rp rq, j < i → ap[i]? = some p → ap[j]? = some q → rs[p.toNat]? = some rp → rs[q.toNat]? = some rq → FarR gs rq rp := by
  unfold apartB
  rw [List.all_eq_true]
  constructor
  · intro k i j p q rp rq hij ep eq e1 e2
    have k1 := k i (List.mem_range.mpr (List.getElem?_eq_some_iff.mp ep).1)
    rw [List.all_eq_true] at k1
    have k2 := k1 j (List.mem_range.mpr hij)
    rw [List.getD_eq_getElem?_getD, List.getD_eq_getElem?_getD, List.getD_eq_getElem?_getD, List.getD_eq_getElem?_getD, ep, eq] at k2
    simp only [Option.getD_some] at k2
    rw [e1, e2] at k2
    exact (far_share h).mpr (by simpa using k2)
  · intro k i hi
    rw [List.all_eq_true]
    intro j hj
    have hi := List.mem_range.mp hi
    have hj := List.mem_range.mp hj
    have b1 := hr _ (List.getElem_mem hi)
    have b2 := hr _ (List.getElem_mem (show j < ap.length by omega))
    have ep : ap[i]? = some ap[i] := List.getElem?_eq_getElem hi
    have eq : ap[j]? = some (ap[j]'(by omega)) := List.getElem?_eq_getElem _
    have e1 : rs[(ap[i]).toNat]? = some (rs[(ap[i]).toNat]'(by omega)) := List.getElem?_eq_getElem _
    have e2 : rs[(ap[j]'(by omega)).toNat]? = some (rs[(ap[j]'(by omega)).toNat]'(by omega)) := List.getElem?_eq_getElem _
    have f := (far_share h).mp (k i j _ _ _ _ hj ep eq e1 e2)
    rw [List.getD_eq_getElem?_getD, List.getD_eq_getElem?_getD, List.getD_eq_getElem?_getD, List.getD_eq_getElem?_getD, ep, eq]
    simp only [Option.getD_some]
    rw [e1, e2]
    simp [f]
/-- what is left to ask of numbers and places told -/
def fewR (rs gs : List (Int × Int)) (ns ap : List Int) : Bool := incB ns && ((incB ap && ap.all (fun x => decide (x < (rs.length : Int)))) && (decide (ns.length = ap.length) && (!(ns.any (goneB gs)) && (hitB rs ns && apartB rs gs ap))))
def fewB (rs gs : List (Int × Int)) : PyData → Bool
  | .tuple [w, n, a] => PyData.eqv w (.str "samples") && (match numsOf n, numsOf a with
    | some ns, some ap => fewR rs gs ns ap
    | _, _ => false)
  | _ => false
structure PsS (Ms : GX.Mq) (Pn Pr Pb Pe Pa Pi Pf : Addr) : Prop where
  n : Pn ∈ Ms
  r : Pr ∈ Ms
  b : Pb ∈ Ms
  e : Pe ∈ Ms
  a : Pa ∈ Ms
  i : Pi ∈ Ms
  f : Pf ∈ Ms
def spSFew (K : PySem.W.Frag) (Ms : GX.Mq) (Xs : List Addr) (Pn Pr Pb Pe Pa Pi Pf : Addr) : Sp := fun vs H Q _ => ∃ (a b : Addr) (c : List Addr) (v : V) (d : PyData) (rs gs : List (Int × Int)), vs = [.ref a, .ref b, v] ∧ LsQ H a rs ∧ LsQ H b gs ∧ Thg c H v d ∧ ShP d ∧ rs.length ≤ 700 ∧ gs.length ≤ 100 ∧ (∀ r ∈ rs, r.1 ≤ r.2) ∧ Ris 0 gs ∧ GX.TQ Ms Xs H ∧ PsS Ms Pn Pr Pb Pe Pa Pi Pf ∧
  ∀ H2, GX.NoTab H H2 → GX.TQ Ms Xs H2 → Q (.bl (fewB rs gs d)) H2
def spShows (K : PySem.W.Frag) (Ms : GX.Mq) (Xs : List Addr) (Pn Pr Pb Pe Pa Pi Pf : Addr) : Sp := fun vs H Q _ => ∃ (a b : Addr) (c : List Addr) (v : V) (d : PyData) (rs gs : List (Int × Int)), vs = [.ref a, .ref b, v] ∧ LsQ H a rs ∧ LsQ H b gs ∧ Thg c H v d ∧ ShP d ∧ rs.length ≤ 700 ∧ gs.length ≤ 100 ∧ (∀ r ∈ rs, r.1 ≤ r.2) ∧ Ris 0 gs ∧ GX.TQ Ms Xs H ∧ PsS Ms Pn Pr Pb Pe Pa Pi Pf ∧
  ∀ H2, GX.NoTab H H2 → GX.TQ Ms Xs H2 → Q (.bl (blindB rs gs d || fewB rs gs d)) H2
theorem tupB_3 {c : List Addr} {H : Hp} {v : V} {d : PyData} (h : Thg c H v d) (e : tupB d 3 = true) : ∃ t x y z dx dy dz, v = .ref t ∧ H t = some (.tup [x, y, z]) ∧ d = .tuple [dx, dy, dz] ∧ Thg c H x dx ∧ Thg c H y dy ∧ Thg c H z dz := by
  cases h with
  | tup et l k =>
    rename_i a xs ds
    have e : decide ((ds.length : Int) = 3) = true := e
    have hl : ds.length = 3 := by have := of_decide_eq_true e; omega
    match ds, xs, hl, l with
    | [dx, dy, dz], [x, y, z], _, _ => exact ⟨_, x, y, z, dx, dy, dz, rfl, et, rfl, k 0 _ _ rfl rfl, k 1 _ _ rfl rfl, k 2 _ _ rfl rfl⟩
    | [dx, dy, dz], [], _, l => cases l
    | [dx, dy, dz], [_], _, l => cases l
    | [dx, dy, dz], [_, _], _, l => cases l
    | [dx, dy, dz], _ :: _ :: _ :: _ :: _, _, l => simp at l
  | lst et n l k => cases e
  | non => cases e
  | bl b => cases e
  | int i => cases e
  | str x => cases e
theorem fewB_not {rs gs : List (Int × Int)} {d : PyData} (h : tupB d 3 = false) : fewB rs gs d = false := by
  unfold fewB
  split
  · exact absurd h (by unfold tupB; simp)
  · rfl
theorem fewB_x {rs gs : List (Int × Int)} {dx dy dz : PyData} (h : PyData.eqv dx (.str "samples") = false) : fewB rs gs (.tuple [dx, dy, dz]) = false := by
  show (PyData.eqv dx (.str "samples") && _) = false
  rw [h]; rfl
theorem fewB_y {rs gs : List (Int × Int)} {dx dy dz : PyData} (h : numsOf dy = none) : fewB rs gs (.tuple [dx, dy, dz]) = false := by
  unfold fewB
  simp only [h]
  exact Bool.and_false _
theorem fewB_z {rs gs : List (Int × Int)} {dx dy dz : PyData} (h : numsOf dz = none) : fewB rs gs (.tuple [dx, dy, dz]) = false := by
  unfold fewB
  simp only [h]
  cases numsOf dy <;> exact Bool.and_false _
theorem fewB_3 {rs gs : List (Int × Int)} {dx dy dz : PyData} {ns ap : List Int} (h : PyData.eqv dx (.str "samples") = true) (hy : numsOf dy = some ns) (hz : numsOf dz = some ap) : fewB rs gs (.tuple [dx, dy, dz]) = fewR rs gs ns ap := by
  unfold fewB
  simp only [hy, hz, h, Bool.true_and]
abbrev sSFew : Stmt := topS 17
theorem scSFew : FnScope ["runs", "gone", "told", "numbers", "apart", "number"] ["runs", "gone", "told"] (defScope sSFew) := ⟨rfl, rfl, rfl, by decide +kernel, rfl, by decide +kernel, by decide +kernel⟩
abbrev sShows : Stmt := topS 18
theorem scShows : FnScope ["runs", "gone", "told"] ["runs", "gone", "told"] (defScope sShows) := ⟨rfl, rfl, rfl, by decide +kernel, rfl, by decide +kernel, by decide +kernel⟩
section
variable {K : PySem.W.Frag} {mg : Str → Option Value} {P : Program} {w : World} {base : Heap} {Pn Pr Pb Pe Pa Pi Pf : Addr}
theorem ok_SFew {Ms : GX.Mq} {Xs : List Addr} {f c Pf : Addr} {oc kV doc pm ct : Value} {od an : Option Addr} {osl : Array (Option Value)} (lk : K.lookup f = some ⟨oc, od, .func (PySem.W.fnOf "shows_fewest" "shows_fewest" (defArgs sSFew) (defBody sSFew) (defScope sSFew) .none kV doc pm an (.ref c) ct), osl⟩) (hcd : PySem.W.codeIn K (.ref c) "shows_fewest" = true) (TG : GxR.TabB base mg c Pf) (C_is_tuple_of : Cal P w K mg base 1 "is_tuple_of" ["thing", "many"] spTupOf) (C_are_rising : Cal P w K mg base 6 "are_rising" ["thing"] (spRising K Ms Xs Pn Pr)) (C_are_rising_below : Cal P w K mg base 7 "are_rising_below" ["thing", "many"] (spBelow K Ms Xs Pn Pr Pb)) (C_is_in : Cal P w K mg base 4 "is_in" ["some", "number"] (spIsIn K Ms Xs Pi)) (C_each_has_one : Cal P w K mg base 8 "each_has_one" ["runs", "numbers"] (spEach K Ms Xs Pe)) (C_are_apart : Cal P w K mg base 5 "are_apart" ["runs", "gone", "apart"] (spApart K Ms Xs Pa)) (m_len : mg "len" = none) (m_any : mg "any" = none) : FnOk P w K mg base CX0 9 f (PySem.W.fnOf "shows_fewest" "shows_fewest" (defArgs sSFew) (defBody sSFew) (defScope sSFew) .none kV doc pm an (.ref c) ct) ["runs", "gone", "told"] (spSFew K Ms Xs Pn Pr Pb Pe Pa Pi Pf) := by
  refine fn_of lk hcd scSFew (fun vs H Q E h => ?_) (fun A outer s H vs Q E hr h => ?_)
  · obtain ⟨a, b, c0, v, d, rs, gs, rfl, _⟩ := h
    rfl
  · obtain ⟨a, b, c0, v, d, rs, gs, rfl, hA, hB, hv, hsh, hra, hgb, hro, hrg, hT, hM, q⟩ := h
    refine ⟨_, PSs.nox (pss_cons (ps_if (PW.pt (pw_or (pt_not (pt_val (pe_own C_is_tuple_of (hr.mono (show 1 ≤ 8 by decide)) (by rfl) (pa_cons (pv 2) (pa_cons pe_int pa_nil))))) (pw_or1 (pt_cmpR (op_neD hr.units) (pe_ix ix_tup (pv 2) pe_int (fun _ _ => rfl)) pe_str (nomark _))))) (pss_one (ps_ret pe_bl))
        pss_nil)
      (pss_cons (ps_par rfl scSFew.nd (i := 3) (j := 4) rfl rfl (by decide) rfl rfl (pa_cons (pe_ix ix_tup (pv 2) pe_int (fun _ _ => rfl)) (pa_cons (pe_ix ix_tup (pv 2) pe_int (fun _ _ => rfl)) pa_nil)) (by rfl))
      (pss_cons (ps_if (PW.pt (pw_or (pt_not (pt_val (pe_own C_are_rising (hr.mono (show 6 ≤ 8 by decide)) (by rfl) (pa_cons (pv 3) pa_nil)))) (pw_or (pt_not (pt_val (pe_own C_are_rising_below (hr.mono (show 7 ≤ 8 by decide)) (by rfl) (pa_cons (pv 4) (pa_cons (pe_callB call_len_seq (by rfl) m_len PySem.boot_len (pa_cons (pv 0) pa_nil)) pa_nil))))) (pw_or1 (pt_cmpR op_ne (pe_callB call_len_seq (by rfl) m_len PySem.boot_len (pa_cons (pv 3) pa_nil)) (pe_callB call_len_seq (by rfl) m_len PySem.boot_len (pa_cons (pv 4) pa_nil)) (nomark _)))))) (pss_one (ps_ret pe_bl))
        pss_nil)
      (pss_cons (ps_if (PW.pt (pw_or (pt_val (GX.pe_anyX (k := 5) (own := [("number", 5)]) (te := fun code1 => (tCall (spIsIn K Ms Xs Pi) [] E0 (tCons (tVar 1) (tCons (tVar 5) tNil)))) (g' := (gName 5)) (tt := tYes) hr scSFew.nd (by rfl) m_any TG.bm (pi_seq (pv 3)) (GX.pc_own (Ms := Ms) (Xs := Xs) TG rfl) (GX.gok_by (own := [("number", 5)]) (N := ["runs", "gone", "told", "numbers", "apart", "number"]) (sc := defScope sSFew) (by decide +kernel)) (fun _ _ _ _ _ r1 gd1 => (pg_name (i := 5) scSFew.nd rfl (.inl rfl))) (fun _ _ _ _ _ r1 gd1 => pts_nil) (fun _ _ _ code1 _ r1 gd1 => (pe_own C_is_in (r1.mono (show 4 ≤ 5 by decide)) (by rfl) (pa_cons (pv 1) (pa_cons (pv 5) pa_nil)))))) (pw_or1 (pt_not (pt_val (pe_own C_each_has_one hr (by rfl) (pa_cons (pv 0) (pa_cons (pv 3) pa_nil)))))))) (pss_one (ps_ret pe_bl))
        pss_nil)
      (pss_one (ps_ret (pe_own C_are_apart (hr.mono (show 5 ≤ 8 by decide)) (by rfl) (pa_cons (pv 0) (pa_cons (pv 1) (pa_cons (pv 4) pa_nil)))))))))), ?_⟩
    have qf : fewB rs gs d = false → ∀ H2, GX.NoTab H H2 → GX.TQ Ms Xs H2 → Q (.bl false) H2 := fun e H2 n t => by rw [← e]; exact q H2 n t
    have nn : GX.NoTab H H := NoTab.same (Same.refl _)
    obtain ⟨us, eA, pr⟩ := id hA
    have lus : us.length = rs.length := pr.1
    refine ⟨_, rfl, c0, v, d, 3, rfl, hv, _, rfl, ite2 (fun z => ?_) (fun z => ?_)⟩
    · exact qf (fewB_not (by cases h : tupB d 3 <;> simp [h] at z ⊢)) _ nn hT
    obtain ⟨t, x, y, u, dx, dy, dz, rfl, et, rfl, hx, hy, hz⟩ := tupB_3 hv (by cases h : tupB d 3 <;> simp [h] at z ⊢)
    refine ⟨_, rfl, t, _, 0, _, rfl, rfl, .inl (.inl et), atI_nat (j := 0) rfl, dx, .str "samples", hx.dp, .str _, hsh _ rfl dx (by simp), by decide +kernel, _, rfl, ite2 (fun z => ?_) (fun z => ?_)⟩
    · exact qf (fewB_x (by cases h : PyData.eqv dx (.str "samples") <;> simp [h] at z ⊢)) _ nn hT
    have ew : PyData.eqv dx (.str "samples") = true := by cases h : PyData.eqv dx (.str "samples") <;> simp [h] at z ⊢
    refine ⟨_, rfl, t, _, 1, _, rfl, rfl, .inl (.inl et), atI_nat (j := 1) rfl, _, rfl, t, _, 2, _, rfl, rfl, .inl (.inl et), atI_nat (j := 2) rfl, _, _, rfl, ?_⟩
    refine ⟨_, rfl, c0, y, dy, rfl, hy, hT, hM.n, hM.r, fun H1 n1 t1 => ⟨_, rfl, ?_⟩⟩
    cases hny : numsOf dy with
    | none =>
      have e : risB dy = false := by unfold risB; rw [hny]
      rw [e]
      exact iteT (qf (fewB_y hny) _ n1 t1)
    | some ns =>
    obtain ⟨N, rfl, hN, hN0⟩ := nums_of hy hny
    have e : risB dy = incB ns := by unfold risB; rw [hny]
    rw [e]
    have qz : ∀ (ap : List Int), numsOf dz = some ap → fewR rs gs ns ap = false → ∀ H2, GX.NoTab H H2 → GX.TQ Ms Xs H2 → Q (.bl false) H2 := fun ap e1 e2 => qf (by rw [fewB_3 ew hny e1, e2])
    have qn : (∀ ap, numsOf dz = some ap → fewR rs gs ns ap = false) → ∀ H2, GX.NoTab H H2 → GX.TQ Ms Xs H2 → Q (.bl false) H2 := fun k => by
      cases hnz : numsOf dz with
      | none => exact qf (fewB_z hnz)
      | some ap => exact qz ap hnz (k ap hnz)
    cases hinc : incB ns with
    | false => exact iteT (qn (fun ap _ => by unfold fewR; rw [hinc]; rfl) _ n1 t1)
    | true =>
    refine iteF ⟨_, rfl, _, rfl, a, us, rfl, (eA.noTab n1).lq, c0, u, dz, _, rfl, hz.noTab n1, t1, hM.n, hM.r, hM.b, fun H2 n2 t2 => ⟨_, rfl, ?_⟩⟩
    have n12 := n1.trans n2
    rw [lus]
    cases hnz : numsOf dz with
    | none =>
      have e : belB dz (rs.length : Int) = false := by unfold belB; rw [hnz]
      rw [e]
      exact iteT (qf (fewB_z hnz) _ n12 t2)
    | some ap =>
    obtain ⟨A2, rfl, hP, hP0⟩ := nums_of hz hnz
    have e : belB dz (rs.length : Int) = (incB ap && ap.all (fun x => decide (x < (rs.length : Int)))) := by unfold belB; rw [hnz]
    rw [e]
    have qk := qz ap hnz
    cases hbel : (incB ap && ap.all (fun x => decide (x < (rs.length : Int)))) with
    | false => exact iteT (qk (by unfold fewR; rw [hbel]; simp) _ n12 t2)
    | true =>
    refine iteF ⟨_, rfl, N, _, rfl, (hN.noTab n12).lq, _, rfl, A2, _, rfl, (hP.noTab n12).lq, rfl, _, rfl, ?_⟩
    rw [List.length_map, List.length_map]
    refine ite2 (fun z => ?_) (fun z => ?_)
    · refine qk ?_ _ n12 t2
      by_cases e : ns.length = ap.length
      · simp [e] at z
      · unfold fewR; rw [decide_eq_false e]; simp
    have hlen : ns.length = ap.length := by
      by_cases e : ns.length = ap.length
      · exact e
      · simp [e] at z; omega
    obtain ⟨hai, haa⟩ := Bool.and_eq_true_iff.mp hbel
    have hrng : ∀ p ∈ ap, 0 ≤ p ∧ p < (rs.length : Int) := fun p hp => ⟨hP0 p hp, of_decide_eq_true (List.all_eq_true.mp haa p hp)⟩
    have hap : ap.length ≤ 700 := by
      have e : ((List.range rs.length).map fun k : Nat => (k : Int)).length = rs.length := by rw [List.length_map, List.length_range]
      refine Nat.le_trans (?_ : ap.length ≤ rs.length) hra
      rw [← e]
      refine nodup_len (List.Pairwise.imp (fun h => Int.ne_of_lt h) (of_decide_eq_true hai : ap.Pairwise (· < ·))) fun x hx => ?_
      have := hrng x hx
      exact List.mem_map.mpr ⟨x.toNat, List.mem_range.mpr (by omega), by omega⟩
    refine ⟨_, rfl, N, rfl, iseq_gx (hN.noTab n12) fun J G wk hG => ⟨t2, hM.f, fun H3 c' P' n3 t3 nX eC tG => GX.turns_any wk (fun i => goneB gs (ns.getD i 0)) (fun Hx => GX.NoTab H2 Hx ∧ GX.TQ Ms Xs Hx) ⟨n3, t3⟩ (fun Hx iv => hG Hx iv.1) (fun i x Hx Hx' Kt Kn hi iv hy kt _ => ?_) (fun H4 bb iv hb => ?_)⟩⟩
    · obtain ⟨rfl, hx⟩ := hy
      rw [List.getElem?_map] at hx
      obtain ⟨e, ee, rfl⟩ := Option.map_eq_some_iff.mp hx
      rw [List.getD_eq_getElem?_getD, ee] at kt
      exact ⟨rfl, _, rfl, _, rfl, b, gs, e, rfl, hB.noTab (n12.trans iv.1), iv.2, hM.i, fun H5 n5 t5 => kt _ ⟨iv.1.trans n5, t5⟩⟩
    have n4 := n12.trans iv.1
    have eb : bb = ns.any (goneB gs) := by
      rw [Bool.eq_iff_iff, hb, List.any_eq_true]
      constructor
      · rintro ⟨i, hi, k⟩
        have hi : i < ns.length := by rw [List.length_map] at hi; exact hi
        rw [List.getD_eq_getElem?_getD, List.getElem?_eq_getElem hi] at k
        exact ⟨_, List.getElem_mem hi, k⟩
      · rintro ⟨e, he, k⟩
        obtain ⟨i, hi, rfl⟩ := List.getElem_of_mem he
        exact ⟨i, by rw [List.length_map]; exact hi, by rw [List.getD_eq_getElem?_getD, List.getElem?_eq_getElem hi]; exact k⟩
    rw [eb]
    refine ⟨_, rfl, ?_⟩
    cases hgone : ns.any (goneB gs) with
    | true => exact iteT (qk (by unfold fewR; rw [hgone]; simp) _ n4 iv.2)
    | false =>
    refine iteF ⟨_, rfl, _, rfl, a, N, rs, ns, rfl, hA.noTab n4, hN.noTab n4, iv.2, hM.e, fun H5 n5 t5 => ⟨_, rfl, ?_⟩⟩
    have n05 := n4.trans n5
    cases hhit : hitB rs ns with
    | false => exact iteT (qk (by unfold fewR; rw [hhit]; simp) _ n05 t5)
    | true =>
    refine iteF ⟨_, rfl, _, rfl, _, rfl, a, b, A2, rs, gs, ap, rfl, hA.noTab n05, hB.noTab n05, hP.noTab n05, hra, hgb, hap, hro, hrg, hrng, t5, hM.a, fun H6 bb n6 t6 hbb => ?_⟩
    have e1 : bb = fewB rs gs (.tuple [dx, dy, dz]) := by
      rw [fewB_3 ew hny hnz, Bool.eq_iff_iff, hbb, ← apartB_iff hrg hrng]
      unfold fewR
      rw [hinc, hbel, hlen, hgone, hhit]
      simp
    rw [e1]
    exact q H6 (n05.trans n6) t6
theorem ok_Shows {f : Addr} {fd : FuncData} (F : Fun K "shows_samples" "shows_samples" sShows f fd) (C_shows_blind : Cal P w K mg base 4 "shows_blind" ["runs", "gone", "told"] (spSBlind K)) (C_shows_fewest : Cal P w K mg base 9 "shows_fewest" ["runs", "gone", "told"] (spSFew K Ms Xs Pn Pr Pb Pe Pa Pi Pf)) : FnOk P w K mg base CX0 10 f fd ["runs", "gone", "told"] (spShows K Ms Xs Pn Pr Pb Pe Pa Pi Pf) := by
  refine F.ok scShows (fun vs H Q E h => ?_) (fun cdv A outer s H vs Q E hr h => ?_)
  · obtain ⟨a, b, c0, v, d, rs, gs, rfl, _⟩ := h
    rfl
  · obtain ⟨a, b, c0, v, d, rs, gs, rfl, hA, hB, hv, hsh, hra, hgb, hro, hrg, hT, hM, q⟩ := h
    refine ⟨_, pss_one (ps_ret (pe_or (pe_own C_shows_blind (hr.mono (show 4 ≤ 9 by decide)) (by rfl) (pa_cons (pv 0) (pa_cons (pv 1) (pa_cons (pv 2) pa_nil)))) (pe_one (pe_own C_shows_fewest hr (by rfl) (pa_cons (pv 0) (pa_cons (pv 1) (pa_cons (pv 2) pa_nil))))))), ?_⟩
    refine ⟨_, rfl, _, rfl, _, rfl, a, b, c0, v, d, rs, gs, rfl, hA, hB, hv, hsh, hra, hgb, hro, hrg, fun H2 s2 => ⟨_, rfl, ?_⟩⟩
    cases hbl : blindB rs gs d with
    | true =>
      rw [hbl] at q
      exact iteT (q H2 (NoTab.same s2) (hT.same s2))
    | false =>
      rw [hbl] at q
      exact iteF ⟨_, rfl, _, rfl, _, rfl, a, b, c0, v, d, rs, gs, rfl, hA.same s2, hB.same s2, hv.same s2, hsh, hra, hgb, hro, hrg, hT.same s2, hM, fun H3 n3 t3 => q H3 ((NoTab.same s2).trans n3) t3⟩
end

/-! ### weights of rows -/
theorem weightAll_eq : ∀ ds : List PyData, PyData.weightAll ds = (ds.map fun d => d.weight + 1).sum
  | [] => by simp [PyData.weightAll]
  | d :: r => by simp [PyData.weightAll, weightAll_eq r]
theorem weight_row {d : PyData} {ds : List PyData} (e : rowOf d = some ds) : d.weight = PyData.weightAll ds := by
  cases d <;> first | cases e | skip
  · simp only [PyData.weight]
  · simp only [PyData.weight]
theorem len_weight {ds : List PyData} : ds.length ≤ PyData.weightAll ds := by
  induction ds with
  | nil => exact Nat.zero_le _
  | cons d r ih => simp only [PyData.weightAll, List.length_cons]; omega

/-! ### comprehensions by what they make, at each place -/
theorem lc_mapW {α : Type} (k : α → V) (f : Nat → α) {J : It} {n : Nat} {G : Hp → Prop} {Y : Nat → Hp → V → Hp → Prop} (w : Walk J n G Y) {g : TG} {tt : TT} {te : TE} {vs : List Nat} {σ : L2.St} {H1 : Hp} {D : Addr} {Qd : Hp → Prop} (nD : H1 D = none) (hz : n < sizeLine) (hG : ∀ H, Same H1 H → G H)
    (turn : ∀ i x H H' (Kt : V → Hp → Prop) (Kn : Hp → Prop), i < n → Same H1 H → Y i H x H' → (∀ H4, Same H H4 → Kt (k (f i)) H4) → g x (wipe σ vs) H' fun σ2 H2 => wipe σ2 vs = wipe σ vs ∧ tt σ2 H2 fun b H3 => if b = true then te σ2 H3 Kt else Kn H3)
    (fin : ∀ H, Same H1 H → H D = some (.lst (((List.range n).map f).map k)) → Qd H) : LcW J g tt te vs σ D Qd H1 := by
  refine lc_it w (fun j H => Same H1 H ∧ H D = some (.lst (((List.range j).map f).map k))) ⟨same_upd nD, upd_same⟩ (fun i H _ p => hG H p.1) (fun i x H H' hi hP hy => ?_) (fun H hP => fin H hP.1 hP.2)
  obtain ⟨sm, eD⟩ := hP
  refine turn i x H H' _ _ hi sm hy fun H4 s4 => ⟨_, s4 _ _ eD, by rw [List.length_map, List.length_map, List.length_range]; omega, fun b o e => ?_, ?_⟩
  · rw [upd_ne (ne_of_none e nD)]
    exact s4 _ _ (sm b o e)
  · rw [upd_same, List.range_succ, List.map_append, List.map_append]
    rfl
/-- a row beside itself from its second on -/
theorem zipq_tail {K : PySem.W.Frag} {H : Hp} {a : Addr} {xs : List V} {σ : L2.St} {i : Nat} {R : It → Hp → Prop} (ei : σ[i]? = some (some (.ref a))) (ha : SqH H a xs)
    (r : ∀ J G H0, Same H H0 → Walk J (xs.length - 1) G (YPair (fun i => xs[i]?) (fun i => (xs.drop 1)[i]?)) → (∀ H', GX.NoTab H0 H' → G H') → R J H0) : iZipQ K (tCons (tVar i) (tCons (tSl (rSlQ K) (tVar i) (tPart (tC (.int 1))) tNoPart) tNil)) σ H R := by
  have ld : (xs.drop 1).length = xs.length - 1 := by rw [List.length_drop]
  refine .inl ⟨_, ei, _, ei, _, rfl, rSlQ.tail ha fun p H0 s0 c => ?_⟩
  rcases c with ⟨e1, e2⟩ | ⟨e1, e2⟩
  · have e1' := s0 _ _ e1
    exact ⟨a, p, _, _, rfl, .inl ⟨SqL.of e1', SqL.of e2, r _ _ H0 s0 (walk_zip (by rw [ld]; omega)) fun H' n => ⟨SqL.of (n.lst e1'), SqL.of (n.lst e2)⟩⟩⟩
  · have e1' := s0 _ _ e1
    exact ⟨a, p, _, _, rfl, .inr ⟨.inl (.inl e1'), .inl (.inl e2), r _ _ H0 s0 (walk_zipTn (by rw [ld]; omega)) fun H' n => ⟨.inl (.inl (n.tup e1')), .inl (.inl (n.tup e2))⟩⟩⟩
theorem zipq_keep {K : PySem.W.Frag} {H : Hp} {a b : Addr} {xs ys : List V} {σ : L2.St} {i j : Nat} {R : It → Hp → Prop} (ei : σ[i]? = some (some (.ref a))) (ej : σ[j]? = some (some (.ref b))) (ha : SqH H a xs) (hb : SqH H b ys) (hl : xs.length = ys.length)
    (r : ∀ J G, Walk J xs.length G (YPair (fun i => xs[i]?) (fun i => ys[i]?)) → (∀ H', (∀ o, H a = some o → H' a = some o) → (∀ o, H b = some o → H' b = some o) → G H') → R J H) : iZipQ K (tCons (tVar i) (tCons (tVar j) tNil)) σ H R := by
  rcases ha with e | e <;> rcases hb with e2 | e2
  · exact .inl ⟨_, ei, _, ej, a, b, xs, ys, rfl, .inl ⟨SqL.of e, SqL.of e2, r _ _ (walk_zip (by omega)) fun H' n m => ⟨SqL.of (n _ e), SqL.of (m _ e2)⟩⟩⟩
  · exact .inr (.inl ⟨_, ei, _, ej, a, b, xs, ys, rfl, .inr ⟨SqL.of e, .inl (.inl e2), r _ _ (walk_zipM hl) fun H' n m => ⟨SqL.of (n _ e), .inl (.inl (m _ e2))⟩⟩⟩)
  · exact .inr (.inr ⟨_, ei, _, ej, a, b, xs, ys, rfl, .inl (.inl e), SqL.of e2, r _ _ (walk_zipN hl) fun H' n m => ⟨.inl (.inl (n _ e)), SqL.of (m _ e2)⟩⟩)
  · exact .inl ⟨_, ei, _, ej, a, b, xs, ys, rfl, .inr ⟨.inl (.inl e), .inl (.inl e2), r _ _ (walk_zipTn (by omega)) fun H' n m => ⟨.inl (.inl (n _ e)), .inl (.inl (m _ e2))⟩⟩⟩
theorem all_range {ns : List Int} {f : Nat → Bool} {g : Int → Bool} (h : ∀ i (hi : i < ns.length), f i = g ns[i]) : ((List.range ns.length).map f).all id = ns.all g := by
  rw [Bool.eq_iff_iff, List.all_map, List.all_eq_true, List.all_eq_true]
  constructor
  · intro k x hx
    obtain ⟨i, hi, rfl⟩ := List.getElem_of_mem hx
    rw [← h i hi]
    exact k i (List.mem_range.mpr hi)
  · intro k i hi
    have hi := List.mem_range.mp hi
    show f i = true
    rw [h i hi]
    exact k _ (List.getElem_mem hi)
theorem any_range {ns : List Int} {f : Nat → Bool} {g : Int → Bool} (h : ∀ i (hi : i < ns.length), f i = g ns[i]) : ((List.range ns.length).map f).any id = ns.any g := by
  rw [Bool.eq_iff_iff, List.any_map, List.any_eq_true, List.any_eq_true]
  constructor
  · rintro ⟨i, hi, k⟩
    have hi := List.mem_range.mp hi
    have k : f i = true := k
    exact ⟨_, List.getElem_mem hi, by rw [← h i hi]; exact k⟩
  · rintro ⟨x, hx, k⟩
    obtain ⟨i, hi, rfl⟩ := List.getElem_of_mem hx
    exact ⟨i, List.mem_range.mpr hi, by show f i = true; rw [h i hi]; exact k⟩

/-! ### rising numbers, of any thing -/
def spLRis : Sp := fun vs H Q _ => ∃ (c : List Addr) (v : V) (d : PyData), vs = [v] ∧ Thg c H v d ∧ d.weight ≤ 300000 ∧ ∀ H', Same H H' → Q (.bl (risB d)) H'
theorem nums_len {dd : PyData} {ns : List Int} (e : numsOf dd = some ns) : ns.length ≤ dd.weight := by
  unfold numsOf at e
  cases hr' : rowOf dd with
  | none => rw [hr'] at e; cases e
  | some ds =>
    rw [hr'] at e
    have e : (if ds.all isNumD then some (ds.map intD) else none) = some ns := e
    split at e
    · cases e
      rw [List.length_map, weight_row hr']
      exact len_weight
    · cases e
abbrev sLRis : Stmt := topS 31
theorem scLRis : FnScope ["_law_thing", "_law_one", "_law_other"] ["_law_thing"] (defScope sLRis) := ⟨rfl, rfl, rfl, by decide +kernel, rfl, by decide +kernel, by decide +kernel⟩
section
variable {K : PySem.W.Frag} {mg : Str → Option Value} {P : Program} {w : World} {base : Heap}
theorem ok_LRis {f : Addr} {fd : FuncData} (F : Fun K "_law_rising" "_law_rising" sLRis f fd) (C__law_is_number : Cal P w K mg base 1 "_law_is_number" ["_law_thing"] spIsNum) (m_tuple : mg "tuple" = none) (m_list : mg "list" = none) (m_isinstance : mg "isinstance" = none) (m_all : mg "all" = none) (m_zip : mg "zip" = none) : FnOk P w K mg base CX0 2 f fd ["_law_thing"] spLRis := by
  refine F.ok scLRis (fun vs H Q E h => ?_) (fun cdv A outer s H vs Q E hr h => ?_)
  · obtain ⟨c0, v, dd, rfl, _⟩ := h
    rfl
  · obtain ⟨c0, v, dd, rfl, hxd, hwd, q⟩ := h
    refine ⟨_, pss_cons (ps_if (PW.pt (pw_or (pt_not (pt_val (pe_callB call_isiT (by rfl) m_isinstance (by decide +kernel) (pa_cons (pv 0) (pa_cons (pe_tup (pa_cons (pe_bltn (v := .ty "list") (by rfl) m_list (by decide +kernel) rfl) (pa_cons (pe_bltn (v := .ty "tuple") (by rfl) m_tuple (by decide +kernel) rfl) pa_nil))) pa_nil))))) (pw_or1 (pt_not (pt_val (pe_callB (cr_all rfl) (by rfl) m_all (by decide +kernel) (pa_cons (pe_lc (own := [("_law_one", 1)]) (g := (gName 1)) (tt := tYes) (te := (tCall spIsNum [] E0 (tCons (tVar 1) tNil))) rfl scLRis.nd (pi_seq (pv 0)) (blkOk_by (own := [("_law_one", 1)]) (N := ["_law_thing", "_law_one", "_law_other"]) (sc := defScope sLRis) (by decide +kernel)) (fun _ _ _ _ _ => (pg_name (i := 1) scLRis.nd rfl (.inl rfl))) (fun _ _ _ _ _ => pts_nil) (fun _ _ _ _ _ => (pe_own C__law_is_number hr (by rfl) (pa_cons (pv 1) pa_nil)))) pa_nil))))))) (pss_one (ps_ret pe_bl))
        pss_nil)
      (pss_one (ps_ret (pe_callB (cr_all rfl) (by rfl) m_all (by decide +kernel) (pa_cons (pe_lc (own := [("_law_one", 1), ("_law_other", 2)]) (g := (gTup K 2 (gCons (gName 1) (gCons (gName 2) gNil)))) (tt := tYes) (te := (tOp (rI0 fun i j => .bl (decide (i < j))) (tVar 1) (tVar 2))) rfl scLRis.nd (pi_zipQ (by rfl) m_zip (pa_cons (pv 0) (pa_cons (pe_slice sl_seq (pv 0) (po_some pe_int) po_none) pa_nil))) (blkOk_by (own := [("_law_one", 1), ("_law_other", 2)]) (N := ["_law_thing", "_law_one", "_law_other"]) (sc := defScope sLRis) (by decide +kernel)) (fun _ _ _ _ _ => (pg_tup rfl (pgs_cons (pg_name (i := 1) scLRis.nd rfl (.inl rfl)) (pgs_cons (pg_name (i := 2) scLRis.nd rfl (.inl rfl)) pgs_nil)))) (fun _ _ _ _ _ => pts_nil) (fun _ _ _ _ _ => (pe_cmpR op_lt (pv 1) (pv 2) (nomark _)))) pa_nil)))), ?_⟩
    have z63 := sizeLine_eq
    refine ⟨_, rfl, (by show 2 ≤ sizeLine; decide), fun p np => ?_⟩
    have sp : Same H (upd H p (.tup [.ty "list", .ty "tuple"])) := same_upd np
    have ep : upd H p (.tup [.ty "list", .ty "tuple"]) p = some (.tup [.ty "list", .ty "tuple"]) := upd_same
    generalize upd H p (.tup [.ty "list", .ty "tuple"]) = H1 at sp ep
    obtain ⟨tx, g1, g2⟩ := isi_row (K := K) (hxd.same sp)
    refine ⟨v, p, _, tx, _, _, rfl, ep, .cons (.ty _) (.cons (.ty _) .nil), g1, g2, _, rfl, ?_⟩
    have qf : numsOf dd = none → ∀ H2, Same H H2 → Q (.bl false) H2 := fun e H2 n => by
      have := q H2 n
      unfold risB at this
      rw [e] at this
      exact this
    cases hr' : rowOf dd with
    | none => exact iteT (qf (by unfold numsOf; rw [hr']) _ sp)
    | some ds =>
    obtain ⟨X, xs, rfl, hX, hl⟩ := hxd.row hr'
    have hlw := len_weight (ds := ds)
    have hwr := weight_row hr'
    have lxs := hl.1
    refine iteF ⟨_, rfl, X, rfl, iseq_lc (hX.noTab (NoTab.same sp)) fun J G wk hG D nD => lc_mapW V.bl (fun i => isNumD (ds.getD i .none)) wk nD (by omega) (fun H' s' => hG H' (NoTab.same s')) (fun j x2 H4 H4' Kt Kn hj s4 hy2 k => ?_) (fun H4 s4 eD => ?_)⟩
    · obtain ⟨rfl, hx2⟩ := hy2
      have hj' : j < ds.length := by omega
      have ed : ds[j]? = some ds[j] := List.getElem?_eq_getElem hj'
      have eg : ds.getD j .none = ds[j] := by rw [List.getD_eq_getElem?_getD, ed]; rfl
      rw [eg] at k
      exact ⟨rfl, _, rfl, c0, x2, _, rfl, ((hl.2 j x2 _ hx2 ed).same sp).same s4, k _ (Same.refl _)⟩
    have eall : (((List.range xs.length).map fun i => isNumD (ds.getD i .none)).all id) = ds.all isNumD := by
      rw [lxs, Bool.eq_iff_iff, List.all_map, List.all_eq_true, List.all_eq_true]
      constructor
      · intro k x hx
        obtain ⟨i, hi, rfl⟩ := List.getElem_of_mem hx
        have := k i (List.mem_range.mpr hi)
        have this : isNumD (ds.getD i .none) = true := this
        rw [List.getD_eq_getElem?_getD, List.getElem?_eq_getElem hi] at this
        exact this
      · intro k i hi
        have hi := List.mem_range.mp hi
        show isNumD (ds.getD i .none) = true
        rw [List.getD_eq_getElem?_getD, List.getElem?_eq_getElem hi]
        exact k _ (List.getElem_mem hi)
    refine ⟨D, _, rfl, SqL.of eD, _, rfl, ?_⟩
    rw [eall]
    have s1 := sp.trans s4
    cases ha : ds.all isNumD with
    | false => exact iteT (qf (by unfold numsOf; rw [hr']; show (if ds.all isNumD then _ else none) = none; rw [ha]; rfl) _ s1)
    | true =>
    have hny : numsOf dd = some (ds.map intD) := by
      unfold numsOf
      rw [hr']
      show (if ds.all isNumD then some _ else none) = _
      rw [ha]; rfl
    have eq : risB dd = incB (ds.map intD) := by unfold risB; rw [hny]
    rw [eq] at q
    obtain ⟨L, eL, hL, hL0⟩ := nums_of hxd hny
    cases eL
    have hlen := nums_len hny
    generalize ds.map intD = pl at hL hL0 q hlen
    have lpl : (pl.map V.int).length = pl.length := List.length_map ..
    refine iteF ?_
    have hL1 := hL.noTab (NoTab.same s1)
    refine zipq_tail rfl hL1 fun J G H2 s2 wk hG D2 nD2 => lc_mapW V.bl (fun i => decide (pl.getD i 0 < pl.getD (i + 1) 0)) wk nD2 (by omega) (fun H' s' => hG H' (NoTab.same s')) (fun j x H' H'' Kt Kn hj sm hy2 k => ?_) (fun H3 s3 eD2 => ?_)
    · obtain ⟨T, p, q2, rfl, nT, rfl, e1, e2⟩ := hy2
      have l1 : j < pl.length := by omega
      have l2 : j + 1 < pl.length := by omega
      have e1 : (pl.map V.int)[j]? = some p := e1
      have e2 : ((pl.map V.int).drop 1)[j]? = some q2 := e2
      rw [List.getElem?_map, List.getElem?_eq_getElem l1] at e1
      rw [List.getElem?_drop, List.getElem?_map, show 1 + j = j + 1 by omega, List.getElem?_eq_getElem l2] at e2
      cases e1
      cases e2
      have sT := same_upd (o := .tup [.int pl[j], .int pl[j + 1]]) nT
      refine ⟨T, _, rfl, .inl (.inl upd_same), rfl, _, _, rfl, _, _, rfl, rfl, rfl, _, rfl, _, rfl, _, _, rfl, rfl, ?_⟩
      have := k _ sT
      rw [List.getD_eq_getElem?_getD, List.getD_eq_getElem?_getD, List.getElem?_eq_getElem l1, List.getElem?_eq_getElem l2] at this
      exact this
    refine ⟨D2, _, rfl, SqL.of eD2, ?_⟩
    have einc : (((List.range ((pl.map V.int).length - 1)).map fun i => decide (pl.getD i 0 < pl.getD (i + 1) 0)).all id) = incB pl := by
      unfold incB
      rw [lpl, Bool.eq_iff_iff, decide_eq_true_eq, inc_iff, List.all_map, List.all_eq_true]
      exact ⟨fun h i hi => of_decide_eq_true (h i (List.mem_range.mpr (by omega))), fun h i hi => decide_eq_true (h i (by have := List.mem_range.mp hi; omega))⟩
    rw [einc]
    exact q _ ((s1.trans s2).trans s3)
end

theorem inV_ints {n : Int} {ns : List Int} : inV (.int n) (ns.map V.int) = decide (n ∈ ns) := by
  rw [Bool.eq_iff_iff, decide_eq_true_eq]
  unfold inV
  rw [List.any_eq_true]
  constructor
  · rintro ⟨x, hx, e⟩
    obtain ⟨m, hm, rfl⟩ := List.mem_map.mp hx
    have e' : (m == n) = true := e
    rw [← beq_iff_eq.mp e']
    exact hm
  · exact fun h => ⟨.int n, List.mem_map.mpr ⟨n, h, rfl⟩, by show (n == n) = true; exact beq_self_eq_true n⟩
theorem flat_ints (ns : List Int) : (ns.map V.int).all flatV = true := by
  rw [List.all_eq_true]
  intro x hx
  obtain ⟨m, _, rfl⟩ := List.mem_map.mp hx
  rfl

/-! ### the law's own look at samples, of any thing -/
theorem eqv_strs {x y : Str} : PyData.eqv (.str x) (.str y) = decide (V.str x = V.str y) := by
  by_cases h : x = y
  · subst h
    simp [PyData.eqv]
  · have : ¬ V.str x = V.str y := fun z => h (V.str.inj z)
    rw [decide_eq_false this]
    simp [PyData.eqv, h]
theorem eqv_not {d : PyData} {y : Str} (h : isStrD d = false) : PyData.eqv d (.str y) = false := by
  cases d with
  | str x => cases h
  | _ => simp [PyData.eqv]
/-- what is left of each run has one of the numbers -/
def lhitB (rs gs : List (Int × Int)) (ns : List Int) : Bool := rs.all fun r => (leftR gs r).any fun p => ns.any fun n => decide (p.1 ≤ n) && decide (n ≤ p.2)
theorem lhit_not {rs gs : List (Int × Int)} {ns ap : List Int} (hg : Ris 0 gs) (h : lhitB rs gs ns = false) : fewR rs gs ns ap = false := by
  cases hf : fewR rs gs ns ap with
  | false => rfl
  | true =>
    exfalso
    unfold fewR at hf
    simp only [Bool.and_eq_true] at hf
    obtain ⟨_, _, _, h1, h2, _⟩ := hf
    have : lhitB rs gs ns = true := by
      unfold lhitB
      rw [List.all_eq_true]
      intro r hr
      have h3 := List.all_eq_true.mp h2 r hr
      obtain ⟨n, hn, h4⟩ := List.any_eq_true.mp h3
      rw [Bool.and_eq_true, decide_eq_true_eq, decide_eq_true_eq] at h4
      have h5 : ¬ InS gs n := fun z => by
        have : ns.any (goneB gs) = true := List.any_eq_true.mpr ⟨n, hn, goneB_iff.mpr z⟩
        rw [this] at h1
        cases h1
      obtain ⟨p, hp, p1, p2⟩ := (leftF_in (hi := r.2) (n := n) (num := r.1) hg).mpr ⟨h4, h5⟩
      exact List.any_eq_true.mpr ⟨p, hp, List.any_eq_true.mpr ⟨n, hn, by rw [decide_eq_true p1, decide_eq_true p2]; rfl⟩⟩
    rw [this] at h
    cases h
theorem lhit_hit {rs gs : List (Int × Int)} {ns : List Int} (hg : Ris 0 gs) (h : lhitB rs gs ns = true) : hitB rs ns = true := by
  unfold hitB
  rw [List.all_eq_true]
  intro r hr
  obtain ⟨p, hp, h1⟩ := List.any_eq_true.mp (List.all_eq_true.mp h r hr)
  obtain ⟨n, hn, h2⟩ := List.any_eq_true.mp h1
  rw [Bool.and_eq_true, decide_eq_true_eq, decide_eq_true_eq] at h2
  have := (leftF_in (hi := r.2) (n := n) (num := r.1) hg).mp ⟨p, hp, h2.1, h2.2⟩
  exact List.any_eq_true.mpr ⟨n, hn, by rw [decide_eq_true this.1.1, decide_eq_true this.1.2]; rfl⟩
/-- the first ones of a row, of the same kind -/
theorem rSlQ.front {K : PySem.W.Frag} {H : Hp} {a : Addr} {xs : List V} {Q : VK} {i : Nat} (h : SqH H a xs) (hi : i < xs.length) (q : ∀ p H', Same H H' → SqH H' p (xs.take i) → Q (.ref p) H') : rSlQ K (.ref a) none (some (i : Int)) H Q := by
  rcases h with e | e
  · refine .inl ⟨a, xs, rfl, SqL.of e, fun p np => ?_⟩
    exact q p _ (same_upd np) (.inl (by rw [upd_same, cut_front]))
  · refine .inr ⟨a, xs, rfl, .inl (.inl e), fun hw => ?_, fun _ p np => ?_⟩
    · have := hw.2
      rw [HT.sIx_nat] at this
      omega
    · exact q p _ (same_upd np) (.inr (by rw [upd_same, cut_front]))
/-- two told places share something left -/
def shF (rs gs : List (Int × Int)) (ap : List Int) (i j : Nat) : Bool := shareB (leftR gs (rs.getD (ap.getD i 0).toNat (0, 0))) (leftR gs (rs.getD (ap.getD j 0).toNat (0, 0)))
theorem apart_no {rs gs : List (Int × Int)} {ap : List Int} {i j : Nat} (hi : i < ap.length) (hj : j < i) (h : shF rs gs ap i j = true) : apartB rs gs ap = false := by
  unfold apartB
  rw [List.all_eq_false]
  refine ⟨i, List.mem_range.mpr hi, fun z => ?_⟩
  have := List.all_eq_true.mp z j (List.mem_range.mpr hj)
  rw [show shareB _ _ = true from h] at this
  cases this
theorem apart_yes {rs gs : List (Int × Int)} {ap : List Int} (h : ∀ i j, i < ap.length → j < i → shF rs gs ap i j = false) : apartB rs gs ap = true := by
  unfold apartB
  rw [List.all_eq_true]
  intro i hi
  rw [List.all_eq_true]
  intro j hj
  rw [show shareB _ _ = false from h i j (List.mem_range.mp hi) (List.mem_range.mp hj)]
  rfl
def spSShown : Sp := fun vs H Q _ => ∃ (a b : Addr) (c : List Addr) (v : V) (d : PyData) (rs gs : List (Int × Int)), vs = [.ref a, .ref b, v] ∧ LsA H a rs ∧ LsA H b gs ∧ Thg c H v d ∧ d.weight ≤ 300000 ∧ rs.length ≤ 700 ∧ gs.length ≤ 100 ∧ (∀ r ∈ rs, r.1 ≤ r.2) ∧ Ris 0 gs ∧ ∀ H', Same H H' → Q (.bl (blindB rs gs d || fewB rs gs d)) H'
abbrev sSShown : Stmt := topS 32
theorem scSShown : FnScope ["_law_runs_here", "_law_gone_here", "_law_told", "_law_left_here", "_law_some", "_law_number", "_law_place", "_law_span", "_law_other", "_law_first", "_law_last"] ["_law_runs_here", "_law_gone_here", "_law_told"] (defScope sSShown) := ⟨rfl, rfl, rfl, by decide +kernel, rfl, by decide +kernel, by decide +kernel⟩
section
variable {K : PySem.W.Frag} {mg : Str → Option Value} {P : Program} {w : World} {base : Heap}
theorem ok_SShown {f : Addr} {fd : FuncData} (F : Fun K "_law_samples_shown" "_law_samples_shown" sSShown f fd) (C__law_left : Cal P w K mg base 1 "_law_left" ["_law_span", "_law_gone_here"] spLLeft) (C__law_is_number : Cal P w K mg base 1 "_law_is_number" ["_law_thing"] spIsNum) (C__law_rising : Cal P w K mg base 2 "_law_rising" ["_law_thing"] spLRis) (C__law_share : Cal P w K mg base 1 "_law_share" ["_law_one", "_law_other"] spShare) (m_isinstance : mg "isinstance" = none) (m_tuple : mg "tuple" = none) (m_len : mg "len" = none) (m_str : mg "str" = none) (m_any : mg "any" = none) (m_enumerate : mg "enumerate" = none) : FnOk P w K mg base CX0 3 f fd ["_law_runs_here", "_law_gone_here", "_law_told"] spSShown := by
  refine F.ok scSShown (fun vs H Q E h => ?_) (fun cdv A outer s H vs Q E hr h => ?_)
  · obtain ⟨a, b, c0, v, d, rs, gs, rfl, _⟩ := h
    rfl
  · obtain ⟨a, b, c0, v, d, rs, gs, rfl, hA, hB, hv, hw, hra, hgb, hro, hrg, q⟩ := h
    refine ⟨_, pss_cons (ps_if (PW.pt (pw_or (pt_not (pt_val (pe_callB call_isi (by rfl) m_isinstance (by decide +kernel) (pa_cons (pv 2) (pa_cons (pe_bltn (v := .ty "tuple") (by rfl) m_tuple (by decide +kernel) rfl) pa_nil))))) (pw_or (pt_cmpR op_notIn_seq (pe_callB call_len_seq (by rfl) m_len PySem.boot_len (pa_cons (pv 2) pa_nil)) (pe_tup (pa_cons pe_int (pa_cons pe_int pa_nil))) (by rfl)) (pw_or1 (pt_not (pt_val (pe_callB call_isi (by rfl) m_isinstance (by decide +kernel) (pa_cons (pe_ix ix_tup (pv 2) pe_int (fun _ _ => rfl)) (pa_cons (pe_bltn (v := .ty "str") (by rfl) m_str (by decide +kernel) rfl) pa_nil))))))))) (pss_one (ps_ret pe_bl))
        pss_nil)
      (pss_cons (ps_set (i := 3) scSShown.nd rfl (.inr rfl) (pe_lc (own := [("_law_span", 7)]) (g := (gName 7)) (tt := tYes) (te := (tCall spLLeft [] E0 (tCons (tVar 7) (tCons (tVar 1) tNil)))) rfl scSShown.nd (pi_list (pv 0)) (blkOk_by (own := [("_law_span", 7)]) (N := ["_law_runs_here", "_law_gone_here", "_law_told", "_law_left_here", "_law_some", "_law_number", "_law_place", "_law_span", "_law_other", "_law_first", "_law_last"]) (sc := defScope sSShown) (by decide +kernel)) (fun _ _ _ _ _ => (pg_name (i := 7) scSShown.nd rfl (.inl rfl))) (fun _ _ _ _ _ => pts_nil) (fun _ _ _ _ _ => (pe_own C__law_left (hr.mono (show 1 ≤ 2 by decide)) (by rfl) (pa_cons (pv 7) (pa_cons (pv 1) pa_nil))))))
      (Evl.pss_cut (ps_if (PW.pt (pw_and (pt_cmpR op_eq (pe_ix ix_tup (pv 2) pe_int (fun _ _ => rfl)) pe_str (nomark _)) (pw_and1 (pt_cmpR op_eq (pe_callB call_len_seq (by rfl) m_len PySem.boot_len (pa_cons (pv 2) pa_nil)) pe_int (nomark _))))) (pss_one (ps_ret (pe_and (pe_own C__law_is_number (hr.mono (show 1 ≤ 2 by decide)) (by rfl) (pa_cons (pe_ix ix_tup (pv 2) pe_int (fun _ _ => rfl)) pa_nil)) (pe_and (pe_cmpR (op_inD (u65 hr)) (pe_lst pa_nil) (pv 3) (by rfl)) (pe_one (pe_cmpR (op_eqD hr.units) (pe_bm PySem.F.plainAttrs_list PySem.F.slot_list_index PySem.F.type_list_index (mt_indexD (u65 hr)) (pv 3) (pa_cons (pe_lst pa_nil) pa_nil)) (pe_ix ix_tup (pv 2) pe_int (fun _ _ => rfl)) (nomark _)))))))
        pss_nil)
      (pss_cons (ps_if (PW.pt (pw_or (pt_cmpR op_ne (pe_ix ix_tup (pv 2) pe_int (fun _ _ => rfl)) pe_str (nomark _)) (pw_or (pt_cmpR op_ne (pe_callB call_len_seq (by rfl) m_len PySem.boot_len (pa_cons (pv 2) pa_nil)) pe_int (nomark _)) (pw_or (pt_not (pt_val (pe_own C__law_rising hr (by rfl) (pa_cons (pe_ix ix_tup (pv 2) pe_int (fun _ _ => rfl)) pa_nil)))) (pw_or1 (pt_not (pt_val (pe_own C__law_rising hr (by rfl) (pa_cons (pe_ix ix_tup (pv 2) pe_int (fun _ _ => rfl)) pa_nil))))))))) (pss_one (ps_ret pe_bl))
        pss_nil)
      (pss_cons (ps_for PassesOwn.never rfl (pi_list (pv 3)) (pg_name (i := 4) scSShown.nd rfl (.inl rfl))
        (pss_one (ps_if (pt_not (pt_val (pe_callB (cr_any rfl) (by rfl) m_any (by decide +kernel) (pa_cons (pe_lc (own := [("_law_first", 9), ("_law_last", 10)]) (g := (gTup K 2 (gCons (gName 9) (gCons (gName 10) gNil)))) (tt := tYes) (te := (tCB (rAny K) (tCons (tLc (iSeq K (tOp (rIxT K) (tVar 2) (tC (.int 1)))) (gName 5) tYes (tChain (rI0 fun i j => .bl (decide (i ≤ j))) (rI0 fun i j => .bl (decide (i ≤ j))) (tVar 9) (tVar 5) (tVar 10)) [5]) tNil))) rfl scSShown.nd (pi_list (pv 4)) (blkOk_by (own := [("_law_first", 9), ("_law_last", 10)]) (N := ["_law_runs_here", "_law_gone_here", "_law_told", "_law_left_here", "_law_some", "_law_number", "_law_place", "_law_span", "_law_other", "_law_first", "_law_last"]) (sc := defScope sSShown) (by decide +kernel)) (fun _ _ _ _ _ => (pg_tup rfl (pgs_cons (pg_name (i := 9) scSShown.nd rfl (.inr rfl)) (pgs_cons (pg_name (i := 10) scSShown.nd rfl (.inr rfl)) pgs_nil)))) (fun _ _ _ _ _ => pts_nil) (fun _ _ _ _ _ => (pe_callB (cr_any rfl) (by rfl) m_any (by decide +kernel) (pa_cons (pe_lc (own := [("_law_number", 5)]) (g := (gName 5)) (tt := tYes) (te := (tChain (rI0 fun i j => .bl (decide (i ≤ j))) (rI0 fun i j => .bl (decide (i ≤ j))) (tVar 9) (tVar 5) (tVar 10))) rfl scSShown.nd (pi_seq (pe_ix ix_tup (pv 2) pe_int (fun _ _ => rfl))) (blkOk_by (own := [("_law_number", 5)]) (N := ["_law_runs_here", "_law_gone_here", "_law_told", "_law_left_here", "_law_some", "_law_number", "_law_place", "_law_span", "_law_other", "_law_first", "_law_last"]) (by show blkC _ ({ kind := .function, names := [(".0", .local), ("_law_first", .cell), ("_law_last", .cell), ("any", .globalImplicit), ("_law_told", .cell)], isGenerator := false, isCoroutine := false } : Scope) _ _ = true; decide +kernel)) (fun _ _ _ _ _ => (pg_name (i := 5) scSShown.nd rfl (.inl rfl))) (fun _ _ _ _ _ => pts_nil) (fun _ _ _ _ _ => (pe_chain op_le op_le (pv 9) (pv 5) (pv 10)))) pa_nil)))) pa_nil)))) (pss_one (ps_ret pe_bl))
          pss_nil)))
      (pss_cons (ps_if (pt_val (pe_callB (cr_any rfl) (by rfl) m_any (by decide +kernel) (pa_cons (pe_lc (own := [("_law_number", 5)]) (g := (gName 5)) (tt := tYes) (te := (tCB (rAny K) (tCons (tLc (iList K (tVar 1)) (gTup K 2 (gCons (gName 9) (gCons (gName 10) gNil))) tYes (tChain (rI0 fun i j => .bl (decide (i ≤ j))) (rI0 fun i j => .bl (decide (i ≤ j))) (tVar 9) (tVar 5) (tVar 10)) [9, 10]) tNil))) rfl scSShown.nd (pi_seq (pe_ix ix_tup (pv 2) pe_int (fun _ _ => rfl))) (blkOk_by (own := [("_law_number", 5)]) (N := ["_law_runs_here", "_law_gone_here", "_law_told", "_law_left_here", "_law_some", "_law_number", "_law_place", "_law_span", "_law_other", "_law_first", "_law_last"]) (sc := defScope sSShown) (by decide +kernel)) (fun _ _ _ _ _ => (pg_name (i := 5) scSShown.nd rfl (.inr rfl))) (fun _ _ _ _ _ => pts_nil) (fun _ _ _ _ _ => (pe_callB (cr_any rfl) (by rfl) m_any (by decide +kernel) (pa_cons (pe_lc (own := [("_law_first", 9), ("_law_last", 10)]) (g := (gTup K 2 (gCons (gName 9) (gCons (gName 10) gNil)))) (tt := tYes) (te := (tChain (rI0 fun i j => .bl (decide (i ≤ j))) (rI0 fun i j => .bl (decide (i ≤ j))) (tVar 9) (tVar 5) (tVar 10))) rfl scSShown.nd (pi_list (pv 1)) (blkOk_by (own := [("_law_first", 9), ("_law_last", 10)]) (N := ["_law_runs_here", "_law_gone_here", "_law_told", "_law_left_here", "_law_some", "_law_number", "_law_place", "_law_span", "_law_other", "_law_first", "_law_last"]) (by show blkC _ ({ kind := .function, names := [(".0", .local), ("_law_number", .cell), ("any", .globalImplicit), ("_law_gone_here", .cell)], isGenerator := false, isCoroutine := false } : Scope) _ _ = true; decide +kernel)) (fun _ _ _ _ _ => (pg_tup rfl (pgs_cons (pg_name (i := 9) scSShown.nd rfl (.inl rfl)) (pgs_cons (pg_name (i := 10) scSShown.nd rfl (.inl rfl)) pgs_nil)))) (fun _ _ _ _ _ => pts_nil) (fun _ _ _ _ _ => (pe_chain op_le op_le (pv 9) (pv 5) (pv 10)))) pa_nil)))) pa_nil))) (pss_one (ps_ret pe_bl))
        pss_nil)
      (pss_cons (ps_if (PW.pt (pw_or (pt_cmpR op_ne (pe_callB call_len_seq (by rfl) m_len PySem.boot_len (pa_cons (pe_ix ix_tup (pv 2) pe_int (fun _ _ => rfl)) pa_nil)) (pe_callB call_len_seq (by rfl) m_len PySem.boot_len (pa_cons (pe_ix ix_tup (pv 2) pe_int (fun _ _ => rfl)) pa_nil)) (nomark _)) (pw_or1 (pt_val (pe_callB (cr_any rfl) (by rfl) m_any (by decide +kernel) (pa_cons (pe_lc (own := [("_law_place", 6)]) (g := (gName 6)) (tt := tYes) (te := (tOp (rI0 fun i j => .bl (decide (j ≤ i))) (tVar 6) (tCB (fun xs H Q => ∃ p ys, xs = [.ref p] ∧ (SqL K H p ys ∨ SqT K H p ys) ∧ Q (.int ys.length) H) (tCons (tVar 0) tNil)))) rfl scSShown.nd (pi_seq (pe_ix ix_tup (pv 2) pe_int (fun _ _ => rfl))) (blkOk_by (own := [("_law_place", 6)]) (N := ["_law_runs_here", "_law_gone_here", "_law_told", "_law_left_here", "_law_some", "_law_number", "_law_place", "_law_span", "_law_other", "_law_first", "_law_last"]) (sc := defScope sSShown) (by decide +kernel)) (fun _ _ _ _ _ => (pg_name (i := 6) scSShown.nd rfl (.inl rfl))) (fun _ _ _ _ _ => pts_nil) (fun _ _ _ _ _ => (pe_cmpR op_ge (pv 6) (pe_callB call_len_seq (by rfl) m_len PySem.boot_len (pa_cons (pv 0) pa_nil)) (nomark _)))) pa_nil)))))) (pss_one (ps_ret pe_bl))
        pss_nil)
      (pss_cons (ps_for PassesOwn.never rfl (pi_enS (by rfl) m_enumerate (pa_cons (pe_ix ix_tup (pv 2) pe_int (fun _ _ => rfl)) pa_nil)) (pg_tup rfl (pgs_cons (pg_name (i := 5) scSShown.nd rfl (.inl rfl)) (pgs_cons (pg_name (i := 6) scSShown.nd rfl (.inr rfl)) pgs_nil)))
        (pss_one (ps_if (pt_val (pe_callB (cr_any rfl) (by rfl) m_any (by decide +kernel) (pa_cons (pe_lc (own := [("_law_other", 8)]) (g := (gName 8)) (tt := tYes) (te := (tCall spShare [] E0 (tCons (tOp (rIxL K) (tVar 3) (tVar 6)) (tCons (tOp (rIxL K) (tVar 3) (tVar 8)) tNil)))) rfl scSShown.nd (pi_seq (pe_slice sl_seq (pe_ix ix_tup (pv 2) pe_int (fun _ _ => rfl)) po_none (po_some (pv 5)))) (blkOk_by (own := [("_law_other", 8)]) (N := ["_law_runs_here", "_law_gone_here", "_law_told", "_law_left_here", "_law_some", "_law_number", "_law_place", "_law_span", "_law_other", "_law_first", "_law_last"]) (sc := defScope sSShown) (by decide +kernel)) (fun _ _ _ _ _ => (pg_name (i := 8) scSShown.nd rfl (.inl rfl))) (fun _ _ _ _ _ => pts_nil) (fun _ _ _ _ _ => (pe_own C__law_share (hr.mono (show 1 ≤ 2 by decide)) (by rfl) (pa_cons (pe_ix ix_list (pv 3) (pv 6) (fun _ _ => rfl)) (pa_cons (pe_ix ix_list (pv 3) (pv 8) (fun _ _ => rfl)) pa_nil))))) pa_nil))) (pss_one (ps_ret pe_bl))
          pss_nil)))
      (pss_one (ps_ret pe_bl))))))))), ?_⟩
    have z63 := sizeLine_eq
    have qf : blindB rs gs d = false → fewB rs gs d = false → ∀ H2, Same H H2 → Q (.bl false) H2 := fun e1 e2 H2 n => by
      have := q H2 n
      rw [e1, e2] at this
      exact this
    obtain ⟨us, eA, pr⟩ := id hA
    have lus : us.length = rs.length := pr.1
    obtain ⟨tv, h1, h2⟩ := isi_tup (K := K) hv
    refine ⟨_, rfl, _, _, tv, _, _, rfl, .ty _, h1, h2, _, rfl, ?_⟩
    cases hT : isTupD d with
    | false => exact iteT (qf (blindB_not (by cases d <;> first | rfl | cases hT)) (fewB_not (by cases d <;> first | rfl | cases hT)) H (Same.refl _))
    | true =>
    refine iteF ?_
    obtain ⟨t, ts, ds, rfl, et, rfl, lts, kts⟩ : ∃ t xs ds, v = .ref t ∧ H t = some (.tup xs) ∧ d = .tuple ds ∧ xs.length = ds.length ∧ ∀ (i : Nat) x d, xs[i]? = some x → ds[i]? = some d → Thg c0 H x d := by
      cases hv with
      | tup e l k => exact ⟨_, _, _, rfl, e, rfl, l, k⟩
      | lst e n l k => cases hT
      | non => cases hT
      | bl b => cases hT
      | int i => cases hT
      | str x => cases hT
    refine ⟨_, rfl, t, _, rfl, .inr (.inl (.inl et)), (by show 2 ≤ sizeLine; decide), fun p np => ?_⟩
    have sp := same_upd (o := .tup [.int 2, .int 3]) np
    refine ⟨p, _, rfl, .inr (.inl (.inl upd_same)), rfl, rfl, ?_⟩
    have hin : inV (.int ((ts.length : Nat) : Int)) [.int 2, .int 3] = (decide (ts.length = 2) || decide (ts.length = 3)) := by
      have := inV_ints (n := (ts.length : Int)) (ns := [2, 3])
      rw [show ([2, 3] : List Int).map V.int = [.int 2, .int 3] from rfl] at this
      rw [this, Bool.eq_iff_iff]
      simp
      omega
    rw [hin]
    have et1 := sp _ _ et
    generalize upd H p (.tup [.int 2, .int 3]) = H1 at et1 sp
    refine ⟨_, rfl, ite2 (fun z => ?_) (fun z => ?_)⟩
    · have n23 : ts.length ≠ 2 ∧ ts.length ≠ 3 := by
        by_cases e2 : ts.length = 2 <;> by_cases e3 : ts.length = 3 <;> simp [e2, e3] at z ⊢
      exact qf (blindB_not (decide_eq_false (by omega))) (fewB_not (decide_eq_false (by omega))) H1 sp
    have o23 : ts.length = 2 ∨ ts.length = 3 := by
      by_cases e2 : ts.length = 2 <;> by_cases e3 : ts.length = 3 <;> simp [e2, e3] at z ⊢
    obtain ⟨x, xs, rfl⟩ : ∃ x xs, ts = x :: xs := by
      cases ts with
      | nil => simp at o23
      | cons x xs => exact ⟨x, xs, rfl⟩
    obtain ⟨dx, dr, rfl⟩ : ∃ dx dr, ds = dx :: dr := by
      cases ds with
      | nil => simp at lts
      | cons x xs => exact ⟨x, xs, rfl⟩
    have hx : Thg c0 H x dx := kts 0 _ _ rfl rfl
    have lr : xs.length = dr.length := by simpa using lts
    have o12 : xs.length = 1 ∨ xs.length = 2 := by simpa using o23
    obtain ⟨ty, f1, f2⟩ := isi_str (K := K) (hx.same sp)
    refine ⟨_, rfl, t, _, 0, _, rfl, rfl, .inl (.inl et1), atI_nat (j := 0) rfl, _, _, ty, _, _, rfl, .ty _, f1, f2, _, rfl, ?_⟩
    have notw : ∀ y : Str, PyData.eqv dx (.str "blind") = false → PyData.eqv dx (.str "samples") = false → blindB rs gs (.tuple (dx :: dr)) = false ∧ fewB rs gs (.tuple (dx :: dr)) = false := fun _ e1 e2 => by
      constructor
      · unfold blindB
        split
        · rename_i heq
          cases heq
          rw [e1]; rfl
        · rfl
      · unfold fewB
        split
        · rename_i heq
          cases heq
          rw [e2]; rfl
        · rfl
    cases hstr : isStrD dx with
    | false =>
      obtain ⟨e1, e2⟩ := notw "" (eqv_not hstr) (eqv_not hstr)
      exact iteT (qf e1 e2 H1 sp)
    | true =>
    refine iteF ?_
    obtain ⟨wd, rfl, rfl⟩ : ∃ wd, x = .str wd ∧ dx = .str wd := by
      cases hx with
      | str wd => exact ⟨wd, rfl, rfl⟩
      | tup e l k => cases hstr
      | lst e n l k => cases hstr
      | non => cases hstr
      | bl b => cases hstr
      | int i => cases hstr
    have eA1 := sp _ _ eA
    have hB1 := hB.same sp
    refine ⟨_, rfl, a, rfl, ⟨_, SqL.of eA1⟩, fun L nL => lc_list (xs := us) (fun j H' => Same H1 H' ∧ ∃ ws, H' L = some (.lst ws) ∧ LR H' ws ((rs.take j).map (leftR gs)) ∧ ∀ v ∈ ws, v ≠ .ref L) ⟨same_upd nL, [], upd_same, LR.nil, fun _ h => nomatch h⟩ (fun j H' _ hP => SqL.of (hP.1 _ _ eA1)) (fun j x H' hx hP => ?_) (fun H2 hP => ?_)⟩
    · obtain ⟨sm, ws, eL, hLR, hng⟩ := hP
      obtain ⟨r, T, er, rfl, eT⟩ := prs_at pr hx
      have hj : j < rs.length := (List.getElem?_eq_some_iff.mp er).1
      refine ⟨rfl, _, rfl, _, rfl, T, b, r, gs, rfl, sm _ _ (sp _ _ eT), hB1.same sm, hgb, fun l2 H4 nl2 hl2 s4 => ?_⟩
      have eL4 := s4 _ _ eL
      have n2L : l2 ≠ L := fun z => by rw [z, eL] at nl2; cases nl2
      have lws : ws.length ≤ 700 := by rw [hLR.1, List.length_map, List.length_take]; omega
      refine ⟨_, eL4, small1000 (by omega), fun b' o e => ?_, ws ++ [.ref l2], upd_same, ?_, fun v hv => ?_⟩
      · rw [upd_ne (ne_of_none e nL)]
        exact s4 _ _ (sm b' o e)
      · have h1 := (hLR.same s4).snoc hl2
        have et : (rs.take (j + 1)).map (leftR gs) = (rs.take j).map (leftR gs) ++ [leftR gs r] := by rw [List.take_add_one, er, List.map_append]; rfl
        rw [et]
        refine ⟨h1.1, fun i r' e => ?_⟩
        obtain ⟨x, f1, us', f2, f3⟩ := h1.2 i r' e
        have nx : x ≠ L := fun z => by
          have hm := List.mem_of_getElem? f1
          rcases List.mem_append.mp hm with y | y
          · exact hng _ y (by rw [z])
          · exact n2L ((V.ref.inj (List.mem_singleton.mp y)).symm.trans z)
        exact ⟨x, f1, us', by rw [upd_ne nx]; exact f2, f3.upd_lst eL4⟩
      · rcases List.mem_append.mp hv with z | z
        · exact hng v z
        · rw [List.mem_singleton.mp z]
          exact fun w => n2L (V.ref.inj w)
    obtain ⟨s2, ws, eL, hLR, _⟩ := hP
    rw [lus, List.take_length] at hLR
    have lws : ws.length = rs.length := by rw [hLR.1, List.length_map]
    have s02 := sp.trans s2
    have et2 := s2 _ _ et1
    refine ⟨fun σ Hx => ∃ y4 y5 y6 y7 y8 y9 y10 : Option V, σ = [some (.ref a), some (.ref b), some (.ref t), some (.ref L), y4, y5, y6, y7, y8, y9, y10] ∧ Same H2 Hx ∧ ¬ (wd = Str.ofString "blind" ∧ xs.length = 1), ?_, ?_⟩
    · refine ⟨_, rfl, t, _, 0, _, rfl, rfl, .inl (.inl et2), atI_nat (j := 0) rfl, rfl, _, rfl, ?_⟩
      by_cases hwb : wd = Str.ofString "blind"
      · rw [decide_eq_true (by rw [hwb])]
        refine iteT ⟨_, rfl, t, _, rfl, .inr (.inl (.inl et2)), rfl, _, rfl, ?_⟩
        rcases o12 with e1 | e2
        · obtain ⟨y, rfl⟩ : ∃ y, xs = [y] := by
            match xs, e1 with
            | [y], _ => exact ⟨y, rfl⟩
          obtain ⟨dy, rfl⟩ : ∃ dy, dr = [dy] := by
            match dr, lr with
            | [dy], _ => exact ⟨dy, rfl⟩
          have hy : Thg c0 H y dy := kts 1 _ _ rfl rfl
          rw [decide_eq_true (show V.int (([V.str wd, y].length : Nat) : Int) = V.int 2 from rfl)]
          refine iteT ?_
          have eB : blindB rs gs (.tuple [.str wd, dy]) = (isNumD dy && (match idxB gs rs with | some i => decide (intD dy = (i : Int)) | none => false)) := by
            show (PyData.eqv (.str wd) (.str "blind") && _) = _
            rw [eqv_strs, decide_eq_true (by rw [hwb])]
            rfl
          have eF : fewB rs gs (.tuple [.str wd, dy]) = false := fewB_not rfl
          refine ⟨_, rfl, t, _, 1, _, rfl, rfl, .inl (.inl et2), atI_nat (j := 1) rfl, c0, y, dy, rfl, hy.same s02, ?_⟩
          cases hn : isNumD dy with
          | false => exact ⟨_, rfl, iteF (qf (by rw [eB, hn]; rfl) eF _ s02)⟩
          | true =>
          refine ⟨_, rfl, iteT ?_⟩
          obtain ⟨kk, rfl, kk0⟩ := isNumD_int hn
          cases hy
          refine ⟨Nat.zero_le _, fun E0' nE => ?_⟩
          have sE := same_upd (o := .lst []) nE
          obtain ⟨ls, els⟩ : ∃ ls, ls = rs.map (leftR gs) := ⟨_, rfl⟩
          rw [← els] at hLR
          have ell : ls.length = rs.length := by rw [els, List.length_map]
          have dpL : ∀ {H' : Hp}, Same H2 H' → Dp K H' (.ref L) (.list (ls.map setD')) := fun s' => .lst (SqL.of (s' _ _ eL)) (dp_sets (hLR.same s'))
          refine ⟨_, rfl, .list [], ls.map setD', .lst (SqL.of upd_same) .nil, dpL sE, by rfl, shaped_sets ls, ?_⟩
          have ea' : ((ls.map setD').any fun z => PyData.eqv z (.list [])) = ls.any List.isEmpty := by
            rw [List.any_map]
            congr 1
            funext l
            exact eqv_set l
          rw [ea']
          have emp : ∀ (i : Nat) r l, rs[i]? = some r → ls[i]? = some l → (l.isEmpty = true ↔ allGB gs r = true) := fun i r l er el => by
            rw [els, List.getElem?_map, er] at el
            cases el
            rw [List.isEmpty_iff, leftR_nil hrg]
          cases hidx : idxB gs rs with
          | none =>
            have e0 : ls.any List.isEmpty = false := by
              rw [List.any_eq_false]
              intro l hl
              obtain ⟨j, hj, rfl⟩ := List.getElem_of_mem hl
              have jr : j < rs.length := by omega
              have h1 := idxB_none hidx _ (List.getElem_mem jr)
              have h2 := emp j _ _ (List.getElem?_eq_getElem jr) (List.getElem?_eq_getElem hj)
              intro z
              rw [h2.mp z] at h1
              cases h1
            rw [e0]
            exact ⟨_, rfl, iteF (qf (by rw [eB, hidx]; exact Bool.and_false _) eF _ (s02.trans sE))⟩
          | some i0 =>
          obtain ⟨r0, er0, hg0, hf0⟩ := idxB_some hidx
          have il : i0 < rs.length := (List.getElem?_eq_some_iff.mp er0).1
          have jl : i0 < ls.length := by omega
          have je : ls[i0].isEmpty = true := (emp i0 _ _ er0 (List.getElem?_eq_getElem jl)).mpr hg0
          rw [show ls.any List.isEmpty = true from List.any_eq_true.mpr ⟨_, List.getElem_mem jl, je⟩]
          refine ⟨_, rfl, iteT ⟨_, rfl, .inl ⟨rfl, _, SqL.of (sE _ _ eL)⟩, Nat.zero_le _, fun E1 nE1 => ?_⟩⟩
          have sE1 := same_upd (o := .lst []) nE1
          have s4 := ((s02.trans sE).trans sE1)
          refine ⟨L, .ref E1, .list [], ls.map setD', i0, setD' ls[i0], rfl, rfl, dpL (sE.trans sE1), .lst (SqL.of upd_same) .nil, shaped_sets ls, by rfl, by rw [List.getElem?_map, List.getElem?_eq_getElem jl]; rfl, by rw [eqv_set]; exact je, fun m z hm hz => ?_, ?_⟩
          · rw [List.getElem?_map] at hz
            cases hl : ls[m]? with
            | none => rw [hl] at hz; cases hz
            | some l =>
              rw [hl] at hz
              cases hz
              rw [eqv_set]
              have ml : m < rs.length := by omega
              have h1 := hf0 m _ hm (List.getElem?_eq_getElem ml)
              have h2 := emp m _ _ (List.getElem?_eq_getElem ml) hl
              rw [h1] at h2
              cases c : l.isEmpty with
              | false => rfl
              | true => exact absurd (h2.mp c) Bool.false_ne_true
          · refine ⟨_, rfl, t, _, 1, _, rfl, rfl, .inl (.inl (s4 _ _ et)), atI_nat (j := 1) rfl, .int (i0 : Int), .int kk, .int _, .int _, by rfl, by rfl, ?_⟩
            have e9 : PyData.eqv (.int (i0 : Int)) (.int kk) = decide (kk = (i0 : Int)) := by
              by_cases z : kk = (i0 : Int)
              · rw [z]; simp [PyData.eqv]
              · have : ¬ (i0 : Int) = kk := fun w => z w.symm
                rw [decide_eq_false z]; simp [PyData.eqv, this]
            rw [e9]
            have := q _ s4
            rw [eB, eF, hidx, hn, Bool.or_false] at this
            exact this
        · rw [decide_eq_false (by rw [List.length_cons]; intro z; have := V.int.inj z; omega)]
          exact iteF ⟨_, _, _, _, _, _, _, rfl, Same.refl _, fun z => by omega⟩
      · rw [decide_eq_false (fun z => hwb (V.str.inj z))]
        exact iteF (iteF ⟨_, _, _, _, _, _, _, rfl, Same.refl _, fun z => hwb z.1⟩)
    rintro σ3 H3 ⟨y4, y5, y6, y7, y8, y9, y10, rfl, s3, hnb⟩
    have s03 := s02.trans s3
    have et3 := s03 _ _ et
    have eL3 := s3 _ _ eL
    have hLR3 := hLR.same s3
    clear hLR eL et2 et1
    have notB : blindB rs gs (.tuple (.str wd :: dr)) = false := by
      unfold blindB
      split
      · rename_i heq
        cases heq
        rw [eqv_strs]
        have : ¬ V.str wd = V.str "blind" := fun z => hnb ⟨V.str.inj z, by simpa using lr⟩
        rw [decide_eq_false this]; rfl
      · rfl
    have qn : fewB rs gs (.tuple (.str wd :: dr)) = false → ∀ H2, Same H H2 → Q (.bl false) H2 := qf notB
    refine ⟨_, rfl, t, _, 0, _, rfl, rfl, .inl (.inl et3), atI_nat (j := 0) rfl, rfl, _, rfl, ?_⟩
    by_cases hws : ¬ wd = Str.ofString "samples"
    · rw [decide_eq_false (fun z => hws (V.str.inj z))]
      refine iteT (qn ?_ _ s03)
      unfold fewB
      split
      · rename_i heq
        cases heq
        rw [eqv_strs, decide_eq_false (fun z => hws (V.str.inj z))]; rfl
      · rfl
    have hws := Classical.not_not.mp hws
    rw [decide_eq_true (by rw [hws])]
    refine iteF ⟨_, rfl, t, _, rfl, .inr (.inl (.inl et3)), rfl, _, rfl, ?_⟩
    rcases o12 with e1 | e2
    · rw [decide_eq_false (by rw [List.length_cons]; intro z; have := V.int.inj z; omega)]
      exact iteT (qn (fewB_not (decide_eq_false (by rw [List.length_cons]; omega))) _ s03)
    obtain ⟨y, u, rfl⟩ : ∃ y u, xs = [y, u] := by
      match xs, e2 with
      | [y, u], _ => exact ⟨y, u, rfl⟩
    obtain ⟨dy, dz, rfl⟩ : ∃ dy dz, dr = [dy, dz] := by
      match dr, lr with
      | [dy, dz], _ => exact ⟨dy, dz, rfl⟩
    rw [decide_eq_true (show V.int (([V.str wd, y, u].length : Nat) : Int) = V.int 3 from rfl)]
    have hy : Thg c0 H y dy := kts 1 _ _ rfl rfl
    have hz : Thg c0 H u dz := kts 2 _ _ rfl rfl
    have hwy : dy.weight ≤ 300000 ∧ dz.weight ≤ 300000 := by
      simp only [PyData.weight, PyData.weightAll] at hw
      omega
    have ew : PyData.eqv (.str wd) (.str "samples") = true := by rw [eqv_strs, decide_eq_true (by rw [hws])]
    refine iteF ⟨_, rfl, t, _, 1, _, rfl, rfl, .inl (.inl et3), atI_nat (j := 1) rfl, c0, y, dy, rfl, hy.same s03, hwy.1, fun H4 s4 => ⟨_, rfl, ?_⟩⟩
    have s04 := s03.trans s4
    cases hny : numsOf dy with
    | none =>
      have e : risB dy = false := by unfold risB; rw [hny]
      rw [e]
      exact iteT (qn (fewB_y hny) _ s04)
    | some ns =>
    obtain ⟨N, rfl, hN, hN0⟩ := nums_of hy hny
    have e : risB dy = incB ns := by unfold risB; rw [hny]
    rw [e]
    have qm : (∀ ap, numsOf dz = some ap → fewR rs gs ns ap = false) → ∀ H2, Same H H2 → Q (.bl false) H2 := fun k => by
      cases hnz : numsOf dz with
      | none => exact qn (fewB_z hnz)
      | some ap => exact qn (by rw [fewB_3 ew hny hnz]; exact k ap hnz)
    cases hinc : incB ns with
    | false => exact iteT (qm (fun ap _ => by unfold fewR; rw [hinc]; rfl) _ s04)
    | true =>
    refine iteF ⟨_, rfl, t, _, 2, _, rfl, rfl, .inl (.inl (s4 _ _ et3)), atI_nat (j := 2) rfl, c0, u, dz, rfl, hz.same s04, hwy.2, fun H5 s5 => ⟨_, rfl, ?_⟩⟩
    have s05 := s04.trans s5
    cases hnz : numsOf dz with
    | none =>
      have e : risB dz = false := by unfold risB; rw [hnz]
      rw [e]
      exact iteT (qn (fewB_z hnz) _ s05)
    | some ap =>
    obtain ⟨A2, rfl, hP, hP0⟩ := nums_of hz hnz
    have e : risB dz = incB ap := by unfold risB; rw [hnz]
    rw [e]
    have qk : fewR rs gs ns ap = false → ∀ H2, Same H H2 → Q (.bl false) H2 := fun e => qn (by rw [fewB_3 ew hny hnz]; exact e)
    cases hain : incB ap with
    | false => exact iteT (qk (by unfold fewR; rw [hain]; simp) _ s05)
    | true =>
    refine iteF ?_
    have lNw := nums_len hny
    have lPw := nums_len hnz
    have lN : (ns.map V.int).length = ns.length := List.length_map ..
    have lP : (ap.map V.int).length = ap.length := List.length_map ..
    have s35 := s4.trans s5
    have eL5 := s35 _ _ eL3
    have hLR5 := hLR3.same s35
    -- each set has one
    refine ⟨_, rfl, L, rfl, ⟨_, SqL.of eL5⟩, for_list (xs := ws) (fun i σ Hx => ∃ y4 y5 y6 y7 y8 y9 y10 : Option V, σ = [some (.ref a), some (.ref b), some (.ref t), some (.ref L), y4, y5, y6, y7, y8, y9, y10] ∧ Same H5 Hx ∧ ∀ (j : Nat) r, j < i → rs[j]? = some r → ((leftR gs r).any fun p => ns.any fun n => decide (p.1 ≤ n) && decide (n ≤ p.2)) = true) ⟨_, _, _, _, _, _, _, rfl, Same.refl _, fun j r z => absurd z (Nat.not_lt_zero _)⟩ (fun i σ Hx _ hP => ?_) (fun i x σ Hx hx hP => ?_) (fun σ Hx hP => ?_)⟩
    · obtain ⟨y4, y5, y6, y7, y8, y9, y10, rfl, sx, _⟩ := hP
      exact SqL.of (sx _ _ eL5)
    · obtain ⟨y4, y5, y6, y7, y8, y9, y10, rfl, sx, hso⟩ := hP
      have hi : i < ws.length := (List.getElem?_eq_some_iff.mp hx).1
      have er : rs[i]? = some rs[i] := List.getElem?_eq_getElem (by omega)
      have el : (rs.map (leftR gs))[i]? = some (leftR gs rs[i]) := by rw [List.getElem?_map, er]; rfl
      obtain ⟨m, f1, vs, f2, f3⟩ := hLR5.2 i _ el
      rw [hx] at f1
      cases f1
      have s0x := s05.trans sx
      have f2x := sx _ _ f2
      have lv : vs.length ≤ 101 := by rw [f3.1]; exact Nat.le_trans (leftF_len ..) (by omega)
      refine ⟨_, rfl, m, rfl, ⟨_, SqL.of f2x⟩, fun G3 nG3 => lc_bs (bs := (leftR gs rs[i]).map fun p => ns.any fun n => decide (p.1 ≤ n) && decide (n ≤ p.2)) nG3 f2x (by rw [List.length_map, f3.1]) (by omega) (fun j x bb H6 Kt Kn hx2 hb2 s7 k => ?_) (fun H6 s7 eG3 => ?_)⟩
      · obtain ⟨p, T, ep, rfl, eTp⟩ := prs_at f3 hx2
        rw [List.getElem?_map, ep] at hb2
        cases hb2
        have s07 := s0x.trans s7
        refine ⟨T, _, rfl, .inl (.inl ((sx.trans s7) _ _ eTp)), rfl, _, _, rfl, _, _, rfl, rfl, rfl, ?_⟩
        refine ⟨_, rfl, t, _, 1, _, rfl, rfl, .inl (.inl (s07 _ _ et)), atI_nat (j := 1) rfl, N, rfl, iseq_lc (hN.noTab (NoTab.same s07)) fun J G wk hG D4 nD4 => lc_mapW V.bl (fun i => decide (p.1 ≤ ns.getD i 0) && decide (ns.getD i 0 ≤ p.2)) wk nD4 (by omega) (fun H' s' => hG H' (NoTab.same s')) (fun j2 x2 H8 H8' Kt2 Kn2 hj2 sm2 hy2 k2 => ?_) (fun H8 s9 eG4 => ?_)⟩
        · obtain ⟨rfl, hx3⟩ := hy2
          have l1 : j2 < ns.length := by omega
          rw [List.getElem?_map, List.getElem?_eq_getElem l1] at hx3
          cases hx3
          rw [List.getD_eq_getElem?_getD, List.getElem?_eq_getElem l1] at k2
          refine ⟨rfl, _, rfl, _, rfl, _, _, rfl, rfl, _, rfl, ite2 (fun c1 => ⟨_, rfl, _, _, rfl, rfl, ?_⟩) (fun c1 => ?_)⟩
          · have this : Kt2 (V.bl (decide (p.1 ≤ ns[j2]) && decide (ns[j2] ≤ p.2))) H8' := k2 _ (Same.refl _)
            rw [c1] at this
            exact this
          · have this : Kt2 (V.bl (decide (p.1 ≤ ns[j2]) && decide (ns[j2] ≤ p.2))) H8' := k2 _ (Same.refl _)
            rw [Bool.eq_false_iff.mpr c1] at this
            exact this
        · refine ⟨D4, _, rfl, SqL.of eG4, ?_⟩
          have ea : (((List.range (ns.map V.int).length).map fun i => decide (p.1 ≤ ns.getD i 0) && decide (ns.getD i 0 ≤ p.2)).any id) = ns.any fun n => decide (p.1 ≤ n) && decide (n ≤ p.2) := by
            rw [lN]
            exact any_range (g := fun n => decide (p.1 ≤ n) && decide (n ≤ p.2)) fun i hi => by rw [List.getD_eq_getElem?_getD, List.getElem?_eq_getElem hi]; rfl
          rw [ea]
          exact k _ s9
      · refine ⟨G3, _, rfl, SqL.of eG3, _, rfl, ?_⟩
        rw [List.any_map]
        have e7 : (leftR gs rs[i]).any (id ∘ fun p => ns.any fun n => decide (p.1 ≤ n) && decide (n ≤ p.2)) = (leftR gs rs[i]).any fun p => ns.any fun n => decide (p.1 ≤ n) && decide (n ≤ p.2) := rfl
        rw [e7]
        cases hone : ((leftR gs rs[i]).any fun p => ns.any fun n => decide (p.1 ≤ n) && decide (n ≤ p.2)) with
        | false =>
          refine iteT (qk (lhit_not hrg ?_) _ (s0x.trans s7))
          unfold lhitB
          rw [List.all_eq_false]
          exact ⟨rs[i], List.getElem_mem _, by rw [hone]; exact Bool.false_ne_true⟩
        | true =>
          refine iteF ⟨_, _, _, _, _, _, _, rfl, sx.trans s7, fun j r2 hj e2 => ?_⟩
          by_cases c : j = i
          · rw [c, er] at e2; cases e2; exact hone
          · exact hso j r2 (by omega) e2
    obtain ⟨y4, y5, y6, y7, y8, y9, y10, rfl, sx, hso⟩ := hP
    have hlh : lhitB rs gs ns = true := by
      unfold lhitB
      rw [List.all_eq_true]
      intro r hr
      obtain ⟨j, hj, rfl⟩ := List.getElem_of_mem hr
      exact hso j _ (by omega) (List.getElem?_eq_getElem hj)
    have hhit := lhit_hit hrg hlh
    have s0x := s05.trans sx
    obtain ⟨ub, eBx, pb⟩ := id (hB.same s0x)
    have lub : ub.length = gs.length := pb.1
    -- none is gone
    refine ⟨_, rfl, t, _, 1, _, rfl, rfl, .inl (.inl (s0x _ _ et)), atI_nat (j := 1) rfl, N, rfl, iseq_lc (hN.noTab (NoTab.same s0x)) fun J G wk hG D6 nD6 => lc_mapW V.bl (fun i => goneB gs (ns.getD i 0)) wk nD6 (by omega) (fun H' s' => hG H' (NoTab.same s')) (fun j x H7' H7 Kt Kn hj s7 hy2 k => ?_) (fun H6 s7 eG3 => ?_)⟩
    · obtain ⟨rfl, hx2⟩ := hy2
      have l1 : j < ns.length := by omega
      rw [List.getElem?_map, List.getElem?_eq_getElem l1] at hx2
      cases hx2
      rw [List.getD_eq_getElem?_getD, List.getElem?_eq_getElem l1] at k
      refine ⟨rfl, _, rfl, b, rfl, ⟨_, SqL.of (s7 _ _ eBx)⟩, fun G4 nG4 => lc_bs (bs := gs.map fun g => inB2 g ns[j]) nG4 (s7 _ _ eBx) (by rw [List.length_map, lub]) (by omega) (fun j2 x2 bb2 H8 Kt2 Kn2 hx3 hb3 s9 k2 => ?_) (fun H8 s9 eG4 => ?_)⟩
      · obtain ⟨g, T, eg, rfl, eTg⟩ := prs_at pb hx3
        rw [List.getElem?_map, eg] at hb3
        cases hb3
        have this : Kt2 (V.bl (decide (g.1 ≤ ns[j]) && decide (ns[j] ≤ g.2))) H8 := k2 _ (Same.refl _)
        refine ⟨T, _, rfl, .inl (.inl ((s7.trans s9) _ _ eTg)), rfl, _, _, rfl, _, _, rfl, rfl, rfl, _, rfl, _, rfl, _, _, rfl, rfl, _, rfl, ite2 (fun c1 => ⟨_, rfl, _, _, rfl, rfl, ?_⟩) (fun c1 => ?_)⟩
        · rw [c1] at this
          exact this
        · rw [Bool.eq_false_iff.mpr c1] at this
          exact this
      · refine ⟨G4, _, rfl, SqL.of eG4, ?_⟩
        rw [List.any_map]
        exact k _ s9
    refine ⟨D6, _, rfl, SqL.of eG3, _, rfl, ?_⟩
    have e : (((List.range (ns.map V.int).length).map fun i => goneB gs (ns.getD i 0)).any id) = ns.any (goneB gs) := by
      rw [lN]
      exact any_range (g := goneB gs) fun i hi => by rw [List.getD_eq_getElem?_getD, List.getElem?_eq_getElem hi]; rfl
    rw [e]
    have s07 := s0x.trans s7
    cases hgone : ns.any (goneB gs) with
    | true => exact iteT (qk (by unfold fewR; rw [hgone]; simp) _ s07)
    | false =>
    refine iteF ?_
    -- as many places as numbers
    refine ⟨_, rfl, t, _, 1, _, rfl, rfl, .inl (.inl (s07 _ _ et)), atI_nat (j := 1) rfl, N, _, rfl, (hN.noTab (NoTab.same s07)).lq, _, rfl, t, _, 2, _, rfl, rfl, .inl (.inl (s07 _ _ et)), atI_nat (j := 2) rfl, A2, _, rfl, (hP.noTab (NoTab.same s07)).lq, rfl, _, rfl, ?_⟩
    rw [lN, lP]
    refine ite2 (fun z => ?_) (fun z => ?_)
    · refine qk ?_ _ s07
      by_cases e : ns.length = ap.length
      · simp [e] at z
      · unfold fewR; rw [decide_eq_false e]; simp
    have hlen : ns.length = ap.length := by
      by_cases e : ns.length = ap.length
      · exact e
      · simp [e] at z; omega
    refine ⟨_, rfl, t, _, 2, _, rfl, rfl, .inl (.inl (s07 _ _ et)), atI_nat (j := 2) rfl, A2, rfl, iseq_lc (hP.noTab (NoTab.same s07)) fun J G wk hG D7 nD7 => lc_mapW V.bl (fun i => decide ((rs.length : Int) ≤ ap.getD i 0)) wk nD7 (by omega) (fun H' s' => hG H' (NoTab.same s')) (fun j x H8' H8 Kt Kn hj s9 hy2 k => ?_) (fun H8 s9 eG5 => ?_)⟩
    · obtain ⟨rfl, hx2⟩ := hy2
      have l1 : j < ap.length := by omega
      rw [List.getElem?_map, List.getElem?_eq_getElem l1] at hx2
      cases hx2
      rw [List.getD_eq_getElem?_getD, List.getElem?_eq_getElem l1] at k
      refine ⟨rfl, _, rfl, _, rfl, a, _, rfl, .inl (SqL.of ((s07.trans s9) _ _ eA)), _, _, rfl, rfl, ?_⟩
      have := k _ (Same.refl _)
      rw [← lus] at this
      exact this
    refine ⟨D7, _, rfl, SqL.of eG5, _, rfl, ?_⟩
    have ebel : (((List.range (ap.map V.int).length).map fun i => decide ((rs.length : Int) ≤ ap.getD i 0)).any id) = !(ap.all fun x => decide (x < (rs.length : Int))) := by
      rw [lP, any_range (g := fun x => decide ((rs.length : Int) ≤ x)) (fun i hi => by rw [List.getD_eq_getElem?_getD, List.getElem?_eq_getElem hi]; rfl), List.all_eq_not_any_not, Bool.not_not]
      congr 1
      funext x
      by_cases c : x < (rs.length : Int)
      · rw [decide_eq_true c, decide_eq_false (by omega)]; rfl
      · rw [decide_eq_false c, decide_eq_true (by omega)]; rfl
    rw [ebel]
    have s09 := s07.trans s9
    cases hall : ap.all (fun x => decide (x < (rs.length : Int))) with
    | false => exact iteT (qk (by unfold fewR; rw [hall]; simp) _ s09)
    | true =>
    refine iteF ?_
    have hrng : ∀ x ∈ ap, 0 ≤ x ∧ x < (rs.length : Int) := fun x hx => ⟨hP0 x hx, of_decide_eq_true (List.all_eq_true.mp hall x hx)⟩
    have sLz : Same H5 H8 := (sx.trans s7).trans s9
    refine ⟨_, rfl, t, _, 2, _, rfl, rfl, .inl (.inl (s09 _ _ et)), atI_nat (j := 2) rfl, A2, rfl, for_enQ (hP.noTab (NoTab.same s09)) (fun i σ Hx => ∃ y4 y5 y6 y7 y8 y9 y10 : Option V, σ = [some (.ref a), some (.ref b), some (.ref t), some (.ref L), y4, y5, y6, y7, y8, y9, y10] ∧ Same H8 Hx ∧ ∀ i' j', i' < i → j' < i' → shF rs gs ap i' j' = false) ⟨_, _, _, _, _, _, _, rfl, Same.refl _, fun i' j' z => absurd z (Nat.not_lt_zero _)⟩ (fun i σ Hx hP' => ?_) (fun i v T σ Hx e2 hP' nT => ?_) (fun σ Hx hP' => ?_)⟩
    · obtain ⟨y4, y5, y6, y7, y8, y9, y10, rfl, sy, _⟩ := hP'
      exact NoTab.same sy
    · obtain ⟨y4, y5, y6, y7, y8, y9, y10, rfl, sy, hso⟩ := hP'
      rw [List.getElem?_map] at e2
      obtain ⟨pl, epl, rfl⟩ := Option.map_eq_some_iff.mp e2
      have sT := same_upd (o := .tup [.int (i : Nat), .int pl]) nT
      obtain ⟨p0, p1⟩ := hrng pl (List.mem_of_getElem? epl)
      have li : i < ap.length := (List.getElem?_eq_some_iff.mp epl).1
      obtain ⟨pn, rfl⟩ := Int.eq_ofNat_of_zero_le p0
      have hpn : pn < rs.length := by omega
      have erp : rs[pn]? = some rs[pn] := List.getElem?_eq_getElem hpn
      obtain ⟨m, f1, f2⟩ := hLR5.2 pn _ (by rw [List.getElem?_map, erp]; rfl)
      have sx1 := sy.trans sT
      have sLx := sLz.trans sx1
      have s0T := s09.trans sx1
      refine ⟨T, _, rfl, .inl (.inl upd_same), rfl, _, _, rfl, _, _, rfl, rfl, ?_⟩
      refine ⟨_, rfl, t, _, 2, _, rfl, rfl, .inl (.inl (s0T _ _ et)), atI_nat (j := 2) rfl, _, rfl, _, rfl, rSlQ.front (hP.noTab (NoTab.same s0T)) (by rw [lP]; exact li) fun p2 H9 s9' eP2 => ?_⟩
      have lt : ((ap.map V.int).take i).length = i := by rw [List.length_take, lP]; omega
      refine ⟨p2, rfl, iseq_lc eP2 fun J G wk hG D8 nD8 => lc_mapW V.bl (fun j => shF rs gs ap i j) wk nD8 (by omega) (fun H' s' => hG H' (NoTab.same s')) (fun j x H10' H10 Kt Kn hj s11 hy2 k => ?_) (fun H10 s11 eG6 => ?_)⟩
      · obtain ⟨rfl, hx2⟩ := hy2
        have hj' : j < i := by omega
        have la : j < ap.length := by omega
        rw [List.getElem?_take, if_pos hj', List.getElem?_map, List.getElem?_eq_getElem la] at hx2
        cases hx2
        obtain ⟨n0, n1⟩ := hrng _ (List.getElem_mem la)
        obtain ⟨nn, enn⟩ := Int.eq_ofNat_of_zero_le n0
        have hnn' : nn < rs.length := by omega
        have ern : rs[nn]? = some rs[nn] := List.getElem?_eq_getElem hnn'
        obtain ⟨m2, g1, g2⟩ := hLR5.2 nn _ (by rw [List.getElem?_map, ern]; rfl)
        have sL9 := (sLx.trans s9').trans s11
        have esh : shF rs gs ap i j = shareB (leftR gs rs[pn]) (leftR gs rs[nn]) := by
          unfold shF
          rw [List.getD_eq_getElem?_getD, List.getD_eq_getElem?_getD, List.getD_eq_getElem?_getD, List.getD_eq_getElem?_getD, epl, List.getElem?_eq_getElem la]
          simp only [Option.getD_some]
          rw [enn]
          rw [show ((pn : Nat) : Int).toNat = pn from rfl, show ((nn : Nat) : Int).toNat = nn from rfl, erp, ern]
          rfl
        rw [esh] at k
        refine ⟨rfl, _, rfl, _, rfl, L, _, _, .ref m, rfl, rfl, SqL.of (sL9 _ _ eL5), atI_nat f1, _, rfl, _, rfl, L, _, _, .ref m2, rfl, rfl, SqL.of (sL9 _ _ eL5), by rw [enn]; exact atI_nat g1, m, m2, _, _, rfl, f2.same sL9, g2.same sL9, Nat.le_trans (leftF_len ..) (by omega), fun H11 s13 => k _ s13⟩
      refine ⟨D8, _, rfl, SqL.of eG6, _, rfl, ?_⟩
      rw [lt]
      have sEnd := (s0T.trans s9').trans s11
      cases hany : (((List.range i).map fun j => shF rs gs ap i j).any id) with
      | true =>
        refine iteT (qk ?_ _ sEnd)
        rw [List.any_map] at hany
        obtain ⟨j, hj, hsh⟩ := List.any_eq_true.mp hany
        unfold fewR
        rw [apart_no li (List.mem_range.mp hj) hsh]
        simp
      | false =>
        refine iteF ⟨_, _, _, _, _, _, _, rfl, (sx1.trans s9').trans s11, fun i' j' h1 h2 => ?_⟩
        by_cases c : i' = i
        · subst c
          rw [List.any_map, List.any_eq_false] at hany
          have := hany j' (List.mem_range.mpr h2)
          exact Bool.eq_false_iff.mpr this
        · exact hso i' j' (by omega) h2
    · obtain ⟨y4, y5, y6, y7, y8, y9, y10, rfl, sy, hso⟩ := hP'
      rw [lP] at hso
      have e : fewB rs gs (.tuple [.str wd, dy, dz]) = true := by
        rw [fewB_3 ew hny hnz]
        unfold fewR
        rw [hinc, hain, hall, hlen, hgone, hhit, apart_yes hso]
        simp
      have := q Hx (s09.trans sy)
      rw [notB, e] at this
      exact this
end

theorem Kp.gone' {H H' : Hp} {d c p : Addr} {t t' : Int} (S : StAt H d c t) (k : Kp d c H H') (S' : StAt H' d c t') (n : H' p = none) : H p = none := by
  have off := S'.off n
  cases e : H p with
  | none => rfl
  | some o =>
    rw [k p o off.1 off.2 e] at n
    cases n

open LamX
/-! ### of what kind, of what size a thing is -/
theorem shown_int40 {i : Int} (h : i.natAbs < 10 ^ 39) : (PyData.int i).shown.length ≤ 40 := by
  have e := int_text_length_le10 (k := 39) (by decide) h
  show (Str.ofString (toString i)).length ≤ 40
  rw [PySem.ofString_length]
  exact e
theorem showable_int {i : Int} (h : i.natAbs < 10 ^ 39) : (PyData.int i).showable = true := by
  rw [PyData.showable]
  by_cases z : i.natAbs = 0
  · rw [z]; decide
  · exact decide_eq_true (Nat.lt_trans ((Nat.log2_lt (k := 130) z).mpr (Nat.lt_trans h (by decide))) (by decide))
inductive Bd (M : Nat) (S : List Str) : Nat → PyData → Prop
  | non {n : Nat} : Bd M S n .none
  | bl {n : Nat} (b : Bool) : Bd M S n (.bool b)
  | int {n : Nat} {i : Int} : i.natAbs < M → Bd M S n (.int i)
  | str {n : Nat} {x : Str} : x ∈ S → Bd M S n (.str x)
  | lst {n : Nat} {ds : List PyData} : (∀ d ∈ ds, Bd M S n d) → Bd M S (n + 1) (.list ds)
  | tup {n : Nat} {ds : List PyData} : (∀ d ∈ ds, Bd M S n d) → Bd M S (n + 1) (.tuple ds)
theorem Bd.mono {M M' : Nat} {S S' : List Str} {n : Nat} {d : PyData} (h : Bd M S n d) (hM : M ≤ M') (hS : ∀ x ∈ S, x ∈ S') : ∀ {n'}, n ≤ n' → Bd M' S' n' d := by
  induction h with
  | non => intro _ _; exact .non
  | bl b => intro _ _; exact .bl b
  | int e => intro _ _; exact .int (Nat.lt_of_lt_of_le e hM)
  | str e => intro _ _; exact .str (hS _ e)
  | lst _ ih =>
    intro n' hn
    cases n' with
    | zero => omega
    | succ n' => exact .lst fun d hd => ih d hd (by omega)
  | tup _ ih =>
    intro n' hn
    cases n' with
    | zero => omega
    | succ n' => exact .tup fun d hd => ih d hd (by omega)
def strsOk (S : List Str) : Bool := S.all fun x => (PyData.leavesShort 40 (.str x) && (PyData.str x).showable)
theorem Bd.show {M : Nat} {S : List Str} {n : Nat} {d : PyData} (hM : M ≤ 10 ^ 39) (hS : strsOk S = true) (h : Bd M S n d) : PyData.leavesShort 40 d = true ∧ d.showable = true ∧ d.hasDict = false ∧ d.depth ≤ n := by
  have str : ∀ x ∈ S, PyData.leavesShort 40 (.str x) = true ∧ (PyData.str x).showable = true := fun x hx => by
    have := List.all_eq_true.mp hS x hx
    simpa [Bool.and_eq_true] using this
  have all : ∀ (n : Nat) (ds : List PyData), (∀ d ∈ ds, PyData.leavesShort 40 d = true ∧ d.showable = true ∧ d.hasDict = false ∧ d.depth ≤ n) → PyData.leavesShortAll 40 ds = true ∧ PyData.showableAll ds = true ∧ PyData.hasDictAll ds = false ∧ PyData.depthAll ds ≤ n := by
    intro n ds
    induction ds with
    | nil => intro _; simp [PyData.leavesShortAll, PyData.showableAll, PyData.hasDictAll, PyData.depthAll]
    | cons d r ih =>
      intro h
      obtain ⟨a1, a2, a3, a4⟩ := h d (List.mem_cons_self ..)
      obtain ⟨b1, b2, b3, b4⟩ := ih fun e he => h e (List.mem_cons_of_mem _ he)
      simp [PyData.leavesShortAll, PyData.showableAll, PyData.hasDictAll, PyData.depthAll, a1, a2, a3, b1, b2, b3]
      omega
  induction h with
  | non => simp [PyData.leavesShort, PyData.showable, PyData.hasDict, PyData.depth]
  | bl b => simp [PyData.leavesShort, PyData.showable, PyData.hasDict, PyData.depth]
  | int e =>
    have h := Nat.lt_of_lt_of_le e hM
    exact ⟨by simp [PyData.leavesShort, shown_int40 h], showable_int h, by simp [PyData.hasDict], by simp [PyData.depth]⟩
  | str e => exact ⟨(str _ e).1, (str _ e).2, by simp [PyData.hasDict], by simp [PyData.depth]⟩
  | lst _ ih =>
    obtain ⟨a1, a2, a3, a4⟩ := all _ _ ih
    exact ⟨by simpa [PyData.leavesShort] using a1, by simpa [PyData.showable] using a2, by simpa [PyData.hasDict] using a3, by simp only [PyData.depth]; omega⟩
  | tup _ ih =>
    obtain ⟨a1, a2, a3, a4⟩ := all _ _ ih
    exact ⟨by simpa [PyData.leavesShort] using a1, by simpa [PyData.showable] using a2, by simpa [PyData.hasDict] using a3, by simp only [PyData.depth]; omega⟩
structure ShwD (d : PyData) : Prop where
  s : d.showable = true
  h : d.hasDict = false
  p : d.depth ≤ 8
  l : d.shown.length ≤ sizeLine
theorem Bd.shw {M : Nat} {S : List Str} {n : Nat} {d : PyData} (h : Bd M S n d) (hM : M ≤ 10 ^ 39) (hS : strsOk S = true) (hn : n ≤ 8) (hw : d.weight ≤ 300000) : ShwD d := by
  obtain ⟨a1, a2, a3, a4⟩ := h.show hM hS
  exact ⟨a2, a3, by omega, Nat.le_trans (PyData.shown_le 40 (by decide) d a1) (Nat.le_trans (Nat.add_le_add_right (Nat.mul_le_mul_left 42 hw) 40) (by decide))⟩
/-! ### the places of all that is within -/
/-- a way into a thing -/
inductive WayIn : PyData → List Int → Prop
  | here (d : PyData) : WayIn d []
  | into {d e : PyData} {ds : List PyData} {i : Nat} {p : List Int} : rowOf d = some ds → ds[i]? = some e → WayIn e p → WayIn d ((i : Int) :: p)
def SpotAt (H : Hp) (d : PyData) (x : V) : Prop := ∃ (T : Addr) (p : List Int), x = .ref T ∧ H T = some (.tup (p.map V.int)) ∧ WayIn d p
theorem SpotAt.same {H H' : Hp} {d : PyData} {x : V} (h : SpotAt H d x) (s : Same H H') : SpotAt H' d x := by
  obtain ⟨T, p, e, eT, w⟩ := h
  exact ⟨T, p, e, s _ _ eT, w⟩
theorem WayIn.len {M : Nat} {S : List Str} {d : PyData} {p : List Int} (h : WayIn d p) : ∀ {n}, Bd M S n d → p.length ≤ n := by
  induction h with
  | here d => intro n _; exact Nat.zero_le _
  | into e1 e2 _ ih =>
    intro n hb
    cases hb with
    | lst k => cases e1; exact Nat.succ_le_succ (ih (k _ (List.mem_of_getElem? e2)))
    | tup k => cases e1; exact Nat.succ_le_succ (ih (k _ (List.mem_of_getElem? e2)))
    | non => cases e1
    | bl b => cases e1
    | int e => cases e1
    | str e => cases e1
theorem Bd.row {M : Nat} {S : List Str} {n : Nat} {d : PyData} {ds : List PyData} (h : Bd M S n d) (e : rowOf d = some ds) : ∃ m, n = m + 1 ∧ ∀ x ∈ ds, Bd M S m x := by
  cases h with
  | lst k => cases e; exact ⟨_, rfl, k⟩
  | tup k => cases e; exact ⟨_, rfl, k⟩
  | non => cases e
  | bl b => cases e
  | int e => cases e
  | str e => cases e
theorem weightAll_take {ds : List PyData} {i : Nat} {d : PyData} (e : ds[i]? = some d) : PyData.weightAll (ds.take (i + 1)) = PyData.weightAll (ds.take i) + d.weight + 1 := by
  rw [weightAll_eq, weightAll_eq, List.take_add_one, e, List.map_append, List.sum_append]
  simp
  omega
theorem weightAll_le {ds : List PyData} (i : Nat) : PyData.weightAll (ds.take i) ≤ PyData.weightAll ds := by
  rw [weightAll_eq, weightAll_eq]
  conv => rhs; rw [← List.take_append_drop i ds, List.map_append, List.sum_append]
  omega
theorem for_enK {K : PySem.W.Frag} {a : Addr} {xs : List V} {g : TG} {tb : TS} {D : Ends} {σ : L2.St} {H0 : Hp} (hq : SqH H0 a xs) (Pv : Nat → L2.St → Hp → Prop) (h0 : Pv 0 σ H0) (hl : ∀ i σ H', Pv i σ H' → ∀ o, H0 a = some o → H' a = some o)
    (turn : ∀ i x T σ H, xs[i]? = some x → Pv i σ H → H T = none → g (.ref T) σ (upd H T (.tup [.int (i : Nat), x])) fun σ2 H2 => tb { D with nx := Pv (i + 1), ct := Pv (i + 1), bk := D.nx } σ2 H2) (fin : ∀ σ H, Pv xs.length σ H → D.nx σ H) :
    ((∃ xs, SqL K H0 a xs) ∧ ForR (Ite K a) g tb D σ H0) ∨ ((∃ xs, SqT K H0 a xs) ∧ ForR (IteT K a) g tb D σ H0) := by
  have tn : ∀ i v σ H H', i < xs.length → Pv i σ H → YPair (fun i => some (.int (i : Nat))) (fun i => xs[i]?) i H v H' → g v σ H' fun σ2 H2 => tb { D with nx := Pv (i + 1), ct := Pv (i + 1), bk := D.nx } σ2 H2 := by
    rintro i v σ H H' _ hp ⟨T, x, y, rfl, nT, rfl, e1, e2⟩
    cases e1
    exact turn i y T σ H e2 hp nT
  rcases hq with h | h
  · exact .inl ⟨⟨xs, SqL.of h⟩, for_it walk_enum Pv h0 (fun i σ H' _ p => SqL.of (hl i σ H' p _ h)) tn fin⟩
  · exact .inr ⟨⟨xs, .inl (.inl h)⟩, for_it walk_enT Pv h0 (fun i σ H' _ p => .inl (.inl (hl i σ H' p _ h))) tn fin⟩
--SPOTS
abbrev sSpots : Stmt := topS 33
theorem scSpots : FnScope ["_law_thing", "_law_found", "_law_at", "_law_one", "_law_spot"] ["_law_thing"] (defScope sSpots) := ⟨rfl, rfl, rfl, by decide +kernel, rfl, by decide +kernel, by decide +kernel⟩
def spSpots (n : Nat) : Sp := fun vs H Q _ => ∃ (c : List Addr) (v : V) (d : PyData) (M : Nat) (S : List Str), vs = [v] ∧ Thg c H v d ∧ Bd M S n d ∧ d.weight ≤ 300000 ∧
  ∀ p us H', Same H H' → H p = none → H' p = some (.lst us) → us ≠ [] → us.length ≤ 1 + d.weight → (∀ x ∈ us, SpotAt H' d x) → Q (.ref p) H'
section
variable {K : PySem.W.Frag} {mg : Str → Option Value} {P : Program} {w : World} {base : Heap}
theorem ok_Spots0 {f : Addr} {fd : FuncData} {k : Nat} (F : Fun K "_law_spots" "_law_spots" sSpots f fd) (m_tuple : mg "tuple" = none) (m_list : mg "list" = none) (m_isinstance : mg "isinstance" = none) : FnOk P w K mg base CX0 (k + 1) f fd ["_law_thing"] (spSpots 0) := by
  refine F.ok scSpots (fun vs H Q E h => ?_) (fun cdv A outer s H vs Q E hr h => ?_)
  · obtain ⟨c0, v, d, M, S, rfl, _⟩ := h
    rfl
  · obtain ⟨c0, v, d, M, S, rfl, hv, hb, hw, q⟩ := h
    refine ⟨_, pss_cons (ps_set (i := 1) scSpots.nd rfl (.inl rfl) (pe_lst (pa_cons (pe_tup pa_nil) pa_nil)))
      (pss_cons (ps_if (pt_val (pe_callB call_isiT (by rfl) m_isinstance (by decide +kernel) (pa_cons (pv 0) (pa_cons (pe_tup (pa_cons (pe_bltn (v := .ty "list") (by rfl) m_list (by decide +kernel) rfl) (pa_cons (pe_bltn (v := .ty "tuple") (by rfl) m_tuple (by decide +kernel) rfl) pa_nil))) pa_nil)))) pss_never
        pss_nil)
      (pss_one (ps_ret (pv 1)))), ?_⟩
    refine ⟨(by show 0 ≤ sizeLine; exact Nat.zero_le _), fun T nT => ⟨(by show 1 ≤ sizeLine; decide), fun L nL => ?_⟩⟩
    have sT : Same H (upd H T (.tup [])) := same_upd nT
    have eT : upd H T (.tup []) T = some (.tup []) := upd_same
    generalize upd H T (.tup []) = H1 at sT eT nL
    have sL := same_upd (o := .lst [.ref T]) nL
    have eL : upd H1 L (.lst [.ref T]) L = some (.lst [.ref T]) := upd_same
    have nLH : H L = none := (NoTab.same sT).free nL
    generalize upd H1 L (.lst [.ref T]) = H2 at sL eL
    have s02 := sT.trans sL
    have er : rowOf d = none := by
      cases hr : rowOf d with
      | none => rfl
      | some ds => obtain ⟨m, e, _⟩ := hb.row hr; cases e
    refine ⟨_, rfl, (by show 2 ≤ sizeLine; decide), fun p np => ?_⟩
    have s1 : Same H2 (upd H2 p (.tup [.ty "list", .ty "tuple"])) := same_upd np
    obtain ⟨t, h1, h2⟩ := isi_row (K := K) ((hv.same s02).same s1)
    rw [er] at h2
    refine ⟨v, p, _, t, _, _, rfl, upd_same, .cons (.ty _) (.cons (.ty _) .nil), h1, h2, _, rfl, iteF ?_⟩
    exact ⟨_, rfl, q L [.ref T] _ (s02.trans s1) nLH (s1 _ _ eL) (by simp) (by simp) fun x hx => by
      rw [List.mem_singleton.mp hx]
      exact ⟨T, [], rfl, s1 _ _ (sL _ _ eT), .here d⟩⟩

theorem ok_SpotsS {f : Addr} {fd : FuncData} {n k : Nat} (F : Fun K "_law_spots" "_law_spots" sSpots f fd) (C : Cal P w K mg base k "_law_spots" ["_law_thing"] (spSpots n)) (m_tuple : mg "tuple" = none) (m_list : mg "list" = none) (m_isinstance : mg "isinstance" = none) (m_enumerate : mg "enumerate" = none) (hn8 : n < 8) : FnOk P w K mg base CX0 (k + 1) f fd ["_law_thing"] (spSpots (n + 1)) := by
  refine F.ok scSpots (fun vs H Q E h => ?_) (fun cdv A outer s H vs Q E hr h => ?_)
  · obtain ⟨c0, v, d, M, S, rfl, _⟩ := h
    rfl
  · obtain ⟨c0, v, d, M, S, rfl, hv, hb, hw, q⟩ := h
    refine ⟨_, pss_cons (ps_set (i := 1) scSpots.nd rfl (.inl rfl) (pe_lst (pa_cons (pe_tup pa_nil) pa_nil)))
      (pss_cons (ps_if (pt_val (pe_callB call_isiT (by rfl) m_isinstance (by decide +kernel) (pa_cons (pv 0) (pa_cons (pe_tup (pa_cons (pe_bltn (v := .ty "list") (by rfl) m_list (by decide +kernel) rfl) (pa_cons (pe_bltn (v := .ty "tuple") (by rfl) m_tuple (by decide +kernel) rfl) pa_nil))) pa_nil)))) (pss_one (ps_for PassesOwn.never rfl (pi_enS (by rfl) m_enumerate (pa_cons (pv 0) pa_nil)) (pg_tup rfl (pgs_cons (pg_name (i := 2) scSpots.nd rfl (.inr rfl)) (pgs_cons (pg_name (i := 3) scSpots.nd rfl (.inl rfl)) pgs_nil)))
          (pss_one (ps_expr (pe_bm PySem.F.plainAttrs_list PySem.F.slot_list_extend PySem.F.type_list_extend mt_extend (pv 1) (pa_cons (pe_lc (own := [("_law_spot", 4)]) (g := (gName 4)) (tt := tYes) (te := (tOp (rCatA K) (tTup (tCons (tVar 2) tNil)) (tVar 4))) rfl scSpots.nd (pi_list (pe_own C hr (by rfl) (pa_cons (pv 3) pa_nil))) (blkOk_by (own := [("_law_spot", 4)]) (N := ["_law_thing", "_law_found", "_law_at", "_law_one", "_law_spot"]) (sc := defScope sSpots) (by decide +kernel)) (fun _ _ _ _ _ => (pg_name (i := 4) scSpots.nd rfl (.inl rfl))) (fun _ _ _ _ _ => pts_nil) (fun _ _ _ _ _ => (pe_op op_catA (pe_tup (pa_cons (pv 2) pa_nil)) (pv 4)))) pa_nil))))))
        pss_nil)
      (pss_one (ps_ret (pv 1)))), ?_⟩
    refine ⟨(by show 0 ≤ sizeLine; exact Nat.zero_le _), fun T nT => ⟨(by show 1 ≤ sizeLine; decide), fun L nL => ?_⟩⟩
    have sT : Same H (upd H T (.tup [])) := same_upd nT
    have eT : upd H T (.tup []) T = some (.tup []) := upd_same
    generalize upd H T (.tup []) = H1 at sT eT nL
    have sL := same_upd (o := .lst [.ref T]) nL
    have eL : upd H1 L (.lst [.ref T]) L = some (.lst [.ref T]) := upd_same
    have nLH : H L = none := (NoTab.same sT).free nL
    generalize upd H1 L (.lst [.ref T]) = H2 at sL eL
    have s02 := sT.trans sL
    refine ⟨_, rfl, (by show 2 ≤ sizeLine; decide), fun p np => ?_⟩
    have s1 : Same H2 (upd H2 p (.tup [.ty "list", .ty "tuple"])) := same_upd np
    have ep : upd H2 p (.tup [.ty "list", .ty "tuple"]) p = some (.tup [.ty "list", .ty "tuple"]) := upd_same
    generalize upd H2 p (.tup [.ty "list", .ty "tuple"]) = H3 at s1 ep
    have s03 := s02.trans s1
    have eL3 := s1 _ _ eL
    have eT3 := s1 _ _ (sL _ _ eT)
    obtain ⟨t, h1, h2⟩ := isi_row (K := K) (hv.same s03)
    refine ⟨v, p, _, t, _, _, rfl, ep, .cons (.ty _) (.cons (.ty _) .nil), h1, h2, _, rfl, ?_⟩
    have fin0 : SpotAt H3 d (.ref T) := ⟨T, [], rfl, eT3, .here d⟩
    cases hr' : rowOf d with
    | none =>
      exact iteF ⟨_, rfl, q L [.ref T] _ s03 nLH eL3 (by simp) (by simp) fun x hx => by rw [List.mem_singleton.mp hx]; exact fin0⟩
    | some ds =>
    obtain ⟨a, xs, rfl, hA, hl⟩ := hv.row hr'
    obtain ⟨m, em, hall⟩ := hb.row hr'
    cases em
    have hwd := weight_row hr'
    refine iteT ⟨_, rfl, a, rfl, for_enK (hA.noTab (NoTab.same s03)) (fun i σ Hx => ∃ (us : List V) (y2 y3 y4 : Option V), σ = [some (.ref a), some (.ref L), y2, y3, y4] ∧ Same H Hx ∧ Hx L = some (.lst us) ∧ us ≠ [] ∧ us.length ≤ 1 + PyData.weightAll (ds.take i) ∧ ∀ x ∈ us, SpotAt Hx d x)
      ⟨[.ref T], _, _, _, rfl, s03, eL3, by simp, by simp, fun x hx => by rw [List.mem_singleton.mp hx]; exact fin0⟩ (fun i σ Hx hP o e => ?_) (fun i x T2 σ Hx hx hP nT2 => ?_) (fun σ Hx hP => ?_)⟩
    · obtain ⟨us, y2, y3, y4, rfl, sx, _⟩ := hP
      rcases hA with e2 | e2
      · rw [s03 _ _ e2] at e; cases e; exact sx _ _ e2
      · rw [s03 _ _ e2] at e; cases e; exact sx _ _ e2
    · obtain ⟨us, y2, y3, y4, rfl, sx, eLx, hne, hlen, hsp⟩ := hP
      have hi : i < ds.length := by rw [← hl.1]; exact (List.getElem?_eq_some_iff.mp hx).1
      have ed : ds[i]? = some ds[i] := List.getElem?_eq_getElem hi
      have hmem := List.getElem_mem hi
      generalize ds[i] = dj at ed hmem
      have sT2 := same_upd (o := .tup [.int (i : Nat), x]) nT2
      have eT2 : upd Hx T2 (.tup [.int (i : Nat), x]) T2 = some (.tup [.int (i : Nat), x]) := upd_same
      generalize upd Hx T2 (.tup [.int (i : Nat), x]) = Hy at sT2 eT2
      have hwj : dj.weight ≤ 300000 ∧ PyData.weightAll (ds.take i) + dj.weight + 1 ≤ 300000 := by
        have h1 := weightAll_take ed
        have h2 := weightAll_le (ds := ds) (i + 1)
        omega
      have s0y := sx.trans sT2
      refine ⟨T2, _, rfl, .inl (.inl eT2), rfl, _, _, rfl, _, _, rfl, rfl, ?_⟩
      have eLy := sT2 _ _ eLx
      refine ⟨_, rfl, .inl ⟨rfl, _, SqL.of eLy⟩, _, rfl, c0, x, dj, M, S, rfl, (hl.2 i x dj hx ed).same s0y, hall _ hmem, hwj.1, fun p2 us2 H4 s4 np2 ep2 _ hl2 hs2 => ?_⟩
      refine ⟨p2, rfl, ⟨_, SqL.of ep2⟩, fun D nD => lc_list (xs := us2) (fun j H' => Same H4 H' ∧ ∃ ws, H' D = some (.lst ws) ∧ ws.length = j ∧ ∀ y ∈ ws, SpotAt H' d y) ⟨same_upd nD, [], upd_same, rfl, fun y hy => nomatch hy⟩ (fun j H' _ hP => SqL.of (hP.1 _ _ ep2)) (fun j y H' hy hP => ?_) (fun H5 hP => ?_)⟩
      · obtain ⟨sm, ws, eD, lws, hws⟩ := hP
        obtain ⟨Ty, pth, rfl, eTy, way⟩ := hs2 y (List.mem_of_getElem? hy)
        have hpl := way.len (hall _ hmem)
        have hz2 : ws.length < sizeLine := by
          have := (List.getElem?_eq_some_iff.mp hy).1
          have e := sizeLine_eq
          omega
        have eTy' := sm _ _ eTy
        have way' : WayIn d ((i : Int) :: pth) := .into hr' ed way
        have eTyD : ∀ {Hz : Hp} {o : HO} {T' : Addr} {ps : List V}, Hz D = some (.lst ws) → Hz T' = some (.tup ps) → upd Hz D o T' = some (.tup ps) := fun e1 e2 => by rw [upd_ne (ne_of e2 e1 (fun z => nomatch z))]; exact e2
        have put : ∀ {Hz : Hp} {T' : Addr} {ps : List Int}, Same H' Hz → Hz T' = some (.tup (ps.map V.int)) → WayIn d ps → ∃ acc, Hz D = some (.lst acc) ∧ acc.length < sizeLine ∧ (Same H4 (upd Hz D (.lst (acc ++ [.ref T']))) ∧ ∃ ws, upd Hz D (.lst (acc ++ [.ref T'])) D = some (.lst ws) ∧ ws.length = j + 1 ∧ ∀ y ∈ ws, SpotAt (upd Hz D (.lst (acc ++ [.ref T']))) d y) := fun {Hz T' ps} sz eT' wy => by
          have eDz := sz _ _ eD
          refine ⟨ws, eDz, hz2, fun b' o e => ?_, _, upd_same, by rw [List.length_append, lws]; rfl, fun y hy => ?_⟩
          · rw [upd_ne (ne_of_none e nD)]
            exact sz _ _ (sm b' o e)
          · rcases List.mem_append.mp hy with hy | hy
            · obtain ⟨T9, p9, e9, h9, w9⟩ := hws y hy
              exact ⟨T9, p9, e9, eTyD eDz (sz _ _ h9), w9⟩
            · rw [List.mem_singleton.mp hy]
              exact ⟨T', ps, rfl, eTyD eDz eT', wy⟩
        refine ⟨rfl, _, rfl, (by show 1 ≤ sizeLine; decide), fun T3 nT3 => ?_⟩
        have sT3 := same_upd (o := .tup [.int (i : Nat)]) nT3
        have eT3 : upd H' T3 (.tup [.int (i : Nat)]) T3 = some (.tup [.int (i : Nat)]) := upd_same
        generalize upd H' T3 (.tup [.int (i : Nat)]) = H6 at sT3 eT3
        refine ⟨_, rfl, T3, Ty, [.int (i : Nat)], pth.map V.int, rfl, rfl, .inl (.inl eT3), .inl (.inl (sT3 _ _ eTy')), by rw [List.length_map]; have e := sizeLine_eq; show 1 + _ ≤ _; omega, fun z => absurd z (List.cons_ne_nil _ _), fun _ z => ?_, fun _ _ T4 nT4 => ?_⟩
        · have : pth = [] := List.map_eq_nil_iff.mp z
          subst this
          exact put sT3 (ps := [(i : Int)]) eT3 way'
        · exact put (sT3.trans (same_upd nT4)) (ps := (i : Int) :: pth) upd_same way'
      · obtain ⟨s5, ws, eD, lws, hws⟩ := hP
        have s05 := (s0y.trans s4).trans s5
        have eL5 := s5 _ _ (s4 _ _ eLy)
        have hz3 : us.length + ws.length ≤ sizeLine := by have e := sizeLine_eq; omega
        have kp : ∀ {T' : Addr} {ps : List V}, H5 T' = some (.tup ps) → upd H5 L (.lst (us ++ ws)) T' = some (.tup ps) := fun e2 => by rw [upd_ne (ne_of e2 eL5 (fun z => nomatch z))]; exact e2
        refine ⟨L, D, us, ws, rfl, rfl, eL5, eD, hz3, ⟨us ++ ws, _, _, _, rfl, fun b' o e => ?_, upd_same, by simp [hne], ?_, fun y hy => ?_⟩⟩
        · rw [upd_ne (ne_of_none e nLH)]
          exact s05 b' o e
        · rw [List.length_append, weightAll_take ed]
          omega
        · have : SpotAt H5 d y := by
            rcases List.mem_append.mp hy with hy | hy
            · exact (hsp y hy).same ((sT2.trans s4).trans s5)
            · exact hws y hy
          obtain ⟨T9, p9, e9, h9, w9⟩ := this
          exact ⟨T9, p9, e9, kp h9, w9⟩
    · obtain ⟨us, y2, y3, y4, rfl, sx, eLx, hne, hlen, hsp⟩ := hP
      rw [hl.1, List.take_length] at hlen
      exact ⟨_, rfl, q L us Hx sx nLH eLx hne (by omega) hsp⟩

end

/-! ### one step otherwise -/
def strsOk2 (S : List Str) : Bool := strsOk S && S.all fun x => decide ((PyData.str x).weight ≤ 100)
theorem strsOk2.w {S : List Str} (h : strsOk2 S = true) {x : Str} (hx : x ∈ S) : (PyData.str x).weight ≤ 100 := by
  unfold strsOk2 at h
  rw [Bool.and_eq_true] at h
  exact of_decide_eq_true (List.all_eq_true.mp h.2 x hx)
theorem strsOk2.ok {S : List Str} (h : strsOk2 S = true) : strsOk S = true := by
  unfold strsOk2 at h
  rw [Bool.and_eq_true] at h
  exact h.1
def nextS (S : List Str) : List Str := [Str.ofString "samples", Str.ofString "blind", Str.ofString "", Str.ofString "1"] ++ S ++ S.map (fun x => x ++ Str.ofString "s") ++ S.map fun x => cutS x none (some 1)
theorem strs0 : strsOk2 (nextS []) = true := by decide +kernel
theorem strs1 : strsOk2 (nextS (nextS [])) = true := by decide +kernel
theorem nextS.sub {S : List Str} {x : Str} (h : x ∈ S) : x ∈ nextS S := by simp [nextS, h]
/-- a thing of such a size stands there -/
def OkT (c : List Addr) (H : Hp) (M n : Nat) (S : List Str) (W : Nat) (v : V) : Prop := ∃ e, Thg c H v e ∧ Bd M S n e ∧ e.weight ≤ W
theorem weight_int {i : Int} (h : i.natAbs < 10 ^ 39) : (PyData.int i).weight ≤ 131 := by
  rw [PyData.weight]
  split
  · omega
  · by_cases z : i.natAbs = 0
    · rw [z]; decide
    · have : i.natAbs.log2 < 130 := (Nat.log2_lt z).mpr (Nat.lt_trans h (by decide))
      omega
theorem weightAll_app {xs ys : List PyData} : PyData.weightAll (xs ++ ys) = PyData.weightAll xs + PyData.weightAll ys := by
  rw [weightAll_eq, weightAll_eq, weightAll_eq, List.map_append, List.sum_append]
theorem weightAll_drop {ds : List PyData} (i : Nat) : PyData.weightAll (ds.drop i) ≤ PyData.weightAll ds := by
  have : PyData.weightAll ds = PyData.weightAll (ds.take i) + PyData.weightAll (ds.drop i) := by rw [← weightAll_app, List.take_append_drop]
  omega
theorem weightAll_cut (ds : List PyData) (i : Nat) : PyData.weightAll (ds.take i) + PyData.weightAll (ds.drop i) = PyData.weightAll ds := by rw [← weightAll_app, List.take_append_drop]
theorem weightAll_rev : ∀ {ds : List PyData}, PyData.weightAll ds.reverse = PyData.weightAll ds
  | [] => rfl
  | d :: r => by
    rw [List.reverse_cons, weightAll_app, weightAll_rev]
    simp only [PyData.weightAll]
    omega
/-- of the same kind: a list's or a tuple's parts -/
def ofD : PyData → List PyData → PyData
  | .tuple _, ds => .tuple ds
  | _, ds => .list ds
theorem ofD_weight {e : PyData} {ds : List PyData} : (ofD e ds).weight = PyData.weightAll ds := by
  unfold ofD
  split <;> simp only [PyData.weight]
theorem ofD_bd {M n : Nat} {S : List Str} {e : PyData} {ds : List PyData} (h : ∀ d ∈ ds, Bd M S n d) : Bd M S (n + 1) (ofD e ds) := by
  unfold ofD
  split
  · exact .tup h
  · exact .lst h
def spOf : Sp := fun vs H Q _ => ∃ (cs : List Addr) (v : V) (e : PyData) (a : Addr) (xs : List V) (ds : List PyData), vs = [v, .ref a] ∧ Thg cs H v e ∧ H a = some (.lst xs) ∧ a ∉ cs ∧ ThgL cs H xs ds ∧
  ∀ y H', Same H H' → Thg cs H' y (ofD e ds) → Q y H'
abbrev sOf : Stmt := topS 34
theorem scOf : FnScope ["_law_thing", "_law_parts"] ["_law_thing", "_law_parts"] (defScope sOf) := ⟨rfl, rfl, rfl, by decide +kernel, rfl, by decide +kernel, by decide +kernel⟩
abbrev sStep : Stmt := topS 35
theorem scStep : FnScope ["_law_state", "_law_thing", "_law_kind", "_law_parts", "_law_at", "_law_some"] ["_law_state", "_law_thing"] (defScope sStep) := ⟨rfl, rfl, rfl, by decide +kernel, rfl, by decide +kernel, by decide +kernel⟩
def spStep : Sp := fun vs H Q _ => ∃ (d c : Addr) (cs : List Addr) (t : Int) (v : V) (e : PyData) (M n : Nat) (S : List Str), vs = [.ref d, v] ∧ StAt H d c t ∧ t < 2 ^ 59 ∧ c ∈ cs ∧ (∀ L ∈ cs, H L ≠ none) ∧ Thg cs H v e ∧ Bd M S n e ∧ 10 ^ 30 ≤ M ∧ 2 * M ≤ 10 ^ 39 ∧ strsOk2 (nextS S) = true ∧ e.weight ≤ 100000 ∧
  ∀ y t' H', OkT cs H' (2 * M) (n + 1) (nextS S) (2 * e.weight + 300) y → t ≤ t' → t' ≤ t + 3 → StAt H' d c t' → Kp d c H H' → Q y H'
section
variable {K : PySem.W.Frag} {mg : Str → Option Value} {P : Program} {w : World} {base : Heap}
theorem ok_Of {f : Addr} {fd : FuncData} (F : Fun K "_law_of" "_law_of" sOf f fd) (m_isinstance : mg "isinstance" = none) (m_tuple : mg "tuple" = none) : FnOk P w K mg base CX0 1 f fd ["_law_thing", "_law_parts"] spOf := by
  refine F.ok scOf (fun vs H Q E h => ?_) (fun cdv A outer s H vs Q E hr h => ?_)
  · obtain ⟨cs, v, e, a, xs, ds, rfl, _⟩ := h
    rfl
  · obtain ⟨cs, v, e, a, xs, ds, rfl, hv, eA, nac, hl, q⟩ := h
    refine ⟨_, pss_one (ps_ret (pe_ifExp (pt_val (pe_callB call_isi (by rfl) m_isinstance (by decide +kernel) (pa_cons (pv 0) (pa_cons (pe_bltn (v := .ty "tuple") (by rfl) m_tuple (by decide +kernel) rfl) pa_nil)))) (pe_callTy call_tuple_of (by rfl) m_tuple (by decide +kernel) (pa_cons (pv 1) pa_nil)) (pv 1))), ?_⟩
    obtain ⟨tv, h1, h2⟩ := isi_tup (K := K) hv
    refine ⟨_, rfl, _, _, tv, _, _, rfl, .ty _, h1, h2, _, rfl, ?_⟩
    have go : ofD e ds = .list ds → Q (.ref a) H := fun z => q _ H (Same.refl _) (by rw [z]; exact .lst eA nac hl.1 hl.2)
    cases hv with
    | tup e1 l k =>
      refine iteT ⟨_, rfl, a, xs, rfl, .inl ⟨SqL.of eA, fun p np => ?_⟩⟩
      have s1 := same_upd (o := .tup xs) np
      exact q _ _ s1 (.tup upd_same hl.1 (hl.same s1).2)
    | lst e n l k => exact iteF ⟨_, rfl, go rfl⟩
    | non => exact iteF ⟨_, rfl, go rfl⟩
    | bl b => exact iteF ⟨_, rfl, go rfl⟩
    | int i => exact iteF ⟨_, rfl, go rfl⟩
    | str x => exact iteF ⟨_, rfl, go rfl⟩
theorem ok_Step {f : Addr} {fd : FuncData} (F : Fun K "_law_step" "_law_step" sStep f fd) (C__law_take : Cal P w K mg base 1 "_law_take" ["_law_state", "_law_many"] spTake) (C__law_of : Cal P w K mg base 1 "_law_of" ["_law_thing", "_law_parts"] spOf) (m_tuple : mg "tuple" = none) (m_list : mg "list" = none) (m_isinstance : mg "isinstance" = none) (m_len : mg "len" = none) (m_int : mg "int" = none) (m_bool : mg "bool" = none) (m_str : mg "str" = none) : FnOk P w K mg base CX0 2 f fd ["_law_state", "_law_thing"] spStep := by
  refine F.ok scStep (fun vs H Q E h => ?_) (fun cdv A outer s H vs Q E hr h => ?_)
  · obtain ⟨d, c, cs, t, v, e, M, n, S, rfl, _⟩ := h
    rfl
  · obtain ⟨d, c, cs, t, v, e, M, n, S, rfl, hS, ht, hcc, hpre, hv, hb, hM, hM2, hS', hw, q⟩ := h
    refine ⟨_, pss_cons (ps_set (i := 2) scStep.nd rfl (.inl rfl) (pe_own C__law_take hr (by rfl) (pa_cons (pv 0) (pa_cons pe_int pa_nil))))
      (Evl.pss_cut (ps_if (PW.pt (pw_and (pt_val (pe_callB call_isiT (by rfl) m_isinstance (by decide +kernel) (pa_cons (pv 1) (pa_cons (pe_tup (pa_cons (pe_bltn (v := .ty "list") (by rfl) m_list (by decide +kernel) rfl) (pa_cons (pe_bltn (v := .ty "tuple") (by rfl) m_tuple (by decide +kernel) rfl) pa_nil))) pa_nil)))) (pw_and1 (pt_cmpR op_lt (pv 2) pe_int (nomark _))))) (pss_cons (ps_par rfl scStep.nd (i := 3) (j := 4) rfl rfl (by decide) rfl rfl (pa_cons (pe_callTy call_list_of (by rfl) m_list (by decide +kernel) (pa_cons (pv 1) pa_nil)) (pa_cons (pe_own C__law_take hr (by rfl) (pa_cons (pv 0) (pa_cons (pe_op op_add (pe_callB call_len_seq (by rfl) m_len PySem.boot_len (pa_cons (pv 1) pa_nil)) pe_int) pa_nil))) pa_nil)) (by rfl))
        (pss_cons (ps_if (pt_cmpR op_lt (pv 2) pe_int (nomark _)) (pss_one (ps_ret (pe_own C__law_of hr (by rfl) (pa_cons (pv 1) (pa_cons (pe_op op_cat (pe_op op_cat (pe_slice sl_list (pv 3) po_none (po_some (pv 4))) (pe_lst (pa_cons (pe_ix ix_list (pe_lst (pa_cons pe_int (pa_cons pe_int (pa_cons pe_non (pa_cons pe_bl (pa_cons (pe_tup pa_nil) (pa_cons (pe_callB call_len_seq (by rfl) m_len PySem.boot_len (pa_cons (pv 3) pa_nil)) pa_nil))))))) (pe_own C__law_take hr (by rfl) (pa_cons (pv 0) (pa_cons pe_int pa_nil))) (fun _ _ => rfl)) pa_nil))) (pe_slice sl_list (pv 3) (po_some (pv 4)) po_none)) pa_nil)))))
          pss_nil)
        (pss_cons (ps_set (i := 5) scStep.nd rfl (.inl rfl) (pe_lst (pa_cons (pe_op op_cat (pe_slice sl_list (pv 3) po_none (po_some (pv 4))) (pe_slice sl_list (pv 3) (po_some (pe_op op_add (pv 4) pe_int)) po_none)) (pa_cons (pe_op op_cat (pe_slice sl_list (pv 3) po_none (po_some (pe_op op_add (pv 4) pe_int))) (pe_slice sl_list (pv 3) (po_some (pv 4)) po_none)) (pa_cons (pe_op op_cat (pe_slice sl_list (pv 3) (po_some (pv 4)) po_none) (pe_slice sl_list (pv 3) po_none (po_some (pv 4)))) (pa_cons (pe_revL (pv 3)) pa_nil))))))
        (pss_one (ps_ret (pe_ifExp (pt_cmpR op_lt (pv 2) pe_int (nomark _)) (pe_own C__law_of hr (by rfl) (pa_cons (pv 1) (pa_cons (pe_ix ix_list (pv 5) (pe_op op_sub (pv 2) pe_int) (fun _ _ => rfl)) pa_nil))) (pe_ifExp (pt_val (pe_callB call_isi (by rfl) m_isinstance (by decide +kernel) (pa_cons (pv 1) (pa_cons (pe_bltn (v := .ty "tuple") (by rfl) m_tuple (by decide +kernel) rfl) pa_nil)))) (pv 3) (pe_callTy call_tuple_of (by rfl) m_tuple (by decide +kernel) (pa_cons (pv 3) pa_nil)))))))))
        pss_nil)
      (Evl.pss_cut (ps_if (PW.pt (pw_and (pt_val (pe_callB call_isi (by rfl) m_isinstance (by decide +kernel) (pa_cons (pv 1) (pa_cons (pe_bltn (v := .ty "int") (by rfl) m_int (by decide +kernel) rfl) pa_nil)))) (pw_and1 (pt_not (pt_val (pe_callB call_isi (by rfl) m_isinstance (by decide +kernel) (pa_cons (pv 1) (pa_cons (pe_bltn (v := .ty "bool") (by rfl) m_bool (by decide +kernel) rfl) pa_nil)))))))) (pss_one (ps_ret (pe_ix ix_list (pe_lst (pa_cons (pe_op op_add (pv 1) pe_int) (pa_cons (pe_op op_sub (pv 1) pe_int) (pa_cons (pe_op op_sub pe_int (pv 1)) (pa_cons (pe_op op_mulW pe_int (pv 1)) (pa_cons pe_int (pa_cons pe_bl (pa_cons pe_str (pa_cons pe_non (pa_cons (pe_lst (pa_cons (pv 1) pa_nil)) pa_nil)))))))))) (pv 2) (fun _ _ => rfl))))
        pss_nil)
      (Evl.pss_cut (ps_if (pt_val (pe_callB call_isi (by rfl) m_isinstance (by decide +kernel) (pa_cons (pv 1) (pa_cons (pe_bltn (v := .ty "str") (by rfl) m_str (by decide +kernel) rfl) pa_nil)))) (pss_one (ps_ret (pe_ix ix_list (pe_lst (pa_cons pe_str (pa_cons pe_str (pa_cons pe_str (pa_cons pe_non (pa_cons pe_int (pa_cons pe_bl (pa_cons (pe_lst pa_nil) (pa_cons (pe_op op_add_str (pv 1) pe_str) (pa_cons (pe_slice sl_str (pv 1) po_none (po_some pe_int)) pa_nil)))))))))) (pv 2) (fun _ _ => rfl))))
        pss_nil)
      (pss_one (ps_ret (pe_ix ix_list (pe_lst (pa_cons pe_non (pa_cons pe_int (pa_cons (pe_tup pa_nil) (pa_cons (pe_lst pa_nil) (pa_cons (pe_tup (pa_cons pe_int (pa_cons pe_int pa_nil))) (pa_cons pe_str (pa_cons pe_bl (pa_cons pe_int (pa_cons pe_bl pa_nil)))))))))) (pv 2) (fun _ _ => rfl))))))), ?_⟩
    have z63 := sizeLine_eq
    refine ⟨_, rfl, d, c, t, 9, rfl, hS, by omega, by decide, by decide, fun r H1 r0 r1 hS1 k1 => ?_⟩
    have hv1 := hv.kp hS k1 hcc
    have av : ∀ {Hx : Hp} {p : Addr} {t' : Int}, Kp d c H Hx → StAt Hx d c t' → Hx p = none → p ∉ cs := fun kx hSx np hm => hpre _ hm (Kp.gone' hS kx hSx np)
    refine ⟨fun σ Hx => ∃ y3 y4 y5 : Option V, σ = [some (.ref d), some v, some (.int r), y3, y4, y5] ∧ Same H1 Hx ∧ (r < 8 → rowOf e = none), ?_, ?_⟩
    · refine ⟨_, rfl, (by show 2 ≤ sizeLine; decide), fun p np => ?_⟩
      have s1 : Same H1 (upd H1 p (.tup [.ty "list", .ty "tuple"])) := same_upd np
      have ep : upd H1 p (.tup [.ty "list", .ty "tuple"]) p = some (.tup [.ty "list", .ty "tuple"]) := upd_same
      generalize upd H1 p (.tup [.ty "list", .ty "tuple"]) = H2 at s1 ep
      have hS2 := hS1.same s1
      have hv2 := hv1.same s1
      obtain ⟨tv, h1, h2⟩ := isi_row (K := K) hv2
      refine ⟨v, p, _, tv, _, _, rfl, ep, .cons (.ty _) (.cons (.ty _) .nil), h1, h2, _, rfl, ?_⟩
      cases hr' : rowOf e with
      | none => exact iteF ⟨_, _, _, rfl, s1, fun _ => rfl⟩
      | some ds =>
      refine iteT ⟨_, rfl, _, _, rfl, rfl, ?_⟩
      --ROW
      obtain ⟨a, xs, rfl, hA, hl⟩ := hv2.row hr'
      obtain ⟨m, rfl, hall⟩ := hb.row hr'
      have hwd := weight_row hr'
      have hlx := len_weight (ds := ds)
      have hlen := hl.1
      have lxs : xs.length ≤ 100000 := by omega
      have mono : ∀ x ∈ ds, Bd (2 * M) (nextS S) (m + 1) x := fun x hx => (hall x hx).mono (by omega) (fun _ h => nextS.sub h) (by omega)
      refine ⟨_, rfl, ite2 (fun r8 => ?_) (fun r8 => ⟨_, _, _, rfl, s1, fun z => absurd (decide_eq_true z) r8⟩)⟩
      refine ⟨_, rfl, a, xs, rfl, hA.lq, fun P nP => ?_⟩
      have sP := same_upd (o := .lst xs) nP
      have eP : upd H2 P (.lst xs) P = some (.lst xs) := upd_same
      have offP := hS2.off nP
      have avP := av (k1.trans (Kp.same d c s1)) hS2 nP
      generalize upd H2 P (.lst xs) = H3 at sP eP
      have hS3 := hS2.same sP
      refine ⟨_, rfl, _, rfl, a, xs, rfl, (hA.noTab (NoTab.same sP)).lq, _, _, rfl, rfl, d, c, t + 1, (xs.length : Int) + 1, rfl, hS3, by omega, by omega, by omega, fun at' H4 a0 a1 hS4 k4 => ⟨_, _, rfl, ?_⟩⟩
      have eP4 : H4 P = some (.lst xs) := k4 _ _ offP.1 offP.2 eP
      have k14 := (Kp.same d c (s1.trans sP)).trans k4
      have hl4 : ThgL cs H4 xs ds := (hl.same sP).kp hS3 k4 hcc
      have hv4 : Thg cs H4 (.ref a) e := (hv2.same sP).kp hS3 k4 hcc
      obtain ⟨j, rfl⟩ := Int.eq_ofNat_of_zero_le a0
      have hj : j ≤ ds.length := by omega
      have fin : ∀ {Hx : Hp} {t' : Int} {p : Addr} {xs' : List V} {ds' : List PyData}, StAt Hx d c t' → Kp d c H4 Hx → t ≤ t' → t' ≤ t + 3 → Hx p = some (.lst xs') → p ∉ cs → ThgL cs Hx xs' ds' → (∀ x ∈ ds', Bd (2 * M) (nextS S) (m + 1) x) → PyData.weightAll ds' ≤ 2 * e.weight + 300 → Thg cs Hx (.ref a) e → spOf [.ref a, .ref p] Hx Q E0 :=
        fun hSx kx u0 u1 ep ne hl' hb' hw' hvx => ⟨cs, _, e, _, _, _, rfl, hvx, ep, ne, hl', fun y H' sy ty => q y _ H' ⟨_, ty, ofD_bd hb', by rw [ofD_weight]; exact hw'⟩ u0 u1 (hSx.same sy) (((k1.trans k14).trans kx).trans (Kp.same d c sy))⟩
      refine ⟨_, rfl, _, _, rfl, rfl, _, rfl, ite2 (fun c2 => ?_) (fun c2 => ?_)⟩
      · -- one more
        refine ⟨_, rfl, _, rfl, _, rfl, _, rfl, P, _, rfl, SqL.of eP4, fun p1 np1 => ?_⟩
        rw [cut_front]
        have s5 := same_upd (o := .lst (xs.take j)) np1
        have ep1 : upd H4 p1 (.lst (xs.take j)) p1 = some (.lst (xs.take j)) := upd_same
        generalize upd H4 p1 (.lst (xs.take j)) = H5 at s5 ep1
        have hS5 := hS4.same s5
        have offp1 := hS4.off np1
        refine ⟨Nat.zero_le _, fun T nT => ?_⟩
        have s6 := same_upd (o := .tup []) nT
        have eT : upd H5 T (.tup []) T = some (.tup []) := upd_same
        generalize upd H5 T (.tup []) = H6 at s6 eT
        have hS6 := hS5.same s6
        refine ⟨_, rfl, P, _, rfl, .inl (SqL.of (s6 _ _ (s5 _ _ eP4))), (by show 6 ≤ sizeLine; omega), fun L1 nL1 => ?_⟩
        have s7 := same_upd (o := .lst [.int 0, .int 1, .non, .bl true, .ref T, .int (xs.length : Int)]) nL1
        have eL1 : upd H6 L1 (.lst [.int 0, .int 1, .non, .bl true, .ref T, .int (xs.length : Int)]) L1 = some (.lst [.int 0, .int 1, .non, .bl true, .ref T, .int (xs.length : Int)]) := upd_same
        generalize upd H6 L1 (.lst [.int 0, .int 1, .non, .bl true, .ref T, .int (xs.length : Int)]) = H7 at s7 eL1
        have hS7 := hS6.same s7
        have offL1 := hS6.off nL1
        have s47 := (s5.trans s6).trans s7
        refine ⟨_, rfl, d, c, t + 1 + 1, 6, rfl, hS7, by omega, by decide, by decide, fun r2 H8 r20 r21 hS8 k8 => ?_⟩
        obtain ⟨u, eu, hu⟩ := pick_at (xs := [V.int 0, .int 1, .non, .bl true, .ref T, .int (xs.length : Int)]) (n := 6) rfl r20 (by omega)
        have eL18 := k8 _ _ offL1.1 offL1.2 eL1
        have ep18 : H8 p1 = some (.lst (xs.take j)) := k8 _ _ offp1.1 offp1.2 (s7 _ _ (s6 _ _ ep1))
        have eP8 : H8 P = some (.lst xs) := k8 _ _ offP.1 offP.2 (s47 _ _ eP4)
        have hT8 : Thg cs H8 (.ref T) (.tuple []) := (Thg.tup (s7 _ _ eT) rfl (fun _ _ _ z => by simp at z)).kp hS7 k8 hcc
        have hu' : ∃ e', Thg cs H8 u e' ∧ Bd (2 * M) (nextS S) (m + 1) e' ∧ e'.weight ≤ 131 := by
          simp only [List.mem_cons, List.not_mem_nil, or_false] at hu
          rcases hu with rfl | rfl | rfl | rfl | rfl | rfl
          · exact ⟨_, .int 0, .int (by omega), weight_int (by decide)⟩
          · exact ⟨_, .int 1, .int (by omega), weight_int (by decide)⟩
          · exact ⟨_, .non, .non, by simp [PyData.weight]⟩
          · exact ⟨_, .bl true, .bl true, by simp [PyData.weight]⟩
          · exact ⟨_, hT8, .tup (fun _ z => nomatch z), by simp [PyData.weight, PyData.weightAll]⟩
          · exact ⟨_, .int _, .int (by omega), weight_int (by omega)⟩
        obtain ⟨eu', hu1, hu2, hu3⟩ := hu'
        refine ⟨L1, _, r2, u, rfl, rfl, SqL.of eL18, eu, (by show 1 ≤ sizeLine; omega), fun L2 nL2 => ?_⟩
        have s9 := same_upd (o := .lst [u]) nL2
        have eL2 : upd H8 L2 (.lst [u]) L2 = some (.lst [u]) := upd_same
        generalize upd H8 L2 (.lst [u]) = H9 at s9 eL2
        refine ⟨p1, L2, _, _, rfl, rfl, s9 _ _ ep18, eL2, by rw [List.length_take, List.length_singleton]; omega, fun p3 np3 => ?_⟩
        have s10 := same_upd (o := .lst (xs.take j ++ [u])) np3
        have ep3 : upd H9 p3 (.lst (xs.take j ++ [u])) p3 = some (.lst (xs.take j ++ [u])) := upd_same
        generalize upd H9 p3 (.lst (xs.take j ++ [u])) = H10 at s10 ep3
        refine ⟨_, rfl, _, rfl, _, rfl, P, _, rfl, SqL.of (s10 _ _ (s9 _ _ eP8)), fun p4 np4 => ?_⟩
        rw [cut_back]
        have s11 := same_upd (o := .lst (xs.drop j)) np4
        have ep4 : upd H10 p4 (.lst (xs.drop j)) p4 = some (.lst (xs.drop j)) := upd_same
        generalize upd H10 p4 (.lst (xs.drop j)) = H11 at s11 ep4
        refine ⟨p3, p4, _, _, rfl, rfl, s11 _ _ ep3, ep4, by rw [List.length_append, List.length_take, List.length_drop, List.length_singleton]; omega, fun p5 np5 => ?_⟩
        have s12 := same_upd (o := .lst (xs.take j ++ [u] ++ xs.drop j)) np5
        have ep5 : upd H11 p5 (.lst (xs.take j ++ [u] ++ xs.drop j)) p5 = some (.lst (xs.take j ++ [u] ++ xs.drop j)) := upd_same
        generalize upd H11 p5 (.lst (xs.take j ++ [u] ++ xs.drop j)) = H12 at s12 ep5
        have s812 := ((s9.trans s10).trans s11).trans s12
        have hl12 : ThgL cs H12 xs ds := ((hl4.same s47).kp hS7 k8 hcc).same s812
        have hS12 := hS8.same s812
        have avp5 := av ((((k1.trans k14).trans (Kp.same d c s47)).trans k8).trans (Kp.same d c ((s9.trans s10).trans s11))) (((hS8.same s9).same s10).same s11) np5
        refine fin hS12 (((Kp.same d c s47).trans k8).trans (Kp.same d c s812)) (by omega) (by omega) ep5 avp5 (((hl12.take j).append (ThgL.one (hu1.same s812))).append (hl12.drop j)) (fun x hx => ?_) ?_ (((hv4.same s47).kp hS7 k8 hcc).same s812)
        · rcases List.mem_append.mp hx with hx | hx
          · rcases List.mem_append.mp hx with hx | hx
            · exact mono x (List.mem_of_mem_take hx)
            · rw [List.mem_singleton.mp hx]; exact hu2
          · exact mono x (List.mem_of_mem_drop hx)
        · rw [weightAll_app, weightAll_app]
          have h1 := weightAll_cut ds j
          simp only [PyData.weightAll]
          omega
      · -- otherwise
        refine ⟨_, rfl, _, rfl, _, rfl, P, _, rfl, SqL.of eP4, fun p1 np1 => ?_⟩
        rw [cut_front]
        have avp1 := av (k1.trans k14) hS4 np1
        have s5 := same_upd (o := .lst (xs.take j)) np1
        have ep1 : upd H4 p1 (.lst (xs.take j)) p1 = some (.lst (xs.take j)) := upd_same
        generalize upd H4 p1 (.lst (xs.take j)) = H5 at s5 ep1
        have s45 := s5
        refine ⟨_, rfl, _, rfl, _, _, rfl, rfl, _, rfl, P, _, rfl, SqL.of (s45 _ _ eP4), fun p2 np2 => ?_⟩
        rw [show (j : Int) + 1 = ((j + 1 : Nat) : Int) by omega]
        rw [cut_back]
        have avp2 := av ((k1.trans k14).trans (Kp.same d c s45)) (hS4.same s45) np2
        have s6 := same_upd (o := .lst (xs.drop (j + 1))) np2
        have ep2 : upd H5 p2 (.lst (xs.drop (j + 1))) p2 = some (.lst (xs.drop (j + 1))) := upd_same
        generalize upd H5 p2 (.lst (xs.drop (j + 1))) = H6 at s6 ep2
        have s46 := s45.trans s6
        have ep1 := s6 _ _ ep1
        refine ⟨p1, p2, _, _, rfl, rfl, ep1, ep2, by simp only [List.length_take, List.length_drop]; omega, fun p3 np3 => ?_⟩
        have avp3 := av ((k1.trans k14).trans (Kp.same d c s46)) (hS4.same s46) np3
        have s7 := same_upd (o := .lst (xs.take j ++ xs.drop (j + 1))) np3
        have ep3 : upd H6 p3 (.lst (xs.take j ++ xs.drop (j + 1))) p3 = some (.lst (xs.take j ++ xs.drop (j + 1))) := upd_same
        generalize upd H6 p3 (.lst (xs.take j ++ xs.drop (j + 1))) = H7 at s7 ep3
        have s47 := s46.trans s7
        have ep1 := s7 _ _ ep1
        have ep2 := s7 _ _ ep2
        refine ⟨_, rfl, _, rfl, _, _, rfl, rfl, _, rfl, P, _, rfl, SqL.of (s47 _ _ eP4), fun p4 np4 => ?_⟩
        rw [show (j : Int) + 1 = ((j + 1 : Nat) : Int) by omega]
        rw [cut_front]
        have avp4 := av ((k1.trans k14).trans (Kp.same d c s47)) (hS4.same s47) np4
        have s8 := same_upd (o := .lst (xs.take (j + 1))) np4
        have ep4 : upd H7 p4 (.lst (xs.take (j + 1))) p4 = some (.lst (xs.take (j + 1))) := upd_same
        generalize upd H7 p4 (.lst (xs.take (j + 1))) = H8 at s8 ep4
        have s48 := s47.trans s8
        have ep1 := s8 _ _ ep1
        have ep2 := s8 _ _ ep2
        have ep3 := s8 _ _ ep3
        refine ⟨_, rfl, _, rfl, _, rfl, P, _, rfl, SqL.of (s48 _ _ eP4), fun p5 np5 => ?_⟩
        rw [cut_back]
        have avp5 := av ((k1.trans k14).trans (Kp.same d c s48)) (hS4.same s48) np5
        have s9 := same_upd (o := .lst (xs.drop j)) np5
        have ep5 : upd H8 p5 (.lst (xs.drop j)) p5 = some (.lst (xs.drop j)) := upd_same
        generalize upd H8 p5 (.lst (xs.drop j)) = H9 at s9 ep5
        have s49 := s48.trans s9
        have ep1 := s9 _ _ ep1
        have ep2 := s9 _ _ ep2
        have ep3 := s9 _ _ ep3
        have ep4 := s9 _ _ ep4
        refine ⟨p4, p5, _, _, rfl, rfl, ep4, ep5, by simp only [List.length_take, List.length_drop]; omega, fun p6 np6 => ?_⟩
        have avp6 := av ((k1.trans k14).trans (Kp.same d c s49)) (hS4.same s49) np6
        have s10 := same_upd (o := .lst (xs.take (j + 1) ++ xs.drop j)) np6
        have ep6 : upd H9 p6 (.lst (xs.take (j + 1) ++ xs.drop j)) p6 = some (.lst (xs.take (j + 1) ++ xs.drop j)) := upd_same
        generalize upd H9 p6 (.lst (xs.take (j + 1) ++ xs.drop j)) = H10 at s10 ep6
        have s410 := s49.trans s10
        have ep1 := s10 _ _ ep1
        have ep2 := s10 _ _ ep2
        have ep3 := s10 _ _ ep3
        have ep4 := s10 _ _ ep4
        have ep5 := s10 _ _ ep5
        refine ⟨_, rfl, _, rfl, _, rfl, P, _, rfl, SqL.of (s410 _ _ eP4), fun p7 np7 => ?_⟩
        rw [cut_back]
        have avp7 := av ((k1.trans k14).trans (Kp.same d c s410)) (hS4.same s410) np7
        have s11 := same_upd (o := .lst (xs.drop j)) np7
        have ep7 : upd H10 p7 (.lst (xs.drop j)) p7 = some (.lst (xs.drop j)) := upd_same
        generalize upd H10 p7 (.lst (xs.drop j)) = H11 at s11 ep7
        have s411 := s410.trans s11
        have ep1 := s11 _ _ ep1
        have ep2 := s11 _ _ ep2
        have ep3 := s11 _ _ ep3
        have ep4 := s11 _ _ ep4
        have ep5 := s11 _ _ ep5
        have ep6 := s11 _ _ ep6
        refine ⟨_, rfl, _, rfl, _, rfl, P, _, rfl, SqL.of (s411 _ _ eP4), fun p8 np8 => ?_⟩
        rw [cut_front]
        have avp8 := av ((k1.trans k14).trans (Kp.same d c s411)) (hS4.same s411) np8
        have s12 := same_upd (o := .lst (xs.take j)) np8
        have ep8 : upd H11 p8 (.lst (xs.take j)) p8 = some (.lst (xs.take j)) := upd_same
        generalize upd H11 p8 (.lst (xs.take j)) = H12 at s12 ep8
        have s412 := s411.trans s12
        have ep1 := s12 _ _ ep1
        have ep2 := s12 _ _ ep2
        have ep3 := s12 _ _ ep3
        have ep4 := s12 _ _ ep4
        have ep5 := s12 _ _ ep5
        have ep6 := s12 _ _ ep6
        have ep7 := s12 _ _ ep7
        refine ⟨p7, p8, _, _, rfl, rfl, ep7, ep8, by simp only [List.length_take, List.length_drop]; omega, fun p9 np9 => ?_⟩
        have avp9 := av ((k1.trans k14).trans (Kp.same d c s412)) (hS4.same s412) np9
        have s13 := same_upd (o := .lst (xs.drop j ++ xs.take j)) np9
        have ep9 : upd H12 p9 (.lst (xs.drop j ++ xs.take j)) p9 = some (.lst (xs.drop j ++ xs.take j)) := upd_same
        generalize upd H12 p9 (.lst (xs.drop j ++ xs.take j)) = H13 at s13 ep9
        have s413 := s412.trans s13
        have ep1 := s13 _ _ ep1
        have ep2 := s13 _ _ ep2
        have ep3 := s13 _ _ ep3
        have ep4 := s13 _ _ ep4
        have ep5 := s13 _ _ ep5
        have ep6 := s13 _ _ ep6
        have ep7 := s13 _ _ ep7
        have ep8 := s13 _ _ ep8
        refine ⟨_, rfl, P, _, rfl, SqL.of (s413 _ _ eP4), fun p10 np10 => ?_⟩
        have avp10 := av ((k1.trans k14).trans (Kp.same d c s413)) (hS4.same s413) np10
        have s14 := same_upd (o := .lst xs.reverse) np10
        have ep10 : upd H13 p10 (.lst xs.reverse) p10 = some (.lst xs.reverse) := upd_same
        generalize upd H13 p10 (.lst xs.reverse) = H14 at s14 ep10
        have s414 := s413.trans s14
        have ep1 := s14 _ _ ep1
        have ep2 := s14 _ _ ep2
        have ep3 := s14 _ _ ep3
        have ep4 := s14 _ _ ep4
        have ep5 := s14 _ _ ep5
        have ep6 := s14 _ _ ep6
        have ep7 := s14 _ _ ep7
        have ep8 := s14 _ _ ep8
        have ep9 := s14 _ _ ep9
        refine ⟨(by show 4 ≤ sizeLine; omega), fun L nL => ?_⟩
        have avL := av ((k1.trans k14).trans (Kp.same d c s414)) (hS4.same s414) nL
        have s15 := same_upd (o := .lst [.ref p3, .ref p6, .ref p9, .ref p10]) nL
        have eL : upd H14 L (.lst [.ref p3, .ref p6, .ref p9, .ref p10]) L = some (.lst [.ref p3, .ref p6, .ref p9, .ref p10]) := upd_same
        generalize upd H14 L (.lst [.ref p3, .ref p6, .ref p9, .ref p10]) = H15 at s15 eL
        have s415 := s414.trans s15
        have ep1 := s15 _ _ ep1
        have ep2 := s15 _ _ ep2
        have ep3 := s15 _ _ ep3
        have ep4 := s15 _ _ ep4
        have ep5 := s15 _ _ ep5
        have ep6 := s15 _ _ ep6
        have ep7 := s15 _ _ ep7
        have ep8 := s15 _ _ ep8
        have ep9 := s15 _ _ ep9
        have ep10 := s15 _ _ ep10
        have hS9 := hS4.same s415
        have hl9 : ThgL cs H15 xs ds := hl4.same s415
        have hv9 := hv4.same s415
        have w1 := weightAll_cut ds j
        have w2 := weightAll_cut ds (j + 1)
        refine ⟨_, rfl, _, _, rfl, rfl, _, rfl, ite2 (fun c6 => ?_) (fun c6 => ?_)⟩
        · have c6 : r < 6 := of_decide_eq_true c6
          have c2 : ¬ r < 2 := fun z => c2 (decide_eq_true z)
          obtain ⟨u, eu, hu⟩ := pick_at (xs := [V.ref p3, .ref p6, .ref p9, .ref p10]) (n := 4) (r := r - 2) rfl (by omega) (by omega)
          refine ⟨_, rfl, _, rfl, _, rfl, _, _, rfl, rfl, L, _, _, u, rfl, rfl, SqL.of eL, eu, ?_⟩
          simp only [List.mem_cons, List.not_mem_nil, or_false] at hu
          rcases hu with rfl | rfl | rfl | rfl
          · refine fin hS9 (Kp.same d c s415) (by omega) (by omega) ep3 avp3 ((hl9.take j).append (hl9.drop (j + 1))) (fun x hx => ?_) ?_ hv9
            · rcases List.mem_append.mp hx with hx | hx
              · exact mono x (List.mem_of_mem_take hx)
              · exact mono x (List.mem_of_mem_drop hx)
            · rw [weightAll_app]; have := weightAll_drop (ds := ds) (j + 1); have := weightAll_le (ds := ds) j; omega
          · refine fin hS9 (Kp.same d c s415) (by omega) (by omega) ep6 avp6 ((hl9.take (j + 1)).append (hl9.drop j)) (fun x hx => ?_) ?_ hv9
            · rcases List.mem_append.mp hx with hx | hx
              · exact mono x (List.mem_of_mem_take hx)
              · exact mono x (List.mem_of_mem_drop hx)
            · rw [weightAll_app]; have := weightAll_drop (ds := ds) j; have := weightAll_le (ds := ds) (j + 1); omega
          · refine fin hS9 (Kp.same d c s415) (by omega) (by omega) ep9 avp9 ((hl9.drop j).append (hl9.take j)) (fun x hx => ?_) ?_ hv9
            · rcases List.mem_append.mp hx with hx | hx
              · exact mono x (List.mem_of_mem_drop hx)
              · exact mono x (List.mem_of_mem_take hx)
            · rw [weightAll_app]; omega
          · refine fin hS9 (Kp.same d c s415) (by omega) (by omega) ep10 avp10 hl9.reverse (fun x hx => mono x (List.mem_reverse.mp hx)) ?_ hv9
            rw [weightAll_rev]; omega
        · obtain ⟨tw, g1, g2⟩ := isi_tup (K := K) hv9
          refine ⟨_, rfl, _, _, tw, _, _, rfl, .ty _, g1, g2, _, rfl, ite2 (fun _ => ?_) (fun _ => ?_)⟩
          · exact ⟨_, rfl, q _ (t + 1 + 1) _ ⟨.list ds, .lst (s415 _ _ eP4) avP hl9.1 hl9.2, .lst mono, by simp only [PyData.weight]; omega⟩ (by omega) (by omega) hS9 ((k1.trans k14).trans (Kp.same d c s415))⟩
          · refine ⟨_, rfl, P, xs, rfl, .inl ⟨SqL.of (s415 _ _ eP4), fun z nz => ?_⟩⟩
            have sz := same_upd (o := .tup xs) nz
            exact q _ (t + 1 + 1) _ ⟨.tuple ds, .tup upd_same hl9.1 (hl9.same sz).2, .tup mono, by simp only [PyData.weight]; omega⟩ (by omega) (by omega) (hS9.same sz) ((k1.trans k14).trans (Kp.same d c (s415.trans sz)))
    · rintro σ2 H2 ⟨y3, y4, y5, rfl, s1, hrow⟩
      have hS2 := hS1.same s1
      have hv2 := hv1.same s1
      obtain ⟨tv, h1, h2⟩ := isi_int (K := K) hv2
      obtain ⟨tw, g1, g2⟩ := isi_bool (K := K) hv2
      have fin : ∀ {Hx : Hp} {y : V}, Same H1 Hx → OkT cs Hx (2 * M) (n + 1) (nextS S) (2 * e.weight + 300) y → Q y Hx := fun sx ok => q _ (t + 1) _ ok (by omega) (by omega) (hS1.same sx) (k1.trans (Kp.same d c sx))
      have kNon : ∀ {Hx : Hp}, OkT cs Hx (2 * M) (n + 1) (nextS S) (2 * e.weight + 300) .non := ⟨_, .non, .non, by simp [PyData.weight]⟩
      have kBl : ∀ {Hx : Hp} (b : Bool), OkT cs Hx (2 * M) (n + 1) (nextS S) (2 * e.weight + 300) (.bl b) := fun b => ⟨_, .bl b, .bl b, by simp [PyData.weight]⟩
      have kInt : ∀ {Hx : Hp} (i : Int), i.natAbs < 2 * M → OkT cs Hx (2 * M) (n + 1) (nextS S) (2 * e.weight + 300) (.int i) := fun i hi => ⟨_, .int i, .int hi, by have := weight_int (i := i) (by omega); omega⟩
      have kStr : ∀ {Hx : Hp} (x : Str), x ∈ nextS S → OkT cs Hx (2 * M) (n + 1) (nextS S) (2 * e.weight + 300) (.str x) := fun x hx => ⟨_, .str x, .str hx, by have := strsOk2.w hS' hx; omega⟩
      refine ⟨fun σ Hx => ∃ y3 y4 y5 : Option V, σ = [some (.ref d), some v, some (.int r), y3, y4, y5] ∧ Same H1 Hx, ?_, ?_⟩
      · refine ⟨_, rfl, _, _, tv, _, _, rfl, .ty _, h1, h2, _, rfl, ?_⟩
        have mid : ∃ z3 z4 z5 : Option V, ([some (.ref d), some v, some (.int r), y3, y4, y5] : L2.St) = [some (.ref d), some v, some (.int r), z3, z4, z5] ∧ Same H1 H2 := ⟨_, _, _, rfl, s1⟩
        cases hv2 with
        | bl b => exact iteT ⟨_, rfl, _, _, tw, _, _, rfl, .ty _, g1, g2, _, rfl, iteF mid⟩
        | tup e l k => exact iteF mid
        | lst e n l k => exact iteF mid
        | non => exact iteF mid
        | str x => exact iteF mid
        | int i =>
          have hi : i.natAbs < M := by cases hb with | int h => exact h
          refine iteT ⟨_, rfl, _, _, tw, _, _, rfl, .ty _, g1, g2, _, rfl, iteT ?_⟩
          refine ⟨_, rfl, _, _, rfl, rfl, _, rfl, _, _, rfl, rfl, _, rfl, _, _, rfl, rfl, _, rfl, _, _, rfl, rfl, wide_mul (a := 2) (b := 130) (by decide) (Nat.lt_of_lt_of_le hi (Nat.le_trans (by omega : M ≤ 10 ^ 39) (by decide))) (by decide) (by decide) (by decide), _, rfl, (by show 1 ≤ sizeLine; omega), fun Z nZ => ?_⟩
          have s3 := same_upd (o := .lst [.int i]) nZ
          have eZ : upd H2 Z (.lst [.int i]) Z = some (.lst [.int i]) := upd_same
          have avZ := av (k1.trans (Kp.same d c s1)) hS2 nZ
          generalize upd H2 Z (.lst [.int i]) = H3 at s3 eZ
          refine ⟨(by show 9 ≤ sizeLine; omega), fun L nL => ?_⟩
          obtain ⟨u, eu, hu⟩ := pick_at (xs := [V.int (i + 1), .int (i - 1), .int (0 - i), .int (2 * i), .int 0, .bl true, .str "1", .non, .ref Z]) (n := 9) (r := r) rfl r0 (by omega)
          have s4 := same_upd (o := .lst [V.int (i + 1), .int (i - 1), .int (0 - i), .int (2 * i), .int 0, .bl true, .str "1", .non, .ref Z]) nL
          have eL : upd H3 L (.lst [V.int (i + 1), .int (i - 1), .int (0 - i), .int (2 * i), .int 0, .bl true, .str "1", .non, .ref Z]) L = some (.lst [V.int (i + 1), .int (i - 1), .int (0 - i), .int (2 * i), .int 0, .bl true, .str "1", .non, .ref Z]) := upd_same
          generalize upd H3 L (.lst [V.int (i + 1), .int (i - 1), .int (0 - i), .int (2 * i), .int 0, .bl true, .str "1", .non, .ref Z]) = H4 at s4 eL
          refine ⟨_, rfl, L, _, r, u, rfl, rfl, SqL.of eL, eu, fin ((s1.trans s3).trans s4) ?_⟩
          simp only [List.mem_cons, List.not_mem_nil, or_false] at hu
          rcases hu with rfl | rfl | rfl | rfl | rfl | rfl | rfl | rfl | rfl
          · exact kInt _ (by omega)
          · exact kInt _ (by omega)
          · exact kInt _ (by omega)
          · exact kInt _ (by omega)
          · exact kInt _ (by omega)
          · exact kBl _
          · exact kStr _ (by simp [nextS])
          · exact kNon
          · refine ⟨.list [.int i], .lst (s4 _ _ eZ) avZ rfl (ThgL.one (.int i)).2, .lst (fun x hx => by rw [List.mem_singleton.mp hx]; exact .int (by omega)), ?_⟩
            have := weight_int (i := i) (by omega)
            simp only [PyData.weight, PyData.weightAll] at this ⊢
            omega
      rintro σ3 H3 ⟨z3, z4, z5, rfl, s2⟩
      have hS3 := hS1.same s2
      have hv3 := hv1.same s2
      obtain ⟨tx, f1, f2⟩ := isi_str (K := K) hv3
      refine ⟨fun σ Hx => ∃ y3 y4 y5 : Option V, σ = [some (.ref d), some v, some (.int r), y3, y4, y5] ∧ Same H1 Hx, ?_, ?_⟩
      · refine ⟨_, rfl, _, _, tx, _, _, rfl, .ty _, f1, f2, _, rfl, ?_⟩
        have mid : ∃ w3 w4 w5 : Option V, ([some (.ref d), some v, some (.int r), z3, z4, z5] : L2.St) = [some (.ref d), some v, some (.int r), w3, w4, w5] ∧ Same H1 H3 := ⟨_, _, _, rfl, s2⟩
        cases hv3 with
        | bl b => exact iteF mid
        | tup e l k => exact iteF mid
        | lst e n l k => exact iteF mid
        | non => exact iteF mid
        | int x => exact iteF mid
        | str x =>
          have hx : x ∈ S := by cases hb with | str h => exact h
          have wx := strsOk2.w hS' (nextS.sub hx)
          have lx : x.length ≤ 100 := by simp only [PyData.weight] at wx; exact wx
          refine iteT ⟨(by show 0 ≤ sizeLine; omega), fun Z nZ => ?_⟩
          have s3 := same_upd (o := .lst []) nZ
          have eZ : upd H3 Z (.lst []) Z = some (.lst []) := upd_same
          have avZ := av (k1.trans (Kp.same d c s2)) hS3 nZ
          generalize upd H3 Z (.lst []) = H4 at s3 eZ
          refine ⟨_, rfl, _, _, rfl, rfl, (by show x.length + 1 ≤ sizeLine; omega), _, rfl, _, rfl, x, rfl, by omega, (by show 9 ≤ sizeLine; omega), fun L nL => ?_⟩
          obtain ⟨u, eu, hu⟩ := pick_at (xs := [V.str "samples", .str "blind", .str "", .non, .int 1, .bl true, .ref Z, .str (x ++ Str.ofString "s"), .str (cutS x none (some 1))]) (n := 9) (r := r) rfl r0 (by omega)
          have s4 := same_upd (o := .lst [V.str "samples", .str "blind", .str "", .non, .int 1, .bl true, .ref Z, .str (x ++ Str.ofString "s"), .str (cutS x none (some 1))]) nL
          have eL : upd H4 L (.lst [V.str "samples", .str "blind", .str "", .non, .int 1, .bl true, .ref Z, .str (x ++ Str.ofString "s"), .str (cutS x none (some 1))]) L = some (.lst [V.str "samples", .str "blind", .str "", .non, .int 1, .bl true, .ref Z, .str (x ++ Str.ofString "s"), .str (cutS x none (some 1))]) := upd_same
          generalize upd H4 L (.lst [V.str "samples", .str "blind", .str "", .non, .int 1, .bl true, .ref Z, .str (x ++ Str.ofString "s"), .str (cutS x none (some 1))]) = H5 at s4 eL
          refine ⟨_, rfl, L, _, r, u, rfl, rfl, SqL.of eL, eu, fin ((s2.trans s3).trans s4) ?_⟩
          simp only [List.mem_cons, List.not_mem_nil, or_false] at hu
          rcases hu with rfl | rfl | rfl | rfl | rfl | rfl | rfl | rfl | rfl
          · exact kStr _ (by simp [nextS])
          · exact kStr _ (by simp [nextS])
          · exact kStr _ (by simp [nextS])
          · exact kNon
          · exact kInt _ (by omega)
          · exact kBl _
          · exact ⟨.list [], .lst (s4 _ _ eZ) avZ rfl (fun _ _ _ z => by simp at z), .lst (fun _ z => nomatch z), by simp [PyData.weight, PyData.weightAll]⟩
          · exact kStr _ (by unfold nextS; exact List.mem_append_left _ (List.mem_append_right _ (List.mem_map.mpr ⟨x, hx, rfl⟩)))
          · exact kStr _ (by unfold nextS; exact List.mem_append_right _ (List.mem_map.mpr ⟨x, hx, rfl⟩))
      rintro σ4 H4 ⟨w3, w4, w5, rfl, s3⟩
      have hS4 := hS1.same s3
      refine ⟨Nat.zero_le _, fun A1 nA1 => ?_⟩
      have a1 := same_upd (o := .tup []) nA1
      have eA1 : upd H4 A1 (.tup []) A1 = some (.tup []) := upd_same
      generalize upd H4 A1 (.tup []) = H5 at a1 eA1
      refine ⟨Nat.zero_le _, fun A2 nA2 => ?_⟩
      have a2 := same_upd (o := .lst []) nA2
      have eA2 : upd H5 A2 (.lst []) A2 = some (.lst []) := upd_same
      have avA2 := av (k1.trans (Kp.same d c (s3.trans a1))) (hS4.same a1) nA2
      generalize upd H5 A2 (.lst []) = H6 at a2 eA2
      refine ⟨(by show 2 ≤ sizeLine; omega), fun A3 nA3 => ?_⟩
      have a3 := same_upd (o := .tup [.int 0, .int 1]) nA3
      have eA3 : upd H6 A3 (.tup [.int 0, .int 1]) A3 = some (.tup [.int 0, .int 1]) := upd_same
      generalize upd H6 A3 (.tup [.int 0, .int 1]) = H7 at a3 eA3
      refine ⟨(by show 9 ≤ sizeLine; omega), fun L nL => ?_⟩
      have a4 := same_upd (o := .lst [V.non, .int 0, .ref A1, .ref A2, .ref A3, .str "blind", .bl true, .int 1, .bl false]) nL
      have eL : upd H7 L (.lst [V.non, .int 0, .ref A1, .ref A2, .ref A3, .str "blind", .bl true, .int 1, .bl false]) L = some (.lst [V.non, .int 0, .ref A1, .ref A2, .ref A3, .str "blind", .bl true, .int 1, .bl false]) := upd_same
      generalize upd H7 L (.lst [V.non, .int 0, .ref A1, .ref A2, .ref A3, .str "blind", .bl true, .int 1, .bl false]) = H8 at a4 eL
      obtain ⟨u, eu, hu⟩ := pick_at (xs := [V.non, .int 0, .ref A1, .ref A2, .ref A3, .str "blind", .bl true, .int 1, .bl false]) (n := 9) (r := r) rfl r0 (by omega)
      refine ⟨_, rfl, L, _, r, u, rfl, rfl, SqL.of eL, eu, fin ((((s3.trans a1).trans a2).trans a3).trans a4) ?_⟩
      simp only [List.mem_cons, List.not_mem_nil, or_false] at hu
      rcases hu with rfl | rfl | rfl | rfl | rfl | rfl | rfl | rfl | rfl
      · exact kNon
      · exact kInt _ (by omega)
      · exact ⟨.tuple [], .tup (a4 _ _ (a3 _ _ (a2 _ _ eA1))) rfl (fun _ _ _ z => by simp at z), .tup (fun _ z => nomatch z), by simp [PyData.weight, PyData.weightAll]⟩
      · exact ⟨.list [], .lst (a4 _ _ (a3 _ _ eA2)) avA2 rfl (fun _ _ _ z => by simp at z), .lst (fun _ z => nomatch z), by simp [PyData.weight, PyData.weightAll]⟩
      · refine ⟨.tuple [.int 0, .int 1], .tup (a4 _ _ eA3) rfl (ThgL.cons (.int 0) (ThgL.one (.int 1))).2, .tup (fun x hx => by
          simp only [List.mem_cons, List.not_mem_nil, or_false] at hx
          rcases hx with rfl | rfl <;> exact .int (by omega)), ?_⟩
        have h0 := weight_int (i := 0) (by decide)
        have h1 := weight_int (i := 1) (by decide)
        simp only [PyData.weight, PyData.weightAll] at h0 h1 ⊢
        omega
      · exact kStr _ (by simp [nextS])
      · exact kBl _
      · exact kInt _ (by omega)
      · exact kBl _
end

/-! ### bent at a place -/
abbrev sBent : Stmt := topS 36
theorem scBent : FnScope ["_law_state", "_law_thing", "_law_spot", "_law_parts"] ["_law_state", "_law_thing", "_law_spot"] (defScope sBent) := ⟨rfl, rfl, rfl, by decide +kernel, rfl, by decide +kernel, by decide +kernel⟩
theorem eqv_tup0 (ns : List Int) : PyData.eqv (PyData.tuple (ns.map .int)) (PyData.tuple []) = ns.isEmpty := by
  cases ns with
  | nil => simp [PyData.eqv, PyData.eqvAll]
  | cons p r => simp [PyData.eqv, PyData.eqvAll]
theorem shaped_tints (ns : List Int) : SeqAt.shaped (PyData.tuple (ns.map .int)) = true := by
  unfold SeqAt.shaped
  rw [PyData.canLay0, lay_ints, PyData.depth, depth_ints]
  rfl
/-- t == (), of ints -/
theorem eq_tup0 {K : PySem.W.Frag} {H : Hp} {p l : Addr} {ns : List Int} {Q : VK} (h : H p = some (.tup (ns.map V.int))) (el : H l = some (.tup [])) (q : Q (.bl ns.isEmpty) H) : rEqD K (.ref p) (.ref l) H Q :=
  ⟨_, .tuple [], .tup (.inl (.inl h)) (dp_ints ns), .tup (.inl (.inl el)) .nil, shaped_tints ns, by rfl, by rw [eqv_tup0]; exact q⟩
theorem Thg.add {cs : List Addr} {H : Hp} {v : V} {d : PyData} {L : Addr} (h : Thg cs H v d) (nL : H L = none) : Thg (L :: cs) H v d := by
  induction h with
  | non => exact .non
  | bl b => exact .bl b
  | int i => exact .int i
  | str x => exact .str x
  | lst e n l _ ih =>
    refine .lst e (fun z => ?_) l ih
    rcases List.mem_cons.mp z with z | z
    · rw [z, nL] at e; cases e
    · exact n z
  | tup e l _ ih => exact .tup e l ih
theorem Thg.put {cs : List Addr} {H : Hp} {v : V} {d : PyData} {L : Addr} {xs : List V} {o : HO} (h : Thg (L :: cs) H v d) (eL : H L = some (.lst xs)) : Thg cs (upd H L o) v d := by
  induction h with
  | non => exact .non
  | bl b => exact .bl b
  | int i => exact .int i
  | str x => exact .str x
  | lst e n l _ ih => exact .lst (by rw [upd_ne (fun z => n (by rw [z]; exact List.mem_cons_self ..))]; exact e) (fun z => n (List.mem_cons_of_mem _ z)) l ih
  | tup e l _ ih => exact .tup (by rw [upd_ne (ne_of e eL (fun z => nomatch z))]; exact e) l ih
def spBent (n : Nat) : Sp := fun vs H Q _ => ∃ (d c : Addr) (cs : List Addr) (t : Int) (v : V) (e : PyData) (M m : Nat) (S : List Str) (p : Addr) (pth : List Int), vs = [.ref d, v, .ref p] ∧ StAt H d c t ∧ t < 2 ^ 59 ∧ c ∈ cs ∧ (∀ L ∈ cs, H L ≠ none) ∧ Thg cs H v e ∧ Bd M S m e ∧ 10 ^ 30 ≤ M ∧ 2 * M ≤ 10 ^ 39 ∧ strsOk2 (nextS S) = true ∧ e.weight ≤ 100000 ∧ H p = some (.tup (pth.map V.int)) ∧ WayIn e pth ∧ pth.length ≤ n ∧
  ∀ y t' H', OkT cs H' (2 * M) (m + 1) (nextS S) (2 * e.weight + 300) y → t ≤ t' → t' ≤ t + 3 → StAt H' d c t' → Kp d c H H' → Q y H'
theorem weightAll_set : ∀ {ds : List PyData} {i : Nat} {d e : PyData}, ds[i]? = some d → PyData.weightAll (ds.set i e) + d.weight = PyData.weightAll ds + e.weight
  | [], i, d, e, h => by simp at h
  | x :: r, 0, d, e, h => by
    cases h
    simp only [List.set_cons_zero, PyData.weightAll]
    omega
  | x :: r, i + 1, d, e, h => by
    have h' : r[i]? = some d := h
    have := weightAll_set (e := e) h'
    simp only [List.set_cons_succ, PyData.weightAll]
    omega
section
variable {K : PySem.W.Frag} {mg : Str → Option Value} {P : Program} {w : World} {base : Heap}
theorem ok_Bent0 {f : Addr} {fd : FuncData} (F : Fun K "_law_bent" "_law_bent" sBent f fd) (C__law_step : Cal P w K mg base 2 "_law_step" ["_law_state", "_law_thing"] spStep) : FnOk P w K mg base CX0 3 f fd ["_law_state", "_law_thing", "_law_spot"] (spBent 0) := by
  refine F.ok scBent (fun vs H Q E h => ?_) (fun cdv A outer s H vs Q E hr h => ?_)
  · obtain ⟨d, c, cs, t, v, e, M, m, S, p, pth, rfl, _⟩ := h
    rfl
  · obtain ⟨d, c, cs, t, v, e, M, m, S, p, pth, rfl, hS, ht, hcc, hpre, hv, hb, hM, hM2, hS', hw, ep, way, hlen, q⟩ := h
    refine ⟨_, pss_cons (ps_if (pt_cmpR (op_eqD hr.units) (pv 2) (pe_tup pa_nil) (nomark _)) (pss_one (ps_ret (pe_own C__law_step hr (by rfl) (pa_cons (pv 0) (pa_cons (pv 1) pa_nil)))))
        pss_nil)
      pss_never, ?_⟩
    have z : pth = [] := List.length_eq_zero_iff.mp (by omega)
    subst z
    refine ⟨_, rfl, Nat.zero_le _, fun T nT => ?_⟩
    have s1 := same_upd (o := .tup []) nT
    have eT : upd H T (.tup []) T = some (.tup []) := upd_same
    generalize upd H T (.tup []) = H1 at s1 eT
    refine eq_tup0 (s1 _ _ ep) eT ⟨_, rfl, iteT ?_⟩
    exact ⟨_, rfl, _, rfl, d, c, cs, t, v, e, M, m, S, rfl, hS.same s1, ht, hcc, (fun L hm z => hpre L hm ((NoTab.same s1).free z)), hv.same s1, hb, hM, hM2, hS', hw, fun y t' H' ok u0 u1 hS2 k2 => q y t' H' ok u0 u1 hS2 ((Kp.same d c s1).trans k2)⟩

theorem ok_BentS {f : Addr} {fd : FuncData} {n k : Nat} (F : Fun K "_law_bent" "_law_bent" sBent f fd) (C__law_step : Cal P w K mg base 2 "_law_step" ["_law_state", "_law_thing"] spStep) (C : Cal P w K mg base k "_law_bent" ["_law_state", "_law_thing", "_law_spot"] (spBent n)) (C__law_of : Cal P w K mg base 1 "_law_of" ["_law_thing", "_law_parts"] spOf) (m_list : mg "list" = none) (hk : 3 ≤ k) : FnOk P w K mg base CX0 (k + 1) f fd ["_law_state", "_law_thing", "_law_spot"] (spBent (n + 1)) := by
  refine F.ok scBent (fun vs H Q E h => ?_) (fun cdv A outer s H vs Q E hr h => ?_)
  · obtain ⟨d, c, cs, t, v, e, M, m, S, p, pth, rfl, _⟩ := h
    rfl
  · obtain ⟨d, c, cs, t, v, e, M, m, S, p, pth, rfl, hS, ht, hcc, hpre, hv, hb, hM, hM2, hS', hw, ep, way, hlen, q⟩ := h
    refine ⟨_, pss_cons (ps_if (pt_cmpR (op_eqD hr.units) (pv 2) (pe_tup pa_nil) (nomark _)) (pss_one (ps_ret (pe_own C__law_step (hr.mono (Nat.le_trans (by decide) hk)) (by rfl) (pa_cons (pv 0) (pa_cons (pv 1) pa_nil)))))
        pss_nil)
      (pss_cons (ps_set (i := 3) scBent.nd rfl (.inl rfl) (pe_callTy call_list_of (by rfl) m_list (by decide +kernel) (pa_cons (pv 1) pa_nil)))
      (pss_cons (ps_asg (pe_own C hr (by rfl) (pa_cons (pv 0) (pa_cons (pe_ix ix_list (pv 3) (pe_ix ix_seq (pv 2) pe_int (fun _ _ => rfl)) (fun _ _ => rfl)) (pa_cons (pe_slice sl_seq (pv 2) (po_some pe_int) po_none) pa_nil)))) (pg_sub (pv 3) (pe_ix ix_seq (pv 2) pe_int (fun _ _ => rfl)) set_list))
      (pss_one (ps_ret (pe_own C__law_of (hr.mono (Nat.le_trans (by decide) hk)) (by rfl) (pa_cons (pv 1) (pa_cons (pv 3) pa_nil))))))), ?_⟩
    have z63 := sizeLine_eq
    refine ⟨_, rfl, Nat.zero_le _, fun T nT => ?_⟩
    have s1 := same_upd (o := .tup []) nT
    have eT : upd H T (.tup []) T = some (.tup []) := upd_same
    generalize upd H T (.tup []) = H1 at s1 eT
    refine eq_tup0 (s1 _ _ ep) eT ⟨_, rfl, ?_⟩
    cases way with
    | here =>
      refine iteT ?_
      exact ⟨_, rfl, _, rfl, d, c, cs, t, v, e, M, m, S, rfl, hS.same s1, ht, hcc, (fun L hm z => hpre L hm ((NoTab.same s1).free z)), hv.same s1, hb, hM, hM2, hS', hw, fun y t' H' ok u0 u1 hS2 k2 => q y t' H' ok u0 u1 hS2 ((Kp.same d c s1).trans k2)⟩
    | into hr' ei way' =>
      rename_i e1 ds i pth'
      refine iteF ?_
      obtain ⟨a, xs, rfl, hA, hl⟩ := hv.row hr'
      obtain ⟨m', rfl, hall⟩ := hb.row hr'
      have hwd := weight_row hr'
      have hlx := len_weight (ds := ds)
      have hlen' := hl.1
      have li : i < ds.length := (List.getElem?_eq_some_iff.mp ei).1
      have mono : ∀ x ∈ ds, Bd (2 * M) (nextS S) (m' + 1) x := fun x hx => (hall x hx).mono (by omega) (fun _ h => nextS.sub h) (by omega)
      have hw1 : e1.weight ≤ PyData.weightAll ds := by
        have h1 := weightAll_take ei
        have h2 := weightAll_le (ds := ds) (i + 1)
        omega
      refine ⟨_, rfl, a, xs, rfl, (hA.noTab (NoTab.same s1)).lq, fun L nL => ?_⟩
      have s2 := same_upd (o := .lst xs) nL
      have eL : upd H1 L (.lst xs) L = some (.lst xs) := upd_same
      have offL := (hS.same s1).off nL
      generalize upd H1 L (.lst xs) = H2 at s2 eL
      have s02 := s1.trans s2
      have hS2 := hS.same s02
      have ep2 := s02 _ _ ep
      obtain ⟨x1, ex1⟩ : ∃ x1, xs[i]? = some x1 := ⟨_, List.getElem?_eq_getElem (by omega)⟩
      have hx1 := (hl.2 i x1 e1 ex1 ei).same s02
      have ep2' : H2 p = some (.tup (.int (i : Int) :: pth'.map V.int)) := ep2
      refine ⟨_, rfl, _, rfl, _, rfl, p, _, 0, _, rfl, rfl, (SqH.sq (.inr ep2')), atI_nat (j := 0) rfl, L, _, _, x1, rfl, rfl, SqL.of eL, atI_nat ex1, _, rfl, _, rfl, rSlQ.tail (.inr ep2') fun p3 H3 s3 alt => ?_⟩
      have ep3 : H3 p3 = some (.tup (pth'.map V.int)) := by
        rcases alt with ⟨e1, _⟩ | ⟨_, e2⟩
        · rw [ep2'] at e1; cases e1
        · exact e2
      have s03 := s02.trans s3
      have nLH : H L = none := (NoTab.same s1).free nL
      have eL3 := s3 _ _ eL
      have avL : L ∉ cs := fun hm => hpre L hm nLH
      refine ⟨d, c, L :: cs, t, x1, e1, M, m', S, p3, pth', rfl, hS.same s03, ht, List.mem_cons_of_mem _ hcc, (fun L2 hm z => by
        rcases List.mem_cons.mp hm with z2 | hm
        · rw [z2, eL3] at z; cases z
        · exact hpre L2 hm ((NoTab.same s03).free z)), ((hl.2 i x1 e1 ex1 ei).add nLH).same s03, hall _ (List.mem_of_getElem? ei), hM, hM2, hS', by omega, ep3, way', by simp only [List.length_cons] at hlen; omega, fun y t' H4 ok u0 u1 hS4 k4 => ?_⟩
      obtain ⟨e2, hy, hbe, hwe⟩ := ok
      have hS3 := hS.same s03
      have ep4 : H4 p = some (.tup (.int (i : Int) :: pth'.map V.int)) := k4.tup hS3 (s3 _ _ ep2')
      have eL4 : H4 L = some (.lst xs) := k4 _ _ offL.1 offL.2 (s3 _ _ eL)
      refine ⟨_, rfl, _, rfl, p, _, 0, _, rfl, rfl, (SqH.sq (.inr ep4)), atI_nat (j := 0) rfl, L, xs, _, i, rfl, rfl, eL4, ixN_of (by omega), ?_⟩
      have hS5 := hS4.upd (o := .lst (xs.set i y)) offL.1 offL.2
      have k5 : Kp d c H (upd H4 L (.lst (xs.set i y))) := fun b o h1 h2 eb => by
        rw [upd_ne (ne_of_none eb nLH)]
        exact k4 b o h1 h2 (s03 b o eb)
      have hy5 : Thg cs (upd H4 L (.lst (xs.set i y))) y e2 := hy.put eL4
      have e5 : upd H4 L (.lst (xs.set i y)) L = some (.lst (xs.set i y)) := upd_same
      generalize upd H4 L (.lst (xs.set i y)) = H5 at hS5 k5 hy5 e5
      refine ⟨_, rfl, _, rfl, cs, .ref a, e, L, xs.set i y, ds.set i e2, rfl, hv.kp hS k5 hcc, e5, avL, (hl.kp hS k5 hcc).set i hy5, fun y' H6 s6 thg => q y' t' H6 ⟨_, thg, ofD_bd (fun x hx => ?_), ?_⟩ u0 u1 (hS5.same s6) (k5.trans (Kp.same d c s6))⟩
      · rcases List.mem_or_eq_of_mem_set hx with hx | hx
        · exact mono x hx
        · rw [hx]; exact hbe
      · rw [ofD_weight]
        have := weightAll_set (e := e2) ei
        omega

end

/-! ### bent anywhere, once or twice -/
def itS : Nat → List Str
  | 0 => [Str.ofString "samples", Str.ofString "blind"]
  | n + 1 => nextS (itS n)
theorem strs0' : strsOk2 (nextS (itS 0)) = true := by decide +kernel
theorem strs1' : strsOk2 (nextS (itS 1)) = true := by decide +kernel
theorem OkT.mono {cs : List Addr} {H : Hp} {M M' n n' W W' : Nat} {S S' : List Str} {v : V} (h : OkT cs H M n S W v) (hM : M ≤ M') (hS : ∀ x ∈ S, x ∈ S') (hn : n ≤ n') (hW : W ≤ W') : OkT cs H M' n' S' W' v := by
  obtain ⟨e, h1, h2, h3⟩ := h
  exact ⟨e, h1, h2.mono hM hS hn, Nat.le_trans h3 hW⟩
/-- after so many steps -/
def OkI (cs : List Addr) (H : Hp) (i : Nat) (v : V) : Prop := OkT cs H (2 ^ i * 10 ^ 36) (2 + i) (itS i) (2 ^ i * 20600 - 300) v
theorem OkI.up {cs : List Addr} {H : Hp} {i : Nat} {v : V} (h : OkI cs H i v) : OkI cs H (i + 1) v := by
  refine OkT.mono h ?_ (fun x hx => nextS.sub hx) (by omega) ?_
  · rw [Nat.pow_succ]; omega
  · rw [Nat.pow_succ]; omega
def spAnyw : Sp := fun vs H Q _ => ∃ (d c : Addr) (cs : List Addr) (t : Int) (v : V), vs = [.ref d, v] ∧ StAt H d c t ∧ t < 2 ^ 58 ∧ c ∈ cs ∧ (∀ L ∈ cs, H L ≠ none) ∧ OkT cs H (10 ^ 36) 2 (itS 0) 20000 v ∧
  ∀ y t' H', OkI cs H' 2 y → t ≤ t' → t' ≤ t + 20 → StAt H' d c t' → Kp d c H H' → Q y H'
abbrev sAnyw : Stmt := topS 37
theorem scAnyw : FnScope ["_law_state", "_law_told", "_law_thing", "_law_step_here", "_law_spots_here"] ["_law_state", "_law_told"] (defScope sAnyw) := ⟨rfl, rfl, rfl, by decide +kernel, rfl, by decide +kernel, by decide +kernel⟩
section
variable {K : PySem.W.Frag} {mg : Str → Option Value} {P : Program} {w : World} {base : Heap}
theorem ok_Anyw {f : Addr} {fd : FuncData} (F : Fun K "_law_bent_anywhere" "_law_bent_anywhere" sAnyw f fd) (C__law_take : Cal P w K mg base 1 "_law_take" ["_law_state", "_law_many"] spTake) (C__law_spots : Cal P w K mg base 4 "_law_spots" ["_law_thing"] (spSpots 3)) (C__law_bent : Cal P w K mg base 6 "_law_bent" ["_law_state", "_law_thing", "_law_spot"] (spBent 3)) (m_range : mg "range" = none) (m_len : mg "len" = none) : FnOk P w K mg base CX0 7 f fd ["_law_state", "_law_told"] spAnyw := by
  refine F.ok scAnyw (fun vs H Q E h => ?_) (fun cdv A outer s H vs Q E hr h => ?_)
  · obtain ⟨d, c, cs, t, v, rfl, _⟩ := h
    rfl
  · obtain ⟨d, c, cs, t, v, rfl, hS, ht, hcc, hpre, hv, q⟩ := h
    refine ⟨_, pss_cons (ps_set (i := 2) scAnyw.nd rfl (.inl rfl) (pv 1))
      (pss_cons (ps_for PassesOwn.never rfl (pi_range1 rfl m_range (pa_cons (pe_op op_add pe_int (pe_op op_fdivW (pe_own C__law_take (hr.mono (show 1 ≤ 6 by decide)) (by rfl) (pa_cons (pv 0) (pa_cons pe_int pa_nil))) pe_int)) pa_nil)) (pg_name (i := 3) scAnyw.nd rfl (.inl rfl))
        (pss_cons (ps_set (i := 4) scAnyw.nd rfl (.inl rfl) (pe_own C__law_spots (hr.mono (show 4 ≤ 6 by decide)) (by rfl) (pa_cons (pv 2) pa_nil)))
        (pss_one (ps_set (i := 2) scAnyw.nd rfl (.inl rfl) (pe_own C__law_bent hr (by rfl) (pa_cons (pv 0) (pa_cons (pv 2) (pa_cons (pe_ix ix_list (pv 4) (pe_own C__law_take (hr.mono (show 1 ≤ 6 by decide)) (by rfl) (pa_cons (pv 0) (pa_cons (pe_callB call_len_seq (by rfl) m_len PySem.boot_len (pa_cons (pv 4) pa_nil)) pa_nil))) (fun _ _ => rfl)) pa_nil))))))))
      (pss_one (ps_ret (pv 2)))), ?_⟩
    have pre : ∀ {Hx : Hp} {t' : Int}, Kp d c H Hx → StAt Hx d c t' → ∀ L ∈ cs, Hx L ≠ none := fun kx hSx L hm z => hpre L hm (Kp.gone' hS kx hSx z)
    refine ⟨_, rfl, ?_⟩
    refine ⟨_, rfl, d, c, t, 4, rfl, hS, by omega, by decide, by decide, fun r H1 r0 r1 hS1 k1 => ⟨_, _, rfl, rfl, ⟨by decide, by decide⟩, _, _, rfl, rfl, 1 + r / 3, rfl, by omega, by omega, ?_⟩⟩
    have hn : (1 + r / 3).toNat ≤ 2 := by omega
    refine for_range (n := (1 + r / 3).toNat) (fun i σ Hx => ∃ (y : V) (t' : Int) (y3 y4 : Option V), σ = [some (.ref d), some v, some y, y3, y4] ∧ (OkT cs Hx (10 ^ 36) 2 (itS 0) 20000 y ∧ i = 0 ∨ OkI cs Hx i y) ∧ t + 1 ≤ t' ∧ t' ≤ t + 1 + 9 * (i : Int) ∧ StAt Hx d c t' ∧ Kp d c H Hx) ?_ (fun i σ Hx hi hP => ?_) (fun σ Hx hP => ?_)
    · obtain ⟨e, h1, h2, h3⟩ := hv
      exact ⟨v, t + 1, _, _, rfl, .inl ⟨⟨e, h1.kp hS k1 hcc, h2, h3⟩, rfl⟩, by omega, by omega, hS1, k1⟩
    · obtain ⟨y, t', y3, y4, rfl, hok, u0, u1, hSx, kx⟩ := hP
      have hi2 : i < 2 := by omega
      have hok : OkI cs Hx i y := by
        rcases hok with ⟨h, rfl⟩ | h
        · exact OkT.mono h (by decide) (fun _ h => h) (by decide) (by decide)
        · exact h
      obtain ⟨e, hy, hb, hw⟩ := hok
      have hi3 : i = 0 ∨ i = 1 := by omega
      have hst : strsOk2 (nextS (itS i)) = true := by
        rcases hi3 with e | e
        · rw [e]; exact strs0'
        · rw [e]; exact strs1'
      have hw2 : e.weight ≤ 41200 := Nat.le_trans hw (by rcases hi3 with e | e <;> rw [e] <;> decide +kernel)
      have hM1 : 10 ^ 30 ≤ 2 ^ i * 10 ^ 36 := by rcases hi3 with e | e <;> rw [e] <;> decide +kernel
      have hM2 : 2 * (2 ^ i * 10 ^ 36) ≤ 10 ^ 39 := by rcases hi3 with e | e <;> rw [e] <;> decide +kernel
      refine ⟨_, rfl, cs, y, e, _, _, rfl, hy, hb.mono (Nat.le_refl _) (fun _ h => h) (by omega), by omega, fun p us H2 s2 np ep ne hl hsp => ?_⟩
      have hS2 := hSx.same s2
      have offp := hSx.off np
      refine ⟨_, rfl, _, rfl, _, rfl, _, rfl, _, rfl, p, _, rfl, .inl (SqL.of ep), d, c, t', (us.length : Int), rfl, hS2, by omega, ?_, by omega, fun r2 H3 r20 r21 hS3 k3 => ?_⟩
      · have := List.length_pos_iff.mpr ne
        omega
      obtain ⟨x, ex, hx⟩ := pick_at (xs := us) (n := us.length) rfl r20 r21
      obtain ⟨T, pth, rfl, eT, way⟩ := hsp x hx
      have k23 := (Kp.same d c s2).trans k3
      have eT3 : H3 T = some (.tup (pth.map V.int)) := k3.tup hS2 eT
      refine ⟨p, _, r2, _, rfl, rfl, SqL.of (k3 _ _ offp.1 offp.2 ep), ex, d, c, cs, t' + 1, y, e, _, _, itS i, T, pth, rfl, hS3, by omega, hcc, pre (kx.trans k23) hS3, (hy.same s2).kp hS2 k3 hcc, hb, hM1, hM2, hst, by omega, eT3, way, Nat.le_trans (way.len hb) (by omega), fun y' t2 H4 ok v0 v1 hS4 k4 => ?_⟩
      refine ⟨y', t2, _, _, rfl, .inr ?_, by omega, by omega, hS4, (kx.trans k23).trans k4⟩
      refine OkT.mono ok (by rw [Nat.pow_succ]; omega) (fun _ h => h) (by omega) ?_
      rw [Nat.pow_succ]
      have : 20600 ≤ 2 ^ i * 20600 := by
        have := Nat.one_le_two_pow (n := i)
        omega
      omega
    · obtain ⟨y, t', y3, y4, rfl, hok, u0, u1, hSx, kx⟩ := hP
      have hok2 : OkI cs Hx 2 y := by
        rcases hok with ⟨_, z⟩ | h
        · omega
        · have h12 : (1 + r / 3).toNat = 1 ∨ (1 + r / 3).toNat = 2 := by omega
          rcases h12 with e | e
          · rw [e] at h; exact h.up
          · rw [e] at h; exact h
      exact ⟨_, rfl, q y t' Hx hok2 (by omega) (by omega) hSx kx⟩
end

/-! ### papers of samples -/
theorem mem_putK {kvs : List (Key × V)} {k : Key} {v : V} {p : Key × V} (h : p ∈ putK kvs k v) : p.1 = k ∨ ∃ q ∈ kvs, p.1 = q.1 := by
  unfold putK at h
  split at h
  · obtain ⟨q, hq, e⟩ := List.mem_map.mp h
    split at e
    · exact .inr ⟨q, hq, by rw [← e]⟩
    · exact .inr ⟨q, hq, by rw [e]⟩
  · rcases List.mem_append.mp h with z | z
    · exact .inr ⟨p, z, rfl⟩
    · exact .inl (by rw [List.mem_singleton.mp z])
abbrev sPaper : Stmt := topS 39
theorem scPaper : FnScope ["_law_state", "_law_runs_here", "_law_gone_here", "_law_told", "_law_numbers", "_law_first", "_law_last", "_law_at", "_law_places", "_law_place"] ["_law_state", "_law_runs_here", "_law_gone_here", "_law_told"] (defScope sPaper) := ⟨rfl, rfl, rfl, by decide +kernel, rfl, by decide +kernel, by decide +kernel⟩
def TellP (cs : List Addr) (H : Hp) (T : Addr) (nr : Nat) : Prop := (∃ i : Int, H T = some (.tup [.str "blind", .int i])) ∨ ∃ (N A : Addr) (ns ap : List Int), H T = some (.tup [.str "samples", .ref N, .ref A]) ∧ H N = some (.lst (ns.map V.int)) ∧ N ∉ cs ∧ H A = some (.lst (ap.map V.int)) ∧ A ∉ cs ∧ 1 ≤ ns.length ∧ ns.length ≤ 24 ∧ (∀ n ∈ ns, 0 ≤ n ∧ n < 10 ^ 32) ∧ ap.length ≤ 24 ∧ ∀ n ∈ ap, 0 ≤ n ∧ n < 100
def spPaper : Sp := fun vs H Q _ => ∃ (d c : Addr) (cs : List Addr) (t : Int) (a b T : Addr) (rs : List (Int × Int)), vs = [.ref d, .ref a, .ref b, .ref T] ∧ StAt H d c t ∧ t < 2 ^ 58 ∧ c ∈ cs ∧ (∀ L ∈ cs, H L ≠ none) ∧ LsA H a rs ∧ a ∉ cs ∧ a ≠ d ∧ 1 ≤ rs.length ∧ rs.length ≤ 10 ∧ (∀ r ∈ rs, 0 ≤ r.1 ∧ r.1 ≤ r.2 ∧ r.2 < 10 ^ 31) ∧ TellP cs H T rs.length ∧
  ∀ y t' H', OkT cs H' (10 ^ 39) 2 (itS 0) 20000 y → t ≤ t' → t' ≤ t + 60 → StAt H' d c t' → Kp d c H H' → Q y H'
def keyN : Key → Int
  | .inl i => i
  | .inr _ => 0
/-- numbers, on their way -/
def NumM (H : Hp) (d c a b T : Addr) (cs : List Addr) (t U : Int) (e : Nat) (σ : L2.St) (Hx : Hp) : Prop := ∃ (t' : Int) (NU : Addr) (ns : List Int) (y5 y6 y7 y8 y9 : Option V), σ = [some (.ref d), some (.ref a), some (.ref b), some (.ref T), some (.ref NU), y5, y6, y7, y8, y9] ∧ Hx NU = some (.lst (ns.map V.int)) ∧ H NU = none ∧ ns.length ≤ 24 ∧ (∀ n ∈ ns, 0 ≤ n ∧ n < 10 ^ 33) ∧ t ≤ t' ∧ t' ≤ t + U ∧ StAt Hx d c t' ∧ Kp d c H Hx
def PlaM (H : Hp) (d c a b T : Addr) (cs : List Addr) (t U : Int) (σ : L2.St) (Hx : Hp) : Prop := ∃ (t' : Int) (NU PL : Addr) (ns ps : List Int) (y5 y6 y7 y9 : Option V), σ = [some (.ref d), some (.ref a), some (.ref b), some (.ref T), some (.ref NU), y5, y6, y7, some (.ref PL), y9] ∧ Hx NU = some (.lst (ns.map V.int)) ∧ H NU = none ∧ ns.length ≤ 24 ∧ (∀ n ∈ ns, 0 ≤ n ∧ n < 10 ^ 33) ∧ Hx PL = some (.lst (ps.map V.int)) ∧ H PL = none ∧ ps.length ≤ 24 ∧ (∀ n ∈ ps, 0 ≤ n ∧ n < 100) ∧ t ≤ t' ∧ t' ≤ t + U ∧ StAt Hx d c t' ∧ Kp d c H Hx
section
variable {K : PySem.W.Frag} {mg : Str → Option Value} {P : Program} {w : World} {base : Heap}
theorem ok_Paper {f : Addr} {fd : FuncData} (F : Fun K "_law_paper" "_law_paper" sPaper f fd) (C__law_take : Cal P w K mg base 1 "_law_take" ["_law_state", "_law_many"] spTake) (m_len : mg "len" = none) (m_list : mg "list" = none) (m_sorted : mg "sorted" = none) (m_max : mg "max" = none) (m_range : mg "range" = none) : FnOk P w K mg base CX0 3 f fd ["_law_state", "_law_runs_here", "_law_gone_here", "_law_told"] spPaper := by
  refine F.ok scPaper (fun vs H Q E h => ?_) (fun cdv A outer s H vs Q E hr h => ?_)
  · obtain ⟨d, c, cs, t, a, b, T, rs, rfl, _⟩ := h
    rfl
  · obtain ⟨d, c, cs, t, a, b, T, rs, rfl, hS, ht, hcc, hpre, hA, aav, nad, hr1, hr10, hrb, hT, q⟩ := h
    refine ⟨_, pss_cons (ps_if (pt_cmpR op_eq (pe_own C__law_take (hr.mono (show 1 ≤ 2 by decide)) (by rfl) (pa_cons (pv 0) (pa_cons pe_int pa_nil))) pe_int (nomark _)) (pss_one (ps_ret (pe_tup (pa_cons pe_str (pa_cons (pe_own C__law_take (hr.mono (show 1 ≤ 2 by decide)) (by rfl) (pa_cons (pv 0) (pa_cons (pe_op op_add (pe_callB call_len_seq (by rfl) m_len PySem.boot_len (pa_cons (pv 1) pa_nil)) pe_int) pa_nil))) pa_nil)))))
        pss_nil)
      (pss_cons (ps_set (i := 4) scPaper.nd rfl (.inl rfl) pe_dnewK)
      (pss_cons (ps_for PassesOwn.never rfl (pi_list (pv 1)) (pg_tup rfl (pgs_cons (pg_name (i := 5) scPaper.nd rfl (.inl rfl)) (pgs_cons (pg_name (i := 6) scPaper.nd rfl (.inl rfl)) pgs_nil)))
        (pss_one (ps_asg pe_bl (pg_sub (pv 4) (pe_ix ix_list (pe_lst (pa_cons (pv 5) (pa_cons (pv 6) (pa_cons (pe_op op_add (pv 5) (pe_own C__law_take (hr.mono (show 1 ≤ 2 by decide)) (by rfl) (pa_cons (pv 0) (pa_cons (pe_op op_add (pe_op op_sub (pv 6) (pv 5)) pe_int) pa_nil)))) pa_nil)))) (pe_own C__law_take (hr.mono (show 1 ≤ 2 by decide)) (by rfl) (pa_cons (pv 0) (pa_cons pe_int pa_nil))) (fun _ _ => rfl)) (set_dict (hu_of hr))))))
      (pss_cons (ps_set (i := 4) scPaper.nd rfl (.inl rfl) (pe_callB cr_sortedI (by rfl) m_sorted (by decide +kernel) (pa_cons (pe_callTy (call_list_dK rfl) (by rfl) m_list (by decide +kernel) (pa_cons (pv 4) pa_nil)) pa_nil)))
      (Evl.pss_cut (ps_if (PW.pt (pw_and (pt_cmpR op_eq (pe_ix ix_tup (pv 3) pe_int (fun _ _ => rfl)) pe_str (nomark _)) (pw_and1 (pt_cmpR op_eq (pe_own C__law_take (hr.mono (show 1 ≤ 2 by decide)) (by rfl) (pa_cons (pv 0) (pa_cons pe_int pa_nil))) pe_int (nomark _))))) (pss_cons (ps_set (i := 4) scPaper.nd rfl (.inl rfl) (pe_callTy call_list_of (by rfl) m_list (by decide +kernel) (pa_cons (pe_ix ix_tup (pv 3) pe_int (fun _ _ => rfl)) pa_nil)))
        (pss_cons (ps_set (i := 7) scPaper.nd rfl (.inl rfl) (pe_own C__law_take (hr.mono (show 1 ≤ 2 by decide)) (by rfl) (pa_cons (pv 0) (pa_cons (pe_callB call_len_seq (by rfl) m_len PySem.boot_len (pa_cons (pv 4) pa_nil)) pa_nil))))
        (pss_one (ps_asg (pe_callB (call_max2 rfl) (by rfl) m_max (by decide +kernel) (pa_cons pe_int (pa_cons (pe_op op_sub (pe_op op_add (pe_ix ix_list (pv 4) (pv 7) (fun _ _ => rfl)) (pe_own C__law_take (hr.mono (show 1 ≤ 2 by decide)) (by rfl) (pa_cons (pv 0) (pa_cons pe_int pa_nil)))) pe_int) pa_nil))) (pg_sub (pv 4) (pv 7) set_list)))))
        pss_nil)
      (pss_cons (ps_setLc (i := 8) (own := [("_law_place", 9)]) (g := (gName 9)) (tt := (tTest (tOp (rEq) (tCall spTake [] E0 (tCons (tVar 0) (tCons (tC (.int 2)) tNil))) (tC (.int 0))))) (te := (tVar 9)) rfl scPaper.nd rfl rfl (sw_true rfl rfl rfl (by decide +kernel)) (pi_range1 rfl m_range (pa_cons (pe_callB call_len_seq (by rfl) m_len PySem.boot_len (pa_cons (pv 1) pa_nil)) pa_nil)) (blkOk_by (own := [("_law_place", 9)]) (N := ["_law_state", "_law_runs_here", "_law_gone_here", "_law_told", "_law_numbers", "_law_first", "_law_last", "_law_at", "_law_places", "_law_place"]) (sc := defScope sPaper) (by decide +kernel)) (fun _ _ _ _ _ => (pg_name (i := 9) scPaper.nd rfl (.inl rfl))) (fun _ _ _ _ _ => (pts_one (pt_cmpR op_eq (pe_own C__law_take (hr.mono (show 1 ≤ 2 by decide)) (by rfl) (pa_cons (pv 0) (pa_cons pe_int pa_nil))) pe_int (nomark _)))) (fun _ _ _ _ _ => (pv 9)))
      (Evl.pss_cut (ps_if (PW.pt (pw_and (pt_cmpR op_eq (pe_ix ix_tup (pv 3) pe_int (fun _ _ => rfl)) pe_str (nomark _)) (pw_and1 (pt_cmpR op_gt (pe_own C__law_take (hr.mono (show 1 ≤ 2 by decide)) (by rfl) (pa_cons (pv 0) (pa_cons pe_int pa_nil))) pe_int (nomark _))))) (pss_one (ps_set (i := 8) scPaper.nd rfl (.inl rfl) (pe_callTy call_list_of (by rfl) m_list (by decide +kernel) (pa_cons (pe_ix ix_tup (pv 3) pe_int (fun _ _ => rfl)) pa_nil))))
        pss_nil)
      (pss_one (ps_ret (pe_tup (pa_cons pe_str (pa_cons (pv 4) (pa_cons (pv 8) pa_nil)))))))))))), ?_⟩
    have z63 := sizeLine_eq
    have nac : a ≠ c := fun z => aav (z ▸ hcc)
    obtain ⟨us, eA, pr⟩ := id hA
    have lus : us.length = rs.length := pr.1
    have av : ∀ {Z : Addr}, H Z = none → Z ∉ cs := fun n hm => hpre _ hm n
    have prK : ∀ {H' : Hp}, Kp d c H H' → Prs H' us rs := fun k => ⟨pr.1, fun i r er => let ⟨x, h1, h2⟩ := pr.2 i r er; ⟨x, h1, k.tup hS h2⟩⟩
    have wB : ∀ {M : Nat}, M ≤ 10 ^ 39 → ∀ {l : List Int}, (∀ x ∈ l, x.natAbs < M) → PyData.weightAll (l.map .int) ≤ 132 * l.length ∧ ∀ x ∈ l.map PyData.int, Bd M (itS 0) 0 x := fun {M} hM {l} h => by
      induction l with
      | nil => exact ⟨by simp [PyData.weightAll], fun _ z => nomatch z⟩
      | cons x r ih =>
        obtain ⟨g1, g2⟩ := ih fun y hy => h y (List.mem_cons_of_mem _ hy)
        have hx := h x (List.mem_cons_self ..)
        have w := weight_int (Nat.lt_of_lt_of_le hx hM)
        refine ⟨?_, fun y hy => ?_⟩
        · rw [List.map_cons, PyData.weightAll, List.length_cons]; omega
        · rcases List.mem_cons.mp hy with rfl | hy
          · exact .int hx
          · exact g2 y hy
    refine ⟨_, rfl, d, c, t, 5, rfl, hS, by omega, by decide, by decide, fun r1 H1 r10 r11 hS1 k1 => ⟨rfl, _, rfl, ite2 (fun _ => ?_) (fun _ => ?_)⟩⟩
    · refine ⟨_, rfl, _, rfl, a, _, rfl, .inl (SqL.of (k1 _ _ nad nac eA)), _, _, rfl, rfl, d, c, t + 1, (us.length : Int) + 1, rfl, hS1, by omega, by omega, by omega, fun r2 H2 r20 r21 hS2 k2 => ⟨(by show 2 ≤ sizeLine; decide), fun Z nZ => ?_⟩⟩
      have sZ := same_upd (o := .tup [.str "blind", .int r2]) nZ
      refine q _ (t + 1 + 1) _ ⟨.tuple [.str "blind", .int r2], .tup upd_same rfl (ThgL.cons (.str _) (ThgL.one (.int r2))).2, .tup (fun x hx => ?_), ?_⟩ (by omega) (by omega) (hS2.same sZ) ((k1.trans k2).trans (Kp.same d c sZ))
      · simp only [List.mem_cons, List.not_mem_nil, or_false] at hx
        rcases hx with rfl | rfl
        · exact .str (by simp [itS])
        · exact .int (by omega)
      · have h1 := weight_int (i := r2) (by omega)
        have h2 : (PyData.str "blind").weight ≤ 100 := by decide +kernel
        simp only [PyData.weight, PyData.weightAll] at h1 h2 ⊢
        omega
    have hTk : ∀ {Hx : Hp} {t' : Int}, Kp d c H Hx → StAt Hx d c t' → TellP cs Hx T rs.length := fun kx hSx => by
      rcases hT with ⟨i, e⟩ | ⟨N, A, ns, ap, e, eN, nN, eA, nA, r⟩
      · exact .inl ⟨i, kx.tup hS e⟩
      · exact .inr ⟨N, A, ns, ap, kx.tup hS e, kx _ _ (ne_of eN hS.dict (fun z => nomatch z)) (fun z => nN (z ▸ hcc)) eN, nN, kx _ _ (ne_of eA hS.dict (fun z => nomatch z)) (fun z => nA (z ▸ hcc)) eA, nA, r⟩
    refine fun DN nDN => ?_
    have s2 := same_upd (o := .dK []) nDN
    have eDN : upd H1 DN (.dK []) DN = some (.dK []) := upd_same
    have offDN := hS1.off nDN
    generalize upd H1 DN (.dK []) = H2 at s2 eDN
    have hS2 := hS1.same s2
    have k02 := k1.trans (Kp.same d c s2)
    have nDN0 : H DN = none := Kp.gone' hS k1 hS1 nDN
    refine ⟨_, rfl, a, rfl, ⟨_, SqL.of (k02 _ _ nad nac eA)⟩, for_list (xs := us) (fun i σ Hx => ∃ (kvs : List (Key × V)) (t' : Int) (y5 y6 y7 y8 y9 : Option V), σ = [some (.ref d), some (.ref a), some (.ref b), some (.ref T), some (.ref DN), y5, y6, y7, y8, y9] ∧ Hx DN = some (.dK kvs) ∧ kvs.length ≤ i ∧ (∀ p ∈ kvs, ∃ n : Int, p.1 = .inl n ∧ 0 ≤ n ∧ n < 10 ^ 32) ∧ t + 1 ≤ t' ∧ t' ≤ t + 1 + 2 * (i : Int) ∧ StAt Hx d c t' ∧ Kp d c H Hx) ⟨[], t + 1, _, _, _, _, _, rfl, eDN, Nat.le_refl _, (fun _ z => nomatch z), by omega, by omega, hS2, k02⟩ (fun i σ Hx _ hP => ?_) (fun i x σ Hx hx hP => ?_) (fun σ Hx hP => ?_)⟩
    · obtain ⟨kvs, t', y5, y6, y7, y8, y9, rfl, eD, hl, hk, u0, u1, hSx, kx⟩ := hP
      exact SqL.of (kx _ _ nad nac eA)
    · obtain ⟨kvs, t', y5, y6, y7, y8, y9, rfl, eD, hl, hk, u0, u1, hSx, kx⟩ := hP
      obtain ⟨r, Tr, er, rfl, eTr⟩ := prs_at (prK kx) hx
      have li : i < us.length := (List.getElem?_eq_some_iff.mp hx).1
      obtain ⟨b0, b1, b2⟩ := hrb r (List.mem_of_getElem? er)
      refine ⟨Tr, _, rfl, .inl (.inl eTr), rfl, _, _, rfl, _, _, rfl, rfl, ?_⟩
      refine ⟨_, rfl, _, rfl, _, rfl, _, rfl, _, rfl, _, rfl, _, rfl, _, _, rfl, rfl, _, _, rfl, rfl, d, c, t', r.2 - r.1 + 1, rfl, hSx, by omega, by omega, by omega, fun x3 H3 x30 x31 hS3 k3 => ⟨_, _, rfl, rfl, (by show 3 ≤ sizeLine; omega), fun L nL => ?_⟩⟩
      have sL := same_upd (o := .lst [.int r.1, .int r.2, .int (r.1 + x3)]) nL
      have eL : upd H3 L (.lst [.int r.1, .int r.2, .int (r.1 + x3)]) L = some (.lst [.int r.1, .int r.2, .int (r.1 + x3)]) := upd_same
      have offL := hS3.off nL
      generalize upd H3 L (.lst [.int r.1, .int r.2, .int (r.1 + x3)]) = H4 at sL eL
      refine ⟨_, rfl, d, c, t' + 1, 3, rfl, hS3.same sL, by omega, by decide, by decide, fun r3 H5 r30 r31 hS5 k5 => ?_⟩
      obtain ⟨v, ev, hv⟩ := pick_at (xs := [V.int r.1, .int r.2, .int (r.1 + x3)]) (n := 3) rfl r30 (by omega)
      obtain ⟨nn, rfl, n0, n1⟩ : ∃ nn : Int, v = .int nn ∧ 0 ≤ nn ∧ nn < 10 ^ 32 := by
        simp only [List.mem_cons, List.not_mem_nil, or_false] at hv
        rcases hv with rfl | rfl | rfl
        · exact ⟨_, rfl, by omega, by omega⟩
        · exact ⟨_, rfl, by omega, by omega⟩
        · exact ⟨_, rfl, by omega, by omega⟩
      have eD5 : H5 DN = some (.dK kvs) := k5 _ _ offDN.1 offDN.2 (sL _ _ (k3 _ _ offDN.1 offDN.2 eD))
      refine ⟨L, _, r3, _, rfl, rfl, SqL.of (k5 _ _ offL.1 offL.2 eL), ev, DN, _, rfl, DPut.k (k := Sum.inl nn) eD5 (by omega), ?_⟩
      refine ⟨_, t' + 1 + 1, _, _, _, _, _, rfl, upd_same, Nat.le_trans (length_putK ..) (by omega), fun p hp => ?_, by omega, by omega, hS5.upd offDN.1 offDN.2, fun b' o h1 h2 e => ?_⟩
      · rcases mem_putK hp with e | ⟨q', hq, e⟩
        · exact ⟨nn, e, n0, n1⟩
        · rw [e]; exact hk q' hq
      · rw [upd_ne (ne_of_none e nDN0)]
        exact k5 b' o h1 h2 (sL _ _ (k3 b' o h1 h2 (kx b' o h1 h2 e)))
    obtain ⟨kvs, t6, y5, y6, y7, y8, y9, rfl, eD, hl, hk, u0, u1, hS6, k6⟩ := hP
    have ekey : (kvs.map fun kv => kV kv.1) = (kvs.map fun kv => keyN kv.1).map V.int := by
      rw [List.map_map]
      refine List.map_congr_left fun p hp => ?_
      obtain ⟨n, e, _⟩ := hk p hp
      show kV p.1 = V.int (keyN p.1)
      rw [e]; rfl
    refine ⟨_, rfl, DN, kvs, rfl, eD, fun LN nLN => ?_⟩
    rw [ekey]
    have s7 := same_upd (o := .lst ((kvs.map fun kv => keyN kv.1).map V.int)) nLN
    have eLN : upd Hx LN (.lst ((kvs.map fun kv => keyN kv.1).map V.int)) LN = some (.lst ((kvs.map fun kv => keyN kv.1).map V.int)) := upd_same
    generalize upd Hx LN (.lst ((kvs.map fun kv => keyN kv.1).map V.int)) = H7 at s7 eLN
    refine ⟨LN, _, rfl, SqL.of eLN, fun ns' NU hperm _ nNU => ?_⟩
    have s8 := same_upd (o := .lst (ns'.map V.int)) nNU
    have eNU : upd H7 NU (.lst (ns'.map V.int)) NU = some (.lst (ns'.map V.int)) := upd_same
    have hS7 := hS6.same s7
    have k7 := k6.trans (Kp.same d c s7)
    have nNU0 : H NU = none := Kp.gone' hS k7 hS7 nNU
    generalize upd H7 NU (.lst (ns'.map V.int)) = H8 at s8 eNU
    have hS8 := hS7.same s8
    have k8 := k7.trans (Kp.same d c s8)
    have lns' : ns'.length ≤ 24 := by rw [hperm.length_eq, List.length_map]; omega
    have bns' : ∀ n ∈ ns', 0 ≤ n ∧ n < 10 ^ 33 := fun n hn => by
      obtain ⟨p, hp, rfl⟩ := List.mem_map.mp (hperm.mem_iff.mp hn)
      obtain ⟨n, e, h0, h1⟩ := hk p hp
      rw [e]
      exact ⟨h0, Int.lt_trans h1 (by decide)⟩
    clear hperm ekey hk eD eLN
    -- told numbers, one a little otherwise
    refine ⟨NumM H d c a b T cs t 30 0, ?_, ?_⟩
    · have mid : ∀ {Hy : Hp} {t' : Int}, Same H8 Hy ∨ True → StAt Hy d c t' → Kp d c H8 Hy → t ≤ t' → t' ≤ t + 30 → NumM H d c a b T cs t 30 0 [some (.ref d), some (.ref a), some (.ref b), some (.ref T), some (.ref NU), y5, y6, y7, y8, y9] Hy := fun {Hy t'} _ hSy ky w0 w1 => by
        have off := hS.off nNU0
        exact ⟨t', NU, ns', _, _, _, _, _, rfl, ky _ _ off.1 off.2 eNU, nNU0, lns', bns', w0, w1, hSy, k8.trans ky⟩
      rcases hTk k8 hS8 with ⟨i, eT⟩ | ⟨N, A, ns, ap, eT, eN, nN, eAp, nA, ln1, ln2, bn, la, ba⟩
      · refine ⟨_, rfl, T, _, 0, _, rfl, rfl, .inl (.inl eT), atI_nat (j := 0) rfl, rfl, _, rfl, ?_⟩
        rw [decide_eq_false (by decide)]
        exact iteF (mid (.inr trivial) hS8 (Kp.refl d c H8) (by omega) (by omega))
      · refine ⟨_, rfl, T, _, 0, _, rfl, rfl, .inl (.inl eT), atI_nat (j := 0) rfl, rfl, _, rfl, ?_⟩
        rw [decide_eq_true rfl]
        refine iteT ⟨_, rfl, d, c, t6, 2, rfl, hS8, by omega, by decide, by decide, fun r9 H9 r90 r91 hS9 k9 => ⟨rfl, _, rfl, ite2 (fun _ => ?_) (fun _ => mid (.inr trivial) hS9 k9 (by omega) (by omega))⟩⟩
        have offN : N ≠ d ∧ N ≠ c := ⟨ne_of eN hS8.dict (fun z => nomatch z), fun z => nN (z ▸ hcc)⟩
        refine ⟨_, rfl, T, _, 1, _, rfl, rfl, .inl (.inl (k9.tup hS8 eT)), atI_nat (j := 1) rfl, N, _, rfl, .inl (SqL.of (k9 _ _ offN.1 offN.2 eN)), fun M nM => ?_⟩
        have sM := same_upd (o := .lst (ns.map V.int)) nM
        have eM : upd H9 M (.lst (ns.map V.int)) M = some (.lst (ns.map V.int)) := upd_same
        have offM := hS9.off nM
        have nM0 : H M = none := Kp.gone' hS (k8.trans k9) hS9 nM
        generalize upd H9 M (.lst (ns.map V.int)) = H10 at sM eM
        have lnv : (ns.map V.int).length = ns.length := List.length_map ..
        refine ⟨_, rfl, _, rfl, M, _, rfl, .inl (SqL.of eM), d, c, t6 + 1, (ns.length : Int), by rw [lnv]; rfl, hS9.same sM, by omega, by omega, by omega, fun j H11 j0 j1 hS11 k11 => ?_⟩
        obtain ⟨jn, rfl⟩ := Int.eq_ofNat_of_zero_le j0
        obtain ⟨x1, ex1⟩ : ∃ x1, ns[jn]? = some x1 := ⟨_, List.getElem?_eq_getElem (by omega)⟩
        have bx1 := bn x1 (List.mem_of_getElem? ex1)
        have eM11 : H11 M = some (.lst (ns.map V.int)) := k11 _ _ offM.1 offM.2 eM
        refine ⟨_, rfl, _, rfl, M, _, _, _, rfl, rfl, SqL.of eM11, (IntsA.at ex1 : atI (ns.map V.int) (jn : Int) = some (.int x1)), _, rfl, d, c, t6 + 1 + 1, 5, rfl, hS11, by omega, by decide, by decide, fun r5 H12 r50 r51 hS12 k12 => ?_⟩
        have eM12 : H12 M = some (.lst (ns.map V.int)) := k12 _ _ offM.1 offM.2 eM11
        refine ⟨_, _, rfl, rfl, _, _, rfl, rfl, _, _, rfl, _, rfl, _, rfl, M, _, _, jn, rfl, rfl, eM12, ixN_of (by omega), ?_⟩
        generalize hw : (if x1 + r5 - 2 > 0 then x1 + r5 - 2 else 0) = wv
        have bw : 0 ≤ wv ∧ wv < 10 ^ 33 := by rw [← hw]; split <;> omega
        rw [← List.map_set]
        refine ⟨t6 + 1 + 1 + 1, M, ns.set jn wv, _, _, _, _, _, rfl, upd_same, nM0, by rw [List.length_set]; omega, fun n hn => ?_, by omega, by omega, hS12.upd offM.1 offM.2, fun b' o h1 h2 e => ?_⟩
        · rcases List.mem_or_eq_of_mem_set hn with hn | hn
          · have := bn n hn; omega
          · rw [hn]; exact bw
        · rw [upd_ne (ne_of_none e nM0)]
          exact k12 b' o h1 h2 (k11 b' o h1 h2 (sM _ _ (k9 b' o h1 h2 (k8 b' o h1 h2 e))))
    rintro σ9 H9 ⟨t9, NU, ns, z5, z6, z7, z8, z9, rfl, eNU, nNU0, lns, bns, w0, w1, hS9, k9⟩
    have offNU := hS.off nNU0
    -- places
    refine ⟨_, rfl, a, _, rfl, .inl (SqL.of (k9 _ _ nad nac eA)), (us.length : Int), rfl, by omega, by omega, fun PL nPL => ?_⟩
    have offPL := hS9.off nPL
    have nPL0 : H PL = none := Kp.gone' hS k9 hS9 nPL
    refine lc_range (n := us.length) (fun j H' => ∃ (ps : List Int) (t' : Int), H' PL = some (.lst (ps.map V.int)) ∧ ps.length ≤ j ∧ (∀ x ∈ ps, 0 ≤ x ∧ x < 100) ∧ t9 ≤ t' ∧ t' ≤ t9 + (j : Int) ∧ StAt H' d c t' ∧ Kp d c H9 H') ⟨[], t9, upd_same, Nat.le_refl _, (fun _ z => nomatch z), by omega, by omega, hS9.same (same_upd nPL), Kp.same d c (same_upd nPL)⟩ (fun j H' hj hP => ?_) (fun H10 hP => ?_)
    · obtain ⟨ps, t', eP, hl, hps, u2, u3, hS', k'⟩ := hP
      refine ⟨rfl, _, rfl, d, c, t', 2, rfl, hS', by omega, by decide, by decide, fun r H5 r0 r1 hS5 k5 => ⟨rfl, _, rfl, ite2 (fun _ => ⟨_, rfl, ?_⟩) (fun _ => ?_)⟩⟩
      · rw [Int.zero_add]
        refine ⟨_, k5 _ _ offPL.1 offPL.2 eP, by rw [List.length_map]; omega, ps ++ [(j : Int)], t' + 1, by rw [upd_same, List.map_append]; rfl, by rw [List.length_append]; exact Nat.succ_le_succ hl, fun x hx => ?_, by omega, by omega, hS5.upd offPL.1 offPL.2, fun b' o h1 h2 e => ?_⟩
        · rcases List.mem_append.mp hx with z | z
          · exact hps x z
          · rw [List.mem_singleton.mp z]; exact ⟨by omega, by omega⟩
        · rw [upd_ne (ne_of_none e nPL)]
          exact k5 b' o h1 h2 (k' b' o h1 h2 e)
      · exact ⟨ps, t' + 1, k5 _ _ offPL.1 offPL.2 eP, by omega, hps, by omega, by omega, hS5, k'.trans k5⟩
    obtain ⟨ps, t10, eP, hl, hps, u2, u3, hS10, k10⟩ := hP
    have k910 := k9.trans k10
    refine ⟨PlaM H d c a b T cs t 50, ?_, ?_⟩
    · have mid : ∀ {Hy : Hp} {t' : Int}, StAt Hy d c t' → Kp d c H10 Hy → t ≤ t' → t' ≤ t + 50 → PlaM H d c a b T cs t 50 [some (.ref d), some (.ref a), some (.ref b), some (.ref T), some (.ref NU), z5, z6, z7, some (.ref PL), z9] Hy := fun {Hy t'} hSy ky w0 w1 => ⟨t', NU, PL, ns, ps, _, _, _, _, rfl, ky _ _ offNU.1 offNU.2 (k10 _ _ offNU.1 offNU.2 eNU), nNU0, lns, bns, ky _ _ offPL.1 offPL.2 eP, nPL0, by omega, hps, w0, w1, hSy, k910.trans ky⟩
      rcases hTk k910 hS10 with ⟨i, eT⟩ | ⟨N, A, ns2, ap, eT, eN, nN, eAp, nA, ln1, ln2, bn, la, ba⟩
      · refine ⟨_, rfl, T, _, 0, _, rfl, rfl, .inl (.inl eT), atI_nat (j := 0) rfl, rfl, _, rfl, ?_⟩
        rw [decide_eq_false (by decide)]
        exact iteF (mid hS10 (Kp.refl d c H10) (by omega) (by omega))
      · refine ⟨_, rfl, T, _, 0, _, rfl, rfl, .inl (.inl eT), atI_nat (j := 0) rfl, rfl, _, rfl, ?_⟩
        rw [decide_eq_true rfl]
        refine iteT ⟨_, rfl, d, c, t10, 3, rfl, hS10, by omega, by decide, by decide, fun r9 H11 r90 r91 hS11 k11 => ⟨_, _, rfl, rfl, _, rfl, ite2 (fun _ => ?_) (fun _ => mid hS11 k11 (by omega) (by omega))⟩⟩
        have offA : A ≠ d ∧ A ≠ c := ⟨ne_of eAp hS10.dict (fun z => nomatch z), fun z => nA (z ▸ hcc)⟩
        refine ⟨_, rfl, T, _, 2, _, rfl, rfl, .inl (.inl (k11.tup hS10 eT)), atI_nat (j := 2) rfl, A, _, rfl, .inl (SqL.of (k11 _ _ offA.1 offA.2 eAp)), fun M nM => ?_⟩
        have sM := same_upd (o := .lst (ap.map V.int)) nM
        have nM0 : H M = none := Kp.gone' hS (k910.trans k11) hS11 nM
        exact ⟨t10 + 1, NU, M, ns, ap, _, _, _, _, rfl, sM _ _ (k11 _ _ offNU.1 offNU.2 (k10 _ _ offNU.1 offNU.2 eNU)), nNU0, lns, bns, upd_same, nM0, la, ba, by omega, by omega, hS11.same sM, (k910.trans k11).trans (Kp.same d c sM)⟩
    rintro σ11 H11 ⟨t11, NU, PL, ns, ps, z5, z6, z7, z9, rfl, eNU, nNU0, lns, bns, ePL, nPL0, lps, bps, w0, w1, hS11, k11⟩
    refine ⟨_, rfl, _, rfl, (by show 3 ≤ sizeLine; omega), fun Z nZ => ?_⟩
    have sZ := same_upd (o := .tup [.str "samples", .ref NU, .ref PL]) nZ
    have eZ : upd H11 Z (.tup [.str "samples", .ref NU, .ref PL]) Z = some (.tup [.str "samples", .ref NU, .ref PL]) := upd_same
    generalize upd H11 Z (.tup [.str "samples", .ref NU, .ref PL]) = H12 at sZ eZ
    obtain ⟨wn, bdn⟩ := wB (M := 10 ^ 39) (Nat.le_refl _) (l := ns) fun x hx => by have := bns x hx; omega
    obtain ⟨wp, bdp⟩ := wB (M := 10 ^ 39) (Nat.le_refl _) (l := ps) fun x hx => by have := bps x hx; omega
    have tN : Thg cs H12 (.ref NU) (.list (ns.map .int)) := .lst (sZ _ _ eNU) (av nNU0) (thg_ints (H := H12) (c := cs)).1 (thg_ints (H := H12) (c := cs)).2
    have tP : Thg cs H12 (.ref PL) (.list (ps.map .int)) := .lst (sZ _ _ ePL) (av nPL0) (thg_ints (H := H12) (c := cs)).1 (thg_ints (H := H12) (c := cs)).2
    refine q _ t11 H12 ⟨.tuple [.str "samples", .list (ns.map .int), .list (ps.map .int)], .tup eZ rfl (ThgL.cons (.str _) (ThgL.cons tN (ThgL.one tP))).2, .tup (fun x hx => ?_), ?_⟩ (by omega) (by omega) (hS11.same sZ) (k11.trans (Kp.same d c sZ))
    · simp only [List.mem_cons, List.not_mem_nil, or_false] at hx
      rcases hx with rfl | rfl | rfl
      · exact .str (by simp [itS])
      · exact .lst bdn
      · exact .lst bdp
    · have h2 : (PyData.str "samples").weight ≤ 100 := by decide +kernel
      have e1 : (PyData.tuple [.str "samples", .list (ns.map .int), .list (ps.map .int)]).weight = (PyData.str "samples").weight + 1 + (PyData.weightAll (ns.map .int) + 1 + (PyData.weightAll (ps.map .int) + 1 + 0)) := by
        simp only [PyData.weight, PyData.weightAll]
      rw [e1]
      omega

end

/-! ### runs and a set gone drawn -/
def spSmall : Sp := fun vs H Q _ => ∃ (d c : Addr) (t : Int), vs = [.ref d] ∧ StAt H d c t ∧ t < 2 ^ 57 ∧
  ∀ (T l r : Addr) rs gs t' H', H' T = some (.tup [.ref l, .ref r]) → LsA H' l rs → LsA H' r gs → 1 ≤ rs.length → rs.length ≤ 10 → gs.length ≤ 24 → (∀ r ∈ rs, 0 ≤ r.1 ∧ r.1 ≤ r.2 ∧ r.2 < 10 ^ 31) → Ris 0 gs → l ≠ d ∧ l ≠ c → r ≠ d ∧ r ≠ c → t ≤ t' → t' ≤ t + 600 → StAt H' d c t' → Kp d c H H' → Q (.ref T) H'
theorem ris_moved {m s : Int} (hm : 1 ≤ m) (hs : 0 ≤ s) : ∀ {lo : Int} {gs : List (Int × Int)}, Ris lo gs → Ris (lo * m + s) (movedF m s gs)
  | _, [], _ => True.intro
  | lo, g :: gs, h => by
    have ih := ris_moved hm hs h.2.2
    have a1 := Int.mul_le_mul_of_nonneg_right h.1 (by omega : 0 ≤ m)
    have a2 := Int.mul_le_mul_of_nonneg_right h.2.1 (by omega : 0 ≤ m)
    refine ⟨?_, ?_, ih.mono ?_⟩
    · show lo * m + s ≤ g.1 * m + s
      omega
    · show g.1 * m + s ≤ g.2 * m + m - 1 + s
      omega
    · show g.2 * m + m - 1 + s + 2 ≤ (g.2 + 2) * m + s
      rw [Int.add_mul]
      omega
theorem moved_ok {m s B C : Int} (hm : 1 ≤ m) (hs : 0 ≤ s) {p : Int × Int} (h0 : 0 ≤ p.1) (h1 : p.1 ≤ p.2) (h2 : p.2 ≤ B) (h3 : m ≤ C) : 0 ≤ p.1 * m + s ∧ p.1 * m + s ≤ p.2 * m + m - 1 + s ∧ p.2 * m + m - 1 + s < (B + 1) * C + s := by
  have a0 := Int.mul_nonneg h0 (by omega : 0 ≤ m)
  have a1 := Int.mul_le_mul_of_nonneg_right h1 (by omega : 0 ≤ m)
  have a2 := Int.mul_le_mul_of_nonneg_right (show p.2 + 1 ≤ B + 1 by omega) (by omega : 0 ≤ m)
  have a3 := Int.mul_le_mul_of_nonneg_left h3 (show 0 ≤ B + 1 by omega)
  rw [Int.add_mul] at a2
  omega
theorem Ris.nn : ∀ {lo : Int} {gs : List (Int × Int)}, Ris lo gs → 0 ≤ lo → ∀ g ∈ gs, 0 ≤ g.1 ∧ g.1 ≤ g.2 := fun h h0 g hg => by
  have := h.le g hg
  omega
theorem NoTabS.free {H H' : Hp} (s : Same H H') {p : Addr} (n : H' p = none) : H p = none := s.free n
abbrev sSmall : Stmt := topS 38
theorem scSmall : FnScope ["_law_state", "_law_most", "_law_runs_here", "_law_gone_here", "_law_wide", "_law_shift"] ["_law_state"] (defScope sSmall) := ⟨rfl, rfl, rfl, by decide +kernel, rfl, by decide +kernel, by decide +kernel⟩
section
variable {K : PySem.W.Frag} {mg : Str → Option Value} {P : Program} {w : World} {base : Heap}
theorem ok_Small {f : Addr} {fd : FuncData} (F : Fun K "_law_small_case" "_law_small_case" sSmall f fd) (C__law_take : Cal P w K mg base 1 "_law_take" ["_law_state", "_law_many"] spTake) (C__law_runs : Cal P w K mg base 2 "_law_runs" ["_law_state", "_law_many", "_law_most", "_law_wide"] spRuns) (C__law_gone : Cal P w K mg base 2 "_law_gone" ["_law_state", "_law_most", "_law_rare"] spGone) (C__law_great : Cal P w K mg base 2 "_law_great" ["_law_state"] spGreat) (C__law_moved : Cal P w K mg base 1 "_law_moved" ["_law_pairs", "_law_many", "_law_shift"] spMoved) : FnOk P w K mg base CX0 3 f fd ["_law_state"] spSmall := by
  refine F.ok scSmall (fun vs H Q E h => ?_) (fun cdv A outer s H vs Q E hr h => ?_)
  · obtain ⟨d, c, t, rfl, _⟩ := h
    rfl
  · obtain ⟨d, c, t, rfl, hS, ht, q⟩ := h
    refine ⟨_, pss_cons (ps_set (i := 1) scSmall.nd rfl (.inl rfl) (pe_ix ix_list (pe_lst (pa_cons pe_int (pa_cons pe_int pa_nil))) (pe_own C__law_take (hr.mono (show 1 ≤ 2 by decide)) (by rfl) (pa_cons (pv 0) (pa_cons pe_int pa_nil))) (fun _ _ => rfl)))
      (pss_cons (ps_set (i := 2) scSmall.nd rfl (.inl rfl) (pe_own C__law_runs hr (by rfl) (pa_cons (pv 0) (pa_cons (pe_op op_add pe_int (pe_own C__law_take (hr.mono (show 1 ≤ 2 by decide)) (by rfl) (pa_cons (pv 0) (pa_cons pe_int pa_nil)))) (pa_cons (pv 1) (pa_cons (pe_ix ix_list (pe_lst (pa_cons pe_int (pa_cons pe_int pa_nil))) (pe_own C__law_take (hr.mono (show 1 ≤ 2 by decide)) (by rfl) (pa_cons (pv 0) (pa_cons pe_int pa_nil))) (fun _ _ => rfl)) pa_nil))))))
      (pss_cons (ps_set (i := 3) scSmall.nd rfl (.inl rfl) (pe_own C__law_gone hr (by rfl) (pa_cons (pv 0) (pa_cons (pv 1) (pa_cons (pe_ix ix_list (pe_lst (pa_cons pe_int (pa_cons pe_int (pa_cons pe_int pa_nil)))) (pe_own C__law_take (hr.mono (show 1 ≤ 2 by decide)) (by rfl) (pa_cons (pv 0) (pa_cons pe_int pa_nil))) (fun _ _ => rfl)) pa_nil)))))
      (pss_cons (ps_if (pt_cmpR op_gt (pe_own C__law_take (hr.mono (show 1 ≤ 2 by decide)) (by rfl) (pa_cons (pv 0) (pa_cons pe_int pa_nil))) pe_int (nomark _)) (pss_one (ps_ret (pe_tup (pa_cons (pv 2) (pa_cons (pv 3) pa_nil)))))
        pss_nil)
      (pss_cons (ps_par rfl scSmall.nd (i := 4) (j := 5) rfl rfl (by decide) rfl rfl (pa_cons (pe_op op_add pe_int (pe_own C__law_take (hr.mono (show 1 ≤ 2 by decide)) (by rfl) (pa_cons (pv 0) (pa_cons pe_int pa_nil)))) (pa_cons (pe_own C__law_great hr (by rfl) (pa_cons (pv 0) pa_nil)) pa_nil)) (by rfl))
      (pss_one (ps_ret (pe_tup (pa_cons (pe_own C__law_moved (hr.mono (show 1 ≤ 2 by decide)) (by rfl) (pa_cons (pv 2) (pa_cons (pv 4) (pa_cons (pv 5) pa_nil)))) (pa_cons (pe_own C__law_moved (hr.mono (show 1 ≤ 2 by decide)) (by rfl) (pa_cons (pv 3) (pa_cons (pv 4) (pa_cons (pv 5) pa_nil)))) pa_nil))))))))), ?_⟩
    refine ⟨(by show 2 ≤ sizeLine; decide), fun z nz => ?_⟩
    have sz := same_upd (o := .lst [.int 9, .int 30]) nz
    have offz := hS.off nz
    refine ⟨_, rfl, d, c, t, 2, rfl, hS.same sz, by omega, by decide, by decide, fun a1 H1 a10 a11 hS1 k1 => ?_⟩
    have ez := k1 _ _ offz.1 offz.2 (upd_same (H := H) (a := z) (o := .lst [.int 9, .int 30]))
    obtain ⟨v, ev, hv⟩ := pick_at (xs := [V.int 9, V.int 30]) (n := 2) rfl a10 (by omega)
    obtain ⟨mo, rfl, mo0, mo1⟩ : ∃ vi : Int, v = .int vi ∧ 9 ≤ vi ∧ vi ≤ 30 := by
      simp only [List.mem_cons, List.not_mem_nil, or_false] at hv
      rcases hv with rfl | rfl <;> exact ⟨_, rfl, by decide, by decide⟩
    refine ⟨z, _, _, _, rfl, rfl, SqL.of ez, ev, ?_⟩
    have k01 := (Kp.same d c sz).trans k1
    -- runs
    refine ⟨_, rfl, _, rfl, d, c, _, 10, rfl, hS1, by omega, by decide, by decide, fun a2 H2 a20 a21 hS2 k2 => ⟨1, a2, rfl, rfl, _, rfl, (by show 2 ≤ sizeLine; decide), fun x nx => ?_⟩⟩
    have sx := same_upd (o := .lst [.int 3, .int 9]) nx
    have offx := hS2.off nx
    refine ⟨_, rfl, d, c, _, 2, rfl, hS2.same sx, by omega, by decide, by decide, fun a5 H5 a50 a51 hS5 k5 => ?_⟩
    have ex := k5 _ _ offx.1 offx.2 (upd_same (H := H2) (a := x) (o := .lst [.int 3, .int 9]))
    obtain ⟨v, ev, hv⟩ := pick_at (xs := [V.int 3, V.int 9]) (n := 2) rfl a50 (by omega)
    obtain ⟨wd, rfl, wd0, wd1⟩ : ∃ vi : Int, v = .int vi ∧ 1 ≤ vi ∧ vi ≤ 40 := by
      simp only [List.mem_cons, List.not_mem_nil, or_false] at hv
      rcases hv with rfl | rfl <;> exact ⟨_, rfl, by decide, by decide⟩
    refine ⟨x, _, _, _, rfl, rfl, SqL.of ex, ev, d, c, _, 1 + a2, mo, wd, rfl, hS5, by omega, by omega, by omega, by omega, by omega, by omega, by omega, fun l rs H6 t6 nl eL hro hrl u0 u1 hS6 k6 => ?_⟩
    have offl := hS5.off nl
    have k06 := ((k01.trans k2).trans ((Kp.same d c sx).trans k5)).trans k6
    -- what is gone
    refine ⟨_, rfl, _, rfl, (by show 3 ≤ sizeLine; decide), fun w nw => ?_⟩
    have sw := same_upd (o := .lst [.int 1, .int 2, .int 3]) nw
    have offw := hS6.off nw
    refine ⟨_, rfl, d, c, _, 3, rfl, hS6.same sw, by omega, by decide, by decide, fun a7 H7 a70 a71 hS7 k7 => ?_⟩
    have ew := k7 _ _ offw.1 offw.2 (upd_same (H := H6) (a := w) (o := .lst [.int 1, .int 2, .int 3]))
    obtain ⟨v, ev, hv⟩ := pick_at (xs := [V.int 1, V.int 2, V.int 3]) (n := 3) rfl a70 (by omega)
    obtain ⟨ra, rfl, ra0, ra1⟩ : ∃ vi : Int, v = .int vi ∧ 1 ≤ vi ∧ vi ≤ 6 := by
      simp only [List.mem_cons, List.not_mem_nil, or_false] at hv
      rcases hv with rfl | rfl | rfl <;> exact ⟨_, rfl, by decide, by decide⟩
    refine ⟨w, _, _, _, rfl, rfl, SqL.of ew, ev, d, c, _, mo, ra, rfl, hS7, by omega, by omega, by omega, fun r gs H8 t8 nr eR hrg hgm hgl v0 v1 hS8 k8 => ?_⟩
    have offr := hS7.off nr
    have k68 := ((Kp.same d c sw).trans k7).trans k8
    have k08 := k06.trans k68
    have eL8 : LsA H8 l rs := ((eL.same sw).kp (hS6.same sw) k7 offl).kp hS7 k8 offl
    refine ⟨_, rfl, d, c, _, 3, rfl, hS8, by omega, by decide, by decide, fun a9 H9 a90 a91 hS9 k9 => ?_⟩
    have eL9 := eL8.kp hS8 k9 offl
    have eR9 := eR.kp hS8 k9 offr
    have k09 := k08.trans k9
    have hrb : ∀ q ∈ rs, 0 ≤ q.1 ∧ q.1 ≤ q.2 ∧ q.2 ≤ 90 := fun q hq => by have := hro q hq; omega
    have hgb : ∀ g ∈ gs, 0 ≤ g.1 ∧ g.1 ≤ g.2 ∧ g.2 ≤ 90 := fun g hg => by have := hgm g hg; have := hrg.nn (by decide) g hg; omega
    refine ⟨_, _, rfl, rfl, _, rfl, ite2 (fun c1 => ?_) (fun c1 => ?_)⟩
    · refine ⟨_, rfl, _, rfl, (by show 2 ≤ sizeLine; decide), fun T nT => ?_⟩
      have sT := same_upd (o := .tup [.ref l, .ref r]) nT
      exact q T l r rs gs _ _ upd_same (eL9.same sT) (eR9.same sT) (by omega) (by omega) (by omega) (fun r' hr' => by have := hrb r' hr'; omega) hrg offl offr (by omega) (by omega) (hS9.same sT) (k09.trans (Kp.same d c sT))
    · refine ⟨_, rfl, d, c, _, 3, rfl, hS9, by omega, by decide, by decide, fun m G1 m0 m1 hG1 g1 => ⟨1, m, rfl, rfl, ?_⟩⟩
      refine ⟨_, rfl, d, c, _, rfl, hG1, by omega, fun sh G4 sh0 sh1 hG4 g4 => ⟨_, _, rfl, ?_⟩⟩
      have kG := g1.trans g4
      have eL4 := (eL9.kp hS9 g1 offl).kp hG1 g4 offl
      have eR4 := (eR9.kp hS9 g1 offr).kp hG1 g4 offr
      refine ⟨_, rfl, _, rfl, _, rfl, l, 1 + m, sh, rs, rfl, eL4, by omega, by omega, by omega, by omega, by omega, fun p hp => by have := hrb p hp; omega, fun l2 G5 nl2 hl2 s5 => ?_⟩
      refine ⟨_, rfl, _, rfl, _, rfl, r, 1 + m, sh, gs, rfl, eR4.same s5, by omega, by omega, by omega, by omega, by omega, fun p hp => by have := hgb p hp; omega, fun r2 G6 nr2 hr2 s6 => ⟨(by show 2 ≤ sizeLine; decide), fun T nT => ?_⟩⟩
      have sT := same_upd (o := .tup [.ref l2, .ref r2]) nT
      have s46 := s5.trans s6
      have offl2 := hG4.off nl2
      have offr2 := hG4.off ((NoTabS.free s5) nr2)
      refine q T l2 r2 (movedF (1 + m) sh rs) (movedF (1 + m) sh gs) _ _ upd_same ((hl2.same s6).same sT) (hr2.same sT) (by unfold movedF; rw [List.length_map]; omega) (by unfold movedF; rw [List.length_map]; omega) (by unfold movedF; rw [List.length_map]; omega) (fun r' hr' => ?_) ?_ offl2 offr2 (by omega) (by omega) (hG4.same (s46.trans sT)) ((k09.trans kG).trans (Kp.same d c (s46.trans sT)))
      · obtain ⟨p, hp, rfl⟩ := List.mem_map.mp hr'
        obtain ⟨p1, p2, p3⟩ := hrb p hp
        have := moved_ok (m := 1 + m) (s := sh) (B := 90) (C := 10) (by omega) sh0 p1 p2 p3 (by omega)
        refine ⟨this.1, this.2.1, Int.lt_of_lt_of_le this.2.2 (by omega)⟩
      · refine (ris_moved (by omega) sh0 hrg).mono ?_
        omega
end

open LamX
/-! ### what is told of samples -/
def blD (i : Int) : PyData := .tuple [.str "blind", .int i]
def saD (ns ap : List Int) : PyData := .tuple [.str "samples", .list (ns.map .int), .list (ap.map .int)]
/-- what is told, as it stands and as data -/
def ToldL (H0 H : Hp) (T : Addr) (rs gs : List (Int × Int)) (d : PyData) : Prop := (∃ (i : Nat) (r : Int × Int), H T = some (.tup [.str "blind", .int (i : Int)]) ∧ rs[i]? = some r ∧ allGB gs r = true ∧ (∀ (j : Nat) r', j < i → rs[j]? = some r' → allGB gs r' = false) ∧ d = blD i) ∨
  ∃ (N A : Addr) (ns ap : List Int), H T = some (.tup [.str "samples", .ref N, .ref A]) ∧ H N = some (.lst (ns.map V.int)) ∧ H A = some (.lst (ap.map V.int)) ∧ N ≠ A ∧ H0 N = none ∧ H0 A = none ∧ (∀ r ∈ rs, allGB gs r = false) ∧ LeastT rs gs ns ap ∧ d = saD ns ap
theorem ToldL.noTab {H0 H H2 : Hp} {T : Addr} {rs gs : List (Int × Int)} {d : PyData} (h : ToldL H0 H T rs gs d) (n : GX.NoTab H H2) : ToldL H0 H2 T rs gs d :=
  h.elim (fun ⟨i, r, e, x⟩ => .inl ⟨i, r, n.tup e, x⟩) fun ⟨N, A, ns, ap, e, e1, e2, x⟩ => .inr ⟨N, A, ns, ap, n.tup e, n.lst e1, n.lst e2, x⟩
theorem SampT.len2 {rs gs : List (Int × Int)} {ns ap : List Int} (h : SampT rs gs ns ap) : ap.length ≤ rs.length := by
  have e : ((List.range rs.length).map fun k : Nat => (k : Int)).length = rs.length := by rw [List.length_map, List.length_range]
  rw [← e]
  refine nodup_len (List.Pairwise.imp (fun h => Int.ne_of_lt h) h.ainc) fun x hx => ?_
  have := h.arng x hx
  exact List.mem_map.mpr ⟨x.toNat, List.mem_range.mpr (by omega), by omega⟩
theorem spLeast.of {K : PySem.W.Frag} {Pt a b : Addr} {rs gs : List (Int × Int)} {H : Hp} {Q : VK} {E : XK} (hA : LsQ H a rs) (hB : LsQ H b gs) (h1 : rs.length ≤ 700) (h2 : gs.length ≤ 700) (h3 : ∀ r ∈ rs, r.1 ≤ r.2) (h4 : Ris 0 gs) (hT : LamX.TabS H Pt qL)
    (q : ∀ H2 T d, TbL Pt qL H H2 → ButAt Pt H H2 → H T = none → ToldL H H2 T rs gs d → Q (.ref T) H2) : spLeast K Pt [.ref a, .ref b] H Q E :=
  ⟨a, b, rs, gs, rfl, hA, hB, h1, h2, h3, h4, hT, fun i r er hg hf H2 T tb bt nT eT => q H2 T _ tb bt nT (.inl ⟨i, r, eT, er, hg, hf, rfl⟩), fun hn H2 T N A ns ap tb bt nT eT eN eA ne nN nA hL => q H2 T _ tb bt nT (.inr ⟨N, A, ns, ap, eT, eN, eA, ne, nN, nA, hn, hL, rfl⟩)⟩
/-! ### told, shown, told again -/
/-- the lambda's table is known, of least_samples -/
structure LamL (Ms : GX.Mq) (Pl : Addr) : Prop where
  mem : (Pl, qL) ∈ Ms.ls
  one : ∀ l ∈ Ms.ls, l.1 = Pl → l.2 = qL
theorem but_noTab {P : Addr} {q : Str} {H H2 : Hp} (h : TabS H P q) (h2 : TabS H2 P q) (k : ButAt P H H2) : GX.NoTab H H2 := by
  obtain ⟨ps, e, _⟩ := h
  obtain ⟨ps2, e2, _⟩ := h2
  exact GX.But.noTab k e e2
/-- least_samples asked: the tables, what stands, what is told -/
theorem spLeast.ask {K : PySem.W.Frag} {Ms : GX.Mq} {Xs : List Addr} {Pl a b : Addr} {rs gs : List (Int × Int)} {H : Hp} {Q : VK} {E : XK} (hA : LsQ H a rs) (hB : LsQ H b gs) (h1 : rs.length ≤ 700) (h2 : gs.length ≤ 700) (h3 : ∀ r ∈ rs, r.1 ≤ r.2) (h4 : Ris 0 gs) (hT : GX.TQ Ms Xs H) (hL : LamL Ms Pl)
    (q : ∀ H2 T d, GX.NoTab H H2 → GX.TQ Ms Xs H2 → H T = none → ToldL H H2 T rs gs d → Q (.ref T) H2) : spLeast K Pl [.ref a, .ref b] H Q E :=
  have tl := (hT.lam _ hL.mem).2.2
  spLeast.of hA hB h1 h2 h3 h4 tl fun H2 T d tb bt nT ht => q H2 T d (but_noTab tl tb.1 bt) (hT.lamS hL.mem hL.one tb.1 bt) nT ht
theorem LsA.noTab {H H' : Hp} {a : Addr} {rs : List (Int × Int)} (h : LsA H a rs) (s : GX.NoTab H H') : LsA H' a rs := by
  obtain ⟨us, e, p⟩ := h
  exact ⟨us, s.lst e, p.1, fun i r er => let ⟨x, h1, h2⟩ := p.2 i r er; ⟨x, h1, s.tup h2⟩⟩

/-! ### the law of k42 -/
theorem StAt.noTab {H H' : Hp} {d c : Addr} {t : Int} (S : StAt H d c t) (n : GX.NoTab H H') : StAt H' d c t := by
  obtain ⟨cs, ec, r⟩ := S.cells
  exact ⟨n.keep _ _ S.dict (fun _ z => nomatch z), ⟨cs, n.lst ec, r⟩, S.pos⟩
theorem tq_kp {Ms : GX.Mq} {Xs : List Addr} {H H' : Hp} {d c : Addr} {t : Int} (h : GX.TQ Ms Xs H) (S : StAt H d c t) (k : Kp d c H H') : GX.TQ Ms Xs H' := by
  obtain ⟨cs, ec, r⟩ := S.cells
  exact h.keep (fun b ps hb => k _ _ (ne_of hb S.dict (fun z => nomatch z)) (ne_of hb ec (fun z => nomatch z)) hb)
    (fun b c' P hb => k _ _ (ne_of hb S.dict (fun z => by unfold GX.CodeG at z; cases z)) (ne_of hb ec (fun z => by unfold GX.CodeG at z; cases z)) hb)
    (fun b c' q hb => k _ _ (ne_of hb S.dict (fun z => by unfold LamX.CodeO at z; cases z)) (ne_of hb ec (fun z => by unfold LamX.CodeO at z; cases z)) hb)
/-- what str tells of a thing -/
def strT : PyData → Str
  | .none => "None"
  | .bool b => if b then "True" else "False"
  | .int i => toString i
  | .str x => x
  | d => d.shown
def rStrT (K : PySem.W.Frag) : List V → Hp → VK → Prop := fun xs H Q => ∃ (c : List Addr) (M n : Nat) (S : List Str) (v : V) (d : PyData), xs = [v] ∧ Thg c H v d ∧ Bd M S n d ∧ M ≤ 10 ^ 39 ∧ strsOk S = true ∧ n ≤ 8 ∧ d.weight ≤ 300000 ∧ Q (.str (strT d)) H
theorem cr_strT {X : Cx} (hg : X.A.guards = some []) (hu : X.A.units + 11 < cLine) : CallR X (.type "str") (rStrT X.K) := fun pins s σ H xs us Q I hv h => by
  obtain ⟨c, M, n, S, v, d, rfl, ht, hb, hM, hS, hn, hw, q⟩ := h
  have shw := hb.shw hM hS hn hw
  have big : ∀ {a : Addr}, v = .ref a → Q (.str d.shown) H → _ := fun {a} e q => by
    subst e
    exact cr_strD hg hu pins s σ H _ us Q I hv ⟨a, d, rfl, ht.dp, shw.s, shw.h, shw.p, shw.l, q⟩
  cases ht with
  | non =>
    obtain ⟨u, rfl, r1⟩ := vals1 hv
    cases r1
    exact PySem.P.str_of_none ⟨.str _, H, I.tok _, ⟨_, rfl⟩, q⟩
  | bl b =>
    obtain ⟨u, rfl, r1⟩ := vals1 hv
    cases r1
    exact PySem.P.str_of_bool ⟨.str _, H, I.tok _, ⟨_, rfl⟩, q⟩
  | int i =>
    have hi : i.natAbs < M := by cases hb with | int h => exact h
    refine call_str_int pins s σ H _ us Q I hv ⟨i, rfl, ?_, q⟩
    by_cases z : i.natAbs = 0
    · rw [z]; decide
    · exact Nat.lt_trans ((Nat.log2_lt (k := 130) z).mpr (Nat.lt_trans (Nat.lt_of_lt_of_le hi hM) (by decide))) (by decide)
  | str x =>
    obtain ⟨u, rfl, t, rfl⟩ := vals1 hv
    exact PySem.P.str_of_str ⟨.str x, H, I, ⟨t, rfl⟩, q⟩
  | lst e n l k => exact big rfl q
  | tup e l k => exact big rfl q
theorem wB {M : Nat} (hM : M ≤ 10 ^ 39) : ∀ {l : List Int}, (∀ x ∈ l, x.natAbs < M) → PyData.weightAll (l.map .int) ≤ 132 * l.length ∧ ∀ x ∈ l.map PyData.int, Bd M (itS 0) 0 x
  | [], _ => ⟨by simp [PyData.weightAll], fun _ z => nomatch z⟩
  | x :: r, h => by
    obtain ⟨g1, g2⟩ := wB hM (l := r) fun y hy => h y (List.mem_cons_of_mem _ hy)
    have hx := h x (List.mem_cons_self ..)
    have w := weight_int (Nat.lt_of_lt_of_le hx hM)
    refine ⟨?_, fun y hy => ?_⟩
    · rw [List.map_cons, PyData.weightAll, List.length_cons]; omega
    · rcases List.mem_cons.mp hy with rfl | hy
      · exact .int hx
      · exact g2 y hy
theorem numsOf_ints {ns : List Int} (h : ∀ n ∈ ns, 0 ≤ n) : numsOf (.list (ns.map .int)) = some ns := by
  have e : (ns.map PyData.int).all isNumD = true := by
    rw [List.all_eq_true]
    intro x hx
    obtain ⟨n, hn, rfl⟩ := List.mem_map.mp hx
    exact decide_eq_true (h n hn)
  unfold numsOf
  show (if (ns.map PyData.int).all isNumD then some ((ns.map PyData.int).map intD) else none) = _
  rw [e, if_pos rfl, List.map_map]
  congr 1
  exact List.map_id' ns
theorem idxB_eq {gs : List (Int × Int)} {rs : List (Int × Int)} {i : Nat} {r : Int × Int} (e : rs[i]? = some r) (h : allGB gs r = true) (h0 : ∀ (j : Nat) r', j < i → rs[j]? = some r' → allGB gs r' = false) : idxB gs rs = some i := by
  cases c : idxB gs rs with
  | none =>
    have := idxB_none c r (List.mem_of_getElem? e)
    rw [h] at this; cases this
  | some k =>
    obtain ⟨r1, e1, e2, e3⟩ := idxB_some c
    rcases Nat.lt_trichotomy i k with z | z | z
    · rw [e3 i r z e] at h; cases h
    · rw [z]
    · rw [h0 k r1 z e1] at e2; cases e2
structure TdS (H0 H : Hp) (T : Addr) (rs gs : List (Int × Int)) (d : PyData) : Prop where
  bd : Bd (10 ^ 36) (itS 0) 2 d
  w : d.weight ≤ 20000
  c : (blindB rs gs d || fewB rs gs d) = true
  thg : ∀ cs : List Addr, (∀ Z ∈ cs, H0 Z ≠ none ∨ H Z = none) → Thg cs H (.ref T) d
  tell : ∀ cs : List Addr, (∀ Z ∈ cs, H0 Z ≠ none ∨ H Z = none) → TellP cs H T rs.length
theorem ToldL.td {H0 H : Hp} {T : Addr} {rs gs : List (Int × Int)} {d : PyData} (h : ToldL H0 H T rs gs d) (hg : Ris 0 gs) (hr1 : 1 ≤ rs.length) (hr : rs.length ≤ 10) (hrb : ∀ r ∈ rs, 0 ≤ r.1 ∧ r.1 ≤ r.2 ∧ r.2 < 10 ^ 31) : TdS H0 H T rs gs d := by
  have wbl : (PyData.str "blind").weight ≤ 100 := by decide +kernel
  have wsa : (PyData.str "samples").weight ≤ 100 := by decide +kernel
  rcases h with ⟨i, r, e, e1, e2, e3, rfl⟩ | ⟨N, A, ns, ap, e, eN, eA, nNA, nN, nA, hf, hL, rfl⟩
  · have li := (List.getElem?_eq_some_iff.mp e1).1
    have wi := weight_int (i := (i : Int)) (by omega)
    refine ⟨.tup fun x hx => ?_, ?_, ?_, fun cs _ => .tup e rfl (ThgL.cons (.str _) (ThgL.one (.int _))).2, fun cs _ => .inl ⟨_, e⟩⟩
    · simp only [List.mem_cons, List.not_mem_nil, or_false] at hx
      rcases hx with rfl | rfl
      · exact .str (by simp [itS])
      · exact .int (by omega)
    · simp only [blD, PyData.weight, PyData.weightAll] at wbl wi ⊢
      omega
    · have : blindB rs gs (blD (i : Int)) = true := by
        show (PyData.eqv (.str "blind") (.str "blind") && (isNumD (.int (i : Int)) && _)) = true
        rw [eqv_strs, decide_eq_true rfl, idxB_eq e1 e2 e3, show isNumD (.int (i : Int)) = true from decide_eq_true (show (0 : Int) ≤ (i : Int) by omega)]
        exact decide_eq_true rfl
      rw [this]; rfl
  · have s := hL.samp
    have l2 := s.len2
    have bn : ∀ n ∈ ns, 0 ≤ n ∧ n < 10 ^ 31 := fun n hn => by
      obtain ⟨_, r, hr', h1, h2⟩ := s.free n hn
      have := hrb r hr'
      omega
    have ba : ∀ n ∈ ap, 0 ≤ n ∧ n < 100 := fun n hn => by have := s.arng n hn; omega
    have ln1 : 1 ≤ ns.length := by
      obtain ⟨r, hr⟩ := List.exists_mem_of_length_pos (show 0 < rs.length by omega)
      obtain ⟨n, hn, _⟩ := s.hit r hr
      exact List.length_pos_of_mem hn
    have ll := s.len
    obtain ⟨wn, bdn⟩ := wB (M := 10 ^ 36) (by decide) (l := ns) fun x hx => by have := bn x hx; omega
    obtain ⟨wp, bdp⟩ := wB (M := 10 ^ 36) (by decide) (l := ap) fun x hx => by have := ba x hx; omega
    have nin : ∀ {cs : List Addr} {X : Addr} {xs : List V}, (∀ Z ∈ cs, H0 Z ≠ none ∨ H Z = none) → H0 X = none → H X = some (.lst xs) → X ∉ cs := fun h1 h2 h3 hm => by
      rcases h1 _ hm with z | z
      · exact z h2
      · rw [h3] at z; cases z
    refine ⟨.tup fun x hx => ?_, ?_, ?_, fun cs hc => .tup e rfl (ThgL.cons (.str _) (ThgL.cons (.lst eN (nin hc nN eN) (thg_ints (H := H) (c := cs)).1 (thg_ints (H := H) (c := cs)).2) (ThgL.one (.lst eA (nin hc nA eA) (thg_ints (H := H) (c := cs)).1 (thg_ints (H := H) (c := cs)).2)))).2, fun cs hc => .inr ⟨N, A, ns, ap, e, eN, nin hc nN eN, eA, nin hc nA eA, ln1, by omega, fun n hn => by have := bn n hn; omega, by omega, ba⟩⟩
    · simp only [List.mem_cons, List.not_mem_nil, or_false] at hx
      rcases hx with rfl | rfl | rfl
      · exact .str (by simp [itS])
      · exact .lst bdn
      · exact .lst bdp
    · have e1 : (saD ns ap).weight = (PyData.str "samples").weight + 1 + (PyData.weightAll (ns.map .int) + 1 + (PyData.weightAll (ap.map .int) + 1 + 0)) := by
        simp only [saD, PyData.weight, PyData.weightAll]
      rw [e1]
      omega
    · have : fewB rs gs (saD ns ap) = true := by
        unfold saD
        rw [fewB_3 (by rw [eqv_strs]; exact decide_eq_true rfl) (numsOf_ints fun n hn => (bn n hn).1) (numsOf_ints fun n hn => (ba n hn).1)]
        unfold fewR
        have a1 : incB ns = true := decide_eq_true s.inc
        have a2 : incB ap = true := decide_eq_true s.ainc
        have a3 : ap.all (fun x => decide (x < (rs.length : Int))) = true := List.all_eq_true.mpr fun x hx => decide_eq_true (s.arng x hx).2
        have a4 : ns.any (goneB gs) = false := by
          rw [List.any_eq_false]
          intro n hn z
          exact (s.free n hn).1 (goneB_iff.mp z)
        have a5 : hitB rs ns = true := by
          unfold hitB
          rw [List.all_eq_true]
          intro r hr
          obtain ⟨n, hn, h1, h2⟩ := s.hit r hr
          exact List.any_eq_true.mpr ⟨n, hn, by rw [decide_eq_true h1, decide_eq_true h2]; rfl⟩
        have a6 : apartB rs gs ap = true := (apartB_iff hg s.arng).mpr fun i j p q' rp rq hij ep eq er1 er2 n hn => by
          have lt : p ≠ q' := fun z => by
            have h1 := List.pairwise_iff_getElem.mp s.ainc j i (List.getElem?_eq_some_iff.mp eq).1 (List.getElem?_eq_some_iff.mp ep).1 hij
            rw [(List.getElem?_eq_some_iff.mp ep).2, (List.getElem?_eq_some_iff.mp eq).2] at h1
            omega
          exact s.far p (List.mem_of_getElem? ep) q' (List.mem_of_getElem? eq) lt rp rq er1 er2 n ⟨⟨hn.1.2, hn.1.1⟩, hn.2⟩
        rw [a1, a2, a3, decide_eq_true (show ns.length = ap.length by omega), a4, a5, a6]
        rfl
      rw [this, Bool.or_true]
theorem TellP.kp {cs : List Addr} {H Hx : Hp} {T d c : Addr} {n : Nat} {t : Int} (h : TellP cs H T n) (hS : StAt H d c t) (kx : Kp d c H Hx) (hcc : c ∈ cs) : TellP cs Hx T n := by
  rcases h with ⟨i, e⟩ | ⟨N, A, ns, ap, e, eN, nN, eA, nA, r⟩
  · exact .inl ⟨i, kx.tup hS e⟩
  · exact .inr ⟨N, A, ns, ap, kx.tup hS e, kx _ _ (ne_of eN hS.dict (fun z => nomatch z)) (fun z => nN (z ▸ hcc)) eN, nN, kx _ _ (ne_of eA hS.dict (fun z => nomatch z)) (fun z => nA (z ▸ hcc)) eA, nA, r⟩
def strsLay (S : List Str) : Bool := S.all fun x => (PyData.str x).canLay0
theorem lay2 : strsLay (itS 2) = true := by decide +kernel
theorem Bd.lay {M : Nat} {S : List Str} {n : Nat} {d : PyData} (hS : strsLay S = true) (h : Bd M S n d) : d.canLay0 = true := by
  have all : ∀ ds : List PyData, (∀ d ∈ ds, d.canLay0 = true) → PyData.canLayAll0 ds = true := by
    intro ds
    induction ds with
    | nil => intro _; simp [PyData.canLayAll0]
    | cons d r ih => intro h; simp [PyData.canLayAll0, h d (List.mem_cons_self ..), ih fun e he => h e (List.mem_cons_of_mem _ he)]
  induction h with
  | non => simp [PyData.canLay0]
  | bl b => simp [PyData.canLay0]
  | int e => simp [PyData.canLay0]
  | str e => exact List.all_eq_true.mp hS _ e
  | lst _ ih => rw [PyData.canLay0]; exact all _ ih
  | tup _ ih => rw [PyData.canLay0]; exact all _ ih
theorem Bd.shp {M : Nat} {S : List Str} {n : Nat} {d : PyData} (hM : M ≤ 10 ^ 39) (hS : strsOk S = true) (hL : strsLay S = true) (hn : n ≤ 60) (h : Bd M S n d) : ShP d := fun ds e x hx => by
  obtain ⟨m, rfl, hall⟩ := h.row e
  have hx := hall x hx
  have h1 := hx.lay hL
  have h2 := (hx.show hM hS).2.2.2
  unfold SeqAt.shaped
  rw [h1]
  simp
  omega
/-- a list whose parts are all such things -/
abbrev Fit (cs : List Addr) (H : Hp) (v : V) : Prop := OkT cs H (10 ^ 39) 4 (itS 2) 300000 v
theorem Thg.put2 {cs : List Addr} {H : Hp} {v : V} {d : PyData} {L : Addr} {xs : List V} {o : HO} (h : Thg cs H v d) (hL : L ∈ cs) (eL : H L = some (.lst xs)) : Thg cs (upd H L o) v d := by
  induction h with
  | non => exact .non
  | bl b => exact .bl b
  | int i => exact .int i
  | str x => exact .str x
  | lst e n l _ ih => exact .lst (by rw [upd_ne (fun z => n (by rw [z]; exact hL))]; exact e) n l ih
  | tup e l _ ih => exact .tup (by rw [upd_ne (ne_of e eL (fun z => nomatch z))]; exact e) l ih
theorem Thg.less {cs cs' : List Addr} {H : Hp} {v : V} {d : PyData} (h : Thg cs H v d) (hs : ∀ x ∈ cs', x ∈ cs) : Thg cs' H v d := by
  induction h with
  | non => exact .non
  | bl b => exact .bl b
  | int i => exact .int i
  | str x => exact .str x
  | lst e n l _ ih => exact .lst e (fun z => n (hs _ z)) l ih
  | tup e l _ ih => exact .tup e l ih
theorem OkT.kp {c d0 : Addr} {cs : List Addr} {H H' : Hp} {t : Int} {M n W : Nat} {S : List Str} {v : V} (h : OkT cs H M n S W v) (hS : StAt H d0 c t) (k : Kp d0 c H H') (m : c ∈ cs) : OkT cs H' M n S W v := let ⟨e, h1, h2⟩ := h; ⟨e, h1.kp hS k m, h2⟩
theorem OkT.put2 {cs : List Addr} {H : Hp} {M n W : Nat} {S : List Str} {v : V} {L : Addr} {xs : List V} {o : HO} (h : OkT cs H M n S W v) (hL : L ∈ cs) (eL : H L = some (.lst xs)) : OkT cs (upd H L o) M n S W v := let ⟨e, h1, h2⟩ := h; ⟨e, h1.put2 hL eL, h2⟩
theorem OkT.less {cs cs' : List Addr} {H : Hp} {M n W : Nat} {S : List Str} {v : V} (h : OkT cs H M n S W v) (hs : ∀ x ∈ cs', x ∈ cs) : OkT cs' H M n S W v := let ⟨e, h1, h2⟩ := h; ⟨e, h1.less hs, h2⟩
theorem OkT.same {cs : List Addr} {H H' : Hp} {M n W : Nat} {S : List Str} {v : V} (h : OkT cs H M n S W v) (s : Same H H') : OkT cs H' M n S W v := let ⟨e, h1, h2⟩ := h; ⟨e, h1.same s, h2⟩
theorem OkT.noTab {cs : List Addr} {H H' : Hp} {M n W : Nat} {S : List Str} {v : V} (h : OkT cs H M n S W v) (s : GX.NoTab H H') : OkT cs H' M n S W v := let ⟨e, h1, h2⟩ := h; ⟨e, h1.noTab s, h2⟩
def spLaw (K : PySem.W.Frag) (Ms : GX.Mq) (Xs : List Addr) (Pl Pn Pr Pb Pe Pa Pi Pf : Addr) : Sp := fun vs H Q _ => ∃ (a : Addr) (ns : List Int), vs = [.ref a] ∧ SqL K H a (ns.map V.int) ∧ ns.length ≤ 63 ∧ GX.TQ Ms Xs H ∧ LamL Ms Pl ∧ PsS Ms Pn Pr Pb Pe Pa Pi Pf ∧ ∀ H', Q (.bl true) H'
abbrev sLaw : Stmt := topS 40
theorem scLaw : FnScope ["_law_script", "_law_state", "_law_runs_here", "_law_gone_here", "_law_told", "_law_things", "_law_thing", "_law_kept", "_law_found", "_law_turn"] ["_law_script"] (defScope sLaw) := ⟨rfl, rfl, rfl, by decide +kernel, rfl, by decide +kernel, by decide +kernel⟩
section
variable {K : PySem.W.Frag} {mg : Str → Option Value} {P : Program} {w : World} {base : Heap} {Ms : GX.Mq} {Xs : List Addr} {Pl Pn Pr Pb Pe Pa Pi Pf : Addr}
theorem ok_Law {f : Addr} {fd : FuncData} (F : Fun K "law" "law" sLaw f fd) (C__law_begin : Cal P w K mg base 1 "_law_begin" ["_law_script"] (spBegin K)) (C__law_small_case : Cal P w K mg base 3 "_law_small_case" ["_law_state"] spSmall) (C_least_samples : Cal P w K mg base 4 "least_samples" ["runs", "gone"] (spLeast K Pl)) (C__law_bent_anywhere : Cal P w K mg base 7 "_law_bent_anywhere" ["_law_state", "_law_told"] spAnyw) (C__law_paper : Cal P w K mg base 3 "_law_paper" ["_law_state", "_law_runs_here", "_law_gone_here", "_law_told"] spPaper) (C_shows_samples : Cal P w K mg base 10 "shows_samples" ["runs", "gone", "told"] (spShows K Ms Xs Pn Pr Pb Pe Pa Pi Pf)) (C__law_samples_shown : Cal P w K mg base 3 "_law_samples_shown" ["_law_runs_here", "_law_gone_here", "_law_told"] spSShown) (m_list : mg "list" = none) (m_range : mg "range" = none) (m_str : mg "str" = none) (m_isinstance : mg "isinstance" = none) (m_bool : mg "bool" = none) (m_tuple : mg "tuple" = none) : FnG P w K mg base CX0 14 f fd ["_law_script"] (spLaw K Ms Xs Pl Pn Pr Pb Pe Pa Pi Pf) := by
  refine Fun_okG F scLaw (fun vs H Q E h => ?_) (fun cdv A outer s H vs Q E hgd hr h => ?_)
  · obtain ⟨a, ns, rfl, _⟩ := h
    rfl
  · obtain ⟨a, ns, rfl, hA, hl, hT, hL, hM, q⟩ := h
    refine ⟨_, pss_cons (ps_set (i := 1) scLaw.nd rfl (.inr rfl) (pe_own C__law_begin (hr.mono (show 1 ≤ 13 by decide)) (by rfl) (pa_cons (pv 0) pa_nil)))
      (pss_cons (ps_asg (pe_own C__law_small_case (hr.mono (show 3 ≤ 13 by decide)) (by rfl) (pa_cons (pv 1) pa_nil)) (pg_tup rfl (pgs_cons (pg_name (i := 2) scLaw.nd rfl (.inr rfl)) (pgs_cons (pg_name (i := 3) scLaw.nd rfl (.inr rfl)) pgs_nil))))
      (pss_cons (ps_set (i := 4) scLaw.nd rfl (.inr rfl) (pe_own C_least_samples (hr.mono (show 4 ≤ 13 by decide)) (by rfl) (pa_cons (pe_callTy call_list_of (by rfl) m_list (by decide +kernel) (pa_cons (pv 2) pa_nil)) (pa_cons (pe_callTy call_list_of (by rfl) m_list (by decide +kernel) (pa_cons (pv 3) pa_nil)) pa_nil))))
      (pss_cons (ps_setLc (i := 5) (own := [("_law_turn", 9)]) (g := (gName 9)) (tt := tYes) (te := (tCall spAnyw [] E0 (tCons (tVar 1) (tCons (tVar 4) tNil)))) rfl scLaw.nd rfl rfl (sw_true rfl rfl rfl (by decide +kernel)) (pi_range1 rfl m_range (pa_cons pe_int pa_nil)) (blkOk_by (own := [("_law_turn", 9)]) (N := ["_law_script", "_law_state", "_law_runs_here", "_law_gone_here", "_law_told", "_law_things", "_law_thing", "_law_kept", "_law_found", "_law_turn"]) (sc := defScope sLaw) (by decide +kernel)) (fun _ _ _ _ _ => (pg_name (i := 9) scLaw.nd rfl (.inl rfl))) (fun _ _ _ _ _ => pts_nil) (fun _ _ _ _ _ => (pe_own C__law_bent_anywhere (hr.mono (show 7 ≤ 13 by decide)) (by rfl) (pa_cons (pv 1) (pa_cons (pv 4) pa_nil)))))
      (pss_cons (ps_set (i := 5) scLaw.nd rfl (.inl rfl) (pe_op op_cat (pv 5) (pe_lc (own := [("_law_turn", 9)]) (g := (gName 9)) (tt := tYes) (te := (tCall spPaper [] E0 (tCons (tVar 1) (tCons (tVar 2) (tCons (tVar 3) (tCons (tVar 4) tNil)))))) rfl scLaw.nd (pi_range1 rfl m_range (pa_cons pe_int pa_nil)) (blkOk_by (own := [("_law_turn", 9)]) (N := ["_law_script", "_law_state", "_law_runs_here", "_law_gone_here", "_law_told", "_law_things", "_law_thing", "_law_kept", "_law_found", "_law_turn"]) (sc := defScope sLaw) (by decide +kernel)) (fun _ _ _ _ _ => (pg_name (i := 9) scLaw.nd rfl (.inl rfl))) (fun _ _ _ _ _ => pts_nil) (fun _ _ _ _ _ => (pe_own C__law_paper (hr.mono (show 3 ≤ 13 by decide)) (by rfl) (pa_cons (pv 1) (pa_cons (pv 2) (pa_cons (pv 3) (pa_cons (pv 4) pa_nil)))))))))
      (pss_cons (ps_set (i := 5) scLaw.nd rfl (.inl rfl) (pe_op op_cat (pv 5) (pe_lst (pa_cons (pe_tup pa_nil) (pa_cons (pe_lst pa_nil) (pa_cons pe_non (pa_cons pe_int (pa_cons pe_bl (pa_cons pe_str (pa_cons (pe_tup (pa_cons (pe_tup pa_nil) pa_nil)) (pa_cons (pe_lst (pa_cons (pe_tup pa_nil) pa_nil)) (pa_cons (pe_tup (pa_cons pe_str pa_nil)) (pa_cons (pe_tup (pa_cons pe_str (pa_cons (pe_lst pa_nil) pa_nil))) (pa_cons (pe_tup (pa_cons pe_str (pa_cons (pe_lst pa_nil) (pa_cons (pe_lst pa_nil) pa_nil)))) pa_nil))))))))))))))
      (pss_cons (ps_for PassesOwn.never rfl (pi_list (pv 5)) (pg_name (i := 6) scLaw.nd rfl (.inl rfl))
        (pss_cons (ps_set (i := 7) scLaw.nd rfl (.inl rfl) (pe_callTy (cr_strT hgd (Nat.lt_of_le_of_lt (Nat.add_le_add_left (show 11 ≤ 64 by decide) _) hr.units)) (by rfl) m_str (by decide +kernel) (pa_cons (pv 6) pa_nil)))
        (pss_cons (ps_set (i := 8) scLaw.nd rfl (.inl rfl) (pe_own C_shows_samples (hr.mono (show 10 ≤ 13 by decide)) (by rfl) (pa_cons (pe_callTy call_list_of (by rfl) m_list (by decide +kernel) (pa_cons (pv 2) pa_nil)) (pa_cons (pe_callTy call_list_of (by rfl) m_list (by decide +kernel) (pa_cons (pv 3) pa_nil)) (pa_cons (pv 6) pa_nil)))))
        (pss_one (ps_if (PW.pt (pw_or (pt_not (pt_val (pe_callB call_isi (by rfl) m_isinstance (by decide +kernel) (pa_cons (pv 8) (pa_cons (pe_bltn (v := .ty "bool") (by rfl) m_bool (by decide +kernel) rfl) pa_nil))))) (pw_or (pt_cmpR op_ne (pv 8) (pe_own C__law_samples_shown (hr.mono (show 3 ≤ 13 by decide)) (by rfl) (pa_cons (pv 2) (pa_cons (pv 3) (pa_cons (pv 6) pa_nil)))) (nomark _)) (pw_or1 (pt_cmpR op_ne (pe_callTy (cr_strT hgd (Nat.lt_of_le_of_lt (Nat.add_le_add_left (show 11 ≤ 64 by decide) _) hr.units)) (by rfl) m_str (by decide +kernel) (pa_cons (pv 6) pa_nil)) (pv 7) (nomark _)))))) (pss_one (ps_ret pe_bl))
          pss_nil)))))
      (pss_one (ps_ret (pe_cmpR op_isBl (pe_own C_shows_samples (hr.mono (show 10 ≤ 13 by decide)) (by rfl) (pa_cons (pe_callTy call_tuple_of (by rfl) m_tuple (by decide +kernel) (pa_cons (pv 2) pa_nil)) (pa_cons (pe_callTy call_tuple_of (by rfl) m_tuple (by decide +kernel) (pa_cons (pv 3) pa_nil)) (pa_cons (pv 4) pa_nil)))) pe_bl (nomark _)))))))))), ?_⟩
    have z63 := sizeLine_eq
    refine ⟨.ref a, rfl, a, ns, rfl, hA, hl, fun d c H1 s1 nd nc hS1 => ?_⟩
    have hT1 := hT.same s1
    refine ⟨_, rfl, d, c, 0, rfl, hS1, by decide, fun T l r rs gs t2 H2 eT eL eR hr1 hr10 hgz hrb hrg offl offr v0 v1 hS2 k2 => ?_⟩
    refine ⟨T, _, rfl, .inl (.inl eT), rfl, _, _, rfl, _, _, rfl, rfl, ?_⟩
    obtain ⟨ul, eul, prl⟩ := id eL
    obtain ⟨us, eu, pr⟩ := id eR
    have hT2 := tq_kp hT1 hS1 k2
    have prN : ∀ {H' : Hp} {vs : List V} {ps : List (Int × Int)}, Prs H2 vs ps → GX.NoTab H2 H' → Prs H' vs ps := fun pr n => ⟨pr.1, fun i r er => let ⟨x, h1, h2⟩ := pr.2 i r er; ⟨x, h1, n.tup h2⟩⟩
    have hro : ∀ r ∈ rs, r.1 ≤ r.2 := fun r hr => (hrb r hr).2.1
    -- told
    refine ⟨_, rfl, l, _, rfl, .inl (SqL.of eul), fun q1 nq1 => ?_⟩
    have s3 := same_upd (o := .lst ul) nq1
    have eq1 : upd H2 q1 (.lst ul) q1 = some (.lst ul) := upd_same
    generalize upd H2 q1 (.lst ul) = H3 at s3 eq1
    refine ⟨_, rfl, r, _, rfl, .inl (SqL.of (s3 _ _ eu)), fun q2 nq2 => ?_⟩
    have s4 := same_upd (o := .lst us) nq2
    have eq2 : upd H3 q2 (.lst us) q2 = some (.lst us) := upd_same
    generalize upd H3 q2 (.lst us) = H4 at s4 eq2
    have s24 := s3.trans s4
    dsimp only [tNil, tCons]
    refine spLeast.ask ⟨ul, .inl (s4 _ _ eq1), prN prl (NoTab.same s24)⟩ ⟨us, .inl eq2, prN pr (NoTab.same s24)⟩ (by omega) (by omega) hro hrg (hT2.same s24) hL fun H5 T5 d5 n45 t5 nT5 hok => ?_
    have td := hok.td hrg hr1 hr10 hrb
    have n25 := (NoTab.same s24).trans n45
    have hS5 := hS2.noTab n25
    have hS4 := hS2.same s24
    have el5 := n25.lst eul
    have eu5 := n25.lst eu
    have cs4 : H4 c ≠ none := fun z => by
      obtain ⟨cs, ec, _⟩ := hS4.cells
      rw [ec] at z; cases z
    have pres5 : ∀ {Z : Addr}, H5 Z = none → ∀ L ∈ [c, Z], H4 L ≠ none ∨ H5 L = none := fun {Z} nZ L hm => by
      simp only [List.mem_cons, List.not_mem_nil, or_false] at hm
      rcases hm with rfl | rfl
      · exact .inl cs4
      · exact .inr nZ
    have hTd : ∀ {Z : Addr}, H5 Z = none → Thg [c, Z] H5 (.ref T5) d5 := fun nZ => td.thg _ (pres5 nZ)
    have tl : t2 ≤ 700 := by omega
    have t20 : 0 ≤ t2 := by omega
    clear v0 v1
    have presN : ∀ {H' : Hp} {t' : Int} {Z : Addr} {ws : List V}, StAt H' d c t' → H' Z = some (.lst ws) → ∀ L ∈ [c, Z], H' L ≠ none := fun hS' eZ L hm z => by
      simp only [List.mem_cons, List.not_mem_nil, or_false] at hm
      rcases hm with rfl | rfl
      · obtain ⟨cs, ec, _⟩ := hS'.cells
        rw [ec] at z; cases z
      · rw [eZ] at z; cases z
    -- fourteen with one thing otherwise
    refine ⟨14, rfl, by decide, by decide, fun Z nZ => lc_range (n := 14) (fun j H' => ∃ (ws : List V) (t' : Int), H' Z = some (.lst ws) ∧ ws.length = j ∧ (∀ x ∈ ws, Fit [c, Z] H' x) ∧ t2 ≤ t' ∧ t' ≤ t2 + 20 * (j : Int) ∧ StAt H' d c t' ∧ Kp d c H5 H') ⟨[], t2, upd_same, rfl, (fun _ z => nomatch z), Int.le_refl _, by omega, hS5.same (same_upd nZ), Kp.same d c (same_upd nZ)⟩ (fun j H' hj hP => ?_) (fun H6 hP => ?_)⟩
    · obtain ⟨ws, t', eZ, lws, hws, u0, u1, hS', k'⟩ := hP
      have offZ := hS5.off nZ
      refine ⟨rfl, _, rfl, _, rfl, d, c, [c, Z], t', .ref T5, rfl, hS', by omega, by simp, presN hS' eZ, ⟨d5, (hTd nZ).kp hS5 k' (by simp), td.bd, td.w⟩, fun y t3 H7 oky w0 w1 hS7 k7 => ?_⟩
      have eZ7 := k7 _ _ offZ.1 offZ.2 eZ
      refine ⟨ws, eZ7, by omega, ws ++ [y], t3, upd_same, by rw [List.length_append, lws]; rfl, fun x hx => ?_, by omega, by omega, hS7.upd offZ.1 offZ.2, fun b o b1 b2 e => ?_⟩
      · refine OkT.put2 ?_ (by simp) eZ7
        rcases List.mem_append.mp hx with hx | hx
        · exact (hws x hx).kp hS' k7 (by simp)
        · rw [List.mem_singleton.mp hx]
          exact OkT.mono oky (by decide +kernel) (fun _ h => h) (by decide) (by decide +kernel)
      · rw [upd_ne (ne_of_none e nZ)]
        exact k7 b o b1 b2 (k' b o b1 b2 e)
    obtain ⟨ws1, t6, eZ6, lws1, hws1, u0, u1, hS6, k6⟩ := hP
    have el6 := k6 _ _ offl.1 offl.2 el5
    have er6 := k6 _ _ offr.1 offr.2 eu5
    have hws1' : ∀ x ∈ ws1, Fit [c] H6 x := fun x hx => OkT.less (hws1 x hx) (by simp)
    have offZ := hS5.off nZ
    -- papers
    refine ⟨_, rfl, 8, rfl, by decide, by decide, fun Z2 nZ2 => lc_range (n := 8) (fun j H' => ∃ (ws : List V) (t' : Int), H' Z2 = some (.lst ws) ∧ ws.length = j ∧ (∀ x ∈ ws, Fit [c, Z2] H' x) ∧ t6 ≤ t' ∧ t' ≤ t6 + 60 * (j : Int) ∧ StAt H' d c t' ∧ Kp d c H6 H') ⟨[], t6, upd_same, rfl, (fun _ z => nomatch z), Int.le_refl _, by omega, hS6.same (same_upd nZ2), Kp.same d c (same_upd nZ2)⟩ (fun j H' hj hP => ?_) (fun H8 hP => ?_)⟩
    · obtain ⟨ws, t', eZ, lws, hws, u2, u3, hS', k'⟩ := hP
      have offZ2 := hS6.off nZ2
      have k5' := k6.trans k'
      have nl2 : l ≠ Z2 := fun z => by rw [z, nZ2] at el6; cases el6
      have nZ25 : H5 Z2 = none := Kp.gone' hS5 k6 hS6 nZ2
      have prl' : Prs H' ul rs := ⟨prl.1, fun i r er => let ⟨x, h1, h2⟩ := prl.2 i r er; ⟨x, h1, k5'.tup hS5 (n25.tup h2)⟩⟩
      refine ⟨rfl, _, rfl, _, rfl, _, rfl, _, rfl, d, c, [c, Z2], t', l, r, T5, rs, rfl, hS', by omega, by simp, presN hS' eZ, ⟨ul, k' _ _ offl.1 offl.2 el6, prl'⟩, by simp [offl.2, nl2], offl.1, hr1, hr10, hrb, (td.tell _ (pres5 nZ25)).kp hS5 k5' (by simp), fun y t3 H7 oky w0 w1 hS7 k7 => ?_⟩
      have eZ7 := k7 _ _ offZ2.1 offZ2.2 eZ
      refine ⟨ws, eZ7, by omega, ws ++ [y], t3, upd_same, by rw [List.length_append, lws]; rfl, fun x hx => ?_, by omega, by omega, hS7.upd offZ2.1 offZ2.2, fun b o b1 b2 e => ?_⟩
      · refine OkT.put2 ?_ (by simp) eZ7
        rcases List.mem_append.mp hx with hx | hx
        · exact (hws x hx).kp hS' k7 (by simp)
        · rw [List.mem_singleton.mp hx]
          exact OkT.mono oky (Nat.le_refl _) (fun _ h => nextS.sub (nextS.sub h)) (by decide) (by decide)
      · rw [upd_ne (ne_of_none e nZ2)]
        exact k7 b o b1 b2 (k' b o b1 b2 e)
    obtain ⟨ws2, t8, eZ8, lws2, hws2, u2, u3, hS8, k8⟩ := hP
    have eZ18 := k8 _ _ offZ.1 offZ.2 eZ6
    refine ⟨Z, Z2, _, _, rfl, rfl, eZ18, eZ8, by omega, fun B nB => ?_⟩
    have hws12 : ∀ x ∈ ws1 ++ ws2, Fit [c] H8 x := fun x hx => by
      rcases List.mem_append.mp hx with hx | hx
      · exact (hws1' x hx).kp hS6 k8 (by simp)
      · exact OkT.less (hws2 x hx) (by simp)
    have s9 := same_upd (o := .lst (ws1 ++ ws2)) nB
    have eB : upd H8 B (.lst (ws1 ++ ws2)) B = some (.lst (ws1 ++ ws2)) := upd_same
    generalize upd H8 B (.lst (ws1 ++ ws2)) = H9 at s9 eB
    have S9_9 : Same H9 H9 := Same.refl _
    refine ⟨_, rfl, ?_⟩
    refine ⟨(by show 0 ≤ sizeLine; omega), fun A1 nA1 => ?_⟩
    have s10 := same_upd (o := .tup []) nA1
    have eA1 : upd H9 A1 (.tup []) A1 = some (.tup []) := upd_same
    generalize upd H9 A1 (.tup []) = H10 at s10 eA1
    have S9_10 := S9_9.trans s10
    refine ⟨(by show 0 ≤ sizeLine; omega), fun A2 nA2 => ?_⟩
    have offA2 := ((hS8.same s9).same S9_10).off nA2
    have s11 := same_upd (o := .lst []) nA2
    have eA2 : upd H10 A2 (.lst []) A2 = some (.lst []) := upd_same
    generalize upd H10 A2 (.lst []) = H11 at s11 eA2
    have S9_11 := S9_10.trans s11
    have eA1 := s11 _ _ eA1
    refine ⟨(by show 0 ≤ sizeLine; omega), fun A3 nA3 => ?_⟩
    have s12 := same_upd (o := .tup []) nA3
    have eA3 : upd H11 A3 (.tup []) A3 = some (.tup []) := upd_same
    generalize upd H11 A3 (.tup []) = H12 at s12 eA3
    have S9_12 := S9_11.trans s12
    have eA1 := s12 _ _ eA1
    have eA2 := s12 _ _ eA2
    refine ⟨(by show 1 ≤ sizeLine; omega), fun A4 nA4 => ?_⟩
    have s13 := same_upd (o := .tup [.ref A3]) nA4
    have eA4 : upd H12 A4 (.tup [.ref A3]) A4 = some (.tup [.ref A3]) := upd_same
    generalize upd H12 A4 (.tup [.ref A3]) = H13 at s13 eA4
    have S9_13 := S9_12.trans s13
    have eA1 := s13 _ _ eA1
    have eA2 := s13 _ _ eA2
    have eA3 := s13 _ _ eA3
    refine ⟨(by show 0 ≤ sizeLine; omega), fun A5 nA5 => ?_⟩
    have s14 := same_upd (o := .tup []) nA5
    have eA5 : upd H13 A5 (.tup []) A5 = some (.tup []) := upd_same
    generalize upd H13 A5 (.tup []) = H14 at s14 eA5
    have S9_14 := S9_13.trans s14
    have eA1 := s14 _ _ eA1
    have eA2 := s14 _ _ eA2
    have eA3 := s14 _ _ eA3
    have eA4 := s14 _ _ eA4
    refine ⟨(by show 1 ≤ sizeLine; omega), fun A6 nA6 => ?_⟩
    have offA6 := ((hS8.same s9).same S9_14).off nA6
    have s15 := same_upd (o := .lst [.ref A5]) nA6
    have eA6 : upd H14 A6 (.lst [.ref A5]) A6 = some (.lst [.ref A5]) := upd_same
    generalize upd H14 A6 (.lst [.ref A5]) = H15 at s15 eA6
    have S9_15 := S9_14.trans s15
    have eA1 := s15 _ _ eA1
    have eA2 := s15 _ _ eA2
    have eA3 := s15 _ _ eA3
    have eA4 := s15 _ _ eA4
    have eA5 := s15 _ _ eA5
    refine ⟨(by show 1 ≤ sizeLine; omega), fun A7 nA7 => ?_⟩
    have s16 := same_upd (o := .tup [.str "blind"]) nA7
    have eA7 : upd H15 A7 (.tup [.str "blind"]) A7 = some (.tup [.str "blind"]) := upd_same
    generalize upd H15 A7 (.tup [.str "blind"]) = H16 at s16 eA7
    have S9_16 := S9_15.trans s16
    have eA1 := s16 _ _ eA1
    have eA2 := s16 _ _ eA2
    have eA3 := s16 _ _ eA3
    have eA4 := s16 _ _ eA4
    have eA5 := s16 _ _ eA5
    have eA6 := s16 _ _ eA6
    refine ⟨(by show 0 ≤ sizeLine; omega), fun A8 nA8 => ?_⟩
    have offA8 := ((hS8.same s9).same S9_16).off nA8
    have s17 := same_upd (o := .lst []) nA8
    have eA8 : upd H16 A8 (.lst []) A8 = some (.lst []) := upd_same
    generalize upd H16 A8 (.lst []) = H17 at s17 eA8
    have S9_17 := S9_16.trans s17
    have eA1 := s17 _ _ eA1
    have eA2 := s17 _ _ eA2
    have eA3 := s17 _ _ eA3
    have eA4 := s17 _ _ eA4
    have eA5 := s17 _ _ eA5
    have eA6 := s17 _ _ eA6
    have eA7 := s17 _ _ eA7
    refine ⟨(by show 2 ≤ sizeLine; omega), fun A9 nA9 => ?_⟩
    have s18 := same_upd (o := .tup [.str "samples", .ref A8]) nA9
    have eA9 : upd H17 A9 (.tup [.str "samples", .ref A8]) A9 = some (.tup [.str "samples", .ref A8]) := upd_same
    generalize upd H17 A9 (.tup [.str "samples", .ref A8]) = H18 at s18 eA9
    have S9_18 := S9_17.trans s18
    have eA1 := s18 _ _ eA1
    have eA2 := s18 _ _ eA2
    have eA3 := s18 _ _ eA3
    have eA4 := s18 _ _ eA4
    have eA5 := s18 _ _ eA5
    have eA6 := s18 _ _ eA6
    have eA7 := s18 _ _ eA7
    have eA8 := s18 _ _ eA8
    refine ⟨(by show 0 ≤ sizeLine; omega), fun A10 nA10 => ?_⟩
    have offA10 := ((hS8.same s9).same S9_18).off nA10
    have s19 := same_upd (o := .lst []) nA10
    have eA10 : upd H18 A10 (.lst []) A10 = some (.lst []) := upd_same
    generalize upd H18 A10 (.lst []) = H19 at s19 eA10
    have S9_19 := S9_18.trans s19
    have eA1 := s19 _ _ eA1
    have eA2 := s19 _ _ eA2
    have eA3 := s19 _ _ eA3
    have eA4 := s19 _ _ eA4
    have eA5 := s19 _ _ eA5
    have eA6 := s19 _ _ eA6
    have eA7 := s19 _ _ eA7
    have eA8 := s19 _ _ eA8
    have eA9 := s19 _ _ eA9
    refine ⟨(by show 0 ≤ sizeLine; omega), fun A11 nA11 => ?_⟩
    have offA11 := ((hS8.same s9).same S9_19).off nA11
    have s20 := same_upd (o := .lst []) nA11
    have eA11 : upd H19 A11 (.lst []) A11 = some (.lst []) := upd_same
    generalize upd H19 A11 (.lst []) = H20 at s20 eA11
    have S9_20 := S9_19.trans s20
    have eA1 := s20 _ _ eA1
    have eA2 := s20 _ _ eA2
    have eA3 := s20 _ _ eA3
    have eA4 := s20 _ _ eA4
    have eA5 := s20 _ _ eA5
    have eA6 := s20 _ _ eA6
    have eA7 := s20 _ _ eA7
    have eA8 := s20 _ _ eA8
    have eA9 := s20 _ _ eA9
    have eA10 := s20 _ _ eA10
    refine ⟨(by show 3 ≤ sizeLine; omega), fun A12 nA12 => ?_⟩
    have s21 := same_upd (o := .tup [.str "samples", .ref A10, .ref A11]) nA12
    have eA12 : upd H20 A12 (.tup [.str "samples", .ref A10, .ref A11]) A12 = some (.tup [.str "samples", .ref A10, .ref A11]) := upd_same
    generalize upd H20 A12 (.tup [.str "samples", .ref A10, .ref A11]) = H21 at s21 eA12
    have S9_21 := S9_20.trans s21
    have eA1 := s21 _ _ eA1
    have eA2 := s21 _ _ eA2
    have eA3 := s21 _ _ eA3
    have eA4 := s21 _ _ eA4
    have eA5 := s21 _ _ eA5
    have eA6 := s21 _ _ eA6
    have eA7 := s21 _ _ eA7
    have eA8 := s21 _ _ eA8
    have eA9 := s21 _ _ eA9
    have eA10 := s21 _ _ eA10
    have eA11 := s21 _ _ eA11
    refine ⟨(by show 11 ≤ sizeLine; omega), fun LL nLL => ?_⟩
    have offLL := ((hS8.same s9).same S9_21).off nLL
    have s22 := same_upd (o := .lst [.ref A1, .ref A2, .non, .int 0, .bl true, .str "samples", .ref A4, .ref A6, .ref A7, .ref A9, .ref A12]) nLL
    have eLL : upd H21 LL (.lst [.ref A1, .ref A2, .non, .int 0, .bl true, .str "samples", .ref A4, .ref A6, .ref A7, .ref A9, .ref A12]) LL = some (.lst [.ref A1, .ref A2, .non, .int 0, .bl true, .str "samples", .ref A4, .ref A6, .ref A7, .ref A9, .ref A12]) := upd_same
    generalize upd H21 LL (.lst [.ref A1, .ref A2, .non, .int 0, .bl true, .str "samples", .ref A4, .ref A6, .ref A7, .ref A9, .ref A12]) = H22 at s22 eLL
    have S9_22 := S9_21.trans s22
    have eA1 := s22 _ _ eA1
    have eA2 := s22 _ _ eA2
    have eA3 := s22 _ _ eA3
    have eA4 := s22 _ _ eA4
    have eA5 := s22 _ _ eA5
    have eA6 := s22 _ _ eA6
    have eA7 := s22 _ _ eA7
    have eA8 := s22 _ _ eA8
    have eA9 := s22 _ _ eA9
    have eA10 := s22 _ _ eA10
    have eA11 := s22 _ _ eA11
    have eA12 := s22 _ _ eA12
    refine ⟨B, LL, _, _, rfl, rfl, S9_22 _ _ eB, eLL, by rw [List.length_append]; show _ + 11 ≤ _; omega, fun B2 nB2 => ?_⟩
    have s23 := same_upd (o := .lst (ws1 ++ ws2 ++ [.ref A1, .ref A2, .non, .int 0, .bl true, .str "samples", .ref A4, .ref A6, .ref A7, .ref A9, .ref A12])) nB2
    have eB2 : upd H22 B2 (.lst (ws1 ++ ws2 ++ [.ref A1, .ref A2, .non, .int 0, .bl true, .str "samples", .ref A4, .ref A6, .ref A7, .ref A9, .ref A12])) B2 = some (.lst (ws1 ++ ws2 ++ [.ref A1, .ref A2, .non, .int 0, .bl true, .str "samples", .ref A4, .ref A6, .ref A7, .ref A9, .ref A12])) := upd_same
    generalize upd H22 B2 (.lst (ws1 ++ ws2 ++ [.ref A1, .ref A2, .non, .int 0, .bl true, .str "samples", .ref A4, .ref A6, .ref A7, .ref A9, .ref A12])) = H23 at s23 eB2
    have s8F := (s9.trans S9_22).trans s23
    have hSF := hS8.same s8F
    have k5F := (k6.trans k8).trans (Kp.same d c s8F)
    have fl : ∀ {v : V} {e : PyData}, Thg [c] H22 v e → Bd (10 ^ 39) (itS 2) 4 e → e.weight ≤ 300000 → Fit [c] H23 v := fun h hb hw => ⟨_, h.same s23, hb, hw⟩
    have nilL : ∀ {H : Hp}, ThgL [c] H [] [] := fun {H} => ThgL.nil
    have hlit : ∀ x ∈ ([.ref A1, .ref A2, .non, .int 0, .bl true, .str "samples", .ref A4, .ref A6, .ref A7, .ref A9, .ref A12] : List V), Fit [c] H23 x := by
      intro x hx
      simp only [List.mem_cons, List.not_mem_nil, or_false] at hx
      have g1 : Thg [c] H22 (.ref A1) (.tuple []) := .tup eA1 rfl nilL.2
      have g2 : Thg [c] H22 (.ref A2) (.list []) := .lst eA2 (by simp [offA2.2]) rfl nilL.2
      have g3 : Thg [c] H22 (.ref A3) (.tuple []) := .tup eA3 rfl nilL.2
      have g5 : Thg [c] H22 (.ref A5) (.tuple []) := .tup eA5 rfl nilL.2
      have g8 : Thg [c] H22 (.ref A8) (.list []) := .lst eA8 (by simp [offA8.2]) rfl nilL.2
      have g10 : Thg [c] H22 (.ref A10) (.list []) := .lst eA10 (by simp [offA10.2]) rfl nilL.2
      have g11 : Thg [c] H22 (.ref A11) (.list []) := .lst eA11 (by simp [offA11.2]) rfl nilL.2
      have b0 : ∀ {n : Nat}, Bd (10 ^ 39) (itS 2) n (.int 0) := .int (by decide +kernel)
      have bE : ∀ {n : Nat}, Bd (10 ^ 39) (itS 2) (n + 1) (.list []) := .lst (fun _ z => nomatch z)
      have bT : ∀ {n : Nat}, Bd (10 ^ 39) (itS 2) (n + 1) (.tuple []) := .tup (fun _ z => nomatch z)
      have bs : ∀ {n : Nat}, Bd (10 ^ 39) (itS 2) n (.str "samples") := .str (by decide +kernel)
      rcases hx with rfl | rfl | rfl | rfl | rfl | rfl | rfl | rfl | rfl | rfl | rfl
      · exact fl g1 bT (by decide +kernel)
      · exact fl g2 bE (by decide +kernel)
      · exact fl .non .non (by decide +kernel)
      · exact fl (.int 0) b0 (by decide +kernel)
      · exact fl (.bl true) (.bl true) (by decide +kernel)
      · exact fl (.str _) bs (by decide +kernel)
      · exact fl (.tup eA4 rfl (ThgL.one g3).2) (.tup fun x hx => by rw [List.mem_singleton.mp hx]; exact bT) (by decide +kernel)
      · exact fl (.lst eA6 (by simp [offA6.2]) rfl (ThgL.one g5).2) (.lst fun x hx => by rw [List.mem_singleton.mp hx]; exact bT) (by decide +kernel)
      · exact fl (.tup eA7 rfl (ThgL.one (.str _)).2) (.tup fun x hx => by rw [List.mem_singleton.mp hx]; exact .str (by decide +kernel)) (by decide +kernel)
      · exact fl (.tup eA9 rfl (ThgL.cons (.str _) (ThgL.one g8)).2) (.tup fun x hx => by
          simp only [List.mem_cons, List.not_mem_nil, or_false] at hx
          rcases hx with rfl | rfl
          · exact bs
          · exact bE) (by decide +kernel)
      · exact fl (.tup eA12 rfl (ThgL.cons (.str _) (ThgL.cons g10 (ThgL.one g11))).2) (.tup fun x hx => by
          simp only [List.mem_cons, List.not_mem_nil, or_false] at hx
          rcases hx with rfl | rfl | rfl
          · exact bs
          · exact bE
          · exact bE) (by decide +kernel)
    have hfit : ∀ x ∈ ws1 ++ ws2 ++ [.ref A1, .ref A2, .non, .int 0, .bl true, .str "samples", .ref A4, .ref A6, .ref A7, .ref A9, .ref A12], Fit [c] H23 x := fun x hx => by
      rcases List.mem_append.mp hx with hx | hx
      · exact OkT.same (hws12 x hx) s8F
      · exact hlit x hx
    have elF := k5F _ _ offl.1 offl.2 el5
    have euF := k5F _ _ offr.1 offr.2 eu5
    have eTF : Thg [c] H23 (.ref T5) d5 := ((hTd nZ).less (by simp)).kp hS5 k5F (by simp)
    have tqF := tq_kp t5 hS5 k5F
    have prF5 : ∀ {vs : List V} {ps : List (Int × Int)}, Prs H2 vs ps → Prs H23 vs ps := fun p => ⟨p.1, fun i r er => let ⟨x, h1, h2⟩ := p.2 i r er; ⟨x, h1, k5F.tup hS5 (n25.tup h2)⟩⟩
    have prFF := prF5 pr
    have prLL := prF5 prl
    clear prF5
    generalize hXS : ws1 ++ ws2 ++ [.ref A1, .ref A2, .non, .int 0, .bl true, .str "samples", .ref A4, .ref A6, .ref A7, .ref A9, .ref A12] = xs at eB2 hfit
    generalize H23 = HF at eB2 hfit elF euF eTF tqF prFF prLL
    have prNF : ∀ {H' : Hp}, GX.NoTab HF H' → ∀ {vs : List V} {ps : List (Int × Int)}, Prs HF vs ps → Prs H' vs ps := by
      intro H' n vs ps p
      exact ⟨p.1, fun i r er => let ⟨x, h1, h2⟩ := p.2 i r er; ⟨x, h1, n.tup h2⟩⟩
    refine ⟨_, rfl, B2, rfl, ⟨_, SqL.of eB2⟩, for_list (xs := xs) (fun i σ Hx => ∃ y6 y7 y8 y9 : Option V, σ = [some (.ref a), some (.ref d), some (.ref l), some (.ref r), some (.ref T5), some (.ref B2), y6, y7, y8, y9] ∧ GX.NoTab HF Hx ∧ GX.TQ Ms Xs Hx) ⟨_, _, _, _, rfl, GX.NoTab.refl _, tqF⟩ (fun i σ Hy _ hP => ?_) (fun i x σ Hy hx hP => ?_) (fun σ Hy hP => ?_)⟩
    · obtain ⟨y6, y7, y8, y9, rfl, nx, tx⟩ := hP
      exact SqL.of (nx.lst eB2)
    · obtain ⟨y6, y7, y8, y9, rfl, nx, tx⟩ := hP
      obtain ⟨e, hxe, hb, hw⟩ := hfit x (List.mem_of_getElem? hx)
      refine ⟨_, rfl, [c], _, _, _, x, e, rfl, hxe.noTab nx, hb, Nat.le_refl _, (strsOk2.ok strs1'), by decide, hw, ?_⟩
      have elx := nx.lst elF
      refine ⟨_, rfl, l, _, rfl, .inl (SqL.of elx), fun z1 nz1 => ?_⟩
      have y1 := same_upd (o := .lst (ul)) nz1
      have ez1 : upd Hy z1 (.lst (ul)) z1 = some (.lst (ul)) := upd_same
      generalize upd Hy z1 (.lst (ul)) = Ha at y1 ez1
      refine ⟨_, rfl, r, _, rfl, .inl (SqL.of (y1 _ _ (nx.lst euF))), fun z2 nz2 => ?_⟩
      have y2 := same_upd (o := .lst us) nz2
      have ez2 : upd Ha z2 (.lst us) z2 = some (.lst us) := upd_same
      generalize upd Ha z2 (.lst us) = Hb at y2 ez2
      have nb := nx.trans (NoTab.same (y1.trans y2))
      refine ⟨_, rfl, z1, z2, [c], x, e, rs, gs, rfl, ⟨ul, .inl (y2 _ _ ez1), prNF nb prLL⟩, ⟨us, .inl ez2, prNF nb prFF⟩, hxe.noTab nb, hb.shp (Nat.le_refl _) (strsOk2.ok strs1') lay2 (by decide), by omega, by omega, hro, hrg, tx.same (y1.trans y2), hM, fun H2 n2 tq2 => ?_⟩
      have n02 := nb.trans n2
      refine ⟨_, rfl, _, _, .type "bool", .type "bool", true, rfl, .ty _, .base (.bl _), kit_ty (by decide +kernel), _, rfl, ite2 (fun z => nomatch z) (fun _ => ?_)⟩
      refine ⟨_, rfl, _, rfl, _, rfl, _, rfl, l, r, [c], x, e, rs, gs, rfl, ⟨ul, n02.lst elF, prNF n02 prLL⟩, ⟨us, n02.lst euF, prNF n02 prFF⟩, hxe.noTab n02, hw, by omega, by omega, hro, hrg, fun H3 s3 => ?_⟩
      have n03 := n02.trans (NoTab.same s3)
      refine ⟨rfl, _, rfl, ite2 (fun z => ?_) (fun _ => ?_)⟩
      · rw [decide_eq_true rfl] at z
        cases z
      refine ⟨_, rfl, [c], _, _, _, x, e, rfl, hxe.noTab n03, hb, Nat.le_refl _, (strsOk2.ok strs1'), by decide, hw, ?_⟩
      refine ⟨_, rfl, rfl, _, rfl, ite2 (fun z => ?_) (fun _ => ?_)⟩
      · rw [decide_eq_true rfl] at z
        cases z
      exact ⟨_, _, _, _, rfl, n03, tq2.same s3⟩
    · obtain ⟨y6, y7, y8, y9, rfl, nx, tx⟩ := hP
      refine ⟨_, rfl, l, _, rfl, .inl ⟨SqL.of (nx.lst elF), fun z1 nz1 => ?_⟩⟩
      have y1 := same_upd (o := .tup (ul)) nz1
      have ez1 : upd Hy z1 (.tup (ul)) z1 = some (.tup (ul)) := upd_same
      generalize upd Hy z1 (.tup (ul)) = Ha at y1 ez1
      refine ⟨_, rfl, r, _, rfl, .inl ⟨SqL.of (y1 _ _ (nx.lst euF)), fun z2 nz2 => ?_⟩⟩
      have y2 := same_upd (o := .tup us) nz2
      have ez2 : upd Ha z2 (.tup us) z2 = some (.tup us) := upd_same
      generalize upd Ha z2 (.tup us) = Hb at y2 ez2
      have nb := nx.trans (NoTab.same (y1.trans y2))
      refine ⟨_, rfl, z1, z2, [c], .ref T5, d5, rs, gs, rfl, ⟨ul, .inr (y2 _ _ ez1), prNF nb prLL⟩, ⟨us, .inr ez2, prNF nb prFF⟩, eTF.noTab nb, td.bd.shp (by decide) (strsOk2.ok (by decide +kernel)) (by decide +kernel) (by decide), by omega, by omega, hro, hrg, tx.same (y1.trans y2), hM, fun H2 n2 tq2 => ?_⟩
      exact ⟨_, true, rfl, rfl, by rw [td.c]; exact q _⟩
end

/-! ### the end: what the top has left, the tables of code objects among it -/
/-- each def of the text has a code object with an empty table -/
def Tabs (q : Program) (mg : Str → Option Value) (h : Heap) : Prop := ∀ dr ∈ recsOf q, ∃ (f : Addr) (o : Obj) (fd : FuncData) (c P : Addr), mg dr.name = some (.ref f) ∧ h.get? f = some o ∧ o.data = .func fd ∧ fd.code = .ref c ∧ PySem.W.CodeHd h c P ∧ h.get? P = some (PySem.W.tabObj #[])
theorem tab_in {q : Program} {mg : Str → Option Value} {h : Heap} {K : PySem.W.Frag} {y : Str} {f c P : Addr} {oc e : Value} {od dd : Option Addr} {fd : FuncData} {osl sl : Array (Option Value)} {vs : Array Value} (TT : Tabs q mg h) (X : K.In h) (rec : ((recsOf q).any fun r => r.name == y) = true)
    (g : mg y = some (.ref f)) (lf : K.lookup f = some ⟨oc, od, .func fd, osl⟩) (hc : fd.code = .ref c) (lc : K.lookup c = some ⟨e, dd, .fields vs, sl⟩) (v : vs[11]? = some (.ref P)) : PySem.W.CodeHd h c P ∧ h.get? P = some (PySem.W.tabObj #[]) := by
  obtain ⟨dr, mem, nm⟩ := List.any_eq_true.mp rec
  obtain ⟨f', o', fd', c', P', t1, t2, t3, t4, t5, t6⟩ := TT dr mem
  have ef : f' = f := by
    rw [beq_iff_eq.mp nm, g] at t1
    exact (Value.ref.inj (Option.some.inj t1)).symm
  rw [ef, X _ _ lf] at t2
  rw [← Option.some.inj t2] at t3
  have efd : fd = fd' := Data.func.inj t3
  rw [← efd, hc] at t4
  have ec : c = c' := Value.ref.inj t4
  rw [← ec] at t5
  have t5' := t5
  obtain ⟨oc', us, _, _, _, _, _, _, _, u1, _, u3, u4, _⟩ := t5'
  rw [X _ _ lc] at u1
  rw [← Option.some.inj u1] at u3
  have eu : vs = us := Data.fields.inj u3
  rw [← eu, v] at u4
  have eP : P = P' := Value.ref.inj (Option.some.inj u4)
  rw [eP]
  exact ⟨t5, t6⟩
theorem law_end {l : PySem.W.OpenLaw} {k : Nat} {q : Program} {loose : List Str} {XP : (Str → Option Value) → Heap → Prop} {YP : World → Heap → Prop} {d : DefRec} {K : Params → PySem.W.Frag} (most : l.most = some 63) (plain : d.params.defaults = []) (room : Room k callerA)
    (part : ∀ w h, YP w h → (K w.params).In h) (made : ∀ (w : World) (mg : Str → Option Value) (f : Addr) (h : Heap), (K w.params).In h → h.Ns mainGlobals mg → mg d.name = some (.ref f) → Tabs q mg h → LamX.LawAtS l w (K w.params) CX0 k 63 "_law_script" mg f h) : PySem.W.WalkO q loose XP YP l.row.toRowW d [] (fun f vs => PySem.call f vs) := by
  refine Att.attach_callB most plain ?_
  intro w _ s₁ mg _ f _ _ _ _ a vs ns ground said _ _ _ name script nums len size still
  have X := part w _ said
  have tabs : Tabs q mg s₁.heap := fun dr mem => by
    obtain ⟨f', o', fd', c', P', t1, t2, t3, t4, t5, t6⟩ := ground.T.tab dr mem
    exact ⟨f', o', fd', c', P', t1, t2, t3, t4, PySem.W.CodeHd.of t5 t6, t6.2⟩
  obtain ⟨fd, cs, sp, e1, e2, e3, e4, e5, e6⟩ := made w mg f _ X ground.T.g name tabs
  exact LamX.law_callTs X ground.T.g ground.T.b ground.T.builtins ground.T.nolimit still e1 e2 e3 ground.T.bmain script nums (Nat.le_trans len (by decide)) room e6 e4 (fun H z1 z2 => e5 H a ns len size z1 z2) fun _ _ _ z => z

/-! ### the end of a law with tables, where nothing is being shown -/
/-- tracked at the start: the script's list, tables -/
def StartT (cs : List (Addr × Addr)) (a : Addr) (H : Hp) : Prop := ∀ b u, H b = some u → (b = a ∧ ∃ o xs, u = .frz o (.lst xs)) ∨ ((∃ p ∈ cs, p.2 = b) ∧ u = .tbl #[])
section
variable {P : Program} {w : World} {K : PySem.W.Frag} {mg mb : Str → Option Value} {CX : CXT} {k : Nat} {fa a : Addr} {cs : List (Addr × Addr)} {fd : FuncData} {x : Str} {sp : Sp} {s₁ : Shared} {vs : List Value} {ns : List Int}
/-- what is neither the list nor a table stands in the hidden heap -/
theorem start_hid {H : Hp} (hO : StartT cs a H) (hT : ∀ p ∈ cs, s₁.heap.get? p.2 = some { cls := .none, data := .fields #[] }) (ha : s₁.heap.get? a = some { cls := .type "list", data := .seq vs.toArray })
    {b : Addr} {o : Obj} (e : s₁.heap.get? b = some o) (n1 : ∀ ys n, o.data = .seq ys n → False) (n2 : o.data = .fields #[] → False) : (hidT s₁.heap H).get? b = some o := by
  refine hidT_get e ?_
  cases t : H b with
  | none => rfl
  | some u =>
    exfalso
    rcases hO b u t with ⟨rfl, _⟩ | ⟨⟨p, hp, rfl⟩, _⟩
    · exact n1 _ _ (congrArg Obj.data (Option.some.inj (e.symm.trans ha)))
    · exact n2 (congrArg Obj.data (Option.some.inj (e.symm.trans (hT p hp))))
theorem start_tabs {H : Hp} (hO : StartT cs a H) (hT : ∀ p ∈ cs, s₁.heap.get? p.2 = some { cls := .none, data := .fields #[] }) (ha : s₁.heap.get? a = some { cls := .type "list", data := .seq vs.toArray })
    (hns : s₁.heap.Ns mainGlobals mg) (C : ∀ p ∈ cs, PySem.W.CodeHd s₁.heap p.1 p.2) (hbm : ∃ (bm : Addr) (ob : Obj), mg "__builtins__" = some (.ref bm) ∧ bm ≠ builtinsNs ∧ s₁.heap.get? bm = some ob ∧ ob.cls = .type "module" ∧ ob.dict = some builtinsNs ∧ ob.data = .plain) :
    ∀ p ∈ cs, LamX.TabB (hidT s₁.heap H) mg p.1 p.2 := by
  intro p hp
  obtain ⟨og, es, ep, eg, dg, _⟩ := hns
  have notG : ∀ {b : Addr} {o : Obj}, s₁.heap.get? b = some o → o.data ≠ .dict es ep → b ≠ mainGlobals := fun e n z => by
    subst z
    exact n ((congrArg Obj.data (Option.some.inj (e.symm.trans eg))).trans dg)
  obtain ⟨bm, ob, c1, c2, c3, c4, c5, c6⟩ := hbm
  obtain ⟨oc, us, q1, q2, q3, q4, q5, q6, q7, d0, d1, d2, rest⟩ := C p hp
  refine ⟨⟨oc, us, q1, q2, q3, q4, q5, q6, q7, start_hid hO hT ha d0 (fun ys n z => ?_) (fun z => ?_), d1, d2, rest⟩, ⟨bm, ob, c1, c2, notG c3 (by rw [c6]; exact fun z => nomatch z), fun z => ?_, start_hid hO hT ha c3 (by rw [c6]; exact fun _ _ z => nomatch z) (by rw [c6]; exact fun z => nomatch z), c4, c5, c6⟩, Ne.symm (notG (hT p hp) (fun z => nomatch z))⟩
  · rw [d2] at z
    cases z
  · rw [d2] at z
    have z2 := Data.fields.inj z
    rw [z2] at rest
    have := rest.1
    simp at this
  · subst z
    rw [hT p hp] at c3
    rw [← Option.some.inj c3] at c6
    cases c6
theorem law_callTG (KX : K.In s₁.heap) (hns : s₁.heap.Ns mainGlobals mg) (hb : s₁.heap.Ns builtinsNs mb) (hbb : ∀ x : Str, x ≠ "__name__" → mb x = bootBuiltins x) (hlim : s₁.heap.NoLimit) (hg : s₁.gens = #[])
    (hT : ∀ p ∈ cs, s₁.heap.get? p.2 = some { cls := .none, data := .fields #[] }) (nT : ∀ p ∈ cs, K.lookup p.2 = none) (C : ∀ p ∈ cs, PySem.W.CodeHd s₁.heap p.1 p.2)
    (hbm : ∃ (bm : Addr) (ob : Obj), mg "__builtins__" = some (.ref bm) ∧ bm ≠ builtinsNs ∧ s₁.heap.get? bm = some ob ∧ ob.cls = .type "module" ∧ ob.dict = some builtinsNs ∧ ob.data = .plain)
    (ha : s₁.heap.get? a = some { cls := .type "list", data := .seq vs.toArray }) (hi : PyProof.Rows.IntsAre vs ns) (hl : ns.length ≤ sizeLine) (hr : Room k callerA)
    (F : ∀ base : Heap, K.In base → base.Ns mainGlobals mg → (∀ p ∈ cs, LamX.TabB base mg p.1 p.2) → FnG P w K mg base CX k fa fd [x] sp) (hbind : ∀ (s : Shared) (u : Value), BindsTo s fd ⟨[u], []⟩ [(x, u)])
    (hsp : ∀ H : Hp, (∀ p ∈ cs, H p.2 = some (.tbl #[])) → SqL K H a (ns.map V.int) → sp [.ref a] H (fun v _ => v = .bl true) fun _ _ _ => False)
    (hCX : ∀ H e s', CX [] H s₁ (fun _ _ _ => False) e s' → False) :
    codeAny (model P w) callerA (.call (.ref fa) ⟨[.ref a], []⟩) (fun r s' => r = .ok (.ret (.bool true)) ∧ OldK s₁.heap s'.heap ∧ s'.os = s₁.os ∧ PyProof.Rows.AllBare s'.gens) s₁ := by
  have away : ∀ p ∈ cs, p.2 ≠ a := fun p hp z => by
    have h1 := hT p hp
    rw [z, ha] at h1
    exact nomatch congrArg Obj.data (Option.some.inj h1)
  have go : ∀ H : Hp, StartT cs a H → (∀ p ∈ cs, H p.2 = some (.tbl #[])) → (H a = none ∨ K.lookup a = none) → SqL K H a (ns.map V.int) → HOk P w H s₁.heap →
      codeAny (model P w) callerA (.call (.ref fa) ⟨[.ref a], []⟩) (fun r s' => r = .ok (.ret (.bool true)) ∧ OldK s₁.heap s'.heap ∧ s'.os = s₁.os ∧ PyProof.Rows.AllBare s'.gens) s₁ := by
    intro H hO hH hA hS hok
    have dictK : ∀ {b : Addr} {m : Str → Option Value}, s₁.heap.Ns b m → (hidT s₁.heap H).Ns b m := fun z => by
      obtain ⟨o, es, ep, e, d, r⟩ := z
      exact ⟨o, es, ep, start_hid hO hT ha e (fun ys n z => nomatch d.symm.trans z) (fun z => nomatch d.symm.trans z), d, r⟩
    have hKb : K.In (hidT s₁.heap H) := fun b o e => hidT_get (KX b o e) (by
      cases t : H b with
      | none => rfl
      | some u =>
        exfalso
        rcases hO b u t with ⟨rfl, _⟩ | ⟨⟨p, hp, rfl⟩, _⟩
        · rcases hA with z | z
          · rw [z] at t; cases t
          · rw [z] at e; cases e
        · rw [nT p hp] at e; cases e)
    have hM : L2.Mod K mg (hidT s₁.heap H) := ⟨hKb, dictK hns, ⟨mb, dictK hb, hbb⟩, let ⟨mc, h1, h2⟩ := hlim; ⟨mc, dictK h1, h2⟩⟩
    have e0 : Env0 P w K mg (hidT s₁.heap H) callerA [] s₁ H := ⟨rfl, hM, fun b o e => of_hidT e, Nat.le_of_eq (hidT_size ..), trivial, fun b hb => (nomatch hb), hok, .of_eq hg⟩
    refine codeAny_mono ((F _ hKb (dictK hns) (start_tabs hO hT ha hns C hbm)).run callerA [] s₁ H ⟨[.ref a], []⟩ [.ref a] [.ref a] (fun v _ => v = .bl true) (fun _ _ _ => False) rfl hr e0 (hbind s₁ (.ref a)) (.cons rfl .nil) (hsp H hH hS)) fun r s' h => ?_
    cases r with
    | error e => exact (hCX H e s' h).elim
    | ok fl =>
      cases fl with
      | ret u =>
        obtain ⟨v, H', os, bare, un, hok', r', q⟩ := h
        subst q
        cases r'
        have stays : ∀ b o, s₁.heap.get? b = some o → (∀ p ∈ cs, p.2 ≠ b) → s'.heap.get? b = some o := fun b o e nb => by
          cases t : H b with
          | none => exact un.keep b o e t (fun z => nomatch z) (fun z => nomatch z)
          | some u =>
            rcases hO b u t with ⟨_, ob, xs, rfl⟩ | ⟨⟨p, hp, z⟩, _⟩
            · have c1 := (hok b _ t).1
              have c2 := (hok' b _ (un.frzs b ob (HO.lst xs) t)).1
              rw [e] at c1
              rw [Option.some.inj c1]
              exact c2
            · exact absurd z (nb p hp)
        have more : ∀ p ∈ cs, ∃ ys : Array Value, s'.heap.get? p.2 = some { cls := .none, data := .fields ys } := fun p hp => by
          obtain ⟨ys, z⟩ := un.tbls p.2 #[] (hH p hp)
          exact ⟨_, hok' p.2 _ z⟩
        refine ⟨rfl, ⟨fun b o e => ?_, fun b o e => ?_⟩, os, bare⟩
        · by_cases c : ∃ p ∈ cs, p.2 = b
          · obtain ⟨p, hp, rfl⟩ := c
            obtain ⟨ys, hy⟩ := more p hp
            have eo := Option.some.inj (e.symm.trans (hT p hp))
            subst eo
            exact .inr (.inl ⟨((C p hp).tab (hT p hp)).isCodeTable, rfl, #[], ys, rfl, by rw [Array.empty_append]; exact hy⟩)
          · exact .inl (stays b o e fun p hp z => c ⟨p, hp, z⟩)
        · by_cases c : ∃ p ∈ cs, p.2 = b
          · obtain ⟨p, hp, rfl⟩ := c
            exact ⟨_, (more p hp).choose_spec⟩
          · exact ⟨o, stays b o e fun p hp z => c ⟨p, hp, z⟩⟩
      | _ => exact h.elim
  have rv := vals_ints hi
  have lenV := PyProof.Rows.IntsAre.length hi
  -- the tables alone, or the list as well
  let T0 : Hp := fun b => if b ∈ cs.map (·.2) then some (.tbl #[]) else none
  have inT : ∀ {b : Addr}, b ∈ cs.map (·.2) → ∃ p ∈ cs, p.2 = b := fun h => let ⟨p, hp, e⟩ := List.mem_map.mp h; ⟨p, hp, e⟩
  have T0at : ∀ {b u}, T0 b = some u → (∃ p ∈ cs, p.2 = b) ∧ u = .tbl #[] := fun {b u} h => by
    by_cases c : b ∈ cs.map (·.2)
    · exact ⟨inT c, (Option.some.inj ((if_pos c).symm.trans h)).symm⟩
    · exact nomatch (if_neg c).symm.trans h
  have T0p : ∀ p ∈ cs, T0 p.2 = some (.tbl #[]) := fun p hp => if_pos (List.mem_map.mpr ⟨p, hp, rfl⟩)
  have T0ok : ∀ b u, T0 b = some u → ObjOk P w T0 s₁.heap b u := fun b u h => by
    obtain ⟨⟨p, hp, rfl⟩, rfl⟩ := T0at h
    exact hT p hp
  cases hk : K.lookup a with
  | some o =>
    have e := KX a o hk
    rw [ha] at e
    cases e
    refine go T0 (fun b u h => .inr (T0at h)) T0p (.inl (if_neg fun z => ?_)) (.inr ⟨_, vs.toArray, 0, hk, rfl, rfl, rfl, by rw [List.size_toArray, lenV]; exact hl, rv⟩) T0ok
    obtain ⟨p, hp, e⟩ := inT z
    exact away p hp e
  | none =>
    let H1 : Hp := fun b => if b = a then some (.frz { cls := .type "list", data := .seq vs.toArray } (.lst (ns.map V.int))) else T0 b
    have atA : H1 a = some (.frz { cls := .type "list", data := .seq vs.toArray } (.lst (ns.map V.int))) := if_pos rfl
    have atB : ∀ {b}, b ≠ a → H1 b = T0 b := fun h => if_neg h
    refine go H1 (fun b u h => ?_) (fun p hp => (atB (away p hp)).trans (T0p p hp)) (.inr hk) (.inl (.inr ⟨_, atA⟩)) (fun b u h => ?_)
    · by_cases c : b = a
      · subst c
        exact .inl ⟨rfl, _, _, (Option.some.inj (atA.symm.trans h)).symm⟩
      · exact .inr (T0at ((atB c).symm.trans h))
    · by_cases c : b = a
      · subst c
        have eu := Option.some.inj (atA.symm.trans h)
        subst eu
        exact ⟨ha, by rw [List.length_map]; exact hl, vs, 0, rv, ha⟩
      · obtain ⟨⟨p, hp, rfl⟩, rfl⟩ := T0at ((atB c).symm.trans h)
        exact hT p hp
end
def LawAtTG (l : PySem.W.OpenLaw) (w : World) (K : PySem.W.Frag) (k : Nat) (mg : Str → Option Value) (fa : Addr) (h : Heap) : Prop :=
  ∃ (fd : FuncData) (cs : List (Addr × Addr)) (sp : Sp), (∀ p ∈ cs, h.get? p.2 = some { cls := .none, data := .fields #[] }) ∧ (∀ p ∈ cs, K.lookup p.2 = none) ∧ (∀ p ∈ cs, PySem.W.CodeHd h p.1 p.2) ∧ (∀ (s : Shared) (u : Value), BindsTo s fd ⟨[u], []⟩ [("_law_script", u)]) ∧
    (∀ (H : Hp) (a : Addr) (ns : List Int), ns.length ≤ 63 → (∀ z ∈ ns, Builtin.Int.intBits z ≤ 1048576) → (∀ p ∈ cs, H p.2 = some (.tbl #[])) → SqL K H a (ns.map V.int) → sp [.ref a] H (fun v _ => v = .bl true) fun _ _ _ => False) ∧
    ∀ base : Heap, K.In base → base.Ns mainGlobals mg → (∀ p ∈ cs, LamX.TabB base mg p.1 p.2) → FnG l.prog w K mg base CX0 k fa fd ["_law_script"] sp
theorem law_endTG {l : PySem.W.OpenLaw} {k : Nat} {q : Program} {loose : List Str} {XP : (Str → Option Value) → Heap → Prop} {YP : World → Heap → Prop} {d : DefRec} {K : Params → PySem.W.Frag} (most : l.most = some 63) (plain : d.params.defaults = []) (room : Room k callerA)
    (part : ∀ w h, YP w h → (K w.params).In h) (made : ∀ (w : World) (mg : Str → Option Value) (f : Addr) (h : Heap), (K w.params).In h → h.Ns mainGlobals mg → mg d.name = some (.ref f) → Tabs q mg h → LawAtTG l w (K w.params) k mg f h) : PySem.W.WalkO q loose XP YP l.row.toRowW d [] (fun f vs => PySem.call f vs) := by
  refine Att.attach_callB most plain ?_
  intro w _ s₁ mg _ f _ _ _ _ a vs ns ground said _ _ _ name script nums len size still
  have X := part w _ said
  have tabs : Tabs q mg s₁.heap := fun dr mem => by
    obtain ⟨f', o', fd', c', P', t1, t2, t3, t4, t5, t6⟩ := ground.T.tab dr mem
    exact ⟨f', o', fd', c', P', t1, t2, t3, t4, PySem.W.CodeHd.of t5 t6, t6.2⟩
  obtain ⟨fd, cs, sp, e1, e2, e3, e4, e5, e6⟩ := made w mg f _ X ground.T.g name tabs
  exact law_callTG X ground.T.g ground.T.b ground.T.builtins ground.T.nolimit still e1 e2 e3 ground.T.bmain script nums (Nat.le_trans len (by decide)) room e6 e4 (fun H z1 z2 => e5 H a ns len size z1 z2) fun _ _ _ z => z

theorem all_mk {l : PySem.W.OpenLaw} {q : Program} {w : World} {K : PySem.W.Frag} {h : Heap} {mg : Str → Option Value} {fa f0 f1 f2 f3 f4 f5 f6 f7 f8 f9 f10 f11 f12 f13 f14 f15 f16 f17 f18 f19 f20 f21 f22 f23 f24 f25 f26 f27 f28 f29 f30 f31 f32 f33 f34 f35 : Addr} {c3 P3 c4 P4 c5 P5 c10 P10 c11 P11 c12 P12 c14 P14 c16 P16 : Addr} (X : K.In h) (G : h.Ns mainGlobals mg) (hfa : mg "law" = some (.ref fa)) (TT : Tabs q mg h)
    {od0 an0 od1 an1 od2 an2 od3 an3 od4 an4 od5 an5 od6 an6 od7 an7 od8 an8 od9 an9 od10 an10 od11 an11 od12 an12 od13 an13 od14 an14 od15 an15 od16 an16 od17 an17 od18 an18 od19 an19 od20 an20 od21 an21 od22 an22 od23 an23 od24 an24 od25 an25 od26 an26 od27 an27 od28 an28 od29 an29 od30 an30 od31 an31 od32 an32 od33 an33 od34 an34 od35 an35 : Option Addr} {sl0 sl1 sl2 sl3 sl4 sl5 sl6 sl7 sl8 sl9 sl10 sl11 sl12 sl13 sl14 sl15 sl16 sl17 sl18 sl19 sl20 sl21 sl22 sl23 sl24 sl25 sl26 sl27 sl28 sl29 sl30 sl31 sl32 sl33 sl34 sl35 : Array (Option Value)} {oc0 kV0 dc0 pm0 ct0 cd0 oc1 kV1 dc1 pm1 ct1 cd1 oc2 kV2 dc2 pm2 ct2 cd2 oc3 kV3 dc3 pm3 ct3 oc4 kV4 dc4 pm4 ct4 oc5 kV5 dc5 pm5 ct5 oc6 kV6 dc6 pm6 ct6 cd6 oc7 kV7 dc7 pm7 ct7 cd7 oc8 kV8 dc8 pm8 ct8 cd8 oc9 kV9 dc9 pm9 ct9 cd9 oc10 kV10 dc10 pm10 ct10 oc11 kV11 dc11 pm11 ct11 oc12 kV12 dc12 pm12 ct12 oc13 kV13 dc13 pm13 ct13 cd13 oc14 kV14 dc14 pm14 ct14 oc15 kV15 dc15 pm15 ct15 cd15 oc16 kV16 dc16 pm16 ct16 oc17 kV17 dc17 pm17 ct17 cd17 oc18 kV18 dc18 pm18 ct18 cd18 oc19 kV19 dc19 pm19 ct19 cd19 oc20 kV20 dc20 pm20 ct20 cd20 oc21 kV21 dc21 pm21 ct21 cd21 oc22 kV22 dc22 pm22 ct22 cd22 oc23 kV23 dc23 pm23 ct23 cd23 oc24 kV24 dc24 pm24 ct24 cd24 oc25 kV25 dc25 pm25 ct25 cd25 oc26 kV26 dc26 pm26 ct26 cd26 oc27 kV27 dc27 pm27 ct27 cd27 oc28 kV28 dc28 pm28 ct28 cd28 oc29 kV29 dc29 pm29 ct29 cd29 oc30 kV30 dc30 pm30 ct30 cd30 oc31 kV31 dc31 pm31 ct31 cd31 oc32 kV32 dc32 pm32 ct32 cd32 oc33 kV33 dc33 pm33 ct33 cd33 oc34 kV34 dc34 pm34 ct34 cd34 oc35 kV35 dc35 pm35 ct35 cd35 : Value}
    {e3 : Value} {dd3 : Option Addr} {vs3 : Array Value} {sc3 : Array (Option Value)} {e4 : Value} {dd4 : Option Addr} {vs4 : Array Value} {sc4 : Array (Option Value)} {e5 : Value} {dd5 : Option Addr} {vs5 : Array Value} {sc5 : Array (Option Value)} {e10 : Value} {dd10 : Option Addr} {vs10 : Array Value} {sc10 : Array (Option Value)} {e11 : Value} {dd11 : Option Addr} {vs11 : Array Value} {sc11 : Array (Option Value)} {e12 : Value} {dd12 : Option Addr} {vs12 : Array Value} {sc12 : Array (Option Value)} {e14 : Value} {dd14 : Option Addr} {vs14 : Array Value} {sc14 : Array (Option Value)} {e16 : Value} {dd16 : Option Addr} {vs16 : Array Value} {sc16 : Array (Option Value)}
    (a0 : PySem.W.nsIn K mainGlobals "is_row" = some (some (.ref f0))) (l0 : K.lookup f0 = some ⟨oc0, od0, .func (PySem.W.fnOf "is_row" "is_row" (defArgs sIsRow) (defBody sIsRow) (defScope sIsRow) .none kV0 dc0 pm0 an0 cd0 ct0), sl0⟩) (c0' : PySem.W.codeIn K cd0 "is_row" = true) (k0 : PySem.W.keepIn K (.ref f0) = true)
    (a1 : PySem.W.nsIn K mainGlobals "is_tuple_of" = some (some (.ref f1))) (l1 : K.lookup f1 = some ⟨oc1, od1, .func (PySem.W.fnOf "is_tuple_of" "is_tuple_of" (defArgs sTupOf) (defBody sTupOf) (defScope sTupOf) .none kV1 dc1 pm1 an1 cd1 ct1), sl1⟩) (c1' : PySem.W.codeIn K cd1 "is_tuple_of" = true) (k1 : PySem.W.keepIn K (.ref f1) = true)
    (a2 : PySem.W.nsIn K mainGlobals "is_number" = some (some (.ref f2))) (l2 : K.lookup f2 = some ⟨oc2, od2, .func (PySem.W.fnOf "is_number" "is_number" (defArgs sIsNum) (defBody sIsNum) (defScope sIsNum) .none kV2 dc2 pm2 an2 cd2 ct2), sl2⟩) (c2' : PySem.W.codeIn K cd2 "is_number" = true) (k2 : PySem.W.keepIn K (.ref f2) = true)
    (a3 : PySem.W.nsIn K mainGlobals "are_numbers" = some (some (.ref f3))) (l3 : K.lookup f3 = some ⟨oc3, od3, .func (PySem.W.fnOf "are_numbers" "are_numbers" (defArgs sNums) (defBody sNums) (defScope sNums) .none kV3 dc3 pm3 an3 (.ref c3) ct3), sl3⟩) (c3' : PySem.W.codeIn K (.ref c3) "are_numbers" = true) (k3 : PySem.W.keepIn K (.ref f3) = true)
    (a4 : PySem.W.nsIn K mainGlobals "are_rising" = some (some (.ref f4))) (l4 : K.lookup f4 = some ⟨oc4, od4, .func (PySem.W.fnOf "are_rising" "are_rising" (defArgs sRising) (defBody sRising) (defScope sRising) .none kV4 dc4 pm4 an4 (.ref c4) ct4), sl4⟩) (c4' : PySem.W.codeIn K (.ref c4) "are_rising" = true) (k4 : PySem.W.keepIn K (.ref f4) = true)
    (a5 : PySem.W.nsIn K mainGlobals "are_rising_below" = some (some (.ref f5))) (l5 : K.lookup f5 = some ⟨oc5, od5, .func (PySem.W.fnOf "are_rising_below" "are_rising_below" (defArgs sBelow) (defBody sBelow) (defScope sBelow) .none kV5 dc5 pm5 an5 (.ref c5) ct5), sl5⟩) (c5' : PySem.W.codeIn K (.ref c5) "are_rising_below" = true) (k5 : PySem.W.keepIn K (.ref f5) = true)
    (a6 : PySem.W.nsIn K mainGlobals "set_of" = some (some (.ref f6))) (l6 : K.lookup f6 = some ⟨oc6, od6, .func (PySem.W.fnOf "set_of" "set_of" (defArgs sSetOf) (defBody sSetOf) (defScope sSetOf) .none kV6 dc6 pm6 an6 cd6 ct6), sl6⟩) (c6' : PySem.W.codeIn K cd6 "set_of" = true) (k6 : PySem.W.keepIn K (.ref f6) = true)
    (a7 : PySem.W.nsIn K mainGlobals "both_of" = some (some (.ref f7))) (l7 : K.lookup f7 = some ⟨oc7, od7, .func (PySem.W.fnOf "both_of" "both_of" (defArgs sBoth) (defBody sBoth) (defScope sBoth) .none kV7 dc7 pm7 an7 cd7 ct7), sl7⟩) (c7' : PySem.W.codeIn K cd7 "both_of" = true) (k7 : PySem.W.keepIn K (.ref f7) = true)
    (a8 : PySem.W.nsIn K mainGlobals "gaps_of" = some (some (.ref f8))) (l8 : K.lookup f8 = some ⟨oc8, od8, .func (PySem.W.fnOf "gaps_of" "gaps_of" (defArgs sGaps) (defBody sGaps) (defScope sGaps) .none kV8 dc8 pm8 an8 cd8 ct8), sl8⟩) (c8' : PySem.W.codeIn K cd8 "gaps_of" = true) (k8 : PySem.W.keepIn K (.ref f8) = true)
    (a9 : PySem.W.nsIn K mainGlobals "without" = some (some (.ref f9))) (l9 : K.lookup f9 = some ⟨oc9, od9, .func (PySem.W.fnOf "without" "without" (defArgs sWithout) (defBody sWithout) (defScope sWithout) .none kV9 dc9 pm9 an9 cd9 ct9), sl9⟩) (c9' : PySem.W.codeIn K cd9 "without" = true) (k9 : PySem.W.keepIn K (.ref f9) = true)
    (a10 : PySem.W.nsIn K mainGlobals "is_in" = some (some (.ref f10))) (l10 : K.lookup f10 = some ⟨oc10, od10, .func (PySem.W.fnOf "is_in" "is_in" (defArgs sIsIn) (defBody sIsIn) (defScope sIsIn) .none kV10 dc10 pm10 an10 (.ref c10) ct10), sl10⟩) (c10' : PySem.W.codeIn K (.ref c10) "is_in" = true) (k10 : PySem.W.keepIn K (.ref f10) = true)
    (a11 : PySem.W.nsIn K mainGlobals "each_has_one" = some (some (.ref f11))) (l11 : K.lookup f11 = some ⟨oc11, od11, .func (PySem.W.fnOf "each_has_one" "each_has_one" (defArgs sEach) (defBody sEach) (defScope sEach) .none kV11 dc11 pm11 an11 (.ref c11) ct11), sl11⟩) (c11' : PySem.W.codeIn K (.ref c11) "each_has_one" = true) (k11 : PySem.W.keepIn K (.ref f11) = true)
    (a12 : PySem.W.nsIn K mainGlobals "are_apart" = some (some (.ref f12))) (l12 : K.lookup f12 = some ⟨oc12, od12, .func (PySem.W.fnOf "are_apart" "are_apart" (defArgs sApart) (defBody sApart) (defScope sApart) .none kV12 dc12 pm12 an12 (.ref c12) ct12), sl12⟩) (c12' : PySem.W.codeIn K (.ref c12) "are_apart" = true) (k12 : PySem.W.keepIn K (.ref f12) = true)
    (a13 : PySem.W.nsIn K mainGlobals "shows_blind" = some (some (.ref f13))) (l13 : K.lookup f13 = some ⟨oc13, od13, .func (PySem.W.fnOf "shows_blind" "shows_blind" (defArgs sSBlind) (defBody sSBlind) (defScope sSBlind) .none kV13 dc13 pm13 an13 cd13 ct13), sl13⟩) (c13' : PySem.W.codeIn K cd13 "shows_blind" = true) (k13 : PySem.W.keepIn K (.ref f13) = true)
    (a14 : PySem.W.nsIn K mainGlobals "shows_fewest" = some (some (.ref f14))) (l14 : K.lookup f14 = some ⟨oc14, od14, .func (PySem.W.fnOf "shows_fewest" "shows_fewest" (defArgs sSFew) (defBody sSFew) (defScope sSFew) .none kV14 dc14 pm14 an14 (.ref c14) ct14), sl14⟩) (c14' : PySem.W.codeIn K (.ref c14) "shows_fewest" = true) (k14 : PySem.W.keepIn K (.ref f14) = true)
    (a15 : PySem.W.nsIn K mainGlobals "shows_samples" = some (some (.ref f15))) (l15 : K.lookup f15 = some ⟨oc15, od15, .func (PySem.W.fnOf "shows_samples" "shows_samples" (defArgs sShows) (defBody sShows) (defScope sShows) .none kV15 dc15 pm15 an15 cd15 ct15), sl15⟩) (c15' : PySem.W.codeIn K cd15 "shows_samples" = true) (k15 : PySem.W.keepIn K (.ref f15) = true)
    (a16 : PySem.W.nsIn K mainGlobals "least_samples" = some (some (.ref f16))) (l16 : K.lookup f16 = some ⟨oc16, od16, .func (PySem.W.fnOf "least_samples" "least_samples" (defArgs sLeast) (defBody sLeast) (defScope sLeast) .none kV16 dc16 pm16 an16 (.ref c16) ct16), sl16⟩) (c16' : PySem.W.codeIn K (.ref c16) "least_samples" = true) (k16 : PySem.W.keepIn K (.ref f16) = true)
    (a17 : PySem.W.nsIn K mainGlobals "_law_begin" = some (some (.ref f17))) (l17 : K.lookup f17 = some ⟨oc17, od17, .func (PySem.W.fnOf "_law_begin" "_law_begin" (defArgs sBegin) (defBody sBegin) (defScope sBegin) .none kV17 dc17 pm17 an17 cd17 ct17), sl17⟩) (c17' : PySem.W.codeIn K cd17 "_law_begin" = true) (k17 : PySem.W.keepIn K (.ref f17) = true)
    (a18 : PySem.W.nsIn K mainGlobals "_law_take" = some (some (.ref f18))) (l18 : K.lookup f18 = some ⟨oc18, od18, .func (PySem.W.fnOf "_law_take" "_law_take" (defArgs sTake) (defBody sTake) (defScope sTake) .none kV18 dc18 pm18 an18 cd18 ct18), sl18⟩) (c18' : PySem.W.codeIn K cd18 "_law_take" = true) (k18 : PySem.W.keepIn K (.ref f18) = true)
    (a19 : PySem.W.nsIn K mainGlobals "_law_great" = some (some (.ref f19))) (l19 : K.lookup f19 = some ⟨oc19, od19, .func (PySem.W.fnOf "_law_great" "_law_great" (defArgs sGreat) (defBody sGreat) (defScope sGreat) .none kV19 dc19 pm19 an19 cd19 ct19), sl19⟩) (c19' : PySem.W.codeIn K cd19 "_law_great" = true) (k19 : PySem.W.keepIn K (.ref f19) = true)
    (a20 : PySem.W.nsIn K mainGlobals "_law_gone" = some (some (.ref f20))) (l20 : K.lookup f20 = some ⟨oc20, od20, .func (PySem.W.fnOf "_law_gone" "_law_gone" (defArgs sGone) (defBody sGone) (defScope sGone) .none kV20 dc20 pm20 an20 cd20 ct20), sl20⟩) (c20' : PySem.W.codeIn K cd20 "_law_gone" = true) (k20 : PySem.W.keepIn K (.ref f20) = true)
    (a21 : PySem.W.nsIn K mainGlobals "_law_runs" = some (some (.ref f21))) (l21 : K.lookup f21 = some ⟨oc21, od21, .func (PySem.W.fnOf "_law_runs" "_law_runs" (defArgs sRuns) (defBody sRuns) (defScope sRuns) .none kV21 dc21 pm21 an21 cd21 ct21), sl21⟩) (c21' : PySem.W.codeIn K cd21 "_law_runs" = true) (k21 : PySem.W.keepIn K (.ref f21) = true)
    (a22 : PySem.W.nsIn K mainGlobals "_law_moved" = some (some (.ref f22))) (l22 : K.lookup f22 = some ⟨oc22, od22, .func (PySem.W.fnOf "_law_moved" "_law_moved" (defArgs sMoved) (defBody sMoved) (defScope sMoved) .none kV22 dc22 pm22 an22 cd22 ct22), sl22⟩) (c22' : PySem.W.codeIn K cd22 "_law_moved" = true) (k22 : PySem.W.keepIn K (.ref f22) = true)
    (a23 : PySem.W.nsIn K mainGlobals "_law_left" = some (some (.ref f23))) (l23 : K.lookup f23 = some ⟨oc23, od23, .func (PySem.W.fnOf "_law_left" "_law_left" (defArgs sLLeft) (defBody sLLeft) (defScope sLLeft) .none kV23 dc23 pm23 an23 cd23 ct23), sl23⟩) (c23' : PySem.W.codeIn K cd23 "_law_left" = true) (k23 : PySem.W.keepIn K (.ref f23) = true)
    (a24 : PySem.W.nsIn K mainGlobals "_law_share" = some (some (.ref f24))) (l24 : K.lookup f24 = some ⟨oc24, od24, .func (PySem.W.fnOf "_law_share" "_law_share" (defArgs sShare) (defBody sShare) (defScope sShare) .none kV24 dc24 pm24 an24 cd24 ct24), sl24⟩) (c24' : PySem.W.codeIn K cd24 "_law_share" = true) (k24 : PySem.W.keepIn K (.ref f24) = true)
    (a25 : PySem.W.nsIn K mainGlobals "_law_is_number" = some (some (.ref f25))) (l25 : K.lookup f25 = some ⟨oc25, od25, .func (PySem.W.fnOf "_law_is_number" "_law_is_number" (defArgs sLNum) (defBody sLNum) (defScope sLNum) .none kV25 dc25 pm25 an25 cd25 ct25), sl25⟩) (c25' : PySem.W.codeIn K cd25 "_law_is_number" = true) (k25 : PySem.W.keepIn K (.ref f25) = true)
    (a26 : PySem.W.nsIn K mainGlobals "_law_rising" = some (some (.ref f26))) (l26 : K.lookup f26 = some ⟨oc26, od26, .func (PySem.W.fnOf "_law_rising" "_law_rising" (defArgs sLRis) (defBody sLRis) (defScope sLRis) .none kV26 dc26 pm26 an26 cd26 ct26), sl26⟩) (c26' : PySem.W.codeIn K cd26 "_law_rising" = true) (k26 : PySem.W.keepIn K (.ref f26) = true)
    (a27 : PySem.W.nsIn K mainGlobals "_law_samples_shown" = some (some (.ref f27))) (l27 : K.lookup f27 = some ⟨oc27, od27, .func (PySem.W.fnOf "_law_samples_shown" "_law_samples_shown" (defArgs sSShown) (defBody sSShown) (defScope sSShown) .none kV27 dc27 pm27 an27 cd27 ct27), sl27⟩) (c27' : PySem.W.codeIn K cd27 "_law_samples_shown" = true) (k27 : PySem.W.keepIn K (.ref f27) = true)
    (a28 : PySem.W.nsIn K mainGlobals "_law_spots" = some (some (.ref f28))) (l28 : K.lookup f28 = some ⟨oc28, od28, .func (PySem.W.fnOf "_law_spots" "_law_spots" (defArgs sSpots) (defBody sSpots) (defScope sSpots) .none kV28 dc28 pm28 an28 cd28 ct28), sl28⟩) (c28' : PySem.W.codeIn K cd28 "_law_spots" = true) (k28 : PySem.W.keepIn K (.ref f28) = true)
    (a29 : PySem.W.nsIn K mainGlobals "_law_of" = some (some (.ref f29))) (l29 : K.lookup f29 = some ⟨oc29, od29, .func (PySem.W.fnOf "_law_of" "_law_of" (defArgs sOf) (defBody sOf) (defScope sOf) .none kV29 dc29 pm29 an29 cd29 ct29), sl29⟩) (c29' : PySem.W.codeIn K cd29 "_law_of" = true) (k29 : PySem.W.keepIn K (.ref f29) = true)
    (a30 : PySem.W.nsIn K mainGlobals "_law_step" = some (some (.ref f30))) (l30 : K.lookup f30 = some ⟨oc30, od30, .func (PySem.W.fnOf "_law_step" "_law_step" (defArgs sStep) (defBody sStep) (defScope sStep) .none kV30 dc30 pm30 an30 cd30 ct30), sl30⟩) (c30' : PySem.W.codeIn K cd30 "_law_step" = true) (k30 : PySem.W.keepIn K (.ref f30) = true)
    (a31 : PySem.W.nsIn K mainGlobals "_law_bent" = some (some (.ref f31))) (l31 : K.lookup f31 = some ⟨oc31, od31, .func (PySem.W.fnOf "_law_bent" "_law_bent" (defArgs sBent) (defBody sBent) (defScope sBent) .none kV31 dc31 pm31 an31 cd31 ct31), sl31⟩) (c31' : PySem.W.codeIn K cd31 "_law_bent" = true) (k31 : PySem.W.keepIn K (.ref f31) = true)
    (a32 : PySem.W.nsIn K mainGlobals "_law_bent_anywhere" = some (some (.ref f32))) (l32 : K.lookup f32 = some ⟨oc32, od32, .func (PySem.W.fnOf "_law_bent_anywhere" "_law_bent_anywhere" (defArgs sAnyw) (defBody sAnyw) (defScope sAnyw) .none kV32 dc32 pm32 an32 cd32 ct32), sl32⟩) (c32' : PySem.W.codeIn K cd32 "_law_bent_anywhere" = true) (k32 : PySem.W.keepIn K (.ref f32) = true)
    (a33 : PySem.W.nsIn K mainGlobals "_law_small_case" = some (some (.ref f33))) (l33 : K.lookup f33 = some ⟨oc33, od33, .func (PySem.W.fnOf "_law_small_case" "_law_small_case" (defArgs sSmall) (defBody sSmall) (defScope sSmall) .none kV33 dc33 pm33 an33 cd33 ct33), sl33⟩) (c33' : PySem.W.codeIn K cd33 "_law_small_case" = true) (k33 : PySem.W.keepIn K (.ref f33) = true)
    (a34 : PySem.W.nsIn K mainGlobals "_law_paper" = some (some (.ref f34))) (l34 : K.lookup f34 = some ⟨oc34, od34, .func (PySem.W.fnOf "_law_paper" "_law_paper" (defArgs sPaper) (defBody sPaper) (defScope sPaper) .none kV34 dc34 pm34 an34 cd34 ct34), sl34⟩) (c34' : PySem.W.codeIn K cd34 "_law_paper" = true) (k34 : PySem.W.keepIn K (.ref f34) = true)
    (a35 : PySem.W.nsIn K mainGlobals "law" = some (some (.ref f35))) (l35 : K.lookup f35 = some ⟨oc35, od35, .func (PySem.W.fnOf "law" "law" (defArgs sLaw) (defBody sLaw) (defScope sLaw) .none kV35 dc35 pm35 an35 cd35 ct35), sl35⟩) (c35' : PySem.W.codeIn K cd35 "law" = true) (k35 : PySem.W.keepIn K (.ref f35) = true)
    (lc3 : K.lookup c3 = some ⟨e3, dd3, .fields vs3, sc3⟩) (v3 : vs3[11]? = some (.ref P3)) (nP3 : K.lookup P3 = none) (r3 : ((recsOf q).any fun e => e.name == ("are_numbers" : Str)) = true)
    (lc4 : K.lookup c4 = some ⟨e4, dd4, .fields vs4, sc4⟩) (v4 : vs4[11]? = some (.ref P4)) (nP4 : K.lookup P4 = none) (r4 : ((recsOf q).any fun e => e.name == ("are_rising" : Str)) = true)
    (lc5 : K.lookup c5 = some ⟨e5, dd5, .fields vs5, sc5⟩) (v5 : vs5[11]? = some (.ref P5)) (nP5 : K.lookup P5 = none) (r5 : ((recsOf q).any fun e => e.name == ("are_rising_below" : Str)) = true)
    (lc10 : K.lookup c10 = some ⟨e10, dd10, .fields vs10, sc10⟩) (v10 : vs10[11]? = some (.ref P10)) (nP10 : K.lookup P10 = none) (r10 : ((recsOf q).any fun e => e.name == ("is_in" : Str)) = true)
    (lc11 : K.lookup c11 = some ⟨e11, dd11, .fields vs11, sc11⟩) (v11 : vs11[11]? = some (.ref P11)) (nP11 : K.lookup P11 = none) (r11 : ((recsOf q).any fun e => e.name == ("each_has_one" : Str)) = true)
    (lc12 : K.lookup c12 = some ⟨e12, dd12, .fields vs12, sc12⟩) (v12 : vs12[11]? = some (.ref P12)) (nP12 : K.lookup P12 = none) (r12 : ((recsOf q).any fun e => e.name == ("are_apart" : Str)) = true)
    (lc14 : K.lookup c14 = some ⟨e14, dd14, .fields vs14, sc14⟩) (v14 : vs14[11]? = some (.ref P14)) (nP14 : K.lookup P14 = none) (r14 : ((recsOf q).any fun e => e.name == ("shows_fewest" : Str)) = true)
    (lc16 : K.lookup c16 = some ⟨e16, dd16, .fields vs16, sc16⟩) (v16 : vs16[11]? = some (.ref P16)) (nP16 : K.lookup P16 = none) (r16 : ((recsOf q).any fun e => e.name == ("least_samples" : Str)) = true)
    (x_PP : P16 ∉ [P10, P3, P4, P5, P11, P12, P14])
    (z_all : PySem.W.nsIn K mainGlobals "all" = some none) (z_any : PySem.W.nsIn K mainGlobals "any" = some none) (z_bool : PySem.W.nsIn K mainGlobals "bool" = some none) (z_divmod : PySem.W.nsIn K mainGlobals "divmod" = some none) (z_enumerate : PySem.W.nsIn K mainGlobals "enumerate" = some none) (z_int : PySem.W.nsIn K mainGlobals "int" = some none) (z_isinstance : PySem.W.nsIn K mainGlobals "isinstance" = some none) (z_len : PySem.W.nsIn K mainGlobals "len" = some none) (z_list : PySem.W.nsIn K mainGlobals "list" = some none) (z_max : PySem.W.nsIn K mainGlobals "max" = some none) (z_min : PySem.W.nsIn K mainGlobals "min" = some none) (z_range : PySem.W.nsIn K mainGlobals "range" = some none) (z_sorted : PySem.W.nsIn K mainGlobals "sorted" = some none) (z_str : PySem.W.nsIn K mainGlobals "str" = some none) (z_tuple : PySem.W.nsIn K mainGlobals "tuple" = some none) (z_zip : PySem.W.nsIn K mainGlobals "zip" = some none) :
    LawAtTG l w K 14 mg fa h := by
  cases hfa.symm.trans (PySem.W.mg_of X G a35)
  have F0 := fun_mk (st := sIsRow) l0 c0' k0
  have b0 := F0.binds (ps := ["thing"]) fun _ _ _ _ _ _ us hl => match us, hl with | [_], _ => rfl
  have F1 := fun_mk (st := sTupOf) l1 c1' k1
  have b1 := F1.binds (ps := ["thing", "many"]) fun _ _ _ _ _ _ us hl => match us, hl with | [_, _], _ => rfl
  have F2 := fun_mk (st := sIsNum) l2 c2' k2
  have b2 := F2.binds (ps := ["thing"]) fun _ _ _ _ _ _ us hl => match us, hl with | [_], _ => rfl
  have F3 := fun_mk (st := sNums) l3 c3' k3
  have b3 := F3.binds (ps := ["thing"]) fun _ _ _ _ _ _ us hl => match us, hl with | [_], _ => rfl
  have F4 := fun_mk (st := sRising) l4 c4' k4
  have b4 := F4.binds (ps := ["thing"]) fun _ _ _ _ _ _ us hl => match us, hl with | [_], _ => rfl
  have F5 := fun_mk (st := sBelow) l5 c5' k5
  have b5 := F5.binds (ps := ["thing", "many"]) fun _ _ _ _ _ _ us hl => match us, hl with | [_, _], _ => rfl
  have F6 := fun_mk (st := sSetOf) l6 c6' k6
  have b6 := F6.binds (ps := ["pairs"]) fun _ _ _ _ _ _ us hl => match us, hl with | [_], _ => rfl
  have F7 := fun_mk (st := sBoth) l7 c7' k7
  have b7 := F7.binds (ps := ["one", "other"]) fun _ _ _ _ _ _ us hl => match us, hl with | [_, _], _ => rfl
  have F8 := fun_mk (st := sGaps) l8 c8' k8
  have b8 := F8.binds (ps := ["some", "begin", "end"]) fun _ _ _ _ _ _ us hl => match us, hl with | [_, _, _], _ => rfl
  have F9 := fun_mk (st := sWithout) l9 c9' k9
  have b9 := F9.binds (ps := ["one", "other"]) fun _ _ _ _ _ _ us hl => match us, hl with | [_, _], _ => rfl
  have F10 := fun_mk (st := sIsIn) l10 c10' k10
  have b10 := F10.binds (ps := ["some", "number"]) fun _ _ _ _ _ _ us hl => match us, hl with | [_, _], _ => rfl
  have F11 := fun_mk (st := sEach) l11 c11' k11
  have b11 := F11.binds (ps := ["runs", "numbers"]) fun _ _ _ _ _ _ us hl => match us, hl with | [_, _], _ => rfl
  have F12 := fun_mk (st := sApart) l12 c12' k12
  have b12 := F12.binds (ps := ["runs", "gone", "apart"]) fun _ _ _ _ _ _ us hl => match us, hl with | [_, _, _], _ => rfl
  have F13 := fun_mk (st := sSBlind) l13 c13' k13
  have b13 := F13.binds (ps := ["runs", "gone", "told"]) fun _ _ _ _ _ _ us hl => match us, hl with | [_, _, _], _ => rfl
  have F14 := fun_mk (st := sSFew) l14 c14' k14
  have b14 := F14.binds (ps := ["runs", "gone", "told"]) fun _ _ _ _ _ _ us hl => match us, hl with | [_, _, _], _ => rfl
  have F15 := fun_mk (st := sShows) l15 c15' k15
  have b15 := F15.binds (ps := ["runs", "gone", "told"]) fun _ _ _ _ _ _ us hl => match us, hl with | [_, _, _], _ => rfl
  have F16 := fun_mk (st := sLeast) l16 c16' k16
  have b16 := F16.binds (ps := ["runs", "gone"]) fun _ _ _ _ _ _ us hl => match us, hl with | [_, _], _ => rfl
  have F17 := fun_mk (st := sBegin) l17 c17' k17
  have b17 := F17.binds (ps := ["_law_script"]) fun _ _ _ _ _ _ us hl => match us, hl with | [_], _ => rfl
  have F18 := fun_mk (st := sTake) l18 c18' k18
  have b18 := F18.binds (ps := ["_law_state", "_law_many"]) fun _ _ _ _ _ _ us hl => match us, hl with | [_, _], _ => rfl
  have F19 := fun_mk (st := sGreat) l19 c19' k19
  have b19 := F19.binds (ps := ["_law_state"]) fun _ _ _ _ _ _ us hl => match us, hl with | [_], _ => rfl
  have F20 := fun_mk (st := sGone) l20 c20' k20
  have b20 := F20.binds (ps := ["_law_state", "_law_most", "_law_rare"]) fun _ _ _ _ _ _ us hl => match us, hl with | [_, _, _], _ => rfl
  have F21 := fun_mk (st := sRuns) l21 c21' k21
  have b21 := F21.binds (ps := ["_law_state", "_law_many", "_law_most", "_law_wide"]) fun _ _ _ _ _ _ us hl => match us, hl with | [_, _, _, _], _ => rfl
  have F22 := fun_mk (st := sMoved) l22 c22' k22
  have b22 := F22.binds (ps := ["_law_pairs", "_law_many", "_law_shift"]) fun _ _ _ _ _ _ us hl => match us, hl with | [_, _, _], _ => rfl
  have F23 := fun_mk (st := sLLeft) l23 c23' k23
  have b23 := F23.binds (ps := ["_law_span", "_law_gone_here"]) fun _ _ _ _ _ _ us hl => match us, hl with | [_, _], _ => rfl
  have F24 := fun_mk (st := sShare) l24 c24' k24
  have b24 := F24.binds (ps := ["_law_one", "_law_other"]) fun _ _ _ _ _ _ us hl => match us, hl with | [_, _], _ => rfl
  have F25 := fun_mk (st := sLNum) l25 c25' k25
  have b25 := F25.binds (ps := ["_law_thing"]) fun _ _ _ _ _ _ us hl => match us, hl with | [_], _ => rfl
  have F26 := fun_mk (st := sLRis) l26 c26' k26
  have b26 := F26.binds (ps := ["_law_thing"]) fun _ _ _ _ _ _ us hl => match us, hl with | [_], _ => rfl
  have F27 := fun_mk (st := sSShown) l27 c27' k27
  have b27 := F27.binds (ps := ["_law_runs_here", "_law_gone_here", "_law_told"]) fun _ _ _ _ _ _ us hl => match us, hl with | [_, _, _], _ => rfl
  have F28 := fun_mk (st := sSpots) l28 c28' k28
  have b28 := F28.binds (ps := ["_law_thing"]) fun _ _ _ _ _ _ us hl => match us, hl with | [_], _ => rfl
  have F29 := fun_mk (st := sOf) l29 c29' k29
  have b29 := F29.binds (ps := ["_law_thing", "_law_parts"]) fun _ _ _ _ _ _ us hl => match us, hl with | [_, _], _ => rfl
  have F30 := fun_mk (st := sStep) l30 c30' k30
  have b30 := F30.binds (ps := ["_law_state", "_law_thing"]) fun _ _ _ _ _ _ us hl => match us, hl with | [_, _], _ => rfl
  have F31 := fun_mk (st := sBent) l31 c31' k31
  have b31 := F31.binds (ps := ["_law_state", "_law_thing", "_law_spot"]) fun _ _ _ _ _ _ us hl => match us, hl with | [_, _, _], _ => rfl
  have F32 := fun_mk (st := sAnyw) l32 c32' k32
  have b32 := F32.binds (ps := ["_law_state", "_law_told"]) fun _ _ _ _ _ _ us hl => match us, hl with | [_, _], _ => rfl
  have F33 := fun_mk (st := sSmall) l33 c33' k33
  have b33 := F33.binds (ps := ["_law_state"]) fun _ _ _ _ _ _ us hl => match us, hl with | [_], _ => rfl
  have F34 := fun_mk (st := sPaper) l34 c34' k34
  have b34 := F34.binds (ps := ["_law_state", "_law_runs_here", "_law_gone_here", "_law_told"]) fun _ _ _ _ _ _ us hl => match us, hl with | [_, _, _, _], _ => rfl
  have F35 := fun_mk (st := sLaw) l35 c35' k35
  have m_all := PySem.W.mg_none_of X G z_all
  have m_any := PySem.W.mg_none_of X G z_any
  have m_bool := PySem.W.mg_none_of X G z_bool
  have m_divmod := PySem.W.mg_none_of X G z_divmod
  have m_enumerate := PySem.W.mg_none_of X G z_enumerate
  have m_int := PySem.W.mg_none_of X G z_int
  have m_isinstance := PySem.W.mg_none_of X G z_isinstance
  have m_len := PySem.W.mg_none_of X G z_len
  have m_list := PySem.W.mg_none_of X G z_list
  have m_max := PySem.W.mg_none_of X G z_max
  have m_min := PySem.W.mg_none_of X G z_min
  have m_range := PySem.W.mg_none_of X G z_range
  have m_sorted := PySem.W.mg_none_of X G z_sorted
  have m_str := PySem.W.mg_none_of X G z_str
  have m_tuple := PySem.W.mg_none_of X G z_tuple
  have m_zip := PySem.W.mg_none_of X G z_zip
  have tb3 := tab_in TT X r3 (PySem.W.mg_of X G a3) l3 rfl lc3 v3
  have tb4 := tab_in TT X r4 (PySem.W.mg_of X G a4) l4 rfl lc4 v4
  have tb5 := tab_in TT X r5 (PySem.W.mg_of X G a5) l5 rfl lc5 v5
  have tb10 := tab_in TT X r10 (PySem.W.mg_of X G a10) l10 rfl lc10 v10
  have tb11 := tab_in TT X r11 (PySem.W.mg_of X G a11) l11 rfl lc11 v11
  have tb12 := tab_in TT X r12 (PySem.W.mg_of X G a12) l12 rfl lc12 v12
  have tb14 := tab_in TT X r14 (PySem.W.mg_of X G a14) l14 rfl lc14 v14
  have tb16 := tab_in TT X r16 (PySem.W.mg_of X G a16) l16 rfl lc16 v16
  refine ⟨PySem.W.fnOf "law" "law" (defArgs sLaw) (defBody sLaw) (defScope sLaw) .none kV35 dc35 pm35 an35 cd35 ct35, [(c3, P3), (c4, P4), (c5, P5), (c10, P10), (c11, P11), (c12, P12), (c14, P14), (c16, P16)], spLaw K ⟨[P10, P3, P4, P5, P11, P12, P14], [(P16, qL)]⟩ [P16, P10, P3, P4, P5, P11, P12, P14] P16 P3 P4 P5 P11 P12 P10 P14, List.forall_mem_cons.mpr ⟨tb3.2, List.forall_mem_cons.mpr ⟨tb4.2, List.forall_mem_cons.mpr ⟨tb5.2, List.forall_mem_cons.mpr ⟨tb10.2, List.forall_mem_cons.mpr ⟨tb11.2, List.forall_mem_cons.mpr ⟨tb12.2, List.forall_mem_cons.mpr ⟨tb14.2, List.forall_mem_cons.mpr ⟨tb16.2, fun _ z => nomatch z⟩⟩⟩⟩⟩⟩⟩⟩, List.forall_mem_cons.mpr ⟨nP3, List.forall_mem_cons.mpr ⟨nP4, List.forall_mem_cons.mpr ⟨nP5, List.forall_mem_cons.mpr ⟨nP10, List.forall_mem_cons.mpr ⟨nP11, List.forall_mem_cons.mpr ⟨nP12, List.forall_mem_cons.mpr ⟨nP14, List.forall_mem_cons.mpr ⟨nP16, fun _ z => nomatch z⟩⟩⟩⟩⟩⟩⟩⟩, List.forall_mem_cons.mpr ⟨tb3.1, List.forall_mem_cons.mpr ⟨tb4.1, List.forall_mem_cons.mpr ⟨tb5.1, List.forall_mem_cons.mpr ⟨tb10.1, List.forall_mem_cons.mpr ⟨tb11.1, List.forall_mem_cons.mpr ⟨tb12.1, List.forall_mem_cons.mpr ⟨tb14.1, List.forall_mem_cons.mpr ⟨tb16.1, fun _ z => nomatch z⟩⟩⟩⟩⟩⟩⟩⟩, fun s v => .of_eq rfl, fun H a ns hl _ hH hS => ?_, fun base _ _ TB => ?_⟩
  · have hT3 : GxR.TabG H P3 := ⟨#[], hH (c3, P3) (List.mem_cons_self ..), trivial⟩; have hT4 : GxR.TabG H P4 := ⟨#[], hH (c4, P4) (List.mem_cons_of_mem _ (List.mem_cons_self ..)), trivial⟩; have hT5 : GxR.TabG H P5 := ⟨#[], hH (c5, P5) (List.mem_cons_of_mem _ (List.mem_cons_of_mem _ (List.mem_cons_self ..))), trivial⟩; have hT10 : GxR.TabG H P10 := ⟨#[], hH (c10, P10) (List.mem_cons_of_mem _ (List.mem_cons_of_mem _ (List.mem_cons_of_mem _ (List.mem_cons_self ..)))), trivial⟩; have hT11 : GxR.TabG H P11 := ⟨#[], hH (c11, P11) (List.mem_cons_of_mem _ (List.mem_cons_of_mem _ (List.mem_cons_of_mem _ (List.mem_cons_of_mem _ (List.mem_cons_self ..))))), trivial⟩; have hT12 : GxR.TabG H P12 := ⟨#[], hH (c12, P12) (List.mem_cons_of_mem _ (List.mem_cons_of_mem _ (List.mem_cons_of_mem _ (List.mem_cons_of_mem _ (List.mem_cons_of_mem _ (List.mem_cons_self ..)))))), trivial⟩; have hT14 : GxR.TabG H P14 := ⟨#[], hH (c14, P14) (List.mem_cons_of_mem _ (List.mem_cons_of_mem _ (List.mem_cons_of_mem _ (List.mem_cons_of_mem _ (List.mem_cons_of_mem _ (List.mem_cons_of_mem _ (List.mem_cons_self ..))))))), trivial⟩; have hT16 : GxR.TabG H P16 := ⟨#[], hH (c16, P16) (List.mem_cons_of_mem _ (List.mem_cons_of_mem _ (List.mem_cons_of_mem _ (List.mem_cons_of_mem _ (List.mem_cons_of_mem _ (List.mem_cons_of_mem _ (List.mem_cons_of_mem _ (List.mem_cons_self ..)))))))), trivial⟩; exact ⟨a, ns, rfl, hS, hl, ⟨List.forall_mem_cons.mpr ⟨⟨_, hH (c16, P16) (by simp)⟩, List.forall_mem_cons.mpr ⟨⟨_, hH (c10, P10) (by simp)⟩, List.forall_mem_cons.mpr ⟨⟨_, hH (c3, P3) (by simp)⟩, List.forall_mem_cons.mpr ⟨⟨_, hH (c4, P4) (by simp)⟩, List.forall_mem_cons.mpr ⟨⟨_, hH (c5, P5) (by simp)⟩, List.forall_mem_cons.mpr ⟨⟨_, hH (c11, P11) (by simp)⟩, List.forall_mem_cons.mpr ⟨⟨_, hH (c12, P12) (by simp)⟩, List.forall_mem_cons.mpr ⟨⟨_, hH (c14, P14) (by simp)⟩, (fun _ z => nomatch z)⟩⟩⟩⟩⟩⟩⟩⟩, List.forall_mem_cons.mpr ⟨⟨GX.TabQ.nil (hH (c10, P10) (by simp)), by simp⟩, List.forall_mem_cons.mpr ⟨⟨GX.TabQ.nil (hH (c3, P3) (by simp)), by simp⟩, List.forall_mem_cons.mpr ⟨⟨GX.TabQ.nil (hH (c4, P4) (by simp)), by simp⟩, List.forall_mem_cons.mpr ⟨⟨GX.TabQ.nil (hH (c5, P5) (by simp)), by simp⟩, List.forall_mem_cons.mpr ⟨⟨GX.TabQ.nil (hH (c11, P11) (by simp)), by simp⟩, List.forall_mem_cons.mpr ⟨⟨GX.TabQ.nil (hH (c12, P12) (by simp)), by simp⟩, List.forall_mem_cons.mpr ⟨⟨GX.TabQ.nil (hH (c14, P14) (by simp)), by simp⟩, (fun _ z => nomatch z)⟩⟩⟩⟩⟩⟩⟩, List.forall_mem_cons.mpr ⟨⟨by simp, x_PP, LamX.TabS.nil (hH (c16, P16) (by simp))⟩, (fun _ z => nomatch z)⟩⟩, ⟨by simp, fun l hl e => by rw [List.mem_singleton.mp hl]⟩, ⟨GX.Mq.mem.mpr (by simp), GX.Mq.mem.mpr (by simp), GX.Mq.mem.mpr (by simp), GX.Mq.mem.mpr (by simp), GX.Mq.mem.mpr (by simp), GX.Mq.mem.mpr (by simp), GX.Mq.mem.mpr (by simp)⟩, fun _ => rfl⟩
  · have g := fun {x : Str} {f : Addr} (a : PySem.W.nsIn K mainGlobals x = some (some (.ref f))) => PySem.W.mg_of X G a
    have T3 : GxR.TabB base mg c3 P3 := let t := TB (c3, P3) (List.mem_cons_self ..); ⟨t.code, t.bm, t.gP⟩
    have T4 : GxR.TabB base mg c4 P4 := let t := TB (c4, P4) (List.mem_cons_of_mem _ (List.mem_cons_self ..)); ⟨t.code, t.bm, t.gP⟩
    have T5 : GxR.TabB base mg c5 P5 := let t := TB (c5, P5) (List.mem_cons_of_mem _ (List.mem_cons_of_mem _ (List.mem_cons_self ..))); ⟨t.code, t.bm, t.gP⟩
    have T10 : GxR.TabB base mg c10 P10 := let t := TB (c10, P10) (List.mem_cons_of_mem _ (List.mem_cons_of_mem _ (List.mem_cons_of_mem _ (List.mem_cons_self ..)))); ⟨t.code, t.bm, t.gP⟩
    have T11 : GxR.TabB base mg c11 P11 := let t := TB (c11, P11) (List.mem_cons_of_mem _ (List.mem_cons_of_mem _ (List.mem_cons_of_mem _ (List.mem_cons_of_mem _ (List.mem_cons_self ..))))); ⟨t.code, t.bm, t.gP⟩
    have T12 : GxR.TabB base mg c12 P12 := let t := TB (c12, P12) (List.mem_cons_of_mem _ (List.mem_cons_of_mem _ (List.mem_cons_of_mem _ (List.mem_cons_of_mem _ (List.mem_cons_of_mem _ (List.mem_cons_self ..)))))); ⟨t.code, t.bm, t.gP⟩
    have T14 : GxR.TabB base mg c14 P14 := let t := TB (c14, P14) (List.mem_cons_of_mem _ (List.mem_cons_of_mem _ (List.mem_cons_of_mem _ (List.mem_cons_of_mem _ (List.mem_cons_of_mem _ (List.mem_cons_of_mem _ (List.mem_cons_self ..))))))); ⟨t.code, t.bm, t.gP⟩
    have T16 : GxR.TabB base mg c16 P16 := let t := TB (c16, P16) (List.mem_cons_of_mem _ (List.mem_cons_of_mem _ (List.mem_cons_of_mem _ (List.mem_cons_of_mem _ (List.mem_cons_of_mem _ (List.mem_cons_of_mem _ (List.mem_cons_of_mem _ (List.mem_cons_self ..)))))))); ⟨t.code, t.bm, t.gP⟩
    have CT : Cal l.prog w K mg base 1 "_law_take" ["_law_state", "_law_many"] spTake := ⟨_, _, ok_take F18 m_len m_divmod, g a18, k18, b18⟩
    have CB : Cal l.prog w K mg base 1 "_law_begin" ["_law_script"] (spBegin K) := ⟨_, _, ok_begin F17 m_list, g a17, k17, b17⟩
    have SO : Cal l.prog w K mg base 1 "set_of" ["pairs"] (spSetOf K) := ⟨_, _, ok_setof F6 m_sorted m_max, g a6, k6, b6⟩
    have BO : Cal l.prog w K mg base 1 "both_of" ["one", "other"] (spBoth K) := ⟨_, _, ok_both F7 m_len m_max m_min, g a7, k7, b7⟩
    have GA : Cal l.prog w K mg base 2 "gaps_of" ["some", "begin", "end"] (spGaps K) := ⟨_, _, ok_gaps F8 SO m_max m_min, g a8, k8, b8⟩
    have WI : Cal l.prog w K mg base 3 "without" ["one", "other"] (spWithout K) := ⟨_, _, ok_without F9 BO GA, g a9, k9, b9⟩
    have II : Cal l.prog w K mg base 4 "is_in" ["some", "number"] (spIsIn K ⟨[P10, P3, P4, P5, P11, P12, P14], [(P16, qL)]⟩ [P16, P10, P3, P4, P5, P11, P12, P14] P10) := ⟨_, _, ok_IsIn l10 c10' ⟨T10.code, T10.bm, T10.gP⟩ m_any, g a10, k10, b10⟩
    have LS : Cal l.prog w K mg base 4 "least_samples" ["runs", "gone"] (spLeast K P16) := ⟨_, _, ok_Least l16 c16' ⟨T16.code, T16.bm, T16.gP⟩ WI m_sorted m_range m_len, g a16, k16, b16⟩
    have IR : Cal l.prog w K mg base 1 "is_row" ["thing"] spIsRow := ⟨_, _, ok_IsRow F0 m_tuple m_list m_isinstance, g a0, k0, b0⟩
    have IT : Cal l.prog w K mg base 1 "is_tuple_of" ["thing", "many"] spTupOf := ⟨_, _, ok_TupOf F1 m_isinstance m_tuple m_len, g a1, k1, b1⟩
    have IN : Cal l.prog w K mg base 1 "is_number" ["thing"] spIsNum := ⟨_, _, ok_IsNum F2 m_isinstance m_int m_bool, g a2, k2, b2⟩
    have NU : Cal l.prog w K mg base 5 "are_numbers" ["thing"] (spNums K ⟨[P10, P3, P4, P5, P11, P12, P14], [(P16, qL)]⟩ [P16, P10, P3, P4, P5, P11, P12, P14] P3) := ⟨_, _, ok_Nums l3 c3' ⟨T3.code, T3.bm, T3.gP⟩ IR IN m_all, g a3, k3, b3⟩
    have RS : Cal l.prog w K mg base 6 "are_rising" ["thing"] (spRising K ⟨[P10, P3, P4, P5, P11, P12, P14], [(P16, qL)]⟩ [P16, P10, P3, P4, P5, P11, P12, P14] P3 P4) := ⟨_, _, ok_Rising l4 c4' ⟨T4.code, T4.bm, T4.gP⟩ NU m_all m_zip, g a4, k4, b4⟩
    have BE : Cal l.prog w K mg base 7 "are_rising_below" ["thing", "many"] (spBelow K ⟨[P10, P3, P4, P5, P11, P12, P14], [(P16, qL)]⟩ [P16, P10, P3, P4, P5, P11, P12, P14] P3 P4 P5) := ⟨_, _, ok_Below l5 c5' ⟨T5.code, T5.bm, T5.gP⟩ RS m_all, g a5, k5, b5⟩
    have EA : Cal l.prog w K mg base 8 "each_has_one" ["runs", "numbers"] (spEach K ⟨[P10, P3, P4, P5, P11, P12, P14], [(P16, qL)]⟩ [P16, P10, P3, P4, P5, P11, P12, P14] P11) := ⟨_, _, ok_Each l11 c11' ⟨T11.code, T11.bm, T11.gP⟩ m_all m_any, g a11, k11, b11⟩
    have AP : Cal l.prog w K mg base 5 "are_apart" ["runs", "gone", "apart"] (spApart K ⟨[P10, P3, P4, P5, P11, P12, P14], [(P16, qL)]⟩ [P16, P10, P3, P4, P5, P11, P12, P14] P12) := ⟨_, _, ok_Apart l12 c12' ⟨T12.code, T12.bm, T12.gP⟩ WI BO m_all m_len m_range, g a12, k12, b12⟩
    have SB : Cal l.prog w K mg base 4 "shows_blind" ["runs", "gone", "told"] (spSBlind K) := ⟨_, _, ok_SBlind F13 IT IN WI, g a13, k13, b13⟩
    have SF : Cal l.prog w K mg base 9 "shows_fewest" ["runs", "gone", "told"] (spSFew K ⟨[P10, P3, P4, P5, P11, P12, P14], [(P16, qL)]⟩ [P16, P10, P3, P4, P5, P11, P12, P14] P3 P4 P5 P11 P12 P10 P14) := ⟨_, _, ok_SFew l14 c14' ⟨T14.code, T14.bm, T14.gP⟩ IT RS BE II EA AP m_len m_any, g a14, k14, b14⟩
    have SH : Cal l.prog w K mg base 10 "shows_samples" ["runs", "gone", "told"] (spShows K ⟨[P10, P3, P4, P5, P11, P12, P14], [(P16, qL)]⟩ [P16, P10, P3, P4, P5, P11, P12, P14] P3 P4 P5 P11 P12 P10 P14) := ⟨_, _, ok_Shows F15 SB SF, g a15, k15, b15⟩
    have GR : Cal l.prog w K mg base 2 "_law_great" ["_law_state"] spGreat := ⟨_, _, ok_great F19 CT m_range, g a19, k19, b19⟩
    have GO : Cal l.prog w K mg base 2 "_law_gone" ["_law_state", "_law_most", "_law_rare"] spGone := ⟨_, _, ok_Gone F20 CT m_range, g a20, k20, b20⟩
    have RU : Cal l.prog w K mg base 2 "_law_runs" ["_law_state", "_law_many", "_law_most", "_law_wide"] spRuns := ⟨_, _, ok_Runs F21 CT m_range m_min m_len, g a21, k21, b21⟩
    have MO : Cal l.prog w K mg base 1 "_law_moved" ["_law_pairs", "_law_many", "_law_shift"] spMoved := ⟨_, _, ok_Moved F22, g a22, k22, b22⟩
    have LE : Cal l.prog w K mg base 1 "_law_left" ["_law_span", "_law_gone_here"] spLLeft := ⟨_, _, ok_LLeft F23 m_max m_int, g a23, k23, b23⟩
    have SR : Cal l.prog w K mg base 1 "_law_share" ["_law_one", "_law_other"] spShare := ⟨_, _, ok_Share F24 m_any, g a24, k24, b24⟩
    have LN : Cal l.prog w K mg base 1 "_law_is_number" ["_law_thing"] spIsNum := ⟨_, _, ok_LNum F25 m_isinstance m_int m_bool, g a25, k25, b25⟩
    have LR : Cal l.prog w K mg base 2 "_law_rising" ["_law_thing"] spLRis := ⟨_, _, ok_LRis F26 LN m_tuple m_list m_isinstance m_all m_zip, g a26, k26, b26⟩
    have SW : Cal l.prog w K mg base 3 "_law_samples_shown" ["_law_runs_here", "_law_gone_here", "_law_told"] spSShown := ⟨_, _, ok_SShown F27 LE LN LR SR m_isinstance m_tuple m_len m_str m_any m_enumerate, g a27, k27, b27⟩
    have SC : Cal l.prog w K mg base 3 "_law_small_case" ["_law_state"] spSmall := ⟨_, _, ok_Small F33 CT RU GO GR MO, g a33, k33, b33⟩
    have SP0 : Cal l.prog w K mg base 1 "_law_spots" ["_law_thing"] (spSpots 0) := ⟨_, _, ok_Spots0 F28 m_tuple m_list m_isinstance, g a28, k28, b28⟩
    have SP1 : Cal l.prog w K mg base 2 "_law_spots" ["_law_thing"] (spSpots 1) := ⟨_, _, ok_SpotsS F28 SP0 m_tuple m_list m_isinstance m_enumerate (by decide), g a28, k28, b28⟩
    have SP2 : Cal l.prog w K mg base 3 "_law_spots" ["_law_thing"] (spSpots 2) := ⟨_, _, ok_SpotsS F28 SP1 m_tuple m_list m_isinstance m_enumerate (by decide), g a28, k28, b28⟩
    have SP3 : Cal l.prog w K mg base 4 "_law_spots" ["_law_thing"] (spSpots 3) := ⟨_, _, ok_SpotsS F28 SP2 m_tuple m_list m_isinstance m_enumerate (by decide), g a28, k28, b28⟩
    have OF : Cal l.prog w K mg base 1 "_law_of" ["_law_thing", "_law_parts"] spOf := ⟨_, _, ok_Of F29 m_isinstance m_tuple, g a29, k29, b29⟩
    have ST : Cal l.prog w K mg base 2 "_law_step" ["_law_state", "_law_thing"] spStep := ⟨_, _, ok_Step F30 CT OF m_tuple m_list m_isinstance m_len m_int m_bool m_str, g a30, k30, b30⟩
    have BN0 : Cal l.prog w K mg base 3 "_law_bent" ["_law_state", "_law_thing", "_law_spot"] (spBent 0) := ⟨_, _, ok_Bent0 F31 ST, g a31, k31, b31⟩
    have BN1 : Cal l.prog w K mg base 4 "_law_bent" ["_law_state", "_law_thing", "_law_spot"] (spBent 1) := ⟨_, _, ok_BentS F31 ST BN0 OF m_list (by decide), g a31, k31, b31⟩
    have BN2 : Cal l.prog w K mg base 5 "_law_bent" ["_law_state", "_law_thing", "_law_spot"] (spBent 2) := ⟨_, _, ok_BentS F31 ST BN1 OF m_list (by decide), g a31, k31, b31⟩
    have BN3 : Cal l.prog w K mg base 6 "_law_bent" ["_law_state", "_law_thing", "_law_spot"] (spBent 3) := ⟨_, _, ok_BentS F31 ST BN2 OF m_list (by decide), g a31, k31, b31⟩
    have AN : Cal l.prog w K mg base 7 "_law_bent_anywhere" ["_law_state", "_law_told"] spAnyw := ⟨_, _, ok_Anyw F32 CT SP3 BN3 m_range m_len, g a32, k32, b32⟩
    have PA : Cal l.prog w K mg base 3 "_law_paper" ["_law_state", "_law_runs_here", "_law_gone_here", "_law_told"] spPaper := ⟨_, _, ok_Paper F34 CT m_len m_list m_sorted m_max m_range, g a34, k34, b34⟩
    exact ok_Law F35 CB SC LS AN PA SH SW m_list m_range m_str m_isinstance m_bool m_tuple
end TK
open PySem PySem.W PyProof.Rows
set_option maxHeartbeats 0 in
theorem PySem.Challenge.cw_tinrecall_k42_samples_spoilt_anywhere_holds : PySem.Challenge.rw_tinrecall_k42_samples_spoilt_anywhere.Holds := by
  w_on; o_law; k_head; (case hw => w_witness2)
  k_fill
  refine TK.law_endTG (l := PySem.Challenge.rw_tinrecall_k42_samples_spoilt_anywhere) (k := 14) rfl rfl ⟨rfl, by decide, by decide⟩ (fun w h Y => PySem.W.km_in_of Y) ?made
  case made =>
    intro w mg f h KX G hmg TT
    refine' TK.all_mk KX G hmg TT ?a0 ?l0 ?c0 ?k0 ?a1 ?l1 ?c1 ?k1 ?a2 ?l2 ?c2 ?k2 ?a3 ?l3 ?c3 ?k3 ?a4 ?l4 ?c4 ?k4 ?a5 ?l5 ?c5 ?k5 ?a6 ?l6 ?c6 ?k6 ?a7 ?l7 ?c7 ?k7 ?a8 ?l8 ?c8 ?k8 ?a9 ?l9 ?c9 ?k9 ?a10 ?l10 ?c10 ?k10 ?a11 ?l11 ?c11 ?k11 ?a12 ?l12 ?c12 ?k12 ?a13 ?l13 ?c13 ?k13 ?a14 ?l14 ?c14 ?k14 ?a15 ?l15 ?c15 ?k15 ?a16 ?l16 ?c16 ?k16 ?a17 ?l17 ?c17 ?k17 ?a18 ?l18 ?c18 ?k18 ?a19 ?l19 ?c19 ?k19 ?a20 ?l20 ?c20 ?k20 ?a21 ?l21 ?c21 ?k21 ?a22 ?l22 ?c22 ?k22 ?a23 ?l23 ?c23 ?k23 ?a24 ?l24 ?c24 ?k24 ?a25 ?l25 ?c25 ?k25 ?a26 ?l26 ?c26 ?k26 ?a27 ?l27 ?c27 ?k27 ?a28 ?l28 ?c28 ?k28 ?a29 ?l29 ?c29 ?k29 ?a30 ?l30 ?c30 ?k30 ?a31 ?l31 ?c31 ?k31 ?a32 ?l32 ?c32 ?k32 ?a33 ?l33 ?c33 ?k33 ?a34 ?l34 ?c34 ?k34 ?a35 ?l35 ?c35 ?k35 ?lc3 ?v3 ?nP3 ?r3 ?lc4 ?v4 ?nP4 ?r4 ?lc5 ?v5 ?nP5 ?r5 ?lc10 ?v10 ?nP10 ?r10 ?lc11 ?v11 ?nP11 ?r11 ?lc12 ?v12 ?nP12 ?r12 ?lc14 ?v14 ?nP14 ?r14 ?lc16 ?v16 ?nP16 ?r16 ?x_PP ?z_all ?z_any ?z_bool ?z_divmod ?z_enumerate ?z_int ?z_isinstance ?z_len ?z_list ?z_max ?z_min ?z_range ?z_sorted ?z_str ?z_tuple ?z_zip
    (case a0 => k_is); (case l0 => k_is); (case c0 => k_is); (case k0 => k_is)
    (case a1 => k_is); (case l1 => k_is); (case c1 => k_is); (case k1 => k_is)
    (case a2 => k_is); (case l2 => k_is); (case c2 => k_is); (case k2 => k_is)
    (case a3 => k_is); (case l3 => k_is); (case c3 => k_is); (case k3 => k_is)
    (case a4 => k_is); (case l4 => k_is); (case c4 => k_is); (case k4 => k_is)
    (case a5 => k_is); (case l5 => k_is); (case c5 => k_is); (case k5 => k_is)
    (case a6 => k_is); (case l6 => k_is); (case c6 => k_is); (case k6 => k_is)
    (case a7 => k_is); (case l7 => k_is); (case c7 => k_is); (case k7 => k_is)
    (case a8 => k_is); (case l8 => k_is); (case c8 => k_is); (case k8 => k_is)
    (case a9 => k_is); (case l9 => k_is); (case c9 => k_is); (case k9 => k_is)
    (case a10 => k_is); (case l10 => k_is); (case c10 => k_is); (case k10 => k_is)
    (case a11 => k_is); (case l11 => k_is); (case c11 => k_is); (case k11 => k_is)
    (case a12 => k_is); (case l12 => k_is); (case c12 => k_is); (case k12 => k_is)
    (case a13 => k_is); (case l13 => k_is); (case c13 => k_is); (case k13 => k_is)
    (case a14 => k_is); (case l14 => k_is); (case c14 => k_is); (case k14 => k_is)
    (case a15 => k_is); (case l15 => k_is); (case c15 => k_is); (case k15 => k_is)
    (case a16 => k_is); (case l16 => k_is); (case c16 => k_is); (case k16 => k_is)
    (case a17 => k_is); (case l17 => k_is); (case c17 => k_is); (case k17 => k_is)
    (case a18 => k_is); (case l18 => k_is); (case c18 => k_is); (case k18 => k_is)
    (case a19 => k_is); (case l19 => k_is); (case c19 => k_is); (case k19 => k_is)
    (case a20 => k_is); (case l20 => k_is); (case c20 => k_is); (case k20 => k_is)
    (case a21 => k_is); (case l21 => k_is); (case c21 => k_is); (case k21 => k_is)
    (case a22 => k_is); (case l22 => k_is); (case c22 => k_is); (case k22 => k_is)
    (case a23 => k_is); (case l23 => k_is); (case c23 => k_is); (case k23 => k_is)
    (case a24 => k_is); (case l24 => k_is); (case c24 => k_is); (case k24 => k_is)
    (case a25 => k_is); (case l25 => k_is); (case c25 => k_is); (case k25 => k_is)
    (case a26 => k_is); (case l26 => k_is); (case c26 => k_is); (case k26 => k_is)
    (case a27 => k_is); (case l27 => k_is); (case c27 => k_is); (case k27 => k_is)
    (case a28 => k_is); (case l28 => k_is); (case c28 => k_is); (case k28 => k_is)
    (case a29 => k_is); (case l29 => k_is); (case c29 => k_is); (case k29 => k_is)
    (case a30 => k_is); (case l30 => k_is); (case c30 => k_is); (case k30 => k_is)
    (case a31 => k_is); (case l31 => k_is); (case c31 => k_is); (case k31 => k_is)
    (case a32 => k_is); (case l32 => k_is); (case c32 => k_is); (case k32 => k_is)
    (case a33 => k_is); (case l33 => k_is); (case c33 => k_is); (case k33 => k_is)
    (case a34 => k_is); (case l34 => k_is); (case c34 => k_is); (case k34 => k_is)
    (case a35 => k_is); (case l35 => k_is); (case c35 => k_is); (case k35 => k_is)
    (case lc3 => k_is); (case v3 => exact rfl); (case nP3 => exact rfl); (case r3 => decide +kernel)
    (case lc4 => k_is); (case v4 => exact rfl); (case nP4 => exact rfl); (case r4 => decide +kernel)
    (case lc5 => k_is); (case v5 => exact rfl); (case nP5 => exact rfl); (case r5 => decide +kernel)
    (case lc10 => k_is); (case v10 => exact rfl); (case nP10 => exact rfl); (case r10 => decide +kernel)
    (case lc11 => k_is); (case v11 => exact rfl); (case nP11 => exact rfl); (case r11 => decide +kernel)
    (case lc12 => k_is); (case v12 => exact rfl); (case nP12 => exact rfl); (case r12 => decide +kernel)
    (case lc14 => k_is); (case v14 => exact rfl); (case nP14 => exact rfl); (case r14 => decide +kernel)
    (case lc16 => k_is); (case v16 => exact rfl); (case nP16 => exact rfl); (case r16 => decide +kernel)
    (case x_PP => decide)
    (case z_all => k_is); (case z_any => k_is); (case z_bool => k_is); (case z_divmod => k_is); (case z_enumerate => k_is); (case z_int => k_is); (case z_isinstance => k_is); (case z_len => k_is); (case z_list => k_is); (case z_max => k_is); (case z_min => k_is); (case z_range => k_is); (case z_sorted => k_is); (case z_str => k_is); (case z_tuple => k_is); (case z_zip => k_is)

