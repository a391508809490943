import PyProof.Rows.All
import Wide.All
import OpenK.AllK
import Wide.FinOn
import HandS.ForMost
import HandS.WideBits
import HandS.IsInst
import HandS.Style
import HandS.AnyAll
import HandS.Nested
import HandS.Walk
import HandS.Evl
import HandS.EndTab
import HandS.SortInts
import HandS.SortRule
import HandS.Conv
import HandS.Star
import HandS.Codes
import HandS.Wide
import HandS.Zip
import HandS.DictComp
import HandS.SetFor
import HandS.SetKeys
import HandS.StrMore
import HandS.Replace
import PyProof.ReprRoads
import PyProof.ReprLen
import HandS.Small
import HandS.More
import KE.KDictPairs
import KE.GoesMore
import KE.GoesEnum
import PyProof.SumAny
import PyProof.WalksPairs
import PyProof.GenCompT
import HandS.WordsExc
import HandS.ExcOwn
import HandS.ExcIs
import HandS.ExcValue
import PySem.Challenge.RW_tinrecall_k13_no_readings_refused
set_option Elab.async false
set_option linter.all false
set_option maxRecDepth 100000
set_option maxHeartbeats 5000000
/-! ## sum(.. for a, b in ..): a generator expression over a list or a tuple of pairs of whole numbers -/
namespace GP
open PySem PySem.Spec PyProof.Rows L2 GxR

/-- a walk whose items are tuples that stand still -/
theorem asTuples {prog : Program} {w : World} {A : Around} {it : Addr} {foot : List Addr} {n : Nat} {Item : Nat → Value → Prop} {At : Nat → Heap → Prop} (W : Walks prog w A it foot [it] n Item At) (loc : Nat → Addr) (held : Nat → Array Value)
    (isT : ∀ j v, j < n → Item j v → v = .ref (loc j)) (apt : ∀ j, j < n → loc j ≠ it)
    (letGo : ∀ (es : List Expr) (k : Nat) (pos : Pos) (j : Nat) (T : Addr) (s : Shared) (Q : Unit → Shared → Prop) (E : Value → Shared → Prop), At j s.heap → Q () s → wpAny (model prog w) A (letOwnedTupleGo (.Tuple es k pos) (.ref it) (.ref T)) Q E s) :
    WalksU prog w A it (foot ++ (List.range n).map loc) [it] n (fun j xs => xs = held j) (fun j h => At j h ∧ ∀ m, m < n → h.IsTuple (loc m) (held m))
      (fun j T h => (j < n ∧ T = loc j) ∧ At (j + 1) h ∧ ∀ m, m < n → h.IsTuple (loc m) (held m)) := by
  have inFoot : ∀ m, m < n → loc m ∈ foot ++ (List.range n).map loc := fun m hm => List.mem_append.mpr (.inr (List.mem_map.mpr ⟨m, List.mem_range.mpr hm, rfl⟩))
  constructor
  case sub => exact fun b hb => List.mem_append.mpr (.inl (W.sub b hb))
  case frame =>
    intro j h h' ⟨a1, a2⟩ kept
    refine ⟨W.frame j h h' a1 fun b hb => kept b (List.mem_append.mpr (.inl hb)), fun m hm => ?_⟩
    obtain ⟨o, e, r⟩ := a2 m hm
    exact ⟨o, kept _ (inFoot m hm) o e, r⟩
  case item =>
    intro j s Q E hj ⟨a1, a2⟩ fin
    refine W.item j s Q E hj a1 fun v h' tk hv a1' kept => ?_
    have still : ∀ m, m < n → h'.IsTuple (loc m) (held m) := fun m hm => by
      obtain ⟨o, e, r⟩ := a2 m hm
      exact ⟨o, kept _ o (fun z => apt m hm (List.mem_singleton.mp z)) e, r⟩
    rw [isT j v hj hv]
    exact fin (loc j) (held j) h' tk rfl (still j hj) ⟨⟨hj, rfl⟩, a1', still⟩ kept
  case go =>
    intro es k pos j T s Q E hm fin
    exact letGo es k pos (j + 1) T s Q E hm.2.1 (fin s.heap hm.2 fun _ _ _ e => e)
  case apart =>
    intro j T h hm z
    rw [hm.1.2] at z
    exact apt j hm.1.1 (List.mem_singleton.mp z)
  case done => exact fun s Q E a fin => W.done s Q E a.1 fin
  case self => exact fun j s Q E a fin => W.self j s Q E a.1 fin

/-- the values vs are tuples that hold the pairs ps -/
def Prs (H : Hp) (vs : List V) (ps : List (Int × Int)) : Prop := vs.length = ps.length ∧ ∀ (i : Nat) p, ps[i]? = some p → ∃ a, vs[i]? = some (.ref a) ∧ H a = some (.tup [.int p.1, .int p.2])

/-- what is asked of the expression's own scope: the two names are its locals, its captured names are the def's -/
def OwnScope (env : Env) (sc : Scope) (xa xb : Str) : Prop :=
  (sc.kind = .function ∧ sc.isCoroutine = false ∧ xa ≠ xb) ∧ (sc.names.lookup (".0" : Str) = some .local ∧ sc.names.lookup xa = some .local ∧ sc.names.lookup xb = some .local) ∧
  (∀ y ∈ sc.names, y.2 ≠ NameKind.cell) ∧ ∀ y ∈ sc.names, y.2 = NameKind.free → ∃ c, env.cells.lookup y.1 = some c

section
variable {X : Cx} {s : Shared} {H : Hp} {σ : L2.St} {pins : List (Addr × Obj)}
/-- a tracked pair in the machine's heap -/
theorem pair_in {T : Addr} {p : Int × Int} (I : Inv X pins σ H s) (e : H T = some (.tup [.int p.1, .int p.2])) : ∃ ta tb, s.heap.IsTuple T #[.int p.1 ta, .int p.2 tb] := by
  obtain ⟨_, its, r, t⟩ := I.hok T _ e
  cases r with
  | cons q1 r =>
    cases r with
    | cons q2 r =>
      cases r
      obtain ⟨ta, rfl⟩ := q1
      obtain ⟨tb, rfl⟩ := q2
      exact ⟨ta, tb, t⟩
/-- the pairs by place: where they stand and what they hold -/
theorem pairs_in {vs : List V} {ps : List (Int × Int)} {its : List Value} (I : Inv X pins σ H s) (hp : Prs H vs ps) (r : Vals vs its) :
    ∃ (loc : Nat → Addr) (held : Nat → Array Value), ∀ j, j < ps.length → its[j]? = some (.ref (loc j)) ∧ s.heap.IsTuple (loc j) (held j) ∧ ∃ p ta tb, ps[j]? = some p ∧ held j = #[.int p.1 ta, .int p.2 tb] := by
  have one : ∀ j, ∃ (T : Addr) (xs : Array Value), j < ps.length → its[j]? = some (.ref T) ∧ s.heap.IsTuple T xs ∧ ∃ p ta tb, ps[j]? = some p ∧ xs = #[.int p.1 ta, .int p.2 tb] := fun j => by
    by_cases hj : j < ps.length
    · obtain ⟨T, e1, e2⟩ := hp.2 j ps[j] (List.getElem?_eq_getElem hj)
      obtain ⟨u, eu, ru⟩ := r.get e1
      cases ru
      obtain ⟨ta, tb, t⟩ := pair_in I e2
      exact ⟨T, _, fun _ => ⟨eu, t, ps[j], ta, tb, List.getElem?_eq_getElem hj, rfl⟩⟩
    · exact ⟨0, #[], fun z => absurd z hj⟩
  exact ⟨fun j => (one j).choose, fun j => (one j).choose_spec.choose, fun j hj => (one j).choose_spec.choose_spec hj⟩

/-- what a walk over the pairs is, begun at the new iterator that o is -/
def Begun (X : Cx) (s : Shared) (P : Addr) (ps : List (Int × Int)) (o : Obj) : Prop :=
  ∃ (foot : List Addr) (Hold : Nat → Array Value → Prop) (At : Nat → Heap → Prop) (Mid : Nat → Addr → Heap → Prop),
    (∀ A' : Around, A'.handled = none → WalksU X.prog X.w A' s.heap.objs.size foot [s.heap.objs.size] ps.length (fun j xs => j < ps.length ∧ Hold j xs) At Mid) ∧
    (∀ j xs, j < ps.length → Hold j xs → ∃ p ta tb, ps[j]? = some p ∧ xs = #[.int p.1 ta, .int p.2 tb]) ∧ At 0 (s.heap.push o) ∧ ∀ b ∈ foot, b < s.heap.objs.size + 1 ∧ b ≠ P
theorem begin_pairs {a P : Addr} {vs : List V} {ps : List (Int × Int)} {tb : Array Value} {Q' : Value → Shared → Prop} (I : Inv X pins σ H s) (hS : SqL X.K H a vs ∨ SqT X.K H a vs) (hp : Prs H vs ps) (hP : H P = some (.tbl tb))
    (fin : ∀ o, Begun X s P ps o → Q' (.ref s.heap.objs.size) { s with heap := s.heap.push o }) : wpAny (model X.prog X.w) X.A (pyIter (.ref a)) Q' X.xe s := by
  have hPo : s.heap.get? P = some { cls := .none, data := .fields tb } := I.hok P _ hP
  have notP : ∀ (b : Addr) (o : Obj) (xs : Array Value) (n : Nat), s.heap.get? b = some o → o.data = .seq xs n → b ≠ P := fun b o xs n e d z => by
    rw [z, hPo] at e
    rw [← Option.some.inj e] at d
    cases d
  have newP : s.heap.objs.size ≠ P := fun z => Nat.lt_irrefl _ (Nat.lt_of_lt_of_eq (Heap.lt_size hPo) z)
  -- from a walk over the items to the pairs
  have mk : ∀ (its : List Value) (o : Obj) (At : Nat → Heap → Prop), Vals vs its → a < s.heap.objs.size → a ≠ P → At 0 (s.heap.push o) →
      (∀ A' : Around, A'.handled = none → Walks X.prog X.w A' s.heap.objs.size [s.heap.objs.size, a] [s.heap.objs.size] its.toArray.size (fun i v => its.toArray[i]? = some v) At) →
      (∀ (A' : Around) (es : List Expr) (k : Nat) (pos : Pos) (j : Nat) (T : Addr) (s' : Shared) (Q : Unit → Shared → Prop) (E : Value → Shared → Prop), At j s'.heap → Q () s' → wpAny (model X.prog X.w) A' (letOwnedTupleGo (.Tuple es k pos) (.ref s.heap.objs.size) (.ref T)) Q E s') →
      Begun X s P ps o := by
    intro its o At r ha haP a0 W go
    obtain ⟨loc, held, hl⟩ := pairs_in I hp r
    have ln : its.toArray.size = ps.length := by rw [List.size_toArray, ← r.length, hp.1]
    have below : ∀ m, m < ps.length → loc m < s.heap.objs.size ∧ loc m ≠ P := fun m hm => by
      obtain ⟨_, ⟨ob, e, _, n, d⟩, _⟩ := hl m hm
      exact ⟨Heap.lt_size e, notP _ _ _ _ e d⟩
    refine ⟨_, _, _, _, fun A' hA => (asTuples (ln ▸ W A' hA) loc held (fun j v hj e => ?_) (fun j hj => Nat.ne_of_lt (below j hj).1) (fun es k pos j T s' Q E => go A' es k pos j T s' Q E)).bound, fun j xs hj e => ?_, ⟨a0, fun m hm => ?_⟩, fun b hb => ?_⟩
    · have e2 : its[j]? = some v := by simpa using e
      rw [(hl j hj).1] at e2
      exact (Option.some.inj e2).symm
    · obtain ⟨_, _, p, ta, tb', e1, e2⟩ := hl j hj
      exact ⟨p, ta, tb', e1, (show xs = held j from e).trans e2⟩
    · obtain ⟨_, ⟨ob, e, rest⟩, _⟩ := hl m hm
      exact ⟨ob, Heap.get?_push_of_some _ e, rest⟩
    · rcases List.mem_append.mp hb with z | z
      · rcases List.mem_cons.mp z with e | e
        · rw [e]; exact ⟨Nat.lt_succ_self _, newP⟩
        · rw [List.mem_singleton.mp e]; exact ⟨Nat.lt_succ_of_lt ha, haP⟩
      · obtain ⟨m, hm, e⟩ := List.mem_map.mp z
        obtain ⟨h1, h2⟩ := below m (List.mem_range.mp hm)
        rw [← e]; exact ⟨Nat.lt_succ_of_lt h1, h2⟩
  rcases hS with hS | hS
  · obtain ⟨its, r, hl, _⟩ := I.list hS
    obtain ⟨o, e, c, n, d⟩ := hl.isList
    refine wpAny_pyIter_list hl.isList (fin _ (mk its _ _ r (Heap.lt_size e) (notP _ _ _ _ e d) ⟨⟨_, Heap.get?_push_size _ rfl, rfl, rfl⟩, ⟨o, Heap.get?_push_of_some _ e, c, n, d⟩⟩ (fun A' hA => Walks.list hA _ a (Nat.ne_of_lt (Heap.lt_size e)) its.toArray) ?_))
    exact fun A' es k pos j T s' Q E at_ q => wpAny_letOwnedTupleGo_listiter at_.1 q
  · obtain ⟨its, r, ⟨o, e, c, n, d⟩, _⟩ := I.tuple hS
    refine wpAny_pyIter_tuple (items := its.toArray) ⟨o, e, c, n, d⟩ (fin _ (mk its _ _ r (Heap.lt_size e) (notP _ _ _ _ e d) ⟨⟨_, Heap.get?_push_size _ rfl, rfl, rfl⟩, ⟨o, Heap.get?_push_of_some _ e, c, n, d⟩⟩ (fun A' hA => Walks.tuple hA _ a (Nat.ne_of_lt (Heap.lt_size e)) its.toArray) ?_))
    exact fun A' es k pos j T s' Q E at_ q => letGo_tupleiter at_.1 q

/-- the expression's code object is made, or found: the table may grow, all else stands -/
theorem code_there {c P : Addr} {gpos : Pos} {qual : Str} {sc : Scope} {tb : Array Value} {Q' : Value → Shared → Prop} {E : Value → Shared → Prop} (hcode : X.env.code = .ref c) (C : PySem.W.CodeHd s.heap c P) (hP : s.heap.get? P = some { cls := .none, data := .fields tb }) (ok : TriplesOk tb.toList)
    (fin : ∀ (code : Value) (h' : Heap) (tk : Nat) (more : Array Value), Heap.ExtBut P s.heap h' → s.heap.objs.size ≤ h'.objs.size → h'.get? P = some { cls := .none, data := .fields (tb ++ more) } → TriplesOk (tb ++ more).toList → Q' code { s with heap := h', toks := tk }) :
    wpAny (model X.prog X.w) X.A (genexprCode X.env gpos qual sc) Q' E s := by
  cases found : codeAmong gpos tb.toList with
  | some old =>
    refine wpAny_genexprCode_hit hcode (C.code hP ok) found ?_
    have e : tb ++ #[] = tb := by simp
    exact fin old s.heap s.toks #[] (Heap.ExtBut.refl _ _) (Nat.le_refl _) (by rw [e]; exact hP) (by rw [e]; exact ok)
  | none =>
    refine wpAny_genexprCodeX hcode (C.code hP ok) (C.tab hP) found fun c' h' tk ext le lt isC _ tab _ => ?_
    obtain ⟨_, _, _, _, _, _, _, _, _, _, _, _, _, _, _, _, _, _, _, okT, _⟩ := isC
    exact fin _ h' tk _ ext (Nat.le_trans le (Nat.le_of_lt lt)) tab.2 okT

/-- the element at a pair of whole numbers: what it gives, wherever the expression runs later -/
def EltAt (X : Cx) (s₁ : Shared) (P : Addr) (sc : Scope) (xa xb : Str) (elt : Expr) (Gives : Int → Int → Value → Prop) : Prop :=
  ∀ (L : Addr) (code : Value) (A' : Around) (E' : Value → Shared → Prop) (a b : Int) (ta tb : Tok) (s₂ : Shared) (m : Str → Option Value), A'.handled = none →
    (∀ x o, x ≠ P → s₁.heap.get? x = some o → s₂.heap.get? x = some o) → s₂.heap.Ns L m → m xa = some (.int a ta) → m xb = some (.int b tb) →
    wpAny (model X.prog X.w) A' (eval elt (genEnv sc (cloFrom X.env.cells sc.names []) L code builtinsNs X.env)) (fun y s₃ => Gives a b y ∧ Keeps s₂ s₃) E' s₂

/-- the generator at g, in the state s₅, before its first item; H₁: what was held when it was made -/
def Fresh (X : Cx) (pins : List (Addr × Obj)) (σ : L2.St) (H₁ : Hp) (P : Addr) (ps : List (Int × Int)) (Gives : Int → Int → Value → Prop) (g : Addr) (s₅ : Shared) : Prop :=
  ∃ (foot writes : List Addr) (Gens : Array GenState → Array GenState → Prop) (Item : Nat → Value → Prop) (At : Nat → Shared → Prop),
    (WalksS X.prog X.w X.A.in1 g foot writes Gens ps.length Item At ∧ At 0 s₅ ∧ ∀ b ∈ foot, b < s₅.heap.objs.size) ∧
    (∀ j v, Item j v → ∃ p, ps[j]? = some p ∧ Gives p.1 p.2 v) ∧ ∀ s₆, Moved writes Gens s₅ s₆ → ∃ H₂, Tabbed P H₁ H₂ ∧ Inv X pins σ H₂ s₆

theorem gen_made {c P : Addr} {elt iter : Expr} {xa xb : Str} {pa pb pt gpos : Pos} {kt : Nat} {sc : Scope} {te : TE} {k : Nat} {Q' : Value → Shared → Prop} {Want : List (Int × Int) → Hp → Prop} {Gives : Int → Int → Value → Prop}
    (room : Room k X.A) (TB : TabB X.base X.mg c P) (hcode : X.env.code = .ref c) (own : OwnScope X.env sc xa xb) (walked : PE X iter te) (plain : ∀ v, genFold iter X.env v = pure v) (I : Inv X pins σ H s)
    (each : ∀ s₁ H₁, Inv X pins σ H₁ s₁ → TabG H₁ P → EltAt X s₁ P sc xa xb elt Gives)
    (h : te σ H fun v H₁ => ∃ (a : Addr) (vs : List V) (ps : List (Int × Int)), v = .ref a ∧ (SqL X.K H₁ a vs ∨ SqT X.K H₁ a vs) ∧ Prs H₁ vs ps ∧ TabG H₁ P ∧ Want ps H₁)
    (fin : ∀ ps H₁ g s₅, Want ps H₁ → Fresh X pins σ H₁ P ps Gives g s₅ → Q' (.ref g) s₅) :
    wpAny (model X.prog X.w) X.A (eval (.GeneratorExp elt [⟨.Tuple [.Name xa pa, .Name xb pb] kt pt, iter, [], 0⟩] sc gpos) X.env) Q' X.xe s := by
  obtain ⟨⟨o1, o2, o3⟩, ⟨o4, o5, o6⟩, o7, o8⟩ := own
  have deep : X.A.depth < recursionLimit := by have := room.dp; omega
  refine wpAny_GeneratorExp_walksQT room.hd o2 (closure_ok o8) o7 o4 o5 o6 o3 o1 deep (thn (walked.run pins s σ H _ I h) fun u s₁ had => ?_) plain
  obtain ⟨_, H₁, I₁, rel, a, vs, ps, rfl, hS, hp, ⟨tb, hP, ok⟩, want⟩ := had
  cases rel
  have tabAt : s₁.heap.get? P = some { cls := .none, data := .fields tb } := I₁.hok P _ hP
  refine begin_pairs I₁ hS hp hP fun o beg => ?_
  obtain ⟨foot, Hold, At, Mid, W, holds, at0, low⟩ := beg
  have statics : cStatics < s₁.heap.objs.size ∧ cStatics ≠ P := by
    obtain ⟨_, ns, _⟩ := I₁.nolimit
    refine ⟨ns.lt, fun z => ?_⟩
    obtain ⟨ob, _, _, e, d, _⟩ := ns
    rw [z, tabAt] at e
    rw [← Option.some.inj e] at d
    cases d
  have quiet : (s₁.heap.push o).NoLimit := I₁.nolimit.push o
  refine ⟨quiet, code_there hcode (TB.code.keeps fun b u e => Heap.get?_push_of_some _ (I₁.bk b u e)) (Heap.get?_push_of_some _ tabAt) ok fun code h₃ tk more ext le tab₃ ok₃ => ?_⟩
  rw [Heap.size_push] at le
  have stays : ∀ b u, b ≠ P → s₁.heap.get? b = some u → h₃.get? b = some u := fun b u hb e => ext b u hb (Heap.get?_push_of_some _ e)
  obtain ⟨bm, ob, f1, f2, f3, f4, f5, f6, f7, f8⟩ := TB.bm
  have globals : Heap.Ns h₃ X.env.globals X.mg := by
    rw [I₁.ok.glob]
    exact ((I₁.mod.glob.keeps I₁.bk).push o).extBut ext TB.gP
  refine wpAny_builtinsFor (m := X.mg) globals f1 f2 (stays bm ob f4 (I₁.bk bm ob f5)) f6 f7 f8 ?_
  have later : ∀ b u, s₁.heap.get? b = some u → b ∉ [h₃.objs.size, s₁.heap.objs.size] := fun b u e z => by
    have lt := Heap.lt_size e
    rcases List.mem_cons.mp z with z' | z'
    · exact Nat.lt_irrefl _ (Nat.lt_of_lt_of_le (z' ▸ lt) (Nat.le_of_succ_le le))
    · exact Nat.lt_irrefl _ (List.mem_singleton.mp z' ▸ lt)
  refine ⟨_, _, _, _, _, _, _, fun _ => true, fun i y => i < ps.length → ∃ p, ps[i]? = some p ∧ Gives p.1 p.2 y, rfl, W, fun i xs hx => ?_, ?_, fun b hb => Nat.lt_of_lt_of_le (low b hb).1 le, quiet.extBut ext statics.2, fun z => Nat.ne_of_lt statics.1 (List.mem_singleton.mp z), fun ref kept => ⟨?_, ?_⟩, ?_⟩
  · obtain ⟨p, ta, tb', _, e⟩ := holds i xs hx.1 hx.2
    exact ⟨_, _, e⟩
  · exact (W X.A room.hd).frame _ _ _ at0 fun b hb u e => ext b u (low b hb).2 e
  · intro A' E' i va vb s₂ m _ _ _ _ _ _
    rw [List.forIn_nil]
    exact wpAny_pure ⟨rfl, _, _, rfl, fun _ _ e => e⟩
  · intro A' E' i va vb s₂ m calm hx _ ns ea eb still
    obtain ⟨p, ta, tb', ep, e⟩ := holds i _ hx.1 hx.2
    have e1 : va = .int p.1 ta := by have z := congrArg (·[0]?) e; simpa using z
    have e2 : vb = .int p.2 tb' := by have z := congrArg (·[1]?) e; simpa using z
    subst e1 e2
    refine wpAny_mono (each s₁ H₁ I₁ ⟨tb, hP, ok⟩ _ code A' E' p.1 p.2 ta tb' s₂ m calm (fun b u hb q => ?_) ns ea eb) (fun y s₃ r => ⟨fun _ => ⟨p, ep, r.1⟩, r.2⟩) fun _ _ q => q
    have q3 := stays b u hb q
    exact still b (List.mem_range.mpr (Heap.lt_size q3)) (fun z => later b u q (List.mem_cons_of_mem _ z)) u (kept b u q3)
  · intro g h₅ tk₅ gs bare above size kept W₅ at₅
    rw [GxR.passing_true, List.length_range] at W₅
    have above' : h₃.objs.size < g := above
    have size' : h₅.objs.size = g + 1 := size
    refine fin ps H₁ g _ want ⟨_, _, _, _, _, ⟨W₅.in4_1, at₅, fun b hb => ?_⟩, fun j v it => ?_, fun s₆ mv => ?_⟩
    · show b < h₅.objs.size
      rw [size']
      rcases List.mem_cons.mp hb with eg | e
      · rw [eg]; exact Nat.lt_succ_self g
      · refine Nat.lt_succ_of_le (Nat.le_trans ?_ (Nat.le_of_lt above'))
        rcases List.mem_cons.mp e with e' | e'
        · rw [e']; exact Nat.le_refl _
        · exact Nat.le_of_lt (List.mem_range.mp e')
    · obtain ⟨i, ei, hg⟩ := it
      have lt : j < ps.length := by
        have z := (List.getElem?_eq_some_iff.mp ei).1
        rwa [List.length_range] at z
      rw [List.getElem?_range lt] at ei
      cases ei
      exact hg lt
    · have all : ∀ b u, b ≠ P → s₁.heap.get? b = some u → s₆.heap.get? b = some u := fun b u hb e => mv.heap b u (later b u e) (kept b u (stays b u hb e))
      have tab₆ := mv.heap P _ (later P _ tabAt) (kept P _ tab₃)
      have J := inv_tab (more := more) (d' := s₆.drawn) (t' := s₆.toks) I₁ hP all tab₆ (AllBare.movedS (I₁.bare.push bare) mv)
      rw [sh_eta s₁ s₆ mv.os] at J
      exact ⟨_, ⟨⟨tb ++ more, upd_same, ok₃⟩, fun b hb => upd_ne hb⟩, J⟩

/-- the sum of g over the pairs -/
def sumP (g : Int → Int → Int) (ps : List (Int × Int)) : Int := (ps.map fun p => g p.1 p.2).sum
theorem preSum_is (g : Int → Int → Int) (ps : List (Int × Int)) (val : Nat → Int) (h : ∀ i p, ps[i]? = some p → val i = g p.1 p.2) : ∀ n, n ≤ ps.length → preSum val n = sumP g (ps.take n)
  | 0, _ => rfl
  | n + 1, hn => by
    have e : ps[n]? = some ps[n] := List.getElem?_eq_getElem hn
    show preSum val n + val n = _
    rw [preSum_is g ps val h n (by omega), h n _ e]
    unfold sumP
    rw [List.take_add_one, e, List.map_append, List.sum_append]
    show _ = _ + (g ps[n].1 ps[n].2 + 0)
    rw [Int.add_zero]
/-- what the reading of sum(..), any(..) over pairs asks: what is captured (Cap), the pairs, the table; then the answer -/
def tOver {α : Type} (K : PySem.W.Frag) (P : Addr) (Cap : L2.St → α → Prop) (ans : α → List (Int × Int) → V) (te : TE) : TE := fun σ H Q => ∃ x : α, Cap σ x ∧ te σ H fun v H₁ => ∃ (a : Addr) (vs : List V) (ps : List (Int × Int)), v = .ref a ∧ (SqL K H₁ a vs ∨ SqT K H₁ a vs) ∧ Prs H₁ vs ps ∧ TabG H₁ P ∧
  ∀ H₂, Tabbed P H₁ H₂ → Q (ans x ps) H₂
/-- how a built-in takes a generator over pairs -/
def Takes2 (X : Cx) (name : String) (Gives : Int → Int → Value → Prop) (ans : List (Int × Int) → V) : Prop :=
  ∀ (pins : List (Addr × Obj)) (σ : L2.St) (P : Addr) (ps : List (Int × Int)) (H₁ : Hp) (gen : Addr) (s₅ : Shared) (Q : VK), Fresh X pins σ H₁ P ps Gives gen s₅ → (∀ H₂, Tabbed P H₁ H₂ → Q (ans ps) H₂) →
    wpAny (model X.prog X.w) X.A (call (.builtin name) [.ref gen]) (EP X pins σ Q) X.xe s₅
theorem pe_over {α : Type} {name : String} {x : Str} {c P : Addr} {elt iter : Expr} {xa xb : Str} {pa pb pt p pos gpos : Pos} {kt : Nat} {sc : Scope} {Cap : L2.St → α → Prop} {Gives : α → Int → Int → Value → Prop} {ans : α → List (Int × Int) → V} {te : TE} {k : Nat} (takes : ∀ y, Takes2 X name (Gives y) (ans y))
    (room : Room k X.A) (glob : Gl X x) (free : X.mg x = none) (bltn : bootBuiltins x = some (.builtin name)) (TB : TabB X.base X.mg c P) (hcode : X.env.code = .ref c) (own : OwnScope X.env sc xa xb) (walked : PE X iter te)
    (each : ∀ pins σ s₁ H₁ y, Inv X pins σ H₁ s₁ → TabG H₁ P → Cap σ y → EltAt X s₁ P sc xa xb elt (Gives y)) (plain : ∀ v, genFold iter X.env v = pure v) (n1 : x ≠ "__name__" := by decide) (n2 : (x == ("__debug__" : Str)) = false := by decide)
    (one : starEach [.GeneratorExp elt [⟨.Tuple [.Name xa pa, .Name xb pb] kt pt, iter, [], 0⟩] sc gpos] X.env = [(false, eval (.GeneratorExp elt [⟨.Tuple [.Name xa pa, .Name xb pb] kt pt, iter, [], 0⟩] sc gpos) X.env)] := by rfl) :
    PE X (.Call (.Name x p) [.GeneratorExp elt [⟨.Tuple [.Name xa pa, .Name xb pb] kt pt, iter, [], 0⟩] sc gpos] [] pos) (tOver X.K P Cap ans te) := by
  constructor
  intro pins s σ H Q I h
  obtain ⟨y, cap, h⟩ := h
  refine wpAny_Call_Name_kw (ld_blt I glob free bltn (callWith_builtin1 ?_ one (by rfl)) n1 n2)
  rw [one]
  refine Calls.spliced_cons (gen_made (Want := fun ps H₁ => ∀ H₂, Tabbed P H₁ H₂ → Q (ans y ps) H₂) (Gives := Gives y) room TB hcode own walked plain I (fun s₁ H₁ J g => each pins σ s₁ H₁ y J g cap) h fun ps H₁ gen s₅ want fresh => Calls.spliced_nil ?_)
  exact takes y pins σ P ps H₁ gen s₅ Q fresh want
theorem takes_sum (g : Int → Int → Int) : Takes2 X "sum" (fun a b y => ∃ t, y = .int (g a b) t) (fun ps => .int (sumP g ps)) := by
  intro pins σ P ps H₁ gen s₅ Q fresh want
  obtain ⟨foot, writes, Gens, Item, At, ⟨W, a0, low⟩, items, behind⟩ := fresh
  let val : Nat → Int := fun i => (ps[i]?.map fun p => g p.1 p.2).getD 0
  have hv : ∀ i p, ps[i]? = some p → val i = g p.1 p.2 := fun i p e => by show (ps[i]?.map _).getD 0 = _; rw [e]; rfl
  refine call_sum_walkAnyS (W.self 0 _ _ _ a0 ⟨gen, foot, writes, Gens, ps.length, Item, At, val, rfl, W, a0, low, fun i v it => ?_, fun s₆ t mv => ?_⟩)
  · obtain ⟨p, e, t, ev⟩ := items i v it
    exact ⟨t, by rw [hv i p e]; exact ev⟩
  · obtain ⟨H₂, tabbed, J⟩ := behind s₆ mv
    refine ⟨.int (preSum val ps.length), H₂, J, ⟨t, rfl⟩, ?_⟩
    rw [preSum_is g ps val hv ps.length (Nat.le_refl _), List.take_length]
    exact want H₂ tabbed
def anyP (g : Int → Int → Bool) (ps : List (Int × Int)) : Bool := ps.any fun p => g p.1 p.2
theorem any_is {α : Type} (ps : List α) (f : α → Bool) (tr : Nat → Bool) (h : ∀ i p, ps[i]? = some p → tr i = f p) : (List.range ps.length).any tr = ps.any f := by
  rw [Bool.eq_iff_iff, List.any_eq_true (l := List.range _), List.any_eq_true]
  constructor
  · rintro ⟨i, hi, e⟩
    have lt := List.mem_range.mp hi
    exact ⟨ps[i], List.getElem_mem lt, by rw [← h i _ (List.getElem?_eq_getElem lt)]; exact e⟩
  · rintro ⟨p, hp, e⟩
    obtain ⟨i, lt, rfl⟩ := List.getElem_of_mem hp
    exact ⟨i, List.mem_range.mpr lt, by rw [h i _ (List.getElem?_eq_getElem lt)]; exact e⟩
theorem takes_any (g : Int → Int → Bool) : Takes2 X "any" (fun a b y => y = .bool (g a b)) (fun ps => .bl (anyP g ps)) := by
  intro pins σ P ps H₁ gen s₅ Q fresh want
  obtain ⟨foot, writes, Gens, Item, At, ⟨W, a0, low⟩, items, behind⟩ := fresh
  let tr : Nat → Bool := fun i => (ps[i]?.map fun p => g p.1 p.2).getD false
  have ht : ∀ i p, ps[i]? = some p → tr i = g p.1 p.2 := fun i p e => by show (ps[i]?.map _).getD false = _; rw [e]; rfl
  refine call_any_walkS (W.self 0 _ _ _ a0 ⟨gen, foot, writes, Gens, ps.length, Item, At, tr, rfl, W, a0, fun i v s' Q' E' it q => ?_, fun s₆ mv => ?_⟩)
  · obtain ⟨p, e, rfl⟩ := items i v it
    rw [ht i p e] at q
    exact wpAny_truthy_bool q
  · obtain ⟨H₂, tabbed, J⟩ := behind s₆ mv
    refine ⟨.bl _, H₂, J, rfl, ?_⟩
    rw [any_is ps (fun p => g p.1 p.2) tr ht]
    exact want H₂ tabbed
/-- a whole number that the expression captures, as its cell has it -/
theorem captured {i : Nat} {y : Str} {n : Int} {P : Addr} (I : Inv X pins σ H s) (hN : X.N[i]? = some y) (hk : X.env.scope.names.lookup y = some .cell) (hv : σ[i]? = some (some (.int n))) (g : TabG H P) :
    ∃ c t, X.env.cells.lookup y = some c ∧ s.heap.IsCell c (some (.int n t)) ∧ c ≠ P := by
  obtain ⟨tb, hP, _⟩ := g
  obtain ⟨m, _, look⟩ := I.loc
  obtain ⟨u, ⟨t, rfl⟩, l⟩ := look i y _ hN hv (.inr (.inl hk))
  rcases l with ⟨z, _⟩ | ⟨_, c, e, o, ho, hd⟩
  · rw [show X.env.kindOf y = some .cell from hk] at z
    cases z
  · refine ⟨c, t, e, ⟨o, ho, hd⟩, fun z => ?_⟩
    rw [z, I.hok P _ hP] at ho
    rw [← Option.some.inj ho] at hd
    cases hd
/-- the names of the module and the built-in ones, where the expression runs -/
theorem names_in {P : Addr} {s₂ : Shared} (I : Inv X pins σ H s) (g : TabG H P) (gP : mainGlobals ≠ P) (kept : ∀ x o, x ≠ P → s.heap.get? x = some o → s₂.heap.get? x = some o) :
    s₂.heap.Ns mainGlobals X.mg ∧ ∃ mb, s₂.heap.Ns builtinsNs mb ∧ ∀ x : Str, x ≠ "__name__" → mb x = bootBuiltins x := by
  obtain ⟨tb, hP, _⟩ := g
  obtain ⟨mb, b1, b2⟩ := I.mod.blt
  have at_ : ∀ b m, b ≠ P → s.heap.Ns b m → s₂.heap.Ns b m := fun b m hb ⟨o, es, ep, ho, r⟩ => ⟨o, es, ep, kept b o hb ho, r⟩
  refine ⟨at_ _ _ gP (I.mod.glob.keeps I.bk), mb, at_ _ _ (fun z => ?_) (b1.keeps I.bk), b2⟩
  obtain ⟨o, es, ep, ho, hd, _⟩ := b1.keeps I.bk
  rw [z, I.hok P _ hP] at ho
  rw [← Option.some.inj ho] at hd
  cases hd
end
end GP

namespace TK
open PySem PySem.Spec PyProof.Rows L2 GP
def topS (i : Nat) : Stmt := PySem.Challenge.pw_tinrecall_k13_no_readings_refused.main.body.getD i (.Pass ⟨0, 0, 0, 0⟩)

/-- the draws' state: its dict at d, its cells at c -/
structure StAt (H : Hp) (d c : Addr) (t : Int) : Prop where
  dict : H d = some (.dK [(.inr "cells", .ref c), (.inr "turn", .int t)])
  cells : ∃ cs : List Int, H c = some (.lst (cs.map V.int)) ∧ cs ≠ [] ∧ cs.length ≤ 63
  pos : 0 ≤ t
theorem StAt.ne {H : Hp} {d c : Addr} {t : Int} (h : StAt H d c t) : d ≠ c := by
  obtain ⟨cs, hc, _⟩ := h.cells
  exact ne_of h.dict hc (by intro z; cases z)
/-- all but the state is as it was -/
def Kp (d c : Addr) (H H' : Hp) : Prop := ∀ b o, b ≠ d → b ≠ c → H b = some o → H' b = some o
theorem Kp.refl (d c : Addr) (H : Hp) : Kp d c H H := fun _ _ _ _ h => h
theorem Kp.trans {d c : Addr} {H H1 H2 : Hp} (a : Kp d c H H1) (b : Kp d c H1 H2) : Kp d c H H2 := fun x o h1 h2 h => b x o h1 h2 (a x o h1 h2 h)

theorem ixN_of {n j : Nat} (h : j < n) : ixN n (j : Int) = some j := by
  unfold ixN
  rw [if_pos (Int.natCast_nonneg j), if_pos (by omega), Int.toNat_natCast]
def spTake : Sp := fun vs H Q _ => ∃ (d c : Addr) (t m : Int), vs = [.ref d, .int m] ∧ StAt H d c t ∧ t < 2 ^ 60 ∧ 0 < m ∧ m.natAbs < 2 ^ 250 ∧
  ∀ r H', 0 ≤ r → r < m → StAt H' d c (t + 1) → Kp d c H H' → Q (.int r) H'

abbrev sTake : Stmt := topS 31
theorem scTake : FnScope ["_law_state", "_law_many", "_law_turn", "_law_place", "_law_cell", "_law_digit", "_law_mixed"] ["_law_state", "_law_many"] (defScope sTake) := ⟨rfl, rfl, rfl, by decide +kernel, rfl, by decide +kernel, by decide +kernel⟩
section
variable {K : PySem.W.Frag} {mg : Str → Option Value} {P : Program} {w : World} {base : Heap}
theorem ok_take {f : Addr} {fd : FuncData} {k : Nat} (F : Fun K "_law_take" "_law_take" sTake f fd) (ml : mg "len" = none) (md : mg "divmod" = none) : FnOk P w K mg base CX0 (k + 1) f fd ["_law_state", "_law_many"] spTake := by
  refine F.ok scTake (fun vs H Q E h => ?_) (fun cdv A outer s H vs Q E hr h => ?_)
  · obtain ⟨d, c, t, m, rfl, _⟩ := h
    rfl
  · obtain ⟨d, c, t, m, rfl, hS, ht, hm, hm2, q⟩ := h
    refine ⟨_, pss_cons (ps_set (i := 2) scTake.nd rfl (.inl rfl) (pe_op op_add (pe_dget (hu_of hr) (pv 0) pe_str (fun _ _ => rfl)) pe_int))
      (pss_cons (ps_dput (hu_of hr) (pv 0) pe_str (pv 2) rfl)
      (pss_cons (ps_set (i := 3) scTake.nd rfl (.inl rfl) (pe_op op_mod (pv 2) (pe_callB call_len_seq (by rfl) ml PySem.boot_len (pa_cons (pe_dget (hu_of hr) (pv 0) pe_str (fun _ _ => rfl)) pa_nil))))
      (pss_cons (ps_set (i := 4) scTake.nd rfl (.inl rfl) (pe_ix ix_list (pe_dget (hu_of hr) (pv 0) pe_str (fun _ _ => rfl)) (pv 3) (fun _ _ => rfl)))
      (pss_cons (ps_if (pt_cmpR op_ge (pv 4) (pe_op op_pow pe_int pe_int) (nomark _))
        (pss_cons (ps_asg (pe_callB call_divmodW (by rfl) md (by decide +kernel) (pa_cons (pv 4) (pa_cons (pv 1) pa_nil)))
            (pg_tup rfl (pgs_cons (pg_sub (pe_dget (hu_of hr) (pv 0) pe_str (fun _ _ => rfl)) (pv 3) set_list) (pgs_cons (pg_name (i := 5) scTake.nd rfl (.inl rfl)) pgs_nil))))
          (pss_one (ps_ret (pv 5)))) pss_nil)
      (pss_cons (ps_set (i := 6) scTake.nd rfl (.inl rfl) (pe_op op_mod (pe_op op_mul (pe_op op_add (pe_op op_add (pe_op op_mod (pv 4) pe_int) (pe_op op_mul (pe_op op_mul (pv 2) (pv 2)) pe_int)) pe_int) pe_int) pe_int))
      (pss_cons (ps_set (i := 6) scTake.nd rfl (.inl rfl) (pe_op op_mod (pe_op op_mul (pv 6) (pv 6)) pe_int))
      (pss_one (ps_ret (pe_op op_mod (pe_op op_fdiv (pe_op op_mod (pe_op op_mul (pe_op op_add (pv 6) (pe_op op_mul (pv 2) pe_int)) pe_int) pe_int) pe_int) (pv 1)))))))))), ?_⟩
    obtain ⟨hd, ⟨cs, hc, hne, hlen⟩, hpos⟩ := hS
    have ndc : d ≠ c := ne_of hd hc (by intro z; cases z)
    -- turn = state['turn'] + 1
    refine ⟨.ref d, rfl, d, .int t, rfl, DGet.k (k := Sum.inr "turn") hd, t, 1, rfl, rfl, ?_⟩
    -- state['turn'] = turn
    refine ⟨_, rfl, .ref d, rfl, d, _, rfl, DPut.k (k := Sum.inr "turn") hd (by show 2 < sizeLine; decide), ?_⟩
    have hput : putK [((.inr "cells" : Key), V.ref c), (.inr "turn", .int t)] (.inr "turn") (.int (t + 1)) = [(.inr "cells", .ref c), (.inr "turn", .int (t + 1))] := rfl
    rw [show (.int (t + 1) : V) = V.int (t + 1) from rfl] at *
    rw [hput]
    generalize hH1 : upd H d (.dK [((.inr "cells" : Key), V.ref c), (.inr "turn", .int (t + 1))]) = H1
    have hd1 : H1 d = some (.dK [(.inr "cells", .ref c), (.inr "turn", .int (t + 1))]) := by rw [← hH1]; exact upd_same
    have hc1 : H1 c = some (.lst (cs.map V.int)) := by rw [← hH1, upd_ne ndc.symm]; exact hc
    have k1 : Kp d c H H1 := fun b o h1 h2 e => by rw [← hH1, upd_ne h1]; exact e
    have hlp : 0 < cs.length := List.length_pos_iff.mpr hne
    -- place = turn % len(state['cells'])
    refine ⟨_, rfl, .ref d, rfl, d, .ref c, rfl, DGet.k (k := Sum.inr "cells") hd1, c, _, rfl, .inl (SqL.of hc1), _, _, rfl, rfl, (by show (0 : Int) < ((cs.map V.int).length : Int); rw [List.length_map]; omega), ?_⟩
    dsimp only
    rw [List.length_map]
    have hj0 : 0 ≤ (t + 1) % (cs.length : Int) := Int.emod_nonneg _ (by omega)
    have hj1 : (t + 1) % (cs.length : Int) < cs.length := Int.emod_lt_of_pos _ (by omega)
    obtain ⟨j, hj⟩ := Int.eq_ofNat_of_zero_le hj0
    have hjl : j < cs.length := by omega
    rw [hj]
    have gj : (cs.map V.int)[j]? = some (.int cs[j]) := by rw [List.getElem?_map, List.getElem?_eq_getElem hjl]; rfl
    -- cell = state['cells'][place]
    refine ⟨.ref d, rfl, d, .ref c, rfl, DGet.k (k := Sum.inr "cells") hd1, _, rfl, c, _, _, .int cs[j], rfl, rfl, SqL.of hc1, atI_nat gj, ?_⟩
    generalize cs[j] = x
    -- if cell >= 10 ** 18
    refine ⟨_, rfl, 10, 18, rfl, rfl, ⟨by decide, by decide, by decide⟩, _, _, rfl, rfl, _, rfl, ite2 (fun e => ?_) (fun e => ?_)⟩
    · have hdp : CDivP x m := ⟨hm, PyProof.noPylong_of_log2 (Nat.lt_trans (PySem.Flt.log2_lt_of (by decide) hm2) (by decide))⟩
      refine ⟨_, rfl, _, rfl, x, m, rfl, hdp, fun p hp => ?_⟩
      have npd : d ≠ p := ne_of_none hd1 hp
      have npc : c ≠ p := ne_of_none hc1 hp
      have hd2 : upd H1 p (.tup [.int (x / m), .int (x % m)]) d = some (.dK [(.inr "cells", .ref c), (.inr "turn", .int (t + 1))]) := by rw [upd_ne npd]; exact hd1
      have hc2 : upd H1 p (.tup [.int (x / m), .int (x % m)]) c = some (.lst (cs.map V.int)) := by rw [upd_ne npc]; exact hc1
      refine ⟨p, _, rfl, .inl (.inl upd_same), rfl, _, _, rfl, .ref d, rfl, d, .ref c, rfl, DGet.k (k := Sum.inr "cells") hd2, _, rfl, c, _, _, j, rfl, rfl, hc2, ixN_of (by rw [List.length_map]; exact hjl), _, _, rfl, rfl, ?_⟩
      refine ⟨_, rfl, ?_⟩
      refine q _ _ (Int.emod_nonneg _ (by omega)) (Int.emod_lt_of_pos _ hm) ⟨?_, ⟨cs.set j (x / m), ?_, ?_, ?_⟩, by omega⟩ ?_
      · rw [upd_ne ndc]; exact hd2
      · rw [upd_same, List.map_set]
      · intro z
        have z2 : (cs.set j (x / m)).length = 0 := by rw [z]; rfl
        rw [List.length_set] at z2
        omega
      · rw [List.length_set]; exact hlen
      · intro b o h1 h2 e
        rw [upd_ne h2, upd_ne (ne_of_none (k1 b o h1 h2 e) hp)]
        exact k1 b o h1 h2 e
    · have t1 : t + 1 < 2 ^ 61 := by omega
      -- mixed
      refine ⟨_, rfl, _, _, rfl, rfl, (show (0 : Int) < 2147483629 by decide), _, rfl, _, rfl, t + 1, t + 1, rfl, rfl, .inl ⟨by omega, by omega⟩, _, _, rfl, rfl, .inr ⟨by decide, by decide⟩, _, _, rfl, rfl, _, _, rfl, rfl, _, _, rfl, rfl, .inr ⟨by decide, by decide⟩, _, 2147483647, rfl, rfl, (show (0 : Int) < 2147483647 by decide), ?_⟩
      dsimp only
      generalize hy : ((x % 2147483629 + (t + 1) * (t + 1) * 7919 + 11) * 48271) = y
      have y0 : 0 ≤ y % 2147483647 := Int.emod_nonneg _ (by decide)
      have y1 : y % 2147483647 < 2147483647 := Int.emod_lt_of_pos _ (by decide)
      refine ⟨_, rfl, _, rfl, y % 2147483647, y % 2147483647, rfl, rfl, .inl ⟨by omega, by omega⟩, _, 2147483587, rfl, rfl, (show (0 : Int) < 2147483587 by decide), ?_⟩
      refine ⟨_, rfl, _, rfl, t + 1, 104729, rfl, rfl, .inr ⟨by decide, by decide⟩, _, _, rfl, rfl, _, _, rfl, rfl, .inr ⟨by decide, by decide⟩, _, 2147483629, rfl, rfl, (show (0 : Int) < 2147483629 by decide), _, 64, rfl, rfl, ⟨by decide, by decide⟩, _, rfl, _, m, rfl, rfl, hm, ?_⟩
      exact q _ _ (Int.emod_nonneg _ (by omega)) (Int.emod_lt_of_pos _ hm) ⟨hd1, ⟨cs, hc1, hne, hlen⟩, by omega⟩ k1
end

abbrev sBegin : Stmt := topS 30
theorem scBegin : FnScope ["_law_script", "_law_cells"] ["_law_script"] (defScope sBegin) := ⟨rfl, rfl, rfl, by decide +kernel, rfl, by decide +kernel, by decide +kernel⟩
theorem same_upd {H : Hp} {p : Addr} {o : HO} (h : H p = none) : Same H (upd H p o) := fun b x e => by
  rw [upd_ne (ne_of_none e h)]
  exact e
theorem cut_front (xs : List V) (m : Nat) : cutV xs none (some (m : Int)) = xs.take m := by
  unfold cutV
  rw [HT.sIx_none, HT.sIx_nat]
  show List.take (min m xs.length - 0) (xs.drop 0) = xs.take m
  rw [Nat.sub_zero, List.drop_zero]
  by_cases h : m ≤ xs.length
  · rw [Nat.min_eq_left h]
  · rw [Nat.min_eq_right (by omega), List.take_length, List.take_of_length_le (by omega)]
theorem dp_ints {K : PySem.W.Frag} {H : Hp} : ∀ ns : List Int, DpAll K H (ns.map V.int) (ns.map PyData.int)
  | [] => .nil
  | n :: r => .cons (.int n) (dp_ints r)
theorem lay_ints : ∀ ns : List Int, PyData.canLayAll0 (ns.map PyData.int) = true
  | [] => by simp only [List.map_nil, PyData.canLayAll0]
  | n :: r => by
    rw [List.map_cons, PyData.canLayAll0, lay_ints r]
    simp [PyData.canLay0]
theorem depth_ints : ∀ ns : List Int, PyData.depthAll (ns.map PyData.int) = 0
  | [] => by simp only [List.map_nil, PyData.depthAll]
  | n :: r => by
    rw [List.map_cons, PyData.depthAll, depth_ints r]
    simp [PyData.depth]
theorem shaped_ints (ns : List Int) : SeqAt.shaped (PyData.list (ns.map PyData.int)) = true := by
  unfold SeqAt.shaped
  rw [PyData.canLay0, lay_ints, PyData.depth, depth_ints]
  rfl
theorem eqv_nil (n : Int) (r : List Int) : PyData.eqv (PyData.list ((n :: r).map PyData.int)) (PyData.list []) = false := by
  simp [PyData.eqv, PyData.eqvAll]
theorem eqv_nil0 : PyData.eqv (PyData.list (([] : List Int).map PyData.int)) (PyData.list []) = true := by
  simp [PyData.eqv, PyData.eqvAll]
def spBegin (K : PySem.W.Frag) : Sp := fun vs H Q _ => ∃ (a : Addr) (ns : List Int), vs = [.ref a] ∧ SqL K H a (ns.map V.int) ∧ ns.length ≤ 63 ∧
  ∀ d c H', Same H H' → H d = none → H c = none → StAt H' d c 0 → Q (.ref d) H'
section
variable {K : PySem.W.Frag} {mg : Str → Option Value} {P : Program} {w : World} {base : Heap}
theorem ok_begin {f : Addr} {fd : FuncData} {k : Nat} (F : Fun K "_law_begin" "_law_begin" sBegin f fd) (ml : mg "list" = none) : FnOk P w K mg base CX0 (k + 1) f fd ["_law_script"] (spBegin K) := by
  refine F.ok scBegin (fun vs H Q E h => ?_) (fun cdv A outer s H vs Q E hr h => ?_)
  · obtain ⟨a, ns, rfl, _⟩ := h
    rfl
  · obtain ⟨a, ns, rfl, hS, hlen, q⟩ := h
    refine ⟨_, pss_cons (ps_set (i := 1) scBegin.nd rfl (.inl rfl) (pe_callTy call_list_of (by rfl) ml (by decide +kernel) (pa_cons (pe_slice sl_list (pv 0) po_none (po_some pe_int)) pa_nil)))
      (pss_cons (ps_if (pt_cmpR (op_eqD hr.units) (pv 1) (pe_lst pa_nil) (nomark _)) (pss_one (ps_set (i := 1) scBegin.nd rfl (.inl rfl) (pe_lst (pa_cons pe_int pa_nil)))) pss_nil)
      (pss_one (ps_ret (pe_disp (pps_cons pe_str (pv 1) (pps_cons pe_str pe_int pps_nil)) (by rfl) (by rfl) (fun z => by cases z) (by decide))))), ?_⟩
    -- the end: a dict of what stands at the cells' place
    have fin : ∀ (H1 : Hp) (c : Addr) (cs : List Int) (y : Option V), Same H H1 → H c = none → H1 c = some (.lst (cs.map V.int)) → cs ≠ [] → cs.length ≤ 63 →
        (tRet (tDisp [(tC (.str "cells"), tVar 1), (tC (.str "turn"), tC (.int 0))])) { nx := fun _ H' => Q .non H', rt := Q } [some (.ref a), some (.ref c)] H1 := by
      intro H1 c cs y s1 nc ec hne hl
      refine fun d nd => ⟨_, rfl, upd_same, [(.inr "cells", .ref c), (.inr "turn", .int 0)], rfl, (by show 2 ≤ 15; decide), ?_⟩
      have ndc : c ≠ d := ne_of_none ec nd
      refine q d c _ (fun b o e => ?_) (s1.free nd) nc ⟨?_, ⟨cs, ?_, hne, hl⟩, by decide⟩
      · have nb : b ≠ d := ne_of_none (s1 b o e) nd
        rw [upd_ne nb, upd_ne nb]
        exact s1 b o e
      · exact upd_same
      · rw [upd_ne ndc, upd_ne ndc]
        exact ec
    refine ⟨.ref a, rfl, 63, rfl, a, ns.map V.int, rfl, hS, fun p np => ?_⟩
    have s1 : Same H (upd H p (.lst (cutV (ns.map V.int) none (some 63)))) := same_upd np
    refine ⟨p, _, rfl, .inl (SqL.of upd_same), fun l nl => ?_⟩
    have s2 := s1.trans (same_upd (o := .lst (cutV (ns.map V.int) none (some 63))) nl)
    have ecut : cutV (ns.map V.int) none (some 63) = ns.map V.int := by
      have e := cut_front (ns.map V.int) 63
      have e2 : cutV (ns.map V.int) none (some 63) = (ns.map V.int).take 63 := e
      rw [e2, List.take_of_length_le (by rw [List.length_map]; exact hlen)]
    have el : upd (upd H p (.lst (cutV (ns.map V.int) none (some 63)))) l (.lst (cutV (ns.map V.int) none (some 63))) l = some (.lst (ns.map V.int)) := by
      rw [upd_same, ecut]
    revert s2 el
    generalize upd (upd H p (.lst (cutV (ns.map V.int) none (some 63)))) l (.lst (cutV (ns.map V.int) none (some 63))) = H2
    intro s2 el
    have nlH : H l = none := s1.free nl
    -- if cells == []
    refine ⟨.ref l, rfl, Nat.zero_le _, fun z nz => ?_⟩
    have s3 := s2.trans (same_upd (o := .lst []) nz)
    have nlz : l ≠ z := ne_of_none el nz
    have el3 : upd H2 z (.lst []) l = some (.lst (ns.map V.int)) := by rw [upd_ne nlz]; exact el
    refine ⟨.list (ns.map PyData.int), .list [], .lst (SqL.of el3) (dp_ints ns), .lst (SqL.of upd_same) .nil, shaped_ints ns, shaped_ints [], ?_⟩
    cases ns with
    | nil =>
      refine ⟨true, by rw [eqv_nil0], iteT ?_⟩
      refine ⟨(by show 1 ≤ sizeLine; decide), fun c nc => ?_⟩
      exact fin _ c [_] none (s3.trans (same_upd nc)) (s3.free nc) upd_same (by simp) (by decide)
    | cons n r =>
      refine ⟨false, by rw [eqv_nil], iteF ?_⟩
      exact fin _ l (n :: r) none s3 nlH el3 (by simp) hlen
end

/-- a def of the text that keeps a promise, as its callers see it -/
def Cal (P : Program) (w : World) (K : PySem.W.Frag) (mg : Str → Option Value) (base : Heap) (k : Nat) (x : Str) (ps : List Str) (sp : Sp) : Prop :=
  ∃ f fd, FnOk P w K mg base CX0 k f fd ps sp ∧ mg x = some (.ref f) ∧ PySem.W.keepIn K (.ref f) = true ∧ Binds K fd ps []
theorem pe_own {X : Cx} {k : Nat} {x : Str} {ps : List Str} {sp : Sp} {e : Expr} {es : List Expr} {t : TA} {p pos : Pos} (C : Cal X.prog X.w X.K X.mg X.base k x ps sp) (hr : Room k X.A) (hg : Gl X x) (ha : PA X (e :: es) t)
    (dbg : (x == ("__debug__" : Str)) = false := by decide) (one : starEach (e :: es) X.env = (false, eval e X.env) :: starEach es X.env := by rfl) (star : (backTo pos (starEach es X.env)).any (·.1) = false := by rfl) :
    PE X (.Call (.Name x p) (e :: es) [] pos) (tCall sp [] E0 t) := by
  obtain ⟨f, fd, F, hm, hk, hb⟩ := C
  exact pe_call F hr hg hm hk hb .nil pass0 ha dbg one star
theorem StAt.same {H H' : Hp} {d c : Addr} {t : Int} (h : StAt H d c t) (s : Same H H') : StAt H' d c t :=
  ⟨s _ _ h.dict, let ⟨cs, e, r⟩ := h.cells; ⟨cs, s _ _ e, r⟩, h.pos⟩
theorem Kp.same {H H' : Hp} (d c : Addr) (s : Same H H') : Kp d c H H' := fun b o _ _ e => s b o e
/-- what is made behind the state stays -/
theorem Kp.at {H H' : Hp} {d c a : Addr} {t : Int} {o : HO} (k : Kp d c H H') (S : StAt H d c t) (e : H a = some o) (h1 : ∀ kvs, o ≠ .dK kvs) (h2 : ∀ ns : List Int, o ≠ .lst (ns.map V.int)) : H' a = some o := by
  obtain ⟨cs, ec, _⟩ := S.cells
  refine k a o (fun z => ?_) (fun z => ?_) e
  · rw [z, S.dict] at e
    exact h1 _ (Option.some.inj e).symm
  · rw [z, ec] at e
    exact h2 _ (Option.some.inj e).symm
theorem StAt.upd {H : Hp} {d c l : Addr} {t : Int} {o : HO} (S : StAt H d c t) (h1 : l ≠ d) (h2 : l ≠ c) : StAt (L2.upd H l o) d c t := by
  refine ⟨by rw [upd_ne h1.symm]; exact S.dict, ?_, S.pos⟩
  obtain ⟨cs, ec, r⟩ := S.cells
  exact ⟨cs, by rw [upd_ne h2.symm]; exact ec, r⟩

theorem _root_.GP.Prs.same {H H' : Hp} {vs : List V} {ps : List (Int × Int)} (h : Prs H vs ps) (s : Same H H') : Prs H' vs ps :=
  ⟨h.1, fun i p e => let ⟨a, e1, e2⟩ := h.2 i p e; ⟨a, e1, s _ _ e2⟩⟩
theorem _root_.GP.Prs.kp {H H' : Hp} {d c : Addr} {t : Int} {vs : List V} {ps : List (Int × Int)} (h : Prs H vs ps) (S : StAt H d c t) (k : Kp d c H H') : Prs H' vs ps :=
  ⟨h.1, fun i p e => let ⟨a, e1, e2⟩ := h.2 i p e; ⟨a, e1, k.at S e2 (fun _ z => nomatch z) (fun _ z => nomatch z)⟩⟩
theorem _root_.GP.Prs.upd_lst {H : Hp} {l : Addr} {xs : List V} {o : HO} {vs : List V} {ps : List (Int × Int)} (h : Prs H vs ps) (hl : H l = some (.lst xs)) : Prs (upd H l o) vs ps :=
  ⟨h.1, fun i p e => let ⟨a, e1, e2⟩ := h.2 i p e; ⟨a, e1, by rw [upd_ne (ne_of e2 hl (fun z => nomatch z))]; exact e2⟩⟩
theorem _root_.GP.Prs.nil {H : Hp} : Prs H [] [] := ⟨rfl, fun i p e => by simp at e⟩
theorem _root_.GP.Prs.snoc {H : Hp} {a : Addr} {x y : Int} {vs : List V} {ps : List (Int × Int)} (h : Prs H vs ps) (e : H a = some (.tup [.int x, .int y])) : Prs H (vs ++ [.ref a]) (ps ++ [(x, y)]) := by
  refine ⟨by simp [h.1], fun i p ep => ?_⟩
  by_cases hi : i < ps.length
  · rw [List.getElem?_append_left hi] at ep
    obtain ⟨b, e1, e2⟩ := h.2 i p ep
    exact ⟨b, by rw [List.getElem?_append_left (by rw [h.1]; exact hi)]; exact e1, e2⟩
  · rw [List.getElem?_append_right (by omega)] at ep
    have hz : i - ps.length = 0 := by
      cases hq : i - ps.length with
      | zero => rfl
      | succ n => rw [hq] at ep; simp at ep
    rw [hz] at ep
    have ep' : (x, y) = p := by simpa using ep
    subst ep'
    refine ⟨a, ?_, e⟩
    rw [List.getElem?_append_right (by rw [h.1]; omega), h.1, hz]
    rfl
/-- rising stretches with gaps, from lo on -/
def Ris : Int → List (Int × Int) → Prop
  | _, [] => True
  | lo, p :: r => lo ≤ p.1 ∧ p.1 ≤ p.2 ∧ Ris (p.2 + 2) r
theorem Ris.snoc : ∀ {lo : Int} {ps : List (Int × Int)} {a b : Int}, Ris lo ps → lo ≤ a → (∀ p ∈ ps, p.2 + 2 ≤ a) → a ≤ b → Ris lo (ps ++ [(a, b)])
  | lo, [], a, b, _, h1, _, h3 => ⟨h1, h3, True.intro⟩
  | lo, p :: r, a, b, h, h1, h2, h3 => ⟨h.1, h.2.1, Ris.snoc h.2.2 (h2 p (List.mem_cons_self ..)) (fun q hq => h2 q (List.mem_cons_of_mem _ hq)) h3⟩
theorem pick2 {x y r : Int} (Pv : Int → Prop) (h0 : 0 ≤ r) (h1 : r < 2) (hx : Pv x) (hy : Pv y) : ∃ v, Pv v ∧ atI [V.int x, V.int y] r = some (.int v) := by
  have : r = 0 ∨ r = 1 := by omega
  rcases this with rfl | rfl
  · exact ⟨x, hx, rfl⟩
  · exact ⟨y, hy, rfl⟩
theorem pick3 {x y z r : Int} (Pv : Int → Prop) (h0 : 0 ≤ r) (h1 : r < 3) (hx : Pv x) (hy : Pv y) (hz : Pv z) : ∃ v, Pv v ∧ atI [V.int x, V.int y, V.int z] r = some (.int v) := by
  have : r = 0 ∨ r = 1 ∨ r = 2 := by omega
  rcases this with rfl | rfl | rfl
  · exact ⟨x, hx, rfl⟩
  · exact ⟨y, hy, rfl⟩
  · exact ⟨z, hz, rfl⟩
/-- a new object stands through the state's change -/
theorem Kp.new {H H' : Hp} {d c l : Addr} {t : Int} {o : HO} (k : Kp d c (upd H l o) H') (S : StAt H d c t) (n : H l = none) : H' l = some o := by
  obtain ⟨cs, ec, _⟩ := S.cells
  exact k l o (ne_of_none S.dict n).symm (ne_of_none ec n).symm upd_same
theorem drop_at {α : Type} {l : List α} {i : Nat} {x : α} (h : l[i]? = some x) : l.drop i = x :: l.drop (i + 1) := by
  obtain ⟨lt, e⟩ := List.getElem?_eq_some_iff.mp h
  rw [← e]
  exact List.drop_eq_getElem_cons lt
theorem prs_at {H : Hp} {vs : List V} {ps : List (Int × Int)} {i : Nat} {x : V} (h : Prs H vs ps) (e : vs[i]? = some x) : ∃ (p : Int × Int) (a : Addr), ps[i]? = some p ∧ x = .ref a ∧ H a = some (.tup [.int p.1, .int p.2]) := by
  obtain ⟨hi, _⟩ := List.getElem?_eq_some_iff.mp e
  have hi2 : i < ps.length := by rw [← h.1]; exact hi
  obtain ⟨a, e1, e2⟩ := h.2 i ps[i] (List.getElem?_eq_getElem hi2)
  rw [e] at e1
  exact ⟨ps[i], a, List.getElem?_eq_getElem hi2, Option.some.inj e1, e2⟩

theorem sumP_append (g : Int → Int → Int) (ps qs : List (Int × Int)) : sumP g (ps ++ qs) = sumP g ps + sumP g qs := by
  unfold sumP
  rw [List.map_append, List.sum_append]
def inB (n a b : Int) : Bool := decide (a ≤ n) && decide (n ≤ b)
theorem Ris.le : ∀ {lo : Int} {ps : List (Int × Int)}, Ris lo ps → ∀ p ∈ ps, lo ≤ p.1 ∧ p.1 ≤ p.2
  | _, [], _, _, hp => nomatch hp
  | lo, q :: r, h, p, hp => by
    rcases List.mem_cons.mp hp with e | e'
    · rw [e]; exact ⟨h.1, h.2.1⟩
    · have := Ris.le h.2.2 p e'
      have := h.2.1
      have := h.1
      omega

/-! ### walks over a list or a tuple -/
def Sq (K : PySem.W.Frag) (H : Hp) (a : Addr) (xs : List V) : Prop := SqL K H a xs ∨ SqT K H a xs
def iSeq (K : PySem.W.Frag) (tl : TE) : TI := fun σ H R => tl σ H fun x H1 => ∃ a, x = .ref a ∧ (((∃ xs, SqL K H1 a xs) ∧ R (Itl K a) H1) ∨ ((∃ xs, SqT K H1 a xs) ∧ R (Itt K a) H1))
/-- the iterator that was just laid is no one's -/
theorem lone {X : Cx} {pins : List (Addr × Obj)} {σ : L2.St} {H : Hp} {s : Shared} (I : Inv X pins σ H s) : ∀ b ∈ [s.heap.objs.size], FpOk X pins H b := fun b hb => by
  rw [List.mem_singleton.mp hb]
  exact I.fpOk (H' := H) (Nat.le_refl _) (I.hok.fresh (Nat.le_refl _))
theorem pi_seq {X : Cx} {tg l : Expr} {tl : TE} (walked : PE X l tl) : PI X tg l (iSeq X.K tl) := by
  constructor
  intro pins s σ H R I h
  refine thn (walked.run pins s σ H _ I h) fun u s1 had => ?_
  obtain ⟨_, H1, J, rel, a, rfl, had⟩ := had
  cases rel
  have laid : ∀ o, Inv X pins σ H1 { s1 with heap := s1.heap.push o } := fun o => J.kept (t' := s1.toks) fun _ _ e => Heap.get?_push_of_some _ e
  rcases had with ⟨⟨xs, hq⟩, q⟩ | ⟨⟨xs, hq⟩, q⟩
  · obtain ⟨its, _, isL, _⟩ := J.list hq
    exact wpAny_pyIter_list isL.isList ⟨_, _, _, _, H1, rfl, laid _, turn_list a _, ⟨_, Heap.get?_push_size _ rfl, rfl, rfl⟩, lone J, q⟩
  · obtain ⟨its, _, isT, _⟩ := J.tuple hq
    exact wpAny_pyIter_tuple (items := its.toArray) isT ⟨_, _, _, _, H1, rfl, laid _, turn_tuple a _, ⟨_, Heap.get?_push_size _ rfl, rfl, rfl⟩, lone J, q⟩
/-- the walked thing stands as it stood -/
def SqTo (K : PySem.W.Frag) (H H' : Hp) (a : Addr) (xs : List V) : Prop := (SqL K H a xs → SqL K H' a xs) ∧ (SqT K H a xs → SqT K H' a xs)
theorem SqTo.refl {K : PySem.W.Frag} {H : Hp} {a : Addr} {xs : List V} : SqTo K H H a xs := ⟨fun h => h, fun h => h⟩
theorem same_t {K : PySem.W.Frag} {H H' : Hp} {a : Addr} {xs : List V} (s : Same H H') (h : SqT K H a xs) : SqT K H' a xs :=
  h.elim (fun r => .inl (r.elim (fun e => .inl (s a _ e)) fun ⟨o, e⟩ => .inr ⟨o, s a _ e⟩)) .inr
theorem SqTo.same {K : PySem.W.Frag} {H H' : Hp} {a : Addr} {xs : List V} (s : Same H H') : SqTo K H H' a xs := ⟨s.seq, same_t s⟩
theorem Sq.same {K : PySem.W.Frag} {H H' : Hp} {a : Addr} {xs : List V} (h : Sq K H a xs) (s : Same H H') : Sq K H' a xs := h.elim (fun h => .inl (s.seq h)) fun h => .inr (same_t s h)
theorem Sq.list {K : PySem.W.Frag} {H : Hp} {a : Addr} {xs : List V} (h : H a = some (.lst xs)) : Sq K H a xs := .inl (SqL.of h)
theorem Sq.tup {K : PySem.W.Frag} {H : Hp} {a : Addr} {xs : List V} (h : H a = some (.tup xs)) : Sq K H a xs := .inr (.inl (.inl h))
abbrev ForR (J : It) (g : TG) (tb : TS) (D : Ends) (σ : L2.St) (H1 : Hp) : Prop := ∃ W : Nat → Nat → L2.St → Hp → Prop, (∃ m, W 0 m σ H1) ∧ ∀ i m σ H, W i m σ H →
  (J.stop i H ∧ D.nx σ H) ∨ (J.go i H ∧ ∃ N : L2.St → Hp → Prop, (∀ σ' H', N σ' H' → ∃ m', m' < m ∧ W (i + 1) m' σ' H') ∧ ∀ x H', J.yld i H x H' → g x σ H' fun σ2 H2 => tb { D with nx := N, ct := N, bk := D.nx } σ2 H2)
theorem for_seq {K : PySem.W.Frag} {a : Addr} {xs : List V} {g : TG} {tb : TS} {D : Ends} {σ : L2.St} {H1 : Hp} (hq : Sq K H1 a xs) (Pv : Nat → L2.St → Hp → Prop) (h0 : Pv 0 σ H1)
    (hl : ∀ i σ H', i ≤ xs.length → Pv i σ H' → SqTo K H1 H' a xs)
    (turn : ∀ i x σ H, xs[i]? = some x → Pv i σ H → g x σ H fun σ2 H2 => tb { D with nx := Pv (i + 1), ct := Pv (i + 1), bk := D.nx } σ2 H2) (fin : ∀ σ H, Pv xs.length σ H → D.nx σ H) :
    ((∃ xs, SqL K H1 a xs) ∧ ForR (Itl K a) g tb D σ H1) ∨ ((∃ xs, SqT K H1 a xs) ∧ ForR (Itt K a) g tb D σ H1) := by
  rcases hq with h | h
  · exact .inl ⟨⟨xs, h⟩, for_list (xs := xs) Pv h0 (fun i σ H' hi p => (hl i σ H' hi p).1 h) turn fin⟩
  · exact .inr ⟨⟨xs, h⟩, for_tup (xs := xs) Pv h0 (fun i σ H' hi p => (hl i σ H' hi p).2 h) turn fin⟩

/-! ### pairs as data -/
def pairD (p : Int × Int) : PyData := .tuple [.int p.1, .int p.2]
theorem dp_prs {K : PySem.W.Frag} {H : Hp} : ∀ {us : List V} {ps : List (Int × Int)}, Prs H us ps → DpAll K H us (ps.map pairD)
  | [], [], _ => .nil
  | [], _ :: _, h => nomatch h.1
  | _ :: _, [], h => nomatch h.1
  | u :: us, p :: ps, h => by
    obtain ⟨a, e1, e2⟩ := h.2 0 p rfl
    have eu : u = .ref a := Option.some.inj e1
    subst eu
    refine .cons (.tup (.inl (.inl e2)) (.cons (.int _) (.cons (.int _) .nil))) (dp_prs ⟨Nat.succ.inj h.1, fun i q e => ?_⟩)
    obtain ⟨b, f1, f2⟩ := h.2 (i + 1) q e
    exact ⟨b, f1, f2⟩
theorem lay_prs : ∀ ps : List (Int × Int), PyData.canLayAll0 (ps.map pairD) = true
  | [] => by simp only [List.map_nil, PyData.canLayAll0]
  | p :: r => by
    rw [List.map_cons, PyData.canLayAll0, lay_prs r]
    simp [pairD, PyData.canLay0, PyData.canLayAll0]
theorem depth_prs : ∀ ps : List (Int × Int), PyData.depthAll (ps.map pairD) ≤ 1
  | [] => by simp only [List.map_nil, PyData.depthAll]; omega
  | p :: r => by
    rw [List.map_cons, PyData.depthAll]  -- a pair, then the rest
    have := depth_prs r
    simp [pairD, PyData.depth, PyData.depthAll]
    omega
theorem shaped_prs (ps : List (Int × Int)) : SeqAt.shaped (PyData.list (ps.map pairD)) = true := by
  unfold SeqAt.shaped
  rw [PyData.canLay0, lay_prs, PyData.depth, Bool.true_and]
  exact decide_eq_true (by have := depth_prs ps; omega)
theorem eqv_prs (ps : List (Int × Int)) : PyData.eqv (PyData.list (ps.map pairD)) (PyData.list (ps.map pairD)) = true := SeqAt.eqv_refl _ (by rw [PyData.canLay0]; exact lay_prs ps)
theorem tabG_tabbed {Pt Pu : Addr} {H H2 : Hp} (g : GxR.TabG H Pu) (x : GxR.Tabbed Pt H H2) : GxR.TabG H2 Pu := by
  by_cases e : Pu = Pt
  · rw [e]; exact x.1
  · obtain ⟨ps, h, r⟩ := g
    exact ⟨ps, by rw [x.2 _ e]; exact h, r⟩

theorem Kp.free {H H' : Hp} {d c l : Addr} {t' : Int} (k : Kp d c H H') (S' : StAt H' d c t') (n : H' l = none) : H l = none := by
  cases e : H l with
  | none => rfl
  | some o =>
    obtain ⟨cs1, ec1, _⟩ := S'.cells
    have z := k l o (ne_of_none S'.dict n).symm (ne_of_none ec1 n).symm e
    rw [n] at z
    cases z
theorem StAt.off {H : Hp} {d c l : Addr} {t : Int} (S : StAt H d c t) (n : H l = none) : l ≠ d ∧ l ≠ c := by
  obtain ⟨cs1, ec1, _⟩ := S.cells
  exact ⟨(ne_of_none S.dict n).symm, (ne_of_none ec1 n).symm⟩
/-- no whole number among these: so it's not the draws' cells -/
def NoInt (xs : List V) : Prop := ∀ x ∈ xs, ∀ i, x ≠ .int i
theorem Kp.lst {H H' : Hp} {d c a : Addr} {t : Int} {xs : List V} (k : Kp d c H H') (S : StAt H d c t) (e : H a = some (.lst xs)) (h : NoInt xs) : H' a = some (.lst xs) := by
  obtain ⟨cs, ec, hne, _⟩ := S.cells
  refine k a _ (fun z => ?_) (fun z => ?_) e
  · rw [z, S.dict] at e
    cases e
  · rw [z, ec] at e
    have e' : cs.map V.int = xs := HO.lst.inj (Option.some.inj e)
    cases cs with
    | nil => exact hne rfl
    | cons n r => exact h (.int n) (e' ▸ List.mem_cons_self ..) n rfl
theorem Kp.tup {H H' : Hp} {d c a : Addr} {t : Int} {xs : List V} (k : Kp d c H H') (S : StAt H d c t) (e : H a = some (.tup xs)) : H' a = some (.tup xs) := k.at S e (fun _ z => nomatch z) (fun _ z => nomatch z)
theorem noInt_strs (xs : List Str) : NoInt (xs.map V.str) := fun x hx i e => by
  obtain ⟨y, _, rfl⟩ := List.mem_map.mp hx
  cases e
theorem noInt_prs {H : Hp} {us : List V} {ps : List (Int × Int)} (h : Prs H us ps) : NoInt us := fun x hx i e => by
  obtain ⟨j, hj, e1⟩ := List.getElem_of_mem hx
  obtain ⟨p, a, _, rfl, _⟩ := prs_at h (by rw [List.getElem?_eq_getElem hj, e1])
  cases e

/-- a text of one sign -/
def sgS (c : Nat) : Str := ⟨#[c]⟩
def sgn (c : Nat) : V := .str (sgS c)
def spNames : Sp := fun vs H Q _ => ∃ (d c : Addr) (t m : Int), vs = [.ref d, .int m] ∧ StAt H d c t ∧ t + 100 < 2 ^ 60 ∧ 0 ≤ m ∧ m ≤ 20 ∧
  ∀ (l : Addr) (xs : List Str) (t' : Int) H', H l = none → H' l = some (.lst (xs.map V.str)) → (∀ x ∈ xs, PyData.strOk x = true) → (xs.length : Int) = m → xs.Nodup → t ≤ t' → t' ≤ t + 20 → StAt H' d c t' → Kp d c H H' → Q (.ref l) H'
theorem join_small {cs : List Nat} (h : cs.length ≤ 10) : ((cs.map sgS).map (·.length)).sum + (cs.map sgS).length * ("" : Str).length ≤ 16777216 := by
  have e : ((cs.map sgS).map (·.length)).sum = cs.length := by
    induction cs with
    | nil => rfl
    | cons c r ih =>
      rw [List.map_cons, List.map_cons, List.sum_cons, ih (by rw [List.length_cons] at h; omega), List.length_cons]
      show 1 + r.length = r.length + 1
      omega
  rw [e, show ("" : Str).length = 0 from rfl, Nat.mul_zero]
  omega
theorem joinL_ones : ∀ cs : List Nat, TL.joinL [] (cs.map fun c => [c]) = cs
  | [] => rfl
  | [_] => rfl
  | c :: c2 :: r => by
    have ih := joinL_ones (c2 :: r)
    show [c] ++ ([] ++ TL.joinL [] ((c2 :: r).map fun c => [c])) = _
    rw [ih]
    rfl
theorem join_ok {cs : List Nat} (h : ∀ c ∈ cs, c < 1114112) : PyData.strOk (Txt.join "" (cs.map sgS)) = true := by
  have e : Txt.join "" (cs.map sgS) = SX.S cs := by
    have z := SX.join_S [] (cs.map fun c => [c])
    rw [joinL_ones, List.map_map] at z
    exact z
  rw [e]
  show (Array.all _ _) = true
  rw [Array.all_eq_true']
  intro c hc
  exact decide_eq_true (h c (by simpa using hc))
/-- words that are unlike at one sign -/
def Spelt (abc : Str) (N fi sv : Int) (js : Nat) (xs : List Str) : Prop := ∀ (k : Nat) x, xs[k]? = some x → ∃ (cs : List Nat) (ch : Nat), x = SX.S cs ∧ cs[js]? = some ch ∧ atI abc.cps.toList ((fi + sv * (k : Int)) % N) = some ch
theorem join_eq (cs : List Nat) : Txt.join "" (cs.map sgS) = SX.S cs := by
  have z := SX.join_S [] (cs.map fun c => [c])
  rw [joinL_ones, List.map_map] at z
  exact z
theorem Spelt.snoc {abc : Str} {N fi sv : Int} {js i : Nat} {xs : List Str} {cs : List Nat} {ch : Nat} (h : Spelt abc N fi sv js xs) (hl : xs.length = i) (e1 : cs[js]? = some ch) (e2 : atI abc.cps.toList ((fi + sv * (i : Int)) % N) = some ch) : Spelt abc N fi sv js (xs ++ [Txt.join "" (cs.map sgS)]) := fun k x e => by
  by_cases hk : k < xs.length
  · rw [List.getElem?_append_left hk] at e
    exact h k x e
  · rw [List.getElem?_append_right (by omega)] at e
    have hz : k - xs.length = 0 := by
      cases hq : k - xs.length with
      | zero => rfl
      | succ n => rw [hq] at e; cases e
    rw [hz] at e
    cases e
    have hki : k = i := by omega
    subst hki
    exact ⟨cs, ch, join_eq cs, e1, e2⟩
theorem Spelt.nodup {abc : Str} {N fi sv : Int} {js : Nat} {xs : List Str} (h : Spelt abc N fi sv js xs) (hN : 0 < N) (hl : (abc.cps.toList.length : Int) = N) (hn : abc.cps.toList.Nodup) (far : ∀ k k' : Nat, k < xs.length → k' < xs.length → (fi + sv * (k : Int)) % N = (fi + sv * (k' : Int)) % N → k = k') : xs.Nodup := by
  refine List.pairwise_iff_getElem.mpr fun i j hi hj hij ex => ?_
  obtain ⟨cs1, c1, e1, f1, g1⟩ := h i xs[i] (List.getElem?_eq_getElem hi)
  obtain ⟨cs2, c2, e2, f2, g2⟩ := h j xs[j] (List.getElem?_eq_getElem hj)
  rw [e1, e2] at ex
  have ec : cs1 = cs2 := SX.S_inj ex
  rw [ec, f2] at f1
  have ecc : c2 = c1 := Option.some.inj f1
  rw [← ecc] at g1
  obtain ⟨a, ha⟩ := Int.eq_ofNat_of_zero_le (Int.emod_nonneg (fi + sv * (i : Int)) (show N ≠ 0 by omega))
  obtain ⟨b, hb⟩ := Int.eq_ofNat_of_zero_le (Int.emod_nonneg (fi + sv * (j : Int)) (show N ≠ 0 by omega))
  have la := Int.emod_lt_of_pos (fi + sv * (i : Int)) hN
  have lb := Int.emod_lt_of_pos (fi + sv * (j : Int)) hN
  rw [ha] at g1 la
  rw [hb] at g2 lb
  have a1 : a < abc.cps.toList.length := by omega
  have b1 : b < abc.cps.toList.length := by omega
  have g1' : abc.cps.toList[a]? = some c2 := by
    have z := atI_nat (List.getElem?_eq_getElem a1)
    rw [z] at g1
    rw [List.getElem?_eq_getElem a1]
    exact g1
  have g2' : abc.cps.toList[b]? = some c2 := by
    have z := atI_nat (List.getElem?_eq_getElem b1)
    rw [z] at g2
    rw [List.getElem?_eq_getElem b1]
    exact g2
  have eab : a = b := (List.getElem?_inj a1 hn).mp (g1'.trans g2'.symm)
  have := far i j (by omega) hj (by rw [ha, hb, eab])
  omega
/-! ### _law_names -/

theorem snoc_cases {α : Type} (l : List α) : l = [] ∨ ∃ l' x, l = l' ++ [x] := by
  rcases List.eq_nil_or_concat l with h | ⟨l', x, h⟩
  · exact .inl h
  · exact .inr ⟨l', x, by rw [h]; simp⟩
theorem _root_.GP.Prs.last {H : Hp} {us : List V} {ps : List (Int × Int)} {p : Int × Int} (h : Prs H us (ps ++ [p])) : ∃ us' T, us = us' ++ [.ref T] ∧ H T = some (.tup [.int p.1, .int p.2]) ∧ Prs H us' ps := by
  have hl := h.1
  rw [List.length_append] at hl
  rcases snoc_cases us with e | ⟨us', x, e⟩
  · rw [e] at hl
    simp at hl
  · subst e
    rw [List.length_append] at hl
    have hl' : us'.length = ps.length := Nat.add_right_cancel hl
    obtain ⟨T, e1, e2⟩ := h.2 ps.length p (by rw [List.getElem?_append_right (Nat.le_refl _), Nat.sub_self]; rfl)
    rw [List.getElem?_append_right (by omega), hl', Nat.sub_self] at e1
    refine ⟨us', T, by rw [Option.some.inj e1], e2, hl', fun i q eq => ?_⟩
    have hi : i < ps.length := (List.getElem?_eq_some_iff.mp eq).1
    obtain ⟨b, f1, f2⟩ := h.2 i q (by rw [List.getElem?_append_left hi]; exact eq)
    rw [List.getElem?_append_left (by omega)] at f1
    exact ⟨b, f1, f2⟩
theorem eqv_pr_nil (ps : List (Int × Int)) : PyData.eqv (PyData.list (ps.map pairD)) (PyData.list []) = ps.isEmpty := by
  cases ps with
  | nil => simp [PyData.eqv, PyData.eqvAll]
  | cons p r => simp [PyData.eqv, PyData.eqvAll]
def rIxS (K : PySem.W.Frag) : R2 := fun x y H Q => ∃ p xs i v, x = .ref p ∧ y = .int i ∧ Sq K H p xs ∧ atI xs i = some v ∧ Q v H
theorem ix_seq {X : Cx} : IxR X (rIxS X.K) := by
  intro value slice pins s σ H x y v u Q I rx ry h hs
  obtain ⟨p, xs, i, z, e1, e2, hq, he, q⟩ := h
  rcases hq with hq | hq
  · exact ix_list value slice pins s σ H x y v u Q I rx ry ⟨p, xs, i, z, e1, e2, hq, he, q⟩ hs
  · exact ix_tup value slice pins s σ H x y v u Q I rx ry ⟨p, xs, i, z, e1, e2, hq, he, q⟩ hs

/-! ### the table of the def that holds the generator expression -/
theorem tab_at {Pt : Addr} {H H2 : Hp} {b : Addr} {o : HO} (g : GxR.TabG H Pt) (t : GxR.Tabbed Pt H H2) (e : H b = some o) (h : ∀ q, o ≠ .tbl q) : H2 b = some o := by
  obtain ⟨ps, hP, _⟩ := g
  rw [t.2 b (ne_of e hP (h ps))]
  exact e
theorem StAt.tab {Pt : Addr} {H H2 : Hp} {d c : Addr} {t : Int} (S : StAt H d c t) (g : GxR.TabG H Pt) (x : GxR.Tabbed Pt H H2) : StAt H2 d c t :=
  ⟨tab_at g x S.dict (fun _ z => nomatch z), let ⟨cs, e, r⟩ := S.cells; ⟨cs, tab_at g x e (fun _ z => nomatch z), r⟩, S.pos⟩
theorem _root_.GP.Prs.tab {Pt : Addr} {H H2 : Hp} {vs : List V} {ps : List (Int × Int)} (h : Prs H vs ps) (g : GxR.TabG H Pt) (x : GxR.Tabbed Pt H H2) : Prs H2 vs ps :=
  ⟨h.1, fun i p e => let ⟨a, e1, e2⟩ := h.2 i p e; ⟨a, e1, tab_at g x e2 (fun _ z => nomatch z)⟩⟩
theorem tabG_same {Pt : Addr} {H H' : Hp} (g : GxR.TabG H Pt) (s : Same H H') : GxR.TabG H' Pt := let ⟨ps, e, r⟩ := g; ⟨ps, s _ _ e, r⟩
theorem tabG_kp {Pt : Addr} {H H' : Hp} {d c : Addr} {t : Int} (g : GxR.TabG H Pt) (S : StAt H d c t) (k : Kp d c H H') : GxR.TabG H' Pt := let ⟨ps, e, r⟩ := g; ⟨ps, k.at S e (fun _ z => nomatch z) (fun _ z => nomatch z), r⟩
theorem tabG_upd {Pt : Addr} {H : Hp} {l : Addr} {o u : HO} (g : GxR.TabG H Pt) (e : H l = some o) (h : ∀ q, o ≠ .tbl q) : GxR.TabG (upd H l u) Pt := let ⟨ps, eP, r⟩ := g; ⟨ps, by rw [upd_ne (ne_of e eP (h ps)).symm]; exact eP, r⟩
theorem tabbed_free {Pt : Addr} {H H2 : Hp} {p : Addr} (g : GxR.TabG H Pt) (x : GxR.Tabbed Pt H H2) (h : H2 p = none) : H p = none := by
  obtain ⟨ps, e, _⟩ := x.1
  rw [← x.2 p (fun z => by rw [z, e] at h; cases h)]
  exact h

/-- a walk over what stood before a list was begun -/
theorem for_seqS {K : PySem.W.Frag} {a : Addr} {xs : List V} {g : TG} {tb : TS} {D : Ends} {σ : L2.St} {H0 H1 : Hp} (hq : Sq K H0 a xs) (s1 : Same H0 H1) (Pv : Nat → L2.St → Hp → Prop) (h0 : Pv 0 σ H1)
    (hl : ∀ i σ H', Pv i σ H' → Same H0 H')
    (turn : ∀ i x σ H, xs[i]? = some x → Pv i σ H → g x σ H fun σ2 H2 => tb { D with nx := Pv (i + 1), ct := Pv (i + 1), bk := D.nx } σ2 H2) (fin : ∀ σ H, Pv xs.length σ H → D.nx σ H) :
    ((∃ xs, SqL K H1 a xs) ∧ ForR (Itl K a) g tb D σ H1) ∨ ((∃ xs, SqT K H1 a xs) ∧ ForR (Itt K a) g tb D σ H1) := by
  rcases hq with h | h
  · exact .inl ⟨⟨xs, s1.seq h⟩, for_list (xs := xs) Pv h0 (fun i σ H' _ p => (hl i σ H' p).seq h) turn fin⟩
  · exact .inr ⟨⟨xs, same_t s1 h⟩, for_tup (xs := xs) Pv h0 (fun i σ H' _ p => same_t (hl i σ H' p) h) turn fin⟩

abbrev LcR (J : It) (g : TG) (tt : TT) (te : TE) (vs : List Nat) (σ : L2.St) (D : Addr) (Qd : Addr → Hp → Prop) (H1 : Hp) : Prop := ∃ W : Nat → Nat → Hp → Prop, (∃ m, W 0 m (upd H1 D (.lst []))) ∧ ∀ i m H, W i m H →
  (J.stop i H ∧ Qd D H) ∨ (J.go i H ∧ ∃ Nx : Hp → Prop, (∀ H', Nx H' → ∃ m', m' < m ∧ W (i + 1) m' H') ∧ ∀ x H', J.yld i H x H' → g x (wipe σ vs) H' fun σ2 H2 => wipe σ2 vs = wipe σ vs ∧ tt σ2 H2 fun b H3 => if b = true then
    te σ2 H3 fun y H4 => ∃ acc, H4 D = some (.lst acc) ∧ acc.length < sizeLine ∧ Nx (upd H4 D (.lst (acc ++ [y]))) else Nx H3)
theorem lc_seq {K : PySem.W.Frag} {a : Addr} {xs : List V} {g : TG} {tt : TT} {te : TE} {vs : List Nat} {σ : L2.St} {H1 : Hp} {Qd : Addr → Hp → Prop} (hq : Sq K H1 a xs) (Pv : Addr → Nat → Hp → Prop) (h0 : ∀ D, H1 D = none → Pv D 0 (upd H1 D (.lst [])))
    (still : ∀ D i H', H1 D = none → Pv D i H' → SqTo K H1 H' a xs)
    (turn : ∀ D i x H', H1 D = none → xs[i]? = some x → Pv D i H' → g x (wipe σ vs) H' fun σ2 H2 => wipe σ2 vs = wipe σ vs ∧ tt σ2 H2 fun b H3 =>
      if b = true then te σ2 H3 fun y H4 => ∃ acc, H4 D = some (.lst acc) ∧ acc.length < sizeLine ∧ Pv D (i + 1) (upd H4 D (.lst (acc ++ [y]))) else Pv D (i + 1) H3) (fin : ∀ D H', H1 D = none → Pv D xs.length H' → Qd D H') :
    ((∃ xs, SqL K H1 a xs) ∧ ∀ D, H1 D = none → LcR (Itl K a) g tt te vs σ D Qd H1) ∨ ((∃ xs, SqT K H1 a xs) ∧ ∀ D, H1 D = none → LcR (Itt K a) g tt te vs σ D Qd H1) := by
  rcases hq with h | h
  · exact .inl ⟨⟨xs, h⟩, fun D nD => lc_list (xs := xs) (Pv D) (h0 D nD) (fun i H' _ p => (still D i H' nD p).1 h) (fun i x H' e p => turn D i x H' nD e p) (fun H' p => fin D H' nD p)⟩
  · exact .inr ⟨⟨xs, h⟩, fun D nD => lc_tup (xs := xs) (Pv D) (h0 D nD) (fun i H' _ p => (still D i H' nD p).2 h) (fun i x H' e p => turn D i x H' nD e p) (fun H' p => fin D H' nD p)⟩

/-! ### things as data, all of it tracked -/
inductive Dat (H : Hp) : V → PyData → Prop
  | non : Dat H .non .none
  | bl (b : Bool) : Dat H (.bl b) (.bool b)
  | int (i : Int) : Dat H (.int i) (.int i)
  | str (x : Str) : Dat H (.str x) (.str x)
  | lst {a : Addr} {xs : List V} {ds : List PyData} : H a = some (.lst xs) → xs.length = ds.length → (∀ (i : Nat) x d, xs[i]? = some x → ds[i]? = some d → Dat H x d) → Dat H (.ref a) (.list ds)
  | tup {a : Addr} {xs : List V} {ds : List PyData} : H a = some (.tup xs) → xs.length = ds.length → (∀ (i : Nat) x d, xs[i]? = some x → ds[i]? = some d → Dat H x d) → Dat H (.ref a) (.tuple ds)
theorem Dat.same {H H' : Hp} {v : V} {d : PyData} (h : Dat H v d) (s : Same H H') : Dat H' v d := by
  induction h with
  | non => exact .non
  | bl b => exact .bl b
  | int i => exact .int i
  | str x => exact .str x
  | lst e l _ ih => exact .lst (s _ _ e) l ih
  | tup e l _ ih => exact .tup (s _ _ e) l ih
/-- at most so deep, no longer than these lines -/
def Sm : Nat → PyData → Prop
  | _, .none => True
  | _, .bool _ => True
  | _, .int _ => True
  | _, .str _ => True
  | n + 1, .list ds => ds.length ≤ 900 ∧ ∀ d ∈ ds, Sm n d
  | n + 1, .tuple ds => ds.length ≤ 900 ∧ ∀ d ∈ ds, Sm n d
  | _, _ => False
/-- no list, no tuple -/
def Flat (d : PyData) : Prop := d = .none ∨ (∃ b, d = .bool b) ∨ (∃ i, d = .int i) ∨ ∃ x, d = .str x
theorem Sm.cases {n : Nat} {d : PyData} (h : Sm (n + 1) d) : Flat d ∨ (∃ ds, d = .list ds ∧ ds.length ≤ 900 ∧ ∀ d ∈ ds, Sm n d) ∨ ∃ ds, d = .tuple ds ∧ ds.length ≤ 900 ∧ ∀ d ∈ ds, Sm n d := by
  cases d <;> first | exact .inl (.inl rfl) | exact .inl (.inr (.inl ⟨_, rfl⟩)) | exact .inl (.inr (.inr (.inl ⟨_, rfl⟩))) | exact .inl (.inr (.inr (.inr ⟨_, rfl⟩))) | exact .inr (.inl ⟨_, rfl, h.1, h.2⟩) | exact .inr (.inr ⟨_, rfl, h.1, h.2⟩) | exact h.elim
theorem Sm.flat {d : PyData} (h : Sm 0 d) : Flat d := by
  cases d <;> first | exact .inl rfl | exact .inr (.inl ⟨_, rfl⟩) | exact .inr (.inr (.inl ⟨_, rfl⟩)) | exact .inr (.inr (.inr ⟨_, rfl⟩)) | exact h.elim
theorem walk_zipTs {K : PySem.W.Frag} {a b : Addr} {xs ys : List V} {n : Nat} (h1 : xs.length = n) (h2 : ys.length = n) : Walk (RZ.ItzT K a b) n (fun H => SqT K H a xs ∧ SqT K H b ys) (YPair (fun i => xs[i]?) (fun i => ys[i]?)) where
  goes := fun i _ lt q => ⟨xs, ys, _, _, q.1, q.2, List.getElem?_eq_getElem (h1.symm ▸ lt), List.getElem?_eq_getElem (h2.symm ▸ lt)⟩
  stops := fun _ q => ⟨xs, ys, q.1, q.2, .inl (Nat.le_of_eq h1)⟩
  yields := fun i _ _ _ _ q ⟨T, x, z, e1, e2, e3, e4, e5⟩ => ⟨T, x, z, e1, e2, e3, e4 xs q.1, e5 ys q.2⟩
theorem prs_dat {H : Hp} {us : List V} {ps : List (Int × Int)} (h : Prs H us ps) : ∀ (i : Nat) x d, us[i]? = some x → (ps.map pairD)[i]? = some d → Dat H x d := fun i x d e1 e2 => by
  obtain ⟨p, a, ep, rfl, ea⟩ := prs_at h e1
  rw [List.getElem?_map, ep] at e2
  have ed : pairD p = d := Option.some.inj e2
  rw [← ed]
  refine .tup ea rfl fun j y d f1 f2 => ?_
  have hj : j < 2 := (List.getElem?_eq_some_iff.mp f1).1
  have : j = 0 ∨ j = 1 := by omega
  rcases this with rfl | rfl
  · cases f1; cases f2; exact .int _
  · cases f1; cases f2; exact .int _
theorem sm_prs {ps : List (Int × Int)} (h : ps.length ≤ 900) : Sm 2 (.list (ps.map pairD)) := by
  refine ⟨by rw [List.length_map]; exact h, fun d hd => ?_⟩
  obtain ⟨p, _, rfl⟩ := List.mem_map.mp hd
  exact ⟨by show 2 ≤ 900; decide, fun d hd => by
    rcases List.mem_cons.mp hd with e | e
    · rw [e]; trivial
    · rw [List.mem_singleton.mp e]; trivial⟩
theorem ints_dat {H : Hp} {a : Addr} {ns : List Int} (e : H a = some (.lst (ns.map V.int))) : Dat H (.ref a) (.list (ns.map PyData.int)) := .lst e (by rw [List.length_map, List.length_map]) fun i x d e1 e2 => by
  rw [List.getElem?_map] at e1 e2
  cases h : ns[i]? with
  | none => rw [h] at e1; cases e1
  | some n =>
    rw [h] at e1 e2
    cases e1
    cases e2
    exact .int n
theorem sm_ints {ns : List Int} (h : ns.length ≤ 900) : Sm 1 (.list (ns.map PyData.int)) := by
  refine ⟨by rw [List.length_map]; exact h, fun d hd => ?_⟩
  obtain ⟨p, _, rfl⟩ := List.mem_map.mp hd
  trivial

def SqH (H : Hp) (a : Addr) (xs : List V) : Prop := H a = some (.lst xs) ∨ H a = some (.tup xs)

/-! ### defs that are called while nothing is being shown: str of lists within lists -/
/-- a def keeps its promise where nothing is being shown -/
structure FnG (P : Program) (w : World) (K : PySem.W.Frag) (mg : Str → Option Value) (base : Heap) (CX : CXT) (k : Nat) (f : Addr) (fd : FuncData) (ps : List Str) (sp : Sp) : Prop where
  len : ∀ (vs : List V) (H : Hp) (Q : VK) (E : XK), sp vs H Q E → vs.length = ps.length
  run : ∀ (A : Around) (outer : List Env) (s : Shared) (H : Hp) (args : Args) (us : List Value) (vs : List V) (Q : VK) (E : XK), A.guards = some [] → Room k A → Env0 P w K mg base A outer s H → BindsTo s fd args (ps.zip us) → Vals vs us → sp vs H Q E → codeAny (model P w) A (Code.call (Value.ref f) args) (CR CX outer P w H s Q E) s
section
variable {CX : CXT} {P : Program} {w : World} {K : PySem.W.Frag} {mg : Str → Option Value} {base : Heap} {k : Nat}
theorem FnG.of {f : Addr} {fd : FuncData} {ps : List Str} {sp : Sp} (F : FnOk P w K mg base CX k f fd ps sp) : FnG P w K mg base CX k f fd ps sp :=
  ⟨F.len, fun A outer s H args us vs Q E _ hr e0 hb r hsp => F.run A outer s H args us vs Q E hr e0 hb r hsp⟩
theorem fn_ofG {f : Addr} {name qual : Str} {params : Arguments} {body : List Stmt} {scope : Scope} {dV kV doc pm cdv ct oc : Value} {an od : Option Addr} {osl : Array (Option Value)} {N ps : List Str} {sp : Sp}
    (lk : List.lookup f K = some { cls := oc, dict := od, data := Data.func (PySem.W.fnOf name qual params body scope dV kV doc pm an cdv ct), slots := osl }) (hcd : PySem.W.codeIn K cdv qual = true) (S : FnScope N ps scope)
    (len : ∀ (vs : List V) (H : Hp) (Q : VK) (E : XK), sp vs H Q E → vs.length = ps.length)
    (hbody : ∀ (A : Around) (outer : List Env) (s : Shared) (H : Hp) (vs : List V) (Q : VK) (E : XK), A.guards = some [] → Room k (A.deeper (PyProof.Rows.envOfC qual scope s.heap.objs.size f cdv)) → sp vs H Q E →
      ∃ t, PSs (cxOf CX P w K mg base N qual scope f cdv A outer s H E) body t ∧ t { nx := fun _ H' => Q V.non H', rt := Q } (L2.start N vs) H) :
    FnG P w K mg base CX (k + 1) f (PySem.W.fnOf name qual params body scope dV kV doc pm an cdv ct) ps sp := by
  refine ⟨len, fun A outer s H args us vs Q E hgd hr e0 hb r hsp => ?_⟩
  have hl := len vs H Q E hsp
  have KX := PySem.W.Frag.In.keeps e0.mod.kin fun b o e => (e0.bs b o e).1
  have lim := Heap.NoLimit.keeps e0.mod.nolimit fun b o e => (e0.bs b o e).1
  refine codeAny_call_function (Room.depth hr) (KX f _ lk) rfl S.co S.gen rfl (PySem.W.codeRec_of KX hcd) (hb (model P w) A.in1 _ _ (wpAny_newFunctionEnv_cells S.kind (fun x hy => ?_) fun env he s1 x => ?_))
  · obtain ⟨n, v⟩ := x
    rcases S.par n (List.of_mem_zip hy).1 with q | q
    · exact .inl q
    · exact .inr ⟨q, PySem.W.cellsFrom_some scope.names _ [] (.inl q)⟩
  · subst he
    refine ⟨Heap.NoLimit.keeps lim x.toInCall.keep, codeAny_func ?_⟩
    obtain ⟨t, ht, hq⟩ := hbody A outer s H vs Q E hgd (Room.deeper hr _) hsp
    have I := inv_start (CX := CX) (E := E) S hr.hd e0 hl r x
    refine wpAny_mono (ht.run [] s1 (L2.start N vs) H _ I hq) (fun fl s' hs => ?_) (fun e s' hs => hs)
    cases fl with
    | ret u =>
      obtain ⟨v, σ', H', J, rv, q⟩ := hs
      exact ⟨v, H', J.os, J.bare, J.base, J.hok, rv, q⟩
    | next =>
      obtain ⟨σ', H', J, q⟩ := hs
      exact ⟨V.non, H', J.os, J.bare, J.base, J.hok, rfl, q⟩
    | _ =>
      obtain ⟨_, _, _, q⟩ := hs
      exact q.elim
theorem Fun_okG {x qual : Str} {st : Stmt} {f : Addr} {fd : FuncData} {N ps : List Str} {sp : Sp} (F : Fun K x qual st f fd) (S : FnScope N ps (defScope st))
    (len : ∀ (vs : List V) (H : Hp) (Q : VK) (E : XK), sp vs H Q E → vs.length = ps.length)
    (hbody : ∀ (cdv : Value) (A : Around) (outer : List Env) (s : Shared) (H : Hp) (vs : List V) (Q : VK) (E : XK), A.guards = some [] → Room k (A.deeper (PyProof.Rows.envOfC qual (defScope st) s.heap.objs.size f cdv)) → sp vs H Q E →
      ∃ t, PSs (cxOf CX0 P w K mg base N qual (defScope st) f cdv A outer s H E).nox (defBody st) t ∧ t { nx := fun _ H' => Q V.non H', rt := Q } (L2.start N vs) H) :
    FnG P w K mg base CX0 (k + 1) f fd ps sp := by
  obtain ⟨oc, od, kV, doc, pm, an, cdv, ct, osl, rfl, lk, hcd⟩ := F.ex
  refine fn_ofG lk hcd S len fun A outer s H vs Q E hg hr hsp => ?_
  obtain ⟨t, h, q⟩ := hbody cdv A outer s H vs Q E hg hr hsp
  exact ⟨t, PSs.nox h, q⟩
end
theorem run_fnG {X : Cx} {CX : CXT} {k : Nat} {f : Addr} {fd : FuncData} {ps : List Str} {sp : Sp} {dvs : List V} {ds : List Value} {E : XK} {pins : List (Addr × Obj)} {σ : L2.St} {H : Hp} {s : Shared} {Q : VK} {us : List Value} {vs : List V}
    (F : FnG X.prog X.w X.K X.mg X.base CX k f fd ps sp) (hgd : X.A.guards = some []) (hr : Room k X.A) (hb : Binds X.K fd ps ds) (hd : Vals dvs ds) (hx : Passes CX X E) (I : L2.Inv X pins σ H s) (r : Vals vs us) (h : sp (vs ++ dvs) H Q E) :
    wpAny (model X.prog X.w) X.A (call (Value.ref f) us) (EP X pins σ Q) X.xe s := by
  have r2 := Vals.append r hd
  have hl : (us ++ ds).length = ps.length := by rw [← Vals.length r2]; exact F.len _ _ _ _ h
  refine wpAny_call (codeAny_mono (F.run X.A X.stack s H _ _ _ Q E hgd hr (Inv.env0 I) (hb s us (Inv.kIn I) hl) r2 h) fun r s' hq => ?_)
  cases r with
  | error e => exact hx pins σ H s e s' I hq
  | ok fl =>
    cases fl with
    | ret u => exact Inv.after I hq
    | _ => exact hq.elim
/-- a def of the text that keeps a promise where nothing is being shown, as its callers see it -/
def CalG (P : Program) (w : World) (K : PySem.W.Frag) (mg : Str → Option Value) (base : Heap) (k : Nat) (x : Str) (ps : List Str) (sp : Sp) : Prop :=
  ∃ f fd, FnG P w K mg base CX0 k f fd ps sp ∧ mg x = some (.ref f) ∧ PySem.W.keepIn K (.ref f) = true ∧ Binds K fd ps []
theorem pe_ownG {X : Cx} {k : Nat} {x : Str} {ps : List Str} {sp : Sp} {e : Expr} {es : List Expr} {t : TA} {p pos : Pos} (C : CalG X.prog X.w X.K X.mg X.base k x ps sp) (hgd : X.A.guards = some []) (hr : Room k X.A) (hg : Gl X x) (ha : PA X (e :: es) t)
    (dbg : (x == ("__debug__" : Str)) = false := by decide) (one : starEach (e :: es) X.env = (false, eval e X.env) :: starEach es X.env := by rfl) (star : (backTo pos (starEach es X.env)).any (·.1) = false := by rfl) :
    PE X (.Call (.Name x p) (e :: es) [] pos) (tCall sp [] E0 t) := by
  obtain ⟨f, fd, F, hm, hk, hb⟩ := C
  refine ⟨fun pins s σ H Q I h => wpAny_Call_Name_kw (ld_glob I hg hm (PySem.W.callWith_K I.ok.mod.kin hk (thn (ha.run pos pins s σ H _ I h) fun us s1 z => ?_) one star) dbg)⟩
  obtain ⟨vs, H1, I1, r, q⟩ := z
  exact ⟨Inv.kIn I1, run_fnG F hgd hr hb .nil pass0 I1 r q⟩
/-- str of data -/
def rStrD (K : PySem.W.Frag) : List V → Hp → VK → Prop := fun xs H Q => ∃ (a : Addr) (d : PyData), xs = [.ref a] ∧ Dp K H (.ref a) d ∧ d.showable = true ∧ d.hasDict = false ∧ d.depth ≤ 8 ∧ d.shown.length ≤ sizeLine ∧ Q (.str d.shown) H
theorem cr_strD {X : Cx} (hg : X.A.guards = some []) (hu : X.A.units + 11 < cLine) : CallR X (.type "str") (rStrD X.K) := fun pins s σ H xs us Q I hv h => by
  obtain ⟨a, d, rfl, hd, h1, h2, h3, h4, q⟩ := h
  cases hv with
  | cons ru hn =>
    cases hn
    cases ru
    obtain ⟨as, hR⟩ := Dp.reads I d (.ref a) (.ref a) hd rfl
    exact str_of_reads hR h1 (fun z => by rw [h2] at z; cases z) hg (by omega) (fun b o e => e) (fun h' u tk keep => ⟨.str d.shown, H, I.kept keep, ⟨u, rfl⟩, q⟩) h4
/-! ### the end -/
theorem law_callG {P : Program} {w : World} {K : PySem.W.Frag} {mg mb : Str → Option Value} {CX : CXT} {k : Nat} {fa a : Addr} {fd : FuncData} {x : Str} {sp : Sp} {s₁ : Shared} {vs : List Value} {ns : List Int}
    (KX : K.In s₁.heap) (hns : s₁.heap.Ns mainGlobals mg) (hb : s₁.heap.Ns builtinsNs mb) (hbb : ∀ (x : Str), x ≠ Str.ofString "__name__" → mb x = bootBuiltins x) (hlim : s₁.heap.NoLimit) (hg : s₁.gens = #[])
    (ha : s₁.heap.get? a = some { cls := Value.type "list", data := Data.seq vs.toArray }) (hi : PyProof.Rows.IntsAre vs ns) (hl : ns.length ≤ sizeLine) (hr : Room k callerA)
    (F : ∀ (base : Heap), K.In base → base.Ns mainGlobals mg → FnG P w K mg base CX k fa fd [x] sp) (hbind : ∀ (s : Shared) (u : Value), BindsTo s fd { pos := [u] } [(x, u)])
    (hsp : ∀ (H : Hp), Only H → SqL K H a (List.map V.int ns) → sp [V.ref a] H (fun v _ => v = V.bl true) fun _ _ _ => False) (hCX : ∀ (H : Hp) (e : Value) (s' : Shared), CX [] H s₁ (fun _ _ _ => False) e s' → False) :
    codeAny (model P w) callerA (Code.call (Value.ref fa) { pos := [Value.ref a] }) (fun r s' => r = Except.ok (Flow.ret (Value.bool true)) ∧ OldK s₁.heap s'.heap ∧ s'.os = s₁.os ∧ PyProof.Rows.AllBare s'.gens) s₁ := by
  have rv := vals_ints hi
  have lenV := PyProof.Rows.IntsAre.length hi
  have core : ∀ H : Hp, Only H → SqL K H a (List.map V.int ns) → HOk P w H s₁.heap → (∀ b, H b ≠ none → b = a) → (H a ≠ none → List.lookup a K = none) →
      codeAny (model P w) callerA (Code.call (Value.ref fa) { pos := [Value.ref a] }) (fun r s' => r = Except.ok (Flow.ret (Value.bool true)) ∧ OldK s₁.heap s'.heap ∧ s'.os = s₁.os ∧ PyProof.Rows.AllBare s'.gens) s₁ := by
    intro H hO hS hok hA hK
    have isA : ∀ {b : Addr} {u : HO}, H b = some u → b = a := fun {b u} hh => hA b (by rw [hh]; exact fun z => nomatch z)
    have noA : ∀ {b : Addr} {o : Obj} {es ep}, s₁.heap.get? b = some o → o.data = Data.dict es ep → H b = none := by
      intro b o es ep e d
      cases hh : H b with
      | none => rfl
      | some u =>
        rw [isA hh, ha] at e
        rw [← Option.some.inj e] at d
        cases d
    have nsK : ∀ {b : Addr} {m : Str → Option Value}, s₁.heap.Ns b m → (hidT s₁.heap H).Ns b m := fun {b m} z => by
      obtain ⟨o, es, ep, e, d, r⟩ := z
      exact ⟨o, es, ep, hidT_get e (noA e d), d, r⟩
    have hKb : K.In (hidT s₁.heap H) := fun b o e => hidT_get (KX b o e) (by
      cases hh : H b with
      | none => rfl
      | some u =>
        rw [isA hh, hK (by rw [isA hh] at hh; rw [hh]; exact fun z => nomatch z)] at e
        cases e)
    have hM : L2.Mod K mg (hidT s₁.heap H) := ⟨hKb, nsK hns, ⟨mb, nsK hb, hbb⟩, let ⟨mc, h1, h2⟩ := hlim; ⟨mc, nsK h1, h2⟩⟩
    have e0 : Env0 P w K mg (hidT s₁.heap H) callerA [] s₁ H := ⟨rfl, hM, fun b o e => of_hidT e, Nat.le_of_eq (hidT_size ..), trivial, fun b hb => (nomatch hb), hok, .of_eq hg⟩
    refine codeAny_mono ((F _ hKb (nsK hns)).run callerA [] s₁ H ⟨[.ref a], []⟩ [.ref a] [.ref a] (fun v _ => v = .bl true) (fun _ _ _ => False) rfl hr e0 (hbind s₁ (.ref a)) (.cons rfl .nil) (hsp H hO hS)) fun r s' h => ?_
    cases r with
    | error e => exact (hCX H e s' h).elim
    | ok fl =>
      cases fl with
      | ret u =>
        obtain ⟨v, H', os, bare, un, hok', r', q⟩ := h
        subst q
        cases r'
        refine ⟨rfl, OldK.of_keep fun b o e => ?_, os, bare⟩
        cases hh : H b with
        | none => exact un.keep b o e hh (fun z => nomatch z) (fun z => nomatch z)
        | some u =>
          rcases hO b with z | ⟨ob, xs, z⟩
          · rw [z] at hh; cases hh
          · have z2 := un.frzs b ob (HO.lst xs) z
            have e1 := (hok b _ z).1
            have e2 := (hok' b _ z2).1
            rw [e] at e1
            rw [Option.some.inj e1]
            exact e2
      | _ => exact h.elim
  cases hk : List.lookup a K with
  | none =>
    have at_a : (fun b => if b = a then some (HO.frz { cls := Value.type "list", data := Data.seq vs.toArray } (HO.lst (List.map V.int ns))) else none : Hp) a = some (HO.frz { cls := Value.type "list", data := Data.seq vs.toArray } (HO.lst (List.map V.int ns))) := if_pos rfl
    refine core (fun b => if b = a then some (HO.frz { cls := Value.type "list", data := Data.seq vs.toArray } (HO.lst (List.map V.int ns))) else none) (fun b => ?_) (.inl (.inr ⟨_, at_a⟩)) (fun b u z => ?_) (fun b z => ?_) (fun _ => hk)
    · by_cases hb : b = a
      · exact .inr ⟨_, _, if_pos hb⟩
      · exact .inl (if_neg hb)
    · by_cases hb : b = a
      · have z' := Eq.trans (Eq.symm (if_pos hb)) z
        cases z'
        subst hb
        exact ⟨ha, by rw [List.length_map]; exact hl, vs, 0, rv, ha⟩
      · have z' := Eq.trans (Eq.symm (if_neg hb)) z
        cases z'
    · by_cases hb : b = a
      · exact hb
      · exact absurd (if_neg hb) z
  | some o =>
    have e := KX a o hk
    rw [ha] at e
    cases e
    exact core (fun _ => none) (fun _ => .inl rfl) (.inr ⟨_, vs.toArray, 0, hk, rfl, rfl, rfl, by rw [List.size_toArray, lenV]; exact hl, rv⟩) (fun b u z => nomatch z) (fun b z => absurd rfl z) (fun z => absurd rfl z)
def LawAtG (l : PySem.W.OpenLaw) (w : World) (K : PySem.W.Frag) (k : Nat) (mg : Str → Option Value) (fa : Addr) : Prop :=
  ∃ (fd : FuncData) (sp : Sp), (∀ (s : Shared) (u : Value), BindsTo s fd { pos := [u] } [("_law_script", u)]) ∧ (∀ (H : Hp) (a : Addr) (ns : List Int), ns.length ≤ 63 → SqL K H a (List.map V.int ns) → sp [V.ref a] H (fun v _ => v = V.bl true) fun _ _ _ => False) ∧
    ∀ (base : Heap), K.In base → base.Ns mainGlobals mg → FnG l.prog w K mg base CX0 k fa fd ["_law_script"] sp
theorem law_endG {l : PySem.W.OpenLaw} {k : Nat} {q : Program} {loose : List Str} {XP : (Str → Option Value) → Heap → Prop} {YP : World → Heap → Prop} {d : DefRec} {K : Params → PySem.W.Frag} (most : l.most = some 63) (plain : d.params.defaults = []) (room : Room k callerA)
    (part : ∀ w h, YP w h → (K w.params).In h) (made : ∀ (w : World) (mg : Str → Option Value) (f : Addr) (h : Heap), (K w.params).In h → h.Ns mainGlobals mg → mg d.name = some (.ref f) → LawAtG l w (K w.params) k mg f) : PySem.W.WalkO q loose XP YP l.row.toRowW d [] (fun f vs => PySem.call f vs) := by
  refine Att.attach_callB most plain ?_
  intro w _ s₁ mg _ f _ _ _ _ a vs ns ground said _ _ _ name script nums len size still
  have X := part w _ said
  obtain ⟨fd, sp, e4, e5, e6⟩ := made w mg f _ X ground.T.g name
  exact law_callG X ground.T.g ground.T.b ground.T.builtins ground.T.nolimit still script nums (Nat.le_trans len (by decide)) room e6 e4 (fun H z1 z2 => e5 H a ns len z2) fun _ _ _ z => z

/-- an expression, then a word of what it gives: what follows is shown once -/
def tMid (te : TE) : TE := fun σ H Q => ∃ M : V → Hp → Prop, te σ H M ∧ ∀ v H', M v H' → Q v H'
theorem pe_mid {X : Cx} {e : Expr} {te : TE} (h : PE X e te) : PE X e (tMid te) := ⟨fun pins s σ H Q I ⟨M, h1, h2⟩ => thn (h.run pins s σ H M I h1) fun _ _ ⟨y, H1, I1, r, q⟩ => ⟨y, H1, I1, r, h2 _ _ q⟩⟩

/-! ### things as data; of the lists among them this holds -/
inductive DatN (N : Addr → Prop) (H : Hp) : V → PyData → Prop
  | non : DatN N H .non .none
  | bl (b : Bool) : DatN N H (.bl b) (.bool b)
  | int (i : Int) : DatN N H (.int i) (.int i)
  | str (x : Str) : DatN N H (.str x) (.str x)
  | lst {a : Addr} {xs : List V} {ds : List PyData} : N a → H a = some (.lst xs) → xs.length = ds.length → (∀ (i : Nat) x d, xs[i]? = some x → ds[i]? = some d → DatN N H x d) → DatN N H (.ref a) (.list ds)
  | tup {a : Addr} {xs : List V} {ds : List PyData} : H a = some (.tup xs) → xs.length = ds.length → (∀ (i : Nat) x d, xs[i]? = some x → ds[i]? = some d → DatN N H x d) → DatN N H (.ref a) (.tuple ds)
/-- tuples stay, and the lists of which this holds -/
structure Kps (N : Addr → Prop) (H H' : Hp) : Prop where
  tup : ∀ a xs, H a = some (.tup xs) → H' a = some (.tup xs)
  lst : ∀ a xs, N a → H a = some (.lst xs) → H' a = some (.lst xs)
theorem Kps.same {N : Addr → Prop} {H H' : Hp} (s : Same H H') : Kps N H H' := ⟨fun a xs e => s a _ e, fun a xs _ e => s a _ e⟩
theorem Kps.kp {N : Addr → Prop} {H H' : Hp} {d c : Addr} {t : Int} (k : Kp d c H H') (S : StAt H d c t) (hN : ∀ a, N a → a ≠ c) : Kps N H H' :=
  ⟨fun a xs e => k.tup S e, fun a xs n e => k a _ (fun z => by rw [z, S.dict] at e; cases e) (hN a n) e⟩
theorem Kps.upd {N : Addr → Prop} {H : Hp} {D : Addr} {ys : List V} {o : HO} (e : H D = some (.lst ys)) (hN : ∀ a, N a → a ≠ D) : Kps N H (upd H D o) :=
  ⟨fun a xs f => by rw [upd_ne (ne_of f e (fun z => nomatch z))]; exact f, fun a xs n f => by rw [upd_ne (hN a n)]; exact f⟩
theorem Kps.upd_dK {N : Addr → Prop} {H : Hp} {D : Addr} {ks : List (Key × V)} {o : HO} (e : H D = some (.dK ks)) : Kps N H (L2.upd H D o) :=
  ⟨fun a xs f => by rw [upd_ne (ne_of f e (fun z => nomatch z))]; exact f, fun a xs n f => by rw [upd_ne (ne_of f e (fun z => nomatch z))]; exact f⟩
theorem Kps.trans {N : Addr → Prop} {H H1 H2 : Hp} (a : Kps N H H1) (b : Kps N H1 H2) : Kps N H H2 := ⟨fun x xs e => b.tup x xs (a.tup x xs e), fun x xs n e => b.lst x xs n (a.lst x xs n e)⟩
theorem DatN.keep {N : Addr → Prop} {H H' : Hp} {v : V} {d : PyData} (h : DatN N H v d) (k : Kps N H H') : DatN N H' v d := by
  induction h with
  | non => exact .non
  | bl b => exact .bl b
  | int i => exact .int i
  | str x => exact .str x
  | lst n e l _ ih => exact .lst n (k.lst _ _ n e) l ih
  | tup e l _ ih => exact .tup (k.tup _ _ e) l ih
theorem DatN.same {N : Addr → Prop} {H H' : Hp} {v : V} {d : PyData} (h : DatN N H v d) (s : Same H H') : DatN N H' v d := h.keep (.same s)
theorem DatN.weak {N N' : Addr → Prop} {H : Hp} {v : V} {d : PyData} (h : DatN N H v d) (w : ∀ a xs, N a → H a = some (.lst xs) → N' a) : DatN N' H v d := by
  induction h with
  | non => exact .non
  | bl b => exact .bl b
  | int i => exact .int i
  | str x => exact .str x
  | lst n e l _ ih => exact .lst (w _ _ n e) e l ih
  | tup e l _ ih => exact .tup e l ih
theorem DatN.dat {N : Addr → Prop} {H : Hp} {v : V} {d : PyData} (h : DatN N H v d) : Dat H v d := by
  induction h with
  | non => exact .non
  | bl b => exact .bl b
  | int i => exact .int i
  | str x => exact .str x
  | lst n e l _ ih => exact .lst e l ih
  | tup e l _ ih => exact .tup e l ih
theorem dpAll_of {K : PySem.W.Frag} {H : Hp} : ∀ {xs : List V} {ds : List PyData}, xs.length = ds.length → (∀ (i : Nat) x d, xs[i]? = some x → ds[i]? = some d → Dp K H x d) → DpAll K H xs ds
  | [], [], _, _ => .nil
  | [], _ :: _, e, _ => nomatch e
  | _ :: _, [], e, _ => nomatch e
  | x :: xs, d :: ds, e, h => .cons (h 0 x d rfl rfl) (dpAll_of (Nat.succ.inj e) fun i y c e1 e2 => h (i + 1) y c e1 e2)
theorem DatN.dp {K : PySem.W.Frag} {N : Addr → Prop} {H : Hp} {v : V} {d : PyData} (h : DatN N H v d) : Dp K H v d := by
  induction h with
  | non => exact .non
  | bl b => exact .bl b
  | int i => exact .int i
  | str x => exact .str x
  | lst n e l _ ih => exact .lst (SqL.of e) (dpAll_of l ih)
  | tup e l _ ih => exact .tup (.inl (.inl e)) (dpAll_of l ih)
/-- things one by one as data -/
def EchN (N : Addr → Prop) (H : Hp) (xs : List V) (ds : List PyData) : Prop := xs.length = ds.length ∧ ∀ (i : Nat) x d, xs[i]? = some x → ds[i]? = some d → DatN N H x d
theorem EchN.keep {N : Addr → Prop} {H H' : Hp} {xs : List V} {ds : List PyData} (h : EchN N H xs ds) (k : Kps N H H') : EchN N H' xs ds := ⟨h.1, fun i x d e1 e2 => (h.2 i x d e1 e2).keep k⟩
theorem EchN.same {N : Addr → Prop} {H H' : Hp} {xs : List V} {ds : List PyData} (h : EchN N H xs ds) (s : Same H H') : EchN N H' xs ds := h.keep (.same s)
theorem EchN.weak {N N' : Addr → Prop} {H : Hp} {xs : List V} {ds : List PyData} (h : EchN N H xs ds) (w : ∀ a xs, N a → H a = some (.lst xs) → N' a) : EchN N' H xs ds := ⟨h.1, fun i x d e1 e2 => (h.2 i x d e1 e2).weak w⟩
theorem EchN.nil {N : Addr → Prop} {H : Hp} : EchN N H [] [] := ⟨rfl, fun _ _ _ e => nomatch e⟩
theorem EchN.cons {N : Addr → Prop} {H : Hp} {x : V} {d : PyData} {xs : List V} {ds : List PyData} (h : DatN N H x d) (hr : EchN N H xs ds) : EchN N H (x :: xs) (d :: ds) :=
  ⟨congrArg (· + 1) hr.1, fun i y e e1 e2 => by
    cases i with
    | zero => cases e1; cases e2; exact h
    | succ i => exact hr.2 i y e e1 e2⟩
theorem EchN.one {N : Addr → Prop} {H : Hp} {x : V} {d : PyData} (h : DatN N H x d) : EchN N H [x] [d] := .cons h .nil
theorem getElem?_two {α β : Type} {xs ys : List α} {us ws : List β} (l : xs.length = us.length) {i : Nat} {x : α} {u : β} (e1 : (xs ++ ys)[i]? = some x) (e2 : (us ++ ws)[i]? = some u) : (xs[i]? = some x ∧ us[i]? = some u) ∨ (ys[i - xs.length]? = some x ∧ ws[i - xs.length]? = some u) := by
  by_cases hi : i < xs.length
  · rw [List.getElem?_append_left hi] at e1
    rw [List.getElem?_append_left (by omega)] at e2
    exact .inl ⟨e1, e2⟩
  · rw [List.getElem?_append_right (by omega)] at e1 e2
    rw [← l] at e2
    exact .inr ⟨e1, e2⟩
theorem EchN.app {N : Addr → Prop} {H : Hp} {xs ys : List V} {ds es : List PyData} (h : EchN N H xs ds) (h' : EchN N H ys es) : EchN N H (xs ++ ys) (ds ++ es) :=
  ⟨by rw [List.length_append, List.length_append, h.1, h'.1], fun i v p e1 e2 => (getElem?_two h.1 e1 e2).elim (fun z => h.2 i v p z.1 z.2) (fun z => h'.2 _ v p z.1 z.2)⟩
theorem EchN.snoc {N : Addr → Prop} {H : Hp} {xs : List V} {ds : List PyData} {x : V} {d : PyData} (h : EchN N H xs ds) (h' : DatN N H x d) : EchN N H (xs ++ [x]) (ds ++ [d]) := h.app (.one h')
theorem EchN.at {N : Addr → Prop} {H : Hp} {xs : List V} {ds : List PyData} {i : Nat} {x : V} (h : EchN N H xs ds) (e : xs[i]? = some x) : ∃ d, ds[i]? = some d ∧ DatN N H x d := by
  have hi : i < ds.length := by rw [← h.1]; exact (List.getElem?_eq_some_iff.mp e).1
  exact ⟨_, List.getElem?_eq_getElem hi, h.2 i x _ e (List.getElem?_eq_getElem hi)⟩
theorem EchN.atM {α : Type} {N : Addr → Prop} {H : Hp} {xs : List V} {f : α → PyData} {ys : List α} {i : Nat} {x : V} (h : EchN N H xs (ys.map f)) (e : xs[i]? = some x) : ∃ y, ys[i]? = some y ∧ DatN N H x (f y) := by
  obtain ⟨d, e1, e2⟩ := h.at e
  rw [List.getElem?_map] at e1
  cases h : ys[i]? with
  | none => rw [h] at e1; cases e1
  | some y => rw [h] at e1; cases e1; exact ⟨y, rfl, e2⟩
theorem DatN.list {N : Addr → Prop} {H : Hp} {v : V} {ds : List PyData} (h : DatN N H v (.list ds)) : ∃ a xs, v = .ref a ∧ N a ∧ H a = some (.lst xs) ∧ EchN N H xs ds := by
  cases h with
  | lst n e l r => exact ⟨_, _, rfl, n, e, l, r⟩
theorem DatN.tuple {N : Addr → Prop} {H : Hp} {v : V} {ds : List PyData} (h : DatN N H v (.tuple ds)) : ∃ a xs, v = .ref a ∧ H a = some (.tup xs) ∧ EchN N H xs ds := by
  cases h with
  | tup e l r => exact ⟨_, _, rfl, e, l, r⟩
theorem EchN.lst {N : Addr → Prop} {H : Hp} {a : Addr} {xs : List V} {ds : List PyData} (h : EchN N H xs ds) (n : N a) (e : H a = some (.lst xs)) : DatN N H (.ref a) (.list ds) := .lst n e h.1 h.2
theorem EchN.tup {N : Addr → Prop} {H : Hp} {a : Addr} {xs : List V} {ds : List PyData} (h : EchN N H xs ds) (e : H a = some (.tup xs)) : DatN N H (.ref a) (.tuple ds) := .tup e h.1 h.2
theorem EchN.inv {N : Addr → Prop} {H : Hp} {xs : List V} {d : PyData} {ds : List PyData} (h : EchN N H xs (d :: ds)) : ∃ x xs', xs = x :: xs' ∧ DatN N H x d ∧ EchN N H xs' ds := by
  cases xs with
  | nil => exact nomatch h.1
  | cons x xs => exact ⟨x, xs, rfl, h.2 0 x d rfl rfl, Nat.succ.inj h.1, fun i y e e1 e2 => h.2 (i + 1) y e e1 e2⟩
theorem EchN.inv0 {N : Addr → Prop} {H : Hp} {xs : List V} (h : EchN N H xs []) : xs = [] := List.eq_nil_of_length_eq_zero h.1
theorem DatN.inv_int {N : Addr → Prop} {H : Hp} {v : V} {i : Int} (h : DatN N H v (.int i)) : v = .int i := by cases h; rfl
theorem DatN.inv_str {N : Addr → Prop} {H : Hp} {v : V} {x : Str} (h : DatN N H v (.str x)) : v = .str x := by cases h; rfl
theorem DatN.inv_non {N : Addr → Prop} {H : Hp} {v : V} (h : DatN N H v .none) : v = .non := by cases h; rfl
theorem DatN.inv_bl {N : Addr → Prop} {H : Hp} {v : V} {b : Bool} (h : DatN N H v (.bool b)) : v = .bl b := by cases h; rfl
theorem echN_ints {N : Addr → Prop} {H : Hp} (ns : List Int) : EchN N H (ns.map V.int) (ns.map PyData.int) := ⟨by rw [List.length_map, List.length_map], fun i x d e1 e2 => by
  rw [List.getElem?_map] at e1 e2
  cases h : ns[i]? with
  | none => rw [h] at e1; cases e1
  | some n =>
    rw [h] at e1 e2
    cases e1
    cases e2
    exact .int n⟩
theorem echN_strs {N : Addr → Prop} {H : Hp} (ns : List Str) : EchN N H (ns.map V.str) (ns.map PyData.str) := ⟨by rw [List.length_map, List.length_map], fun i x d e1 e2 => by
  rw [List.getElem?_map] at e1 e2
  cases h : ns[i]? with
  | none => rw [h] at e1; cases e1
  | some n =>
    rw [h] at e1 e2
    cases e1
    cases e2
    exact .str n⟩
theorem EchN.ints {N : Addr → Prop} {H : Hp} : ∀ {xs : List V} {ns : List Int}, EchN N H xs (ns.map PyData.int) → xs = ns.map V.int
  | _, [], h => h.inv0
  | _, n :: r, h => by
    obtain ⟨x, xs', rfl, h1, h2⟩ := EchN.inv h
    rw [h1.inv_int, EchN.ints h2]
    rfl
theorem EchN.strs {N : Addr → Prop} {H : Hp} : ∀ {xs : List V} {ns : List Str}, EchN N H xs (ns.map PyData.str) → xs = ns.map V.str
  | _, [], h => h.inv0
  | _, n :: r, h => by
    obtain ⟨x, xs', rfl, h1, h2⟩ := EchN.inv h
    rw [h1.inv_str, EchN.strs h2]
    rfl
/-- pairs of whole numbers -/
theorem _root_.GP.Prs.ech {N : Addr → Prop} {H : Hp} {us : List V} {ps : List (Int × Int)} (h : Prs H us ps) : EchN N H us (ps.map pairD) := ⟨by rw [List.length_map]; exact h.1, fun i x d e1 e2 => by
  obtain ⟨p, a, ep, rfl, ea⟩ := prs_at h e1
  rw [List.getElem?_map, ep] at e2
  cases e2
  exact EchN.tup (.cons (.int _) (.one (.int _))) ea⟩
theorem EchN.prs {N : Addr → Prop} {H : Hp} {us : List V} {ps : List (Int × Int)} (h : EchN N H us (ps.map pairD)) : Prs H us ps := ⟨by have := h.1; rwa [List.length_map] at this, fun i p ep => by
  have hi : i < us.length := by
    rw [h.1, List.length_map]
    exact (List.getElem?_eq_some_iff.mp ep).1
  obtain ⟨y, e1, e2⟩ := h.atM (List.getElem?_eq_getElem hi)
  rw [ep] at e1
  cases e1
  obtain ⟨a, xs, ev, ea, r⟩ := e2.tuple
  obtain ⟨x1, r1, rfl, d1, r2⟩ := r.inv
  obtain ⟨x2, r3, rfl, d2, r4⟩ := r2.inv
  rw [r4.inv0, d1.inv_int, d2.inv_int] at ea
  exact ⟨a, by rw [List.getElem?_eq_getElem hi, ev], ea⟩⟩
/-- new since then -/
abbrev NewIn (H : Hp) : Addr → Prop := fun a => H a = none
def setD (ps : List (Int × Int)) : PyData := .list (ps.map pairD)
/-! ### what can be shown -/
structure Shw (n w : Nat) (d : PyData) : Prop where
  sh : d.showable = true
  nd : d.hasDict = false
  dp : d.depth ≤ n
  ls : d.leavesShort 40 = true
  wt : d.weight ≤ w
theorem Shw.mono {n w n' w' : Nat} {d : PyData} (h : Shw n w d) (h1 : n ≤ n') (h2 : w ≤ w') : Shw n' w' d := ⟨h.sh, h.nd, Nat.le_trans h.dp h1, h.ls, Nat.le_trans h.wt h2⟩
theorem Shw.int {n : Nat} {i : Int} (h : i.natAbs < 10 ^ 39) : Shw n 131 (.int i) := by
  refine ⟨?_, by rw [PyData.hasDict], by rw [PyData.depth]; omega, ?_, ?_⟩
  · rw [PyData.showable]
    by_cases z : i.natAbs = 0
    · rw [z]; decide
    · exact decide_eq_true (Nat.lt_trans ((Nat.log2_lt (k := 130) z).mpr (Nat.lt_trans h (by decide))) (by decide))
  · rw [PyData.leavesShort]
    have e := int_text_length_le10 (k := 39) (by decide) h
    refine decide_eq_true ?_
    show (Str.ofString (toString i)).length ≤ 40
    rw [PySem.ofString_length]
    exact e
  · rw [PyData.weight]
    split
    · omega
    · by_cases z : i.natAbs = 0
      · rw [z]; decide
      · have : i.natAbs.log2 < 130 := (Nat.log2_lt z).mpr (Nat.lt_trans h (by decide))
        omega
theorem Shw.str {n w : Nat} {x : Str} (h : PyData.strOk x = true) (hl : x.length ≤ w) : Shw n w (.str x) := by
  refine ⟨by rw [PyData.showable], by rw [PyData.hasDict], by rw [PyData.depth]; omega, ?_, by rw [PyData.weight]; exact hl⟩
  rw [PyData.leavesShort, List.all_eq_true]
  intro c hc
  have h' : x.cps.all (· < 0x110000) = true := h
  rw [Array.all_eq_true'] at h'
  have := of_decide_eq_true (h' c (by simpa using hc))
  exact decide_eq_true (Nat.lt_trans this (by decide))
theorem Shw.none {n w : Nat} : Shw n w .none := ⟨by rw [PyData.showable], by rw [PyData.hasDict], by rw [PyData.depth]; omega, by rw [PyData.leavesShort], by rw [PyData.weight]; omega⟩
theorem Shw.bool {n w : Nat} {b : Bool} : Shw n w (.bool b) := ⟨by rw [PyData.showable], by rw [PyData.hasDict], by rw [PyData.depth]; omega, by rw [PyData.leavesShort], by rw [PyData.weight]; omega⟩
theorem shwAll : ∀ {n w : Nat} {ds : List PyData}, (∀ d ∈ ds, Shw n w d) → PyData.showableAll ds = true ∧ PyData.hasDictAll ds = false ∧ PyData.depthAll ds ≤ n ∧ PyData.leavesShortAll 40 ds = true ∧ PyData.weightAll ds ≤ ds.length * (w + 1)
  | n, w, [], _ => by simp [PyData.leavesShortAll, PyData.weightAll, PyData.showableAll, PyData.hasDictAll, PyData.depthAll]
  | n, w, d :: r, h => by
    obtain ⟨g1, g2, g3, g4, g5⟩ := shwAll (ds := r) fun q hq => h q (List.mem_cons_of_mem _ hq)
    obtain ⟨h1, h2, h3, h4, h5⟩ := h d (List.mem_cons_self ..)
    refine ⟨by rw [PyData.showableAll, h1, g1]; rfl, by rw [PyData.hasDictAll, h2, g2]; rfl, by rw [PyData.depthAll]; omega, by rw [PyData.leavesShortAll, h4, g4]; rfl, ?_⟩
    rw [PyData.weightAll, List.length_cons, Nat.succ_mul]
    omega
theorem Shw.list {n w m W : Nat} {ds : List PyData} (h : ∀ d ∈ ds, Shw n w d) (hl : ds.length ≤ m) (hW : m * (w + 1) ≤ W) : Shw (n + 1) W (.list ds) := by
  obtain ⟨g1, g2, g3, g4, g5⟩ := shwAll h
  have := Nat.mul_le_mul_right (w + 1) hl
  exact ⟨by rw [PyData.showable]; exact g1, by rw [PyData.hasDict]; exact g2, by rw [PyData.depth]; omega, by rw [PyData.leavesShort]; exact g4, by rw [PyData.weight]; omega⟩
theorem Shw.tuple {n w m W : Nat} {ds : List PyData} (h : ∀ d ∈ ds, Shw n w d) (hl : ds.length ≤ m) (hW : m * (w + 1) ≤ W) : Shw (n + 1) W (.tuple ds) := by
  obtain ⟨g1, g2, g3, g4, g5⟩ := shwAll h
  have := Nat.mul_le_mul_right (w + 1) hl
  exact ⟨by rw [PyData.showable]; exact g1, by rw [PyData.hasDict]; exact g2, by rw [PyData.depth]; omega, by rw [PyData.leavesShort]; exact g4, by rw [PyData.weight]; omega⟩
theorem Shw.listM {α : Type} {n w m W : Nat} {f : α → PyData} {ys : List α} (h : ∀ y ∈ ys, Shw n w (f y)) (hl : ys.length ≤ m) (hW : m * (w + 1) ≤ W) : Shw (n + 1) W (.list (ys.map f)) :=
  .list (fun d hd => by obtain ⟨y, hy, rfl⟩ := List.mem_map.mp hd; exact h y hy) (by rw [List.length_map]; exact hl) hW
theorem all2 {α : Type} {P : α → Prop} {x y : α} (h1 : P x) (h2 : P y) : ∀ z ∈ [x, y], P z := fun z hz => by
  rcases List.mem_cons.mp hz with e | e
  · rw [e]; exact h1
  · rw [List.mem_singleton.mp e]; exact h2
theorem all3 {α : Type} {P : α → Prop} {x y u : α} (h1 : P x) (h2 : P y) (h3 : P u) : ∀ z ∈ [x, y, u], P z := fun z hz => by
  rcases List.mem_cons.mp hz with e | e
  · rw [e]; exact h1
  · exact all2 h2 h3 z e
theorem Shw.shown {w : Nat} {d : PyData} (h : Shw 8 w d) (hw : w ≤ 390000) : d.showable = true ∧ d.hasDict = false ∧ d.depth ≤ 8 ∧ d.shown.length ≤ sizeLine :=
  ⟨h.sh, h.nd, h.dp, by
    have z := PyData.shown_le 40 (by decide) d h.ls
    have := h.wt
    exact Nat.le_trans z (Nat.le_trans (show (40 + 2) * d.weight + 40 ≤ 16380040 by omega) (by decide))⟩

/-! ### comprehensions, by what they make -/
/-- a thing's truth, as a test -/
def tTru (K : PySem.W.Frag) (te : TE) : TT := fun σ H Q => te σ H fun x H' => ∃ k, TruV K x H' k ∧ Q k H'
abbrev LcW (J : It) (g : TG) (tt : TT) (te : TE) (vs : List Nat) (σ : L2.St) (D : Addr) (Qd : Hp → Prop) (H1 : Hp) : Prop := ∃ W : Nat → Nat → Hp → Prop, (∃ m, W 0 m (upd H1 D (.lst []))) ∧ ∀ i m H, W i m H →
  (J.stop i H ∧ Qd H) ∨ (J.go i H ∧ ∃ Nx : Hp → Prop, (∀ H', Nx H' → ∃ m', m' < m ∧ W (i + 1) m' H') ∧ ∀ x H', J.yld i H x H' → g x (wipe σ vs) H' fun σ2 H2 => wipe σ2 vs = wipe σ vs ∧ tt σ2 H2 fun b H3 => if b = true then
    te σ2 H3 fun y H4 => ∃ acc, H4 D = some (.lst acc) ∧ acc.length < sizeLine ∧ Nx (upd H4 D (.lst (acc ++ [y]))) else Nx H3)
/-- each item makes something new, all else stays -/
theorem lc_new {J : It} {n : Nat} {G : Hp → Prop} {Y : Nat → Hp → V → Hp → Prop} (w : Walk J n G Y) {g : TG} {tt : TT} {te : TE} {vs : List Nat} {σ : L2.St} {H1 : Hp} {D : Addr} {Qd : Hp → Prop} (ds : List PyData) (nD : H1 D = none) (hn : ds.length = n) (hz : n ≤ 1000) (hG : ∀ H, Same H1 H → G H)
    (turn : ∀ i x d H H' (Kt : V → Hp → Prop) (Kn : Hp → Prop), ds[i]? = some d → Same H1 H → Y i H x H' → (∀ y H4, Same H H4 → DatN (NewIn H) H4 y d → Kt y H4) → g x (wipe σ vs) H' fun σ2 H2 => wipe σ2 vs = wipe σ vs ∧ tt σ2 H2 fun b H3 => if b = true then te σ2 H3 Kt else Kn H3)
    (fin : ∀ H, Same H1 H → DatN (NewIn H1) H (.ref D) (.list ds) → Qd H) : LcW J g tt te vs σ D Qd H1 := by
  refine lc_it w (fun j H => Same H1 H ∧ ∃ ws, H D = some (.lst ws) ∧ EchN (fun a => H1 a = none ∧ a ≠ D) H ws (ds.take j)) ⟨same_upd nD, [], upd_same, .nil⟩ (fun i H _ p => hG H p.1) (fun i x H H' hi hP hy => ?_) (fun H hP => ?_)
  · obtain ⟨sm, ws, eD, hws⟩ := hP
    have hd : ds[i]? = some ds[i] := List.getElem?_eq_getElem (by omega)
    refine turn i x _ H H' _ _ hd sm hy fun y H4 s4 hd4 => ?_
    have eD4 := s4 _ _ eD
    have hl : ws.length ≤ 1000 := by
      rw [hws.1, List.length_take]
      omega
    have hl' : ws.length < 1000 := by
      rw [hws.1, List.length_take]
      omega
    refine ⟨ws, eD4, Nat.lt_of_lt_of_le hl' (by decide), fun b o e => ?_, ws ++ [y], upd_same, ?_⟩
    · rw [upd_ne (ne_of_none e nD)]
      exact s4 _ _ (sm b o e)
    · rw [List.take_add_one, hd]
      have k : Kps (fun a => H1 a = none ∧ a ≠ D) H4 (upd H4 D (.lst (ws ++ [y]))) := .upd eD4 fun a z => z.2
      refine ((hws.same s4).keep k).snoc (DatN.keep (hd4.weak fun a xs (z : H a = none) e => ⟨sm.free z, fun q => ?_⟩) k)
      rw [q, eD] at z
      cases z
  · obtain ⟨sm, ws, eD, hws⟩ := hP
    rw [List.take_of_length_le (by omega)] at hws
    exact fin H sm ((hws.weak fun a _ z _ => z.1).lst nD eD)
/-- each item makes something new by draws -/
theorem lc_draw {α : Type} (f : α → PyData) (R : Nat → α → Prop) (T : Int) {J : It} {n : Nat} {G : Hp → Prop} {Y : Nat → Hp → V → Hp → Prop} (w : Walk J n G Y) {g : TG} {tt : TT} {te : TE} {vs : List Nat} {σ : L2.St} {H1 : Hp} {D d c : Addr} {t1 : Int} {Qd : Hp → Prop} (S1 : StAt H1 d c t1) (nD : H1 D = none) (hz : n ≤ 1000) (hG : ∀ H, Kp d c H1 H → G H)
    (turn : ∀ i x H H' t (Kt : V → Hp → Prop) (Kn : Hp → Prop), i < n → t1 ≤ t → t ≤ t1 + T * (i : Int) → StAt H d c t → Kp d c H1 H → Y i H x H' → (∀ z y t' H4, R i z → DatN (NewIn H) H4 y (f z) → t ≤ t' → t' ≤ t + T → StAt H4 d c t' → Kp d c H H4 → Kt y H4) →
      g x (wipe σ vs) H' fun σ2 H2 => wipe σ2 vs = wipe σ vs ∧ tt σ2 H2 fun b H3 => if b = true then te σ2 H3 Kt else Kn H3)
    (fin : ∀ (H : Hp) (t : Int) (zs : List α), zs.length = n → (∀ (i : Nat) z, zs[i]? = some z → R i z) → t1 ≤ t → t ≤ t1 + T * (n : Int) → StAt H d c t → Kp d c H1 H → DatN (NewIn H1) H (.ref D) (.list (zs.map f)) → Qd H) : LcW J g tt te vs σ D Qd H1 := by
  have off := S1.off nD
  refine lc_it w (fun j H => ∃ (t : Int) (ws : List V) (zs : List α), H D = some (.lst ws) ∧ EchN (fun a => H1 a = none ∧ a ≠ D) H ws (zs.map f) ∧ zs.length = j ∧ (∀ (i : Nat) z, zs[i]? = some z → R i z) ∧ t1 ≤ t ∧ t ≤ t1 + T * (j : Int) ∧ StAt H d c t ∧ Kp d c H1 H)
    ⟨t1, [], [], upd_same, .nil, rfl, (fun _ _ e => nomatch e), Int.le_refl _, by omega, S1.same (same_upd nD), Kp.same d c (same_upd nD)⟩ (fun i H _ hP => ?_) (fun i x H H' hi hP hy => ?_) (fun H hP => ?_)
  · obtain ⟨_, _, _, _, _, _, _, _, _, _, k⟩ := hP
    exact hG H k
  · obtain ⟨t, ws, zs, eD, hws, hzl, hR, t0, t2, hS, k⟩ := hP
    refine turn i x H H' t _ _ hi t0 t2 hS k hy fun z y t' H4 hz' hd4 u0 u1 hS4 k4 => ?_
    have eD4 := k4 _ _ off.1 off.2 eD
    have hwl : ws.length = i := by rw [hws.1, List.length_map, hzl]
    have kk : Kps (fun a => H1 a = none ∧ a ≠ D) H4 (upd H4 D (.lst (ws ++ [y]))) := .upd eD4 fun a z => z.2
    have k1 : Kps (fun a => H1 a = none ∧ a ≠ D) H H4 := .kp k4 hS fun a z q => by
      obtain ⟨cs, ec, _⟩ := S1.cells
      rw [q, ec] at z
      exact nomatch z.1
    refine ⟨ws, eD4, Nat.lt_of_lt_of_le (show ws.length < 1000 by omega) (by decide), t', ws ++ [y], zs ++ [z], upd_same, ?_, by rw [List.length_append, hzl]; rfl, fun j q e => ?_, by omega, ?_, hS4.upd off.1 off.2, fun b o b1 b2 e => ?_⟩
    · rw [List.map_append]
      refine ((hws.keep k1).keep kk).snoc (DatN.keep (hd4.weak fun a xs (z : H a = none) e => ⟨?_, fun q => ?_⟩) kk)
      · cases e1 : H1 a with
        | none => rfl
        | some o =>
          by_cases z1 : a = d
          · rw [z1, hS.dict] at z; cases z
          · by_cases z2 : a = c
            · obtain ⟨cs, ec, _⟩ := hS.cells
              rw [z2, ec] at z; cases z
            · have := k a o z1 z2 e1
              rw [this] at z
              cases z
      · rw [q, eD] at z
        cases z
    · by_cases hj : j < zs.length
      · rw [List.getElem?_append_left hj] at e
        exact hR j q e
      · rw [List.getElem?_append_right (by omega)] at e
        have hj0 : j - zs.length < 1 := (List.getElem?_eq_some_iff.mp e).1
        have ej : j = i := by omega
        subst ej
        rw [hzl, Nat.sub_self] at e
        cases e
        exact hz'
    · have : T * ((i + 1 : Nat) : Int) = T * (i : Int) + T := by
        rw [Int.natCast_add, Int.mul_add]
        omega
      omega
    · rw [upd_ne (ne_of_none e nD)]
      exact k4 b o b1 b2 (k b o b1 b2 e)
  · obtain ⟨t, ws, zs, eD, hws, hzl, hR, t0, t2, hS, k⟩ := hP
    exact fin H t zs hzl hR t0 t2 hS k ((hws.weak fun a _ z _ => z.1).lst nD eD)
/-- those items of which this holds -/
theorem lc_keep {K : PySem.W.Frag} {a : Addr} {xs : List V} (pb : V → Bool) {g : TG} {tt : TT} {te : TE} {vs : List Nat} {σ : L2.St} {H1 : Hp} {D : Addr} {Qd : Hp → Prop} (nD : H1 D = none) (ea : H1 a = some (.lst xs)) (hz : xs.length ≤ 1000)
    (turn : ∀ (i : Nat) (x : V) (H : Hp) (Kt : V → Hp → Prop) (Kn : Hp → Prop), xs[i]? = some x → Same H1 H → (∀ H4, Same H H4 → pb x = true → Kt x H4) → (∀ H4, Same H H4 → pb x = false → Kn H4) → g x (wipe σ vs) H fun σ2 H2 => wipe σ2 vs = wipe σ vs ∧ tt σ2 H2 fun b H3 => if b = true then te σ2 H3 Kt else Kn H3)
    (fin : ∀ H, Same H1 H → H D = some (.lst (xs.filter pb)) → Qd H) : LcW (Itl K a) g tt te vs σ D Qd H1 := by
  refine lc_it walk_list (fun j H => Same H1 H ∧ H D = some (.lst ((xs.take j).filter pb))) ⟨same_upd nD, upd_same⟩ (fun i H _ p => SqL.of (p.1 _ _ ea)) (fun i x H H' hi hP hy => ?_) (fun H hP => ?_)
  · obtain ⟨sm, eD⟩ := hP
    obtain ⟨rfl, hx⟩ := hy
    have et : (xs.take (i + 1)).filter pb = (xs.take i).filter pb ++ (if pb x = true then [x] else []) := by
      rw [List.take_add_one, hx, List.filter_append]
      by_cases c : pb x = true
      · rw [if_pos c]
        show _ ++ List.filter pb [x] = _
        rw [List.filter_cons_of_pos c]
        rfl
      · rw [if_neg c]
        show _ ++ List.filter pb [x] = _
        rw [List.filter_cons_of_neg c]
        rfl
    have hl : ((xs.take i).filter pb).length ≤ i := Nat.le_trans (List.length_filter_le ..) (by rw [List.length_take]; omega)
    refine turn i x H' _ _ hx sm (fun H4 s4 c => ?_) (fun H4 s4 c => ?_)
    · refine ⟨_, s4 _ _ eD, Nat.lt_of_lt_of_le (show _ < 1000 by omega) (by decide), fun b o e => ?_, ?_⟩
      · rw [upd_ne (ne_of_none e nD)]
        exact s4 _ _ (sm b o e)
      · rw [upd_same, et, if_pos c]
    · refine ⟨sm.trans s4, ?_⟩
      rw [et, if_neg (by rw [c]; decide), List.append_nil]
      exact s4 _ _ eD
  · obtain ⟨sm, eD⟩ := hP
    rw [List.take_length] at eD
    exact fin H sm eD
theorem lc_new_seq {K : PySem.W.Frag} {a : Addr} {xs : List V} {g : TG} {tt : TT} {te : TE} {vs : List Nat} {σ : L2.St} {H1 : Hp} {Qd : Addr → Hp → Prop} (hq : SqH H1 a xs) (ds : List PyData) (hn : ds.length = xs.length) (hz : xs.length ≤ 1000)
    (turn : ∀ (i : Nat) (x : V) (d : PyData) (H : Hp) (Kt : V → Hp → Prop) (Kn : Hp → Prop), xs[i]? = some x → ds[i]? = some d → Same H1 H → (∀ y H4, Same H H4 → DatN (NewIn H) H4 y d → Kt y H4) → g x (wipe σ vs) H fun σ2 H2 => wipe σ2 vs = wipe σ vs ∧ tt σ2 H2 fun b H3 => if b = true then te σ2 H3 Kt else Kn H3)
    (fin : ∀ D H, H1 D = none → Same H1 H → DatN (NewIn H1) H (.ref D) (.list ds) → Qd D H) :
    ((∃ xs, SqL K H1 a xs) ∧ ∀ D, H1 D = none → LcR (Itl K a) g tt te vs σ D Qd H1) ∨ ((∃ xs, SqT K H1 a xs) ∧ ∀ D, H1 D = none → LcR (Itt K a) g tt te vs σ D Qd H1) := by
  rcases hq with h | h
  · exact .inl ⟨⟨xs, SqL.of h⟩, fun D nD => lc_new (walk_list (xs := xs)) ds nD hn hz (fun H s => SqL.of (s _ _ h)) (fun i x d H H' Kt Kn hd sm hy k => by obtain ⟨rfl, hx⟩ := hy; exact turn i x d H' Kt Kn hx hd sm k) (fun H s d => fin D H nD s d)⟩
  · exact .inr ⟨⟨xs, .inl (.inl h)⟩, fun D nD => lc_new (walk_tup (xs := xs)) ds nD hn hz (fun H s => .inl (.inl (s _ _ h))) (fun i x d H H' Kt Kn hd sm hy k => by obtain ⟨rfl, hx⟩ := hy; exact turn i x d H' Kt Kn hx hd sm k) (fun H s d => fin D H nD s d)⟩
theorem lc_new_list {K : PySem.W.Frag} {a : Addr} {xs : List V} {g : TG} {tt : TT} {te : TE} {vs : List Nat} {σ : L2.St} {H1 : Hp} {D : Addr} {Qd : Hp → Prop} (nD : H1 D = none) (hq : H1 a = some (.lst xs)) (ds : List PyData) (hn : ds.length = xs.length) (hz : xs.length ≤ 1000)
    (turn : ∀ (i : Nat) (x : V) (d : PyData) (H : Hp) (Kt : V → Hp → Prop) (Kn : Hp → Prop), xs[i]? = some x → ds[i]? = some d → Same H1 H → (∀ y H4, Same H H4 → DatN (NewIn H) H4 y d → Kt y H4) → g x (wipe σ vs) H fun σ2 H2 => wipe σ2 vs = wipe σ vs ∧ tt σ2 H2 fun b H3 => if b = true then te σ2 H3 Kt else Kn H3)
    (fin : ∀ H, Same H1 H → DatN (NewIn H1) H (.ref D) (.list ds) → Qd H) : LcW (Itl K a) g tt te vs σ D Qd H1 :=
  lc_new (walk_list (xs := xs)) ds nD hn hz (fun H s => SqL.of (s _ _ hq)) (fun i x d H H' Kt Kn hd sm hy k => by obtain ⟨rfl, hx⟩ := hy; exact turn i x d H' Kt Kn hx hd sm k) fin

/-! ### numbers within their bounds; texts as lists of signs -/
theorem mulw {i j : Int} (hi : i.natAbs < 2 ^ 250) (hj : j.natAbs < 2 ^ 250) : CMulW i j := wide_mul hi hj (by decide) (by decide) (by decide)
theorem divw {i j : Int} (h : 0 < j) (hj : j.natAbs < 2 ^ 250) : CDivW i j := wide_div h hj (by decide) (by decide)
theorem S_of (z : Str) : z = SX.S z.cps.toList := (SX.S_tl z).symm
theorem S_cps (a : List Nat) : (SX.S a).cps.toList = a := by simp [SX.S]
theorem cutS_take (a : List Nat) (k : Nat) : cutS (SX.S a) none (some (k : Int)) = SX.S (a.take k) := by
  unfold cutS
  rw [HT.sIx_none, HT.sIx_nat, SX.S_len, S_cps, List.drop_zero, Nat.sub_zero]
  by_cases h : k ≤ a.length
  · rw [Nat.min_eq_left h]
  · rw [Nat.min_eq_right (by omega), List.take_of_length_le (Nat.le_refl _), List.take_of_length_le (by omega)]
theorem cutS_drop (a : List Nat) (k : Nat) : cutS (SX.S a) (some (k : Int)) none = SX.S (a.drop k) := by
  unfold cutS
  rw [HT.sIx_none, HT.sIx_nat, SX.S_len, S_cps]
  by_cases h : k ≤ a.length
  · rw [Nat.min_eq_left h, List.take_of_length_le (by rw [List.length_drop]; omega)]
  · rw [Nat.min_eq_right (by omega), List.drop_eq_nil_of_le (Nat.le_refl _), List.drop_eq_nil_of_le (by omega), List.take_nil]
theorem cutS_mid (a : List Nat) (i j : Nat) : cutS (SX.S a) (some (i : Int)) (some (j : Int)) = SX.S ((a.drop i).take (j - i)) := by
  unfold cutS
  rw [HT.sIx_nat, HT.sIx_nat, SX.S_len, S_cps]
  by_cases h : i ≤ a.length
  · rw [Nat.min_eq_left h]
    by_cases h2 : j ≤ a.length
    · rw [Nat.min_eq_left h2]
    · rw [Nat.min_eq_right (by omega), List.take_of_length_le (by rw [List.length_drop]; omega), List.take_of_length_le (by rw [List.length_drop]; omega)]
  · rw [Nat.min_eq_right (by omega : a.length ≤ i), List.drop_eq_nil_of_le (Nat.le_refl _), List.drop_eq_nil_of_le (by omega), List.take_nil, List.take_nil]
/-- the sign at a place within -/
theorem sign_at {a : List Nat} {j : Nat} (h : j < a.length) : atI (SX.S a).cps.toList (j : Int) = some a[j] := by
  rw [S_cps]
  exact atI_nat (List.getElem?_eq_getElem h)
theorem S_le {a : List Nat} (h : a.length ≤ 10000) : (SX.S a).length ≤ sizeLine := by rw [SX.S_len]; exact Nat.le_trans h (by decide)
theorem strOk_S {a : List Nat} (h : ∀ c ∈ a, c < 1114112) : PyData.strOk (SX.S a) = true := by
  show (Array.all _ _) = true
  rw [Array.all_eq_true']
  intro c hc
  exact decide_eq_true (h c (by simpa using hc))
theorem join_signs (cs : List Nat) : Txt.join "" (cs.map sgS) = SX.S cs := by
  have z := SX.join_S [] (cs.map fun c => [c])
  rw [joinL_ones, List.map_map] at z
  exact z
theorem join_fits {cs : List Nat} (h : cs.length ≤ 10000) : ((cs.map sgS).map (·.length)).sum + (cs.map sgS).length * ("" : Str).length ≤ 16777216 := by
  have e : ∀ cs : List Nat, ((cs.map sgS).map (·.length)).sum = cs.length := fun cs => by
    induction cs with
    | nil => rfl
    | cons c r ih =>
      rw [List.map_cons, List.map_cons, List.sum_cons, ih, List.length_cons]
      show 1 + r.length = r.length + 1
      omega
  rw [e, show ("" : Str).length = 0 from rfl, Nat.mul_zero]
  omega

/-! ### sorted(set(xs)) of a list of whole numbers, however many -/
section
variable {P : Program} {w : World} {A : Around} {E : Value → Shared → Prop} {s : Shared}
/-- a new, empty set's object -/
abbrev set0 (w : World) : Obj := { cls := .type "set", dict := none, data := .set #[] 0 (.fresh 0 0 (!w.params.followText "set-order")) }
set_option maxRecDepth 100000 in
set_option maxHeartbeats 3200000 in
theorem set_from_list {from_ : Addr} {vs : Array Value} (nums : List Int) {Qv : Value → Shared → Prop} (calm : A.handled = none) (isl : s.heap.IsList from_ vs) (isN : IntsAre vs.toList nums) (few : nums.length + 1 < scanBound)
    (end_ : ∀ (hp' : Heap) (tk c : Nat), SetR w hp' s.heap.objs.size (fun j => decide (j ∈ nums)) c → c ≤ nums.length → (∀ b o, s.heap.get? b = some o → hp'.get? b = some o) → Qv (.ref s.heap.objs.size) { s with heap := hp', toks := tk }) :
    wpAny (model P w) A (call (.type "set") [.ref from_]) Qv E s := by
  have size_is : vs.size = nums.length := by
    rw [← Array.length_toList]
    exact IntsAre.length isN
  obtain ⟨c0, tl0, mro0⟩ := F.called_set.mro
  have made0 := F.called_set.made
  have sub0 := F.called_set.sub
  refine wpAny_call (codeAny_of_tree ?_)
  show wpAny _ _ (callAny (.type "set") _) _ _ _
  refine wpAny_pure ⟨Code.quiet_builtin _ (by decide +kernel), codeAny_builtin F.entry_type_call ?_⟩ -- the type is called
  rw [Around.under_plain (weight_type_call_type "set" [.ref from_] []) rfl]
  have no_type := F.called_set.notType
  have can_make := F.called_set.canCreate
  have checked := F.typeCall_set_1 (.ref from_)
  repeat (any_goals (first | assumption | wp_step | fail))
  refine codeAny_mono (code_set_led1 (.ref from_) (E := E) (Q₁ := fun made st => made = .ref s.heap.objs.size ∧ st = { s with heap := s.heap.push (set0 w) }) ⟨rfl, rfl⟩) fun r1 st1 told => ?_
  cases r1 with
  | error e => exact told
  | ok fl =>
    cases fl with
    | ret made =>
      obtain ⟨rfl, rfl⟩ := told
      have here : (s.heap.push (set0 w)).get? s.heap.objs.size = some (set0 w) := Heap.get?_push_size _ rfl
      have isS : Shared.TypeIs { s with heap := s.heap.push (set0 w) } (.ref s.heap.objs.size) "set" := ⟨_, here, rfl⟩
      have look := F.called_set.init.lookup
      have bnd := F.called_set.init.bind (.ref s.heap.objs.size)
      repeat (any_goals (first | assumption | wp_step | fail))
      refine codeAny_mono (codeAny_call_builtin (R := wants (fun r st => r = .none ∧ ∃ hp' tk c, st = { s with heap := hp', toks := tk } ∧ SetR w hp' s.heap.objs.size (fun j => decide (j ∈ nums)) c ∧ c ≤ nums.length ∧ (∀ b o, s.heap.get? b = some o → hp'.get? b = some o)) E) F.called_set.init.plain F.entry_set_init (check_set_init_1 isS ?_)) fun r2 st2 told2 => ?_
      · obtain ⟨ol, got, clsl, nl, datal⟩ := isl
        obtain ⟨ocls, odict, odata, oslots⟩ := ol
        simp only at clsl datal
        subst clsl; subst datal
        have got' : (s.heap.push (set0 w)).get? from_ = some { cls := .type "list", dict := odict, data := .seq vs nl, slots := oslots } := Heap.get?_push_of_some _ got
        have sub1 := F.sub_list_set
        have sub2 := F.sub_list_frozenset
        have no_dict : (Value.type "list" == Value.type "dict") = false := by decide
        have isl1 : (s.heap.push (set0 w)).IsList from_ vs := ⟨_, got', rfl, nl, rfl⟩
        unfold Builtin.«set.__init__» noKeywords Builtin.Frozenset.updateFrom -- its init
        generalize keepP : pyIter = PI
        wp_walk
        subst keepP
        refine wpAny_pyIter_list isl1 (wpAny_bind (wpAny_runValue ?_))
        have lt0 : from_ < s.heap.objs.size := Heap.lt_size got
        have calm3 : A.in1.in1.in1.handled = none := by simp [calm]
        have ne1 : from_ ≠ (s.heap.push (set0 w)).objs.size := by
          rw [Heap.size_push]
          exact Nat.ne_of_lt (Nat.lt_succ_of_lt lt0)
        have apart : s.heap.objs.size ∉ [(s.heap.push (set0 w)).objs.size, from_] := by
          rw [Heap.size_push]
          simp only [List.mem_cons, List.mem_singleton, List.not_mem_nil, or_false, not_or] -- both
          exact ⟨Nat.ne_of_lt (Nat.lt_succ_self _), Nat.ne_of_gt lt0⟩
        have vals : ∀ (i : Nat) (v : Value), vs[i]? = some v → ∃ k t, nums[i]? = some k ∧ v = .int k t := fun i v at_ => by
          have lt : i < nums.length := by
            rw [← size_is]
            exact (Array.getElem?_eq_some_iff.mp at_).1
          obtain ⟨t, e⟩ := PyProof.Rows.IntsAre.int_at isN i v (by rw [Array.getElem?_toList]; exact at_)
          refine ⟨nums[i], t, List.getElem?_eq_getElem lt, ?_⟩
          rw [e, List.getD_eq_getElem?_getD, List.getElem?_eq_getElem lt]
          rfl
        refine set_update_ints ((Walks.list calm3 _ from_ ne1 vs).toS) s.heap.objs.size apart nums size_is few vals (vs.size - 0) 0 _ (by omega) (Nat.zero_le _) ⟨⟨_, Heap.get?_push_size _ rfl, rfl, rfl⟩, (isl1.push _)⟩ ⟨0, Nat.le_refl 0, setR_new_at (Heap.get?_push_of_some _ here)⟩ ?_
        intro st3 c3 moved le3 set3
        obtain ⟨hp3, g3, d3, tk3, os3⟩ := st3
        obtain rfl : g3 = s.gens := moved.gens
        obtain rfl : d3 = s.drawn := moved.drawn
        obtain rfl : os3 = s.os := moved.os
        show wpAny _ _ _ _ _ _
        refine wpAny_pure ?_
        show wpAny _ _ (ret Value.none) _ _ _
        rw [size_is] at le3
        refine wpAny_pure ⟨rfl, hp3, tk3, c3, rfl, set3, le3, fun b o e => ?_⟩
        have lt1 : b < s.heap.objs.size := Heap.lt_size e
        refine moved.heap b o (fun z => ?_) (Heap.get?_push_of_some _ (Heap.get?_push_of_some _ e))
        rcases List.mem_cons.mp z with z | z
        · exact absurd z (Nat.ne_of_lt lt1)
        · have z' := List.mem_singleton.mp z
          rw [Heap.size_push] at z'
          exact absurd z' (Nat.ne_of_lt (Nat.lt_succ_of_lt lt1))
      · cases r2 with
        | error e => exact told2
        | ok fl2 =>
          cases fl2 with
          | ret r =>
            obtain ⟨rfl, hp', tk, c', rfl, z1, z2, z3⟩ := told2
            repeat (any_goals (first | assumption | wp_step | fail))
            exact end_ _ _ _ z1 z2 z3
          | _ => exact told2.elim
    | _ => exact told.elim
/-- sorted of a set of whole numbers -/
theorem sorted_of_set {a : Addr} {S : Int → Bool} {n : Nat} {Qv : Value → Shared → Prop} (R : SetR w s.heap a S n) (calm : A.handled = none)
    (end_ : ∀ st p (out : Array Value) (c : Nat) (ns : List Int), (∀ b o, s.heap.get? b = some o → st.heap.get? b = some o) → st.gens = s.gens → st.os = s.os → s.heap.objs.size ≤ p → st.heap.get? p = some (seqObj "list" out c) → IntsAre out.toList ns → ns.Pairwise (· < ·) → (∀ k, k ∈ ns ↔ S k = true) → ns.length = n → Qv (.ref p) st) :
    wpAny (model P w) A (call (.builtin "sorted") [.ref a]) Qv E s := by
  obtain ⟨o, es, ep, t, ho, hex, hd, g, nd, hm, hb, hf, hn, hr, hl⟩ := R -- what a set's object is
  refine Calls.call_function_entry kind_sorted plain_sorted entry_sorted (args_sorted1 _) ?_ -- called
  unfold Builtin.«sorted»
  refine wpAny_bind (m := checkCount "sorted" 1 1 _) (wpAny_pure (wpAny_bind (collect_set (A := A.in1) calm ⟨o, ho, hex.1, hd⟩ hf hb hr hl fun s1 vs k1 hz g1 o1 pm => ?_)))
  have long : vs.length ≤ sizeLine := by
    rw [pm.length_eq, List.length_map, Array.length_toList]
    exact fits_of_scanBound hb
  have isI := ints_of vs fun v hv => by
    obtain ⟨e, he, q⟩ := List.mem_map.mp (pm.mem_iff.mp hv)
    obtain ⟨k, tk, h1, _⟩ := g e he
    exact ⟨k, tk, by rw [← q]; exact h1⟩
  have keys : (vs.map Builtin.Re.reRawOf).Perm (es.toList.map keyOf) := by
    have q := pm.map Builtin.Re.reRawOf
    rwa [List.map_map] at q
  refine wpAny_bind (wpAny_newList ?_ long)
  have new1 : (s1.heap.push (seqObj "list" vs.toArray 0)).get? s1.heap.objs.size = some (seqObj "list" vs.toArray 0) := Heap.get?_push_size _ rfl
  refine wpAny_bind (wpAny_holding (wpAny_call_entry slot_list_sort ⟨_, new1, rfl⟩ entry_list_sort (SrtO.list_sort_ord SrtO.swo_int new1 long (fun two => SrtO.ints_sortable isI two) fun out w1 w2 => ⟨_, rfl, ?_⟩) (args_list_sort _)))
  obtain ⟨i1, i2, i3⟩ := SrtO.ints_out isI w1 w2
  obtain ⟨c, hc⟩ := sortedHeap_at (vs := vs) (out := out.toArray) new1
  have pn := i2.trans keys
  refine wpAny_pure ⟨_, rfl, end_ _ s1.heap.objs.size out.toArray c _ (fun b u e => ?_) g1 o1 hz hc i1 (lt_of_le_nodup _ i3 (pn.nodup_iff.mpr nd)) (fun k => by rw [pn.mem_iff, ← hm k]) (by rw [pn.length_eq, List.length_map, Array.length_toList]; exact hn)⟩
  have q := k1 b u e
  have lt := Heap.lt_size q
  show (sortedHeap (s1.heap.push (seqObj "list" vs.toArray 0)) s1.heap.objs.size vs out.toArray).get? b = some u
  rw [sortedHeap_old (Nat.ne_of_lt lt) (by rw [size_push']; exact Nat.lt_succ_of_lt lt)]
  exact Heap.get?_push_of_some _ q
end
/-- sorted(set(xs)) -/
def tSortedSet (K : PySem.W.Frag) (ta : TE) : TE := fun σ H Q => ta σ H fun x H1 => ∃ (l : Addr) (ns : List Int), x = .ref l ∧ SqL K H1 l (ns.map V.int) ∧ ns.length ≤ 4000 ∧ ∀ (ms : List Int) (p : Addr), ms.Pairwise (· < ·) → (∀ k, k ∈ ms ↔ k ∈ ns) → H1 p = none → Q (.ref p) (upd H1 p (.lst (ms.map V.int)))
theorem pe_sortedSet {X : Cx} {a : Expr} {ta : TE} {p p2 q pos : Pos} (hg : Gl X "sorted") (hm : X.mg "sorted" = none) (hg2 : Gl X "set") (hm2 : X.mg "set" = none) (ha : PE X a ta) (hc : X.calm = true := by rfl)
    (na : starEach [a] X.env = (false, eval a X.env) :: starEach [] X.env := by rfl) : PE X (.Call (.Name "sorted" p) [.Call (.Name "set" p2) [a] [] q] [] pos) (tSortedSet X.K ta) := by
  refine ⟨fun pins s σ H Q I h => Call_ (ld_blt I hg hm boot_sorted ?_)⟩
  refine PyProof.Rows.callWith_builtin1 (PyProof.Rows.args_cons (Call_ (ld_blt I hg2 hm2 boot_set ?_)) rfl) rfl rfl
  refine PyProof.Rows.callWith_type1 (PyProof.Rows.args_cons (thn (ha.run pins s σ H _ I h) fun v s1 ⟨x, H1, I1, r1, q1⟩ => PyProof.Rows.args_nil ?_) na) na rfl -- set(..)
  obtain ⟨l, ns, rfl, sq, few, q1⟩ := q1
  cases r1
  obtain ⟨its, r, pl, hz⟩ := I1.list sq
  refine set_from_list ns (I1.ok.hd hc) pl.isList (by simpa using RZ.intsAre_vals r) (by unfold scanBound; omega) fun hp' tk c hS le kept => PyProof.Rows.args_nil ?_
  have I2 : Inv X pins σ H1 { s1 with heap := hp', toks := tk } := I1.kept kept
  refine sorted_of_set (s := { s1 with heap := hp', toks := tk }) hS (I1.ok.hd hc) fun st p out c' ms k g o hp hg' isI up mem cnt => ?_
  have len : (ms.map V.int).length ≤ sizeLine := by
    rw [List.length_map, sizeLine_eq]
    omega
  have new : H1 p = none := I2.hok.fresh hp
  have J : Inv X pins σ (upd H1 p (.lst (ms.map V.int))) { ({ s1 with heap := hp', toks := tk } : Shared) with heap := st.heap, gens := st.gens, drawn := st.drawn, toks := st.toks } :=
    I2.call (ch := []) (Un.laid k hp new) (I2.hok.laid k hp ⟨len, out.toList, c', vals_of_ints isI, hg'⟩) (by rw [g]; exact I2.bare) (fun _ z => nomatch z)
  have e : st = { s1 with heap := st.heap, gens := st.gens, drawn := st.drawn, toks := st.toks } := by
    cases st
    cases s1
    cases o
    rfl
  rw [e]
  exact ⟨.ref p, _, J, rfl, q1 ms p up (fun k => ⟨fun z => of_decide_eq_true ((mem k).mp z), fun z => (mem k).mpr (decide_eq_true z)⟩) new⟩

/-! ### len(set(text)) -/
/-- how many unlike ones -/
def dst : List Nat → Nat
  | [] => 0
  | c :: r => if c ∈ r then dst r else dst r + 1
theorem dst_le : ∀ l : List Nat, dst l ≤ l.length
  | [] => Nat.le_refl _
  | c :: r => by
    have := dst_le r
    unfold dst
    split <;> simp <;> omega
theorem dst_nodup : ∀ l : List Nat, dst l = l.length ↔ l.Nodup
  | [] => by simp [dst]
  | c :: r => by
    have h := dst_nodup r
    have h2 := dst_le r
    unfold dst
    rw [List.nodup_cons]
    split
    · rename_i hc
      simp only [List.length_cons]
      constructor
      · intro z; omega
      · intro z; exact absurd hc z.1
    · rename_i hc
      simp only [List.length_cons]
      constructor
      · intro z; exact ⟨hc, h.mp (by omega)⟩
      · intro z; rw [h.mpr z.2]
theorem dst_is : ∀ (l ds : List Nat), ds.Nodup → (∀ k, k ∈ ds ↔ k ∈ l) → ds.length = dst l
  | [], ds, _, hm => by
    cases ds with
    | nil => rfl
    | cons d r => exact absurd ((hm d).mp (List.mem_cons_self ..)) (List.not_mem_nil)
  | c :: r, ds, nd, hm => by
    unfold dst
    split
    · rename_i hc
      exact dst_is r ds nd fun k => by
        rw [hm k, List.mem_cons]
        exact ⟨fun z => z.elim (fun e => e ▸ hc) id, .inr⟩
    · rename_i hc
      have hin : c ∈ ds := (hm c).mpr (List.mem_cons_self ..)
      have q := dst_is r (ds.erase c) (nd.erase c) fun k => by
        rw [nd.mem_erase_iff, hm k, List.mem_cons]
        constructor
        · rintro ⟨z1, z2 | z2⟩
          · exact absurd z2 z1
          · exact z2
        · intro z
          exact ⟨fun e => hc (e ▸ z), .inr z⟩
      rw [List.length_erase_of_mem hin] at q
      have : 0 < ds.length := List.length_pos_of_mem hin
      omega
section
variable {P : Program} {w : World} {A : Around} {E : Value → Shared → Prop} {s : Shared}
/-- the keys of signs -/
abbrev kSg (c : Nat) : Key := .inr ⟨#[c]⟩
/-- the signs so far make the set -/
def SgSet (P : Program) (w : World) (h : Heap) (S : Addr) (l : List Nat) : Prop := ∃ (F : Key → Bool) (ds : List Nat), h.SetOf (mixKind P w) S F ds.length ∧ ds.Nodup ∧ (∀ k, k ∈ ds ↔ k ∈ l) ∧ ∀ c, F (kSg c) = true ↔ c ∈ l
theorem SgSet.keeps {h h' : Heap} {S : Addr} {l : List Nat} (z : SgSet P w h S l) (k : ∀ o, h.get? S = some o → h'.get? S = some o) : SgSet P w h' S l :=
  let ⟨F, ds, z1, z2⟩ := z; ⟨F, ds, setOf_at z1 k, z2⟩
theorem update_signs {it : Addr} {foot writes : List Addr} {Gens : Array GenState → Array GenState → Prop} {n : Nat} {Item : Nat → Value → Prop} {At : Nat → Shared → Prop} {R : Result → Shared → Prop}
    (W : WalksS P w A.in1 it foot writes Gens n Item At) (S : Addr) (off : S ∉ foot) (cs : List Nat) (hn : n = cs.length) (few : cs.length + 1 < scanBound) (isS : ∀ i v, Item i v → ∃ c t, cs[i]? = some c ∧ v = .str ⟨#[c]⟩ t) :
    ∀ (left i : Nat) (s : Shared), n - i = left → i ≤ n → At i s → SgSet P w s.heap S (cs.take i) →
      (∀ s', Moved (S :: writes) Gens s s' → SgSet P w s'.heap S cs → R (.ok (.ret .none)) s') →
      codeAny (model P w) A (.builtin "set.update.loop" ⟨[.ref S, .ref it], []⟩) R s := by
  have offW : S ∉ writes := fun z => off (W.sub _ z)
  have more : ∀ b ∈ writes, b ∈ S :: writes := fun b z => List.mem_cons_of_mem _ z
  intro left
  induction left with
  | zero =>
    intro i s hl hi at_ hS fin
    obtain rfl : i = n := by omega
    refine codeAny_builtin F.entry_set_update_loop ?_
    rw [Around.under_plainId F.plain_set_update_loop _]
    refine wpAny_bind (m := pyNext (.ref it)) (W.done s _ _ at_ fun s' mv => ?_)
    rw [List.take_of_length_le (by omega)] at hS
    exact wpAny_pure (fin s' (mv.mono more) (hS.keeps fun o e => mv.heap S o offW e))
  | succ left ih =>
    intro i s hl hi at_ hS fin
    have lt : i < n := by omega
    refine codeAny_builtin F.entry_set_update_loop ?_
    rw [Around.under_plainId F.plain_set_update_loop _]
    refine wpAny_bind (m := pyNext (.ref it)) (W.item i s _ _ lt at_ fun v s' hv at' mv => ?_)
    obtain ⟨c, t, hc, rfl⟩ := isS i v hv
    obtain ⟨Fs, ds, hS2, nd, hds, hF⟩ := hS.keeps (h' := s'.heap) fun o e => mv.heap S o offW e
    show wpAny _ A.in1 (holding [Value.str ⟨#[c]⟩ t] (setAdd S (.str ⟨#[c]⟩ t)) >>= _) _ _ s'
    refine wpAny_bind (wpAny_holding ?_)
    unfold setAdd
    refine wpAny_holding ?_
    have key : (mixKind P w).is (kSg c) (.str ⟨#[c]⟩ t) = true := kV_is (k := kSg c) ⟨t, rfl⟩
    have small : ds.length ≤ cs.length := by
      have q := dst_is _ ds nd hds
      have q2 := dst_le (cs.take i)
      rw [List.length_take] at q2
      omega
    refine wpAny_bind ((mixKind P w).pyHash key ?_)
    refine wpAny_setAddHashed_of (s := { s' with toks := s'.toks + 1 }) key rfl hS2 (by omega) fun h' sb hS3 => ?_
    have hS4 : SgSet P w h' S (cs.take (i + 1)) := by
      have mem : ∀ k, k ∈ cs.take (i + 1) ↔ k ∈ cs.take i ∨ k = c := fun k => by
        rw [List.take_add_one, hc]
        simp [List.mem_append]
      have inj : ∀ k, (kSg k = kSg c) ↔ k = c := fun k => ⟨fun z => by have := Sum.inr.inj z; simpa using this, fun z => by rw [z]⟩
      by_cases hin : c ∈ cs.take i
      · rw [if_pos ((hF c).mpr hin)] at hS3
        refine ⟨_, ds, hS3, nd, fun k => ?_, fun k => ?_⟩
        · rw [hds k, mem k]
          exact ⟨.inl, fun z => z.elim id fun e => e ▸ hin⟩
        · rw [mem k, Bool.or_eq_true, hF k, decide_eq_true_iff, inj]
      · rw [if_neg (fun z => hin ((hF c).mp z))] at hS3
        refine ⟨_, c :: ds, hS3, List.nodup_cons.mpr ⟨fun z => hin ((hds c).mp z), nd⟩, fun k => ?_, fun k => ?_⟩
        · rw [List.mem_cons, hds k, mem k]
          exact ⟨fun z => z.elim .inr .inl, fun z => z.elim .inr .inl⟩
        · rw [mem k, Bool.or_eq_true, hF k, decide_eq_true_iff, inj]
    refine wpAny_pure ⟨plainId_quiet F.plain_set_update_loop _, ih (i + 1) _ (by omega) lt (W.frame _ s' _ _ at' (Nat.le_succ _) fun b hb o e => ?_) hS4 fun s'' mv2 z => ?_⟩
    · rw [sb.2 b (fun z : b = S => off (z ▸ hb))]; exact e
    · refine fin s'' (Moved.trans W.gtrans ((mv.mono more).then_heap (Nat.le_succ _) fun b o hb e => ?_) mv2) z
      rw [sb.2 b (fun z : b = S => hb (z ▸ List.mem_cons_self))]; exact e
set_option maxRecDepth 100000 in
set_option maxHeartbeats 3200000 in
theorem set_from_text {x : Str} {t : Tok} {Qv : Value → Shared → Prop} (calm : A.handled = none) (few : x.cps.toList.length + 1 < scanBound)
    (end_ : ∀ (hp' : Heap) (tk : Nat), SgSet P w hp' s.heap.objs.size x.cps.toList → (∀ b o, s.heap.get? b = some o → hp'.get? b = some o) → Qv (.ref s.heap.objs.size) { s with heap := hp', toks := tk }) :
    wpAny (model P w) A (call (.type "set") [.str x t]) Qv E s := by
  obtain ⟨c0, tl0, mro0⟩ := F.called_set.mro
  have made0 := F.called_set.made
  have sub0 := F.called_set.sub
  refine wpAny_call (codeAny_of_tree ?_)
  show wpAny _ _ (callAny (.type "set") _) _ _ _
  refine wpAny_pure ⟨Code.quiet_builtin _ (by decide +kernel), codeAny_builtin F.entry_type_call ?_⟩ -- its type is called
  rw [Around.under_plain (weight_type_call_type "set" [.str x t] []) rfl]
  have no_type := F.called_set.notType
  have can_make := F.called_set.canCreate
  have checked := F.typeCall_set_1 (.str x t)
  repeat (any_goals (first | assumption | wp_step | fail))
  refine codeAny_mono (code_set_led1 (.str x t) (E := E) (Q₁ := fun made st => made = .ref s.heap.objs.size ∧ st = { s with heap := s.heap.push (set0 w) }) ⟨rfl, rfl⟩) fun r1 st1 told => ?_
  cases r1 with
  | error e => exact told
  | ok fl =>
    cases fl with
    | ret made =>
      obtain ⟨rfl, rfl⟩ := told
      have here : (s.heap.push (set0 w)).get? s.heap.objs.size = some (set0 w) := Heap.get?_push_size _ rfl
      have isS : Shared.TypeIs { s with heap := s.heap.push (set0 w) } (.ref s.heap.objs.size) "set" := ⟨_, here, rfl⟩
      have look := F.called_set.init.lookup
      have bnd := F.called_set.init.bind (.ref s.heap.objs.size)
      repeat (any_goals (first | assumption | wp_step | fail))
      refine codeAny_mono (codeAny_call_builtin (R := wants (fun r st => r = .none ∧ ∃ hp' tk, st = { s with heap := hp', toks := tk } ∧ SgSet P w hp' s.heap.objs.size x.cps.toList ∧ (∀ b o, s.heap.get? b = some o → hp'.get? b = some o)) E) F.called_set.init.plain F.entry_set_init (check_set_init_1 isS ?_)) fun r2 st2 told2 => ?_
      · have sub1 := F.sub_str_set
        have sub2 := F.sub_str_frozenset
        have no_dict : (Value.type "str" == Value.type "dict") = false := by decide
        unfold Builtin.«set.__init__» noKeywords Builtin.Frozenset.updateFrom -- its own init
        generalize keepP : pyIter = PI
        wp_walk
        subst keepP
        refine wpAny_pyIter_str fun o At W at0 => wpAny_bind (wpAny_runValue ?_)
        have calm3 : A.in1.in1.in1.handled = none := by simp [calm]
        have apart : s.heap.objs.size ∉ [(s.heap.push (set0 w)).objs.size] := by
          rw [Heap.size_push]
          intro z
          exact Nat.ne_of_lt (Nat.lt_succ_self _) (List.mem_singleton.mp z)
        have empty : SgSet P w ((s.heap.push (set0 w)).push o) s.heap.objs.size (x.cps.toList.take 0) :=
          ⟨fun _ => false, [], ⟨_, #[], 0, _, Heap.get?_push_of_some _ here, ⟨rfl, rfl, rfl⟩, rfl, (fun e he => by simp at he), (fun k => by simp), (by decide), (by rfl), rfl⟩, List.nodup_nil, fun k => by simp, fun c => by simp⟩
        refine update_signs ((W _ calm3).toS) s.heap.objs.size apart x.cps.toList (by simp) few (fun i v hv => ?_) (x.cps.size - 0) 0 _ rfl (Nat.zero_le _) at0 empty ?_
        · obtain ⟨c, u, e, rfl⟩ := hv
          exact ⟨c, u, by rw [Array.getElem?_toList]; exact e, rfl⟩
        intro st3 moved set3
        obtain ⟨hp3, g3, d3, tk3, os3⟩ := st3
        obtain rfl : g3 = s.gens := moved.gens
        obtain rfl : d3 = s.drawn := moved.drawn
        obtain rfl : os3 = s.os := moved.os
        show wpAny _ _ _ _ _ _
        refine wpAny_pure ?_
        show wpAny _ _ (ret Value.none) _ _ _
        refine wpAny_pure ⟨rfl, hp3, tk3, rfl, set3, fun b o e => ?_⟩
        have lt1 : b < s.heap.objs.size := Heap.lt_size e
        refine moved.heap b o (fun z => ?_) (Heap.get?_push_of_some _ (Heap.get?_push_of_some _ e))
        rcases List.mem_cons.mp z with z | z
        · exact absurd z (Nat.ne_of_lt lt1)
        · have z' := List.mem_singleton.mp z
          rw [Heap.size_push] at z'
          exact absurd z' (Nat.ne_of_lt (Nat.lt_succ_of_lt lt1))
      · cases r2 with
        | error e => exact told2
        | ok fl2 =>
          cases fl2 with
          | ret r =>
            obtain ⟨rfl, hp', tk, rfl, z1, z2⟩ := told2
            repeat (any_goals (first | assumption | wp_step | fail))
            exact end_ _ _ z1 z2
          | _ => exact told2.elim
    | _ => exact told.elim
end
def tLenSigns (ta : TE) : TE := fun σ H Q => ta σ H fun x H1 => ∃ l : List Nat, x = .str (SX.S l) ∧ l.length ≤ 1000 ∧ Q (.int (dst l)) H1
theorem pe_lenSigns {X : Cx} {a : Expr} {ta : TE} {p p2 q pos : Pos} (hg : Gl X "len") (hm : X.mg "len" = none) (hg2 : Gl X "set") (hm2 : X.mg "set" = none) (ha : PE X a ta) (hc : X.calm = true := by rfl)
    (na : starEach [a] X.env = (false, eval a X.env) :: starEach [] X.env := by rfl) : PE X (.Call (.Name "len" p) [.Call (.Name "set" p2) [a] [] q] [] pos) (tLenSigns ta) := by
  refine ⟨fun pins s σ H Q I h => Call_ (ld_blt I hg hm boot_len ?_)⟩
  refine PyProof.Rows.callWith_builtin1 (PyProof.Rows.args_cons (Call_ (ld_blt I hg2 hm2 boot_set ?_)) rfl) rfl rfl
  refine PyProof.Rows.callWith_type1 (PyProof.Rows.args_cons (thn (ha.run pins s σ H _ I h) fun v s1 ⟨x, H1, I1, r1, q1⟩ => PyProof.Rows.args_nil ?_) na) na rfl -- its set
  obtain ⟨l, rfl, few, q1⟩ := q1
  obtain ⟨t, rfl⟩ := r1
  refine set_from_text (I1.ok.hd hc) (by rw [S_cps]; unfold scanBound; omega) fun hp' tk hS kept => PyProof.Rows.args_nil ?_
  have I2 : Inv X pins σ H1 { s1 with heap := hp', toks := tk } := I1.kept kept
  rw [S_cps] at hS
  obtain ⟨Fs, ds, ⟨o, es, ep, tb, ho, hex, hd, _, _, _, hf, hn⟩, nd, hds, _⟩ := hS
  have e := dst_is l ds nd hds
  have le := dst_le l
  exact call_len_set ho hex hd hf (by rw [hn]; omega) ⟨.int (dst l), H1, I2.tok _, ⟨_, by rw [hn, e]⟩, q1⟩

/-! ### all(test for x in text), the test made of the module's names -/
/-- the element at a sign: what it gives, wherever the expression runs later -/
def EltC (X : Cx) (s₁ : Shared) (P : Addr) (sc : Scope) (x : Str) (elt : Expr) (pb : Nat → Bool) : Prop :=
  ∀ (L : Addr) (code : Value) (A' : Around) (E' : Value → Shared → Prop) (ch : Nat) (t : Tok) (s₂ : Shared) (m : Str → Option Value), A'.handled = none →
    (∀ b o, b ≠ P → s₁.heap.get? b = some o → s₂.heap.get? b = some o) → s₂.heap.Ns L m → m x = some (.str ⟨#[ch]⟩ t) →
    wpAny (model X.prog X.w) A' (eval elt (genEnv sc (cloFrom X.env.cells sc.names []) L code builtinsNs X.env)) (fun y s₃ => y = .bool (pb ch) ∧ Keeps s₂ s₃) E' s₂
section
variable {X : Cx} {s : Shared} {H : Hp} {σ : L2.St} {pins : List (Addr × Obj)}
theorem gen_signs {c P : Addr} {elt iter : Expr} {x : Str} {px gpos : Pos} {sc : Scope} {te : TE} {k : Nat} {Q' : Value → Shared → Prop} {Want : Str → Hp → Prop} {pb : Nat → Bool}
    (room : Room k X.A) (TB : GxR.TabB X.base X.mg c P) (hcode : X.env.code = .ref c) (own : GxR.GenS X.env sc x) (walked : PE X iter te) (plain : ∀ v, genFold iter X.env v = pure v) (I : Inv X pins σ H s)
    (each : ∀ s₁ H₁, Inv X pins σ H₁ s₁ → GxR.TabG H₁ P → EltC X s₁ P sc x elt pb)
    (h : te σ H fun v H₁ => ∃ a : Str, v = .str a ∧ GxR.TabG H₁ P ∧ Want a H₁)
    (fin : ∀ a H₁ g s₅, Want a H₁ → GxR.Ready X pins σ H₁ P a pb g s₅ → Q' (.ref g) s₅) :
    wpAny (model X.prog X.w) X.A (eval (.GeneratorExp elt [⟨.Name x px, iter, [], 0⟩] sc gpos) X.env) Q' X.xe s := by
  have deep : X.A.depth < recursionLimit := by have := room.dp; omega
  refine wpAny_GeneratorExp_walksQ room.hd own.co (closure_ok own.free) own.cell own.dot own.loc own.kind deep (thn (walked.run pins s σ H _ I h) fun u s₁ had => ?_) plain
  obtain ⟨_, H₁, I₁, rel, a, rfl, ⟨tb, hP, ok⟩, want⟩ := had
  obtain ⟨ut, rfl⟩ := rel
  have tabAt : s₁.heap.get? P = some { cls := .none, data := .fields tb } := I₁.hok P _ hP
  refine wpAny_pyIter_str fun o At W at0 => ?_
  have newP : s₁.heap.objs.size ≠ P := fun z => Nat.lt_irrefl _ (Nat.lt_of_lt_of_eq (Heap.lt_size tabAt) z)
  have statics : cStatics < s₁.heap.objs.size ∧ cStatics ≠ P := by
    obtain ⟨_, ns, _⟩ := I₁.nolimit
    refine ⟨ns.lt, fun z => ?_⟩
    obtain ⟨ob, _, _, e, d, _⟩ := ns
    rw [z, tabAt] at e
    rw [← Option.some.inj e] at d
    cases d
  have quiet : (s₁.heap.push o).NoLimit := I₁.nolimit.push o
  refine ⟨quiet, GP.code_there hcode (TB.code.keeps fun b u e => Heap.get?_push_of_some _ (I₁.bk b u e)) (Heap.get?_push_of_some _ tabAt) ok fun code h₃ tk more ext le tab₃ ok₃ => ?_⟩
  rw [Heap.size_push] at le
  have stays : ∀ b u, b ≠ P → s₁.heap.get? b = some u → h₃.get? b = some u := fun b u hb e => ext b u hb (Heap.get?_push_of_some _ e)
  obtain ⟨bm, ob, f1, f2, f3, f4, f5, f6, f7, f8⟩ := TB.bm
  have globals : Heap.Ns h₃ X.env.globals X.mg := by
    rw [I₁.ok.glob]
    exact ((I₁.mod.glob.keeps I₁.bk).push o).extBut ext TB.gP
  refine wpAny_builtinsFor (m := X.mg) globals f1 f2 (stays bm ob f4 (I₁.bk bm ob f5)) f6 f7 f8 ?_
  have later : ∀ b u, s₁.heap.get? b = some u → b ∉ [h₃.objs.size, s₁.heap.objs.size] := fun b u e z => by
    have lt := Heap.lt_size e
    rcases List.mem_cons.mp z with z' | z'
    · exact Nat.lt_irrefl _ (Nat.lt_of_lt_of_le (z' ▸ lt) (Nat.le_of_succ_le le))
    · exact Nat.lt_irrefl _ (List.mem_singleton.mp z' ▸ lt)
  refine ⟨_, _, _, _, _, _, fun _ => true, fun i y => ∃ ch, a.cps[i]? = some ch ∧ y = .bool (pb ch), rfl, W, ?_, fun b hb => ?_, quiet.extBut ext statics.2, fun z => ?_, fun href kept => ⟨?_, ?_⟩, ?_⟩
  · exact (W X.A room.hd).frame _ _ _ at0 fun b hb u e => ext b u (fun z => newP ((List.mem_singleton.mp hb).symm.trans z)) e
  · rw [List.mem_singleton.mp hb]
    exact Nat.lt_of_succ_le le
  · exact Nat.ne_of_lt statics.1 (List.mem_singleton.mp z)
  · intro A' E' i v s₂ m _ _ _ _ _
    rw [List.forIn_nil]
    exact wpAny_pure ⟨rfl, GxR.keeps_refl _⟩
  · intro A' E' i v s₂ m calm hx _ ns ea still
    obtain ⟨ch, t, ech, rfl⟩ := hx
    refine wpAny_mono (each s₁ H₁ I₁ ⟨tb, hP, ok⟩ _ code A' E' ch t s₂ m calm (fun b u hb q => ?_) ns ea) (fun y s₃ r => ⟨⟨ch, ech, r.1⟩, r.2⟩) fun _ _ q => q
    have q3 := stays b u hb q
    exact still b (List.mem_range.mpr (Heap.lt_size q3)) (fun z => later b u q (List.mem_cons_of_mem _ z)) u (kept b u q3)
  · intro g h₅ tk₅ gs bare above size kept W₅ at₅
    rw [GxR.passing_true, List.length_range] at W₅
    refine fin a H₁ g _ want ⟨_, _, _, _, _, W₅.in4_1, at₅, fun j y sj Qj Ej hy hq => ?_, fun s₆ mv => ?_⟩
    · obtain ⟨i, ei, ch, ech, rfl⟩ := hy
      obtain ⟨lt, e2⟩ := List.getElem?_eq_some_iff.mp ei
      rw [List.getElem_range] at e2
      subst e2
      have z : GxR.trF pb a.cps.toList j = pb ch := GxR.trF_some (by rw [Array.getElem?_toList]; exact ech)
      rw [z] at hq
      exact wpAny_truthy_bool hq
    · have all : ∀ b u, b ≠ P → s₁.heap.get? b = some u → s₆.heap.get? b = some u := fun b u hb e => mv.heap b u (later b u e) (kept b u (stays b u hb e))
      have tab₆ := mv.heap P _ (later P _ tabAt) (kept P _ tab₃)
      have J := GxR.inv_tab (more := more) (d' := s₆.drawn) (t' := s₆.toks) I₁ hP all tab₆ (AllBare.movedS (I₁.bare.push bare) mv)
      rw [GxR.sh_eta s₁ s₆ mv.os] at J
      exact ⟨_, ⟨⟨tb ++ more, upd_same, ok₃⟩, fun b hb => upd_ne hb⟩, J⟩
theorem pe_allC {c P : Addr} {elt iter : Expr} {x : Str} {px p pos gpos : Pos} {sc : Scope} {pb : Nat → Bool} {te : TE} {k : Nat}
    (room : Room k X.A) (glob : Gl X "all") (free : X.mg "all" = none) (TB : GxR.TabB X.base X.mg c P) (hcode : X.env.code = .ref c) (own : GxR.GenS X.env sc x) (walked : PE X iter te)
    (each : ∀ pins σ s₁ H₁, Inv X pins σ H₁ s₁ → GxR.TabG H₁ P → EltC X s₁ P sc x elt pb) (plain : ∀ v, genFold iter X.env v = pure v)
    (one : starEach [.GeneratorExp elt [⟨.Name x px, iter, [], 0⟩] sc gpos] X.env = [(false, eval (.GeneratorExp elt [⟨.Name x px, iter, [], 0⟩] sc gpos) X.env)] := by rfl) :
    PE X (.Call (.Name "all" p) [.GeneratorExp elt [⟨.Name x px, iter, [], 0⟩] sc gpos] [] pos) (GxR.tAllS P pb te) := by
  constructor
  intro pins s σ H Q I h
  refine wpAny_Call_Name_kw (ld_blt I glob free (show bootBuiltins "all" = some (.builtin "all") by decide +kernel) (callWith_builtin1 ?_ one (by rfl)))
  rw [one]
  refine Calls.spliced_cons (gen_signs (Want := fun a H1 => ∀ H2, GxR.Tabbed P H1 H2 → Q (.bl (a.cps.toList.all pb)) H2) room TB hcode own walked plain I (fun s₁ H₁ J g => each pins σ s₁ H₁ J g) h fun a H₁ gen s₅ want fresh => Calls.spliced_nil ?_)
  obtain ⟨foot, writes, Gens, Item, At, W, a0, truth, behind⟩ := fresh
  refine call_all_walkS (W.self 0 _ _ _ a0 ⟨gen, foot, writes, Gens, _, Item, At, _, rfl, W, a0, truth, fun s₆ mv => ?_⟩)
  obtain ⟨H₂, tabbed, J⟩ := behind s₆ mv
  refine ⟨.bl _, H₂, J, rfl, ?_⟩
  rw [GxR.all_signs a pb]
  exact want H₂ tabbed
/-- x in NAME, NAME a text of the module -/
theorem elt_in_name {P : Addr} {sc : Scope} {x y : Str} {z : Str} {p1 p2 p3 : Pos} {s₁ : Shared} {H₁ : Hp} (gP : mainGlobals ≠ P) (I : Inv X pins σ H₁ s₁) (g : GxR.TabG H₁ P) (hy : ∃ u, X.mg y = some u ∧ RelV (.str z) u) (kf : sc.kind = .function) (lx : sc.names.lookup x = some .local) (ly : sc.names.lookup y = some .globalImplicit)
    (n1 : (x == ("__debug__" : Str)) = false := by decide) (n2 : (y == ("__debug__" : Str)) = false := by decide) :
    EltC X s₁ P sc x (.Compare (.Name x p1) [.In] [.Name y p2] p3) (fun ch => decide (ch ∈ z.cps.toList)) := by
  intro L code A' E' ch t s₂ m calm kept ns ea
  obtain ⟨u, hu, tz, rfl⟩ := hy
  obtain ⟨hg, mb, h1, h2⟩ := GP.names_in (s₂ := s₂) I g gP kept
  refine wpAny_Compare1 (wpAny_Name (wpAny_loadName_local kf (show sc.names.lookup x = some .local from lx) ns ea ?_) n1)
  refine Calls.Name_function_global kf (show sc.names.lookup y = some .globalImplicit from ly) (Calls.loadGlobal_global (by show Heap.Ns _ X.env.globals X.mg; rw [I.ok.glob]; exact hg) hu ?_) n2
  refine PyProof.Rows.in_str ⟨?_, GxR.keeps_tok _ _⟩
  rw [PySem.StrLaws.found_one]
end

/-! ### enumerate over a text -/
theorem meets_enB {v : Value} {o : Obj} {G : Heap → Prop} (B : Begins v o G) : Meets (Builtin.«enumerate.__new__» ⟨[.type "enumerate", v], []⟩) (fun _ R s => G s.heap ∧
    R (.ok (.ret (.ref (s.heap.push o).objs.size))) { s with heap := (s.heap.push o).push { cls := .type "enumerate", data := .fields #[.none, .bool false, .ref s.heap.objs.size, rawInt 0, .none, .none] } }) :=
  .of_wp fun prog w A R s given => by
    obtain ⟨hp, g, d, tk, os⟩ := s
    obtain ⟨hg, given⟩ := given
    have sub0 := sub_enumerate
    have begun : ∀ {A' : Around} {E' Q' : Value → Shared → Prop}, Q' (.ref hp.objs.size) ⟨hp.push o, g, d, tk, os⟩ → wpAny (model prog w) A' (pyIter v) Q' E' ⟨hp, g, d, tk, os⟩ := fun q => B.iter prog w _ _ ⟨hp, g, d, tk, os⟩ _ hg q
    wp_walk using begun
    refine wpAny_stack_any fun stk => wpAny_pure ?_
    split
    · rename_i c0 _ _ _ _ _
      cases (c0 == Value.type "enumerate") <;> (wp_walk using begun; exact ⟨_, rfl, given⟩)
    · wp_walk using begun
      exact ⟨_, rfl, given⟩
theorem call_enB {prog : Program} {w : World} {A : Around} {E Q : Value → Shared → Prop} {s : Shared} {v : Value} {o : Obj} {G : Heap → Prop} (B : Begins v o G) (hg : G s.heap)
    (h : ∀ h', IsEnum h' (s.heap.objs.size + 1) s.heap.objs.size 0 .none → h'.get? s.heap.objs.size = some o → (∀ b o, s.heap.get? b = some o → h'.get? b = some o) → Q (.ref (s.heap.objs.size + 1)) { s with heap := h' }) : wpAny (model prog w) A (call (.type "enumerate") [v]) Q E s := by
  refine callType_new F.called_enumerate (by decide) (F.typeCall_enumerate_1 _) (F.newCall_enumerate_1 _) (fun obj => F.args_object_init_2 obj _) F.entry_enumerate_new (meets_enB B) ⟨hg, ?_⟩
  have z1 : (s.heap.push o).objs.size = s.heap.objs.size + 1 := Heap.size_push ..
  show _ ∧ _
  rw [z1]
  have made : IsEnum ((s.heap.push o).push { cls := .type "enumerate", data := .fields #[.none, .bool false, .ref s.heap.objs.size, rawInt 0, .none, .none] }) (s.heap.objs.size + 1) s.heap.objs.size 0 .none := by
    have e0 := Heap.get?_push_size (s.heap.push o) (o := { cls := .type "enumerate", data := .fields #[.none, .bool false, .ref s.heap.objs.size, rawInt 0, .none, .none] }) rfl
    rw [z1] at e0
    exact e0
  exact ⟨⟨_, made, rfl⟩, h _ made (Heap.get?_push_of_some _ (Heap.get?_push_size _ B.free)) fun b o x => Heap.get?_push_of_some _ (Heap.get?_push_of_some _ x)⟩
/-- the signs of a text, each in a new pair -/
def IteX (z : Str) : It := ⟨fun i _ => i < z.cps.size, fun i H v H' => ∃ T c, v = .ref T ∧ H T = none ∧ H' = upd H T (.tup [.int (i : Nat), .str ⟨#[c]⟩]) ∧ z.cps[i]? = some c, fun i _ => i = z.cps.size⟩
theorem turn_enX {P : Program} {w : World} {K : PySem.W.Frag} {elts : List Expr} {kk : Nat} {tpos : Pos} (z : Str) (tz : Tok) (e it : Addr) (nei : e ≠ it) :
    Turn P w K (.Tuple elts kk tpos) (IteX z) [e, it] e (fun i h => (∃ old, IsEnum h e it ((i : Nat) : Int) old) ∧ h.IsStrIter it (strIterType z) z tz i) where
  mem := List.mem_cons_self ..
  obj := fun i h ⟨⟨old, he⟩, ⟨o, ho, hc, hd⟩⟩ b hb => by
    rcases List.mem_cons.mp hb with z | z
    · subst z
      exact ⟨_, he, fun v q => nomatch q⟩
    · rw [List.mem_singleton.mp z]
      exact ⟨o, ho, fun v q => by rw [hd] at q; cases q⟩
  keep := fun i h h' ⟨⟨old, he⟩, ⟨o, ho, r⟩⟩ k => ⟨⟨old, k e (List.mem_cons_self ..) _ he⟩, ⟨o, k it (List.mem_cons_of_mem _ (List.mem_singleton.mpr rfl)) o ho, r⟩⟩
  item := by
    intro X hP hw hK hc i pins s σ H E I hf st hg
    subst hP hw hK
    obtain ⟨⟨old, he⟩, hit⟩ := st
    have lte : e < s.heap.objs.size := Heap.lt_size he
    have lti : it < s.heap.objs.size := let ⟨_, q, _⟩ := hit; Heap.lt_size q
    have D := Draws.text (prog := X.prog) (w := X.w) (A := X.A.in1) (I.ok.hd hc) it z tz
    refine wpAny_pyNext_enum_itemD D he hit hg nei (fun y => nei (List.mem_singleton.mp y)) fun x' h' tk hx' ho st' hT hsz hk => ?_
    obtain ⟨ch, tc, hch, rfl⟩ := hx'
    refine ⟨_, rfl, wpAny_letOwnedTupleGo_enum (s := { s with heap := h', toks := tk + 1 }) ho fun h'' he' sb => ?_⟩
    have hT2 := (sb.2 _ (Nat.ne_of_gt lte)).trans hT
    have new : ObjOk X.prog X.w (upd H s.heap.objs.size (.tup [.int (i : Nat), .str ⟨#[ch]⟩])) h'' s.heap.objs.size (.tup [.int (i : Nat), .str ⟨#[ch]⟩]) := ⟨by show 2 ≤ sizeLine; decide, [.int i tk, .str ⟨#[ch]⟩ tc], .cons ⟨_, rfl⟩ (.cons ⟨_, rfl⟩ .nil), ⟨_, hT2, rfl, _, rfl⟩⟩
    have I1 : Inv X pins σ (upd H s.heap.objs.size (.tup [.int (i : Nat), .str ⟨#[ch]⟩])) { s with heap := h'', toks := tk + 1 } :=
      I.turnedNew (t' := tk + 1) (ch := [e, it]) (fun b ob hb q => (sb.2 b (fun z => hb (z ▸ List.mem_cons_self ..))).trans (hk b ob (fun z => hb (z ▸ List.mem_cons_self ..)) (fun z => hb (z ▸ List.mem_cons_of_mem _ (List.mem_singleton.mpr rfl))) q)) hf (Nat.le_refl _) new
    refine ⟨.ref s.heap.objs.size, _, I1, rfl, ⟨_, ch, rfl, I.hok.fresh (Nat.le_refl _), rfl, hch⟩, ⟨⟨.str ⟨#[ch]⟩ tc, ?_⟩, let ⟨o, q1, q2⟩ := st'; ⟨o, (sb.2 it nei.symm).trans q1, q2⟩⟩, fun b hb => ?_⟩
    · have e1 : ((i + 1 : Nat) : Int) = (i : Int) + 1 := by omega
      exact e1 ▸ he'
    · have ltb : b < s.heap.objs.size := by
        rcases List.mem_cons.mp hb with z | z
        · exact z ▸ lte
        · exact (List.mem_singleton.mp z) ▸ lti
      rw [upd_ne (Nat.ne_of_lt ltb)]
      exact (hf b hb).1
  done := by
    intro X hP hw hK hc i pins s σ H E I hf st hg
    subst hP hw hK
    obtain ⟨⟨old, he⟩, hit⟩ := st
    obtain ⟨f0, f1, _, f3, f4, f5⟩ := hf it (List.mem_cons_of_mem _ (List.mem_singleton.mpr rfl))
    have D := Draws.text (prog := X.prog) (w := X.w) (A := X.A.in1) (I.ok.hd hc) it z tz
    have hl : i = z.cps.size := hg
    exact wpAny_pyNext_enum_endD D he (hl ▸ hit) fun h' eb => ⟨rfl, I.turned (t' := s.toks) (fun b o hb q => eb b o hb q) f0 f1 f3 f4 f5⟩
  self := fun A i s Q E ⟨⟨_, he⟩, _⟩ h => wpAny_pyIter_enum he h
def iEnX (ta : TA) : TI := fun σ H R => ta σ H fun vs H1 => ∃ z, vs = [.str z] ∧ R (IteX z) H1
theorem pi_enX {X : Cx} {e : Expr} {ta : TA} {p pos tpos : Pos} {elts : List Expr} {kk : Nat} (hg : Gl X "enumerate") (hm : X.mg "enumerate" = none) (ha : PA X [e] ta) (hs : starEach [e] X.env = [(false, eval e X.env)] := by rfl) : PI X (.Tuple elts kk tpos) (.Call (.Name "enumerate" p) [e] [] pos) (iEnX ta) := by
  constructor
  intro pins s σ H R I h
  refine Call_ (ld_blt I hg hm boot_enumerate (PyProof.Rows.callWith_type1 (thn (ha.run pos pins s σ H _ I h) fun us s1 had => ?_) hs rfl))
  obtain ⟨_, H1, J, rel, z, rfl, q⟩ := had
  cases rel with | cons r rr => ?_
  cases rr
  obtain ⟨tz, rfl⟩ := r
  have apart : ∀ b ∈ [s1.heap.objs.size + 1, s1.heap.objs.size], FpOk X pins H1 b := fun b hb => by
    have le : s1.heap.objs.size ≤ b := by
      rcases List.mem_cons.mp hb with z | z
      · rw [z]; exact Nat.le_succ _
      · rw [List.mem_singleton.mp z]; exact Nat.le_refl _
    exact J.fpOk le (J.hok.fresh le)
  exact call_enB (begins_text z tz) trivial fun h' he hit hk => wpAny_pyIter_enum he ⟨_, _, _, _, H1, rfl, J.kept (t' := s1.toks) hk, turn_enX z tz _ _ (Nat.succ_ne_self _), ⟨⟨.none, he⟩, ⟨_, hit, rfl, rfl⟩⟩, apart, q⟩
theorem walk_enX {z : Str} : Walk (IteX z) z.cps.size (fun _ => True) (fun i H v H' => ∃ T c, v = .ref T ∧ H T = none ∧ H' = upd H T (.tup [.int (i : Nat), .str ⟨#[c]⟩]) ∧ z.cps[i]? = some c) where
  goes := fun i _ hi _ => hi
  stops := fun _ _ => rfl
  yields := fun i H v H' _ _ h => h
theorem for_enX {l : List Nat} {g : TG} {tb : TS} {D : Ends} {σ : L2.St} {H1 : Hp} (Pv : Nat → L2.St → Hp → Prop) (h0 : Pv 0 σ H1)
    (turn : ∀ (i : Nat) (c : Nat) (T : Addr) σ H, l[i]? = some c → Pv i σ H → H T = none → g (.ref T) σ (upd H T (.tup [.int (i : Nat), .str ⟨#[c]⟩])) fun σ2 H2 => tb { D with nx := Pv (i + 1), ct := Pv (i + 1), bk := D.nx } σ2 H2) (fin : ∀ σ H, Pv l.length σ H → D.nx σ H) : ForR (IteX (SX.S l)) g tb D σ H1 := by
  have en : (SX.S l).cps.size = l.length := by rw [← Array.length_toList, S_cps]
  refine for_it walk_enX Pv h0 (fun _ _ _ _ _ => trivial) (fun i v σ H H' _ hp hy => ?_) (fun σ H hp => fin σ H (en ▸ hp))
  obtain ⟨T, c, rfl, nT, rfl, e⟩ := hy
  exact turn i c T σ H (by rw [← S_cps l, Array.getElem?_toList]; exact e) hp nT

/-! ### what readings are -/
def sg36 : List Nat := ("abcdefghijklmnopqrstuvwxyz0123456789" : Str).cps.toList
def isCh (l : List Nat) : Bool := decide (2 ≤ l.length) && decide (l.length ≤ 6) && decide (dst l = l.length) && l.all fun c => decide (c ∈ sg36)
/-- up to the closing sign -/
def inner (r : List Nat) : List Nat := r.takeWhile (· ≠ 93)
def plainSg (c : Nat) : Bool := decide (c ∈ sg36 ++ [63] ++ [42])
/-- the parts of a text, if it's such a row of parts -/
def parse : List Nat → Option (List (List Nat))
  | [] => some []
  | c :: r => if c = 91 then (if (inner r).length < r.length ∧ isCh (inner r) = true then (parse (r.drop ((inner r).length + 1))).map (inner r :: ·) else none)
    else if plainSg c = true then (parse r).map ([c] :: ·) else none
termination_by l => l.length
decreasing_by
  all_goals simp only [List.length_cons, List.length_drop]; omega
def isRd (l : List Nat) : Bool := match parse l with
  | some (_ :: _) => true
  | _ => false
theorem parse_nil : parse [] = some [] := by rw [parse]
theorem parse_open {r : List Nat} (h : (inner r).length < r.length) (hc : isCh (inner r) = true) : parse (91 :: r) = (parse (r.drop ((inner r).length + 1))).map (inner r :: ·) := by
  rw [parse, if_pos rfl, if_pos ⟨h, hc⟩]
theorem parse_bad {r : List Nat} (h : ¬ ((inner r).length < r.length ∧ isCh (inner r) = true)) : parse (91 :: r) = none := by
  rw [parse, if_pos rfl, if_neg h]
theorem parse_one {c : Nat} {r : List Nat} (h : c ≠ 91) (hp : plainSg c = true) : parse (c :: r) = (parse r).map ([c] :: ·) := by
  rw [parse, if_neg h, if_pos hp]
theorem parse_no {c : Nat} {r : List Nat} (h : c ≠ 91) (hp : plainSg c = false) : parse (c :: r) = none := by
  rw [parse, if_neg h, if_neg (by rw [hp]; decide)]
/-- what stands up to the first closing sign -/
theorem inner_at : ∀ {r : List Nat} {j : Nat}, r[j]? = some 93 → (∀ i, i < j → r[i]? ≠ some 93) → inner r = r.take j ∧ j < r.length
  | [], j, h, _ => by cases h
  | c :: r, 0, h, _ => by
    cases h
    exact ⟨rfl, by simp⟩
  | c :: r, j + 1, h, hn => by
    have hc : c ≠ 93 := fun z => hn 0 (by omega) (by rw [z]; rfl)
    obtain ⟨h1, h2⟩ := inner_at (r := r) (j := j) (by simpa using h) fun i hi => by
      have := hn (i + 1) (by omega)
      simpa using this
    refine ⟨?_, by simp only [List.length_cons]; omega⟩
    unfold inner at h1 ⊢
    rw [List.takeWhile_cons, if_pos (decide_eq_true hc), h1]
    rfl
theorem inner_all {r : List Nat} (h : ∀ i : Nat, r[i]? ≠ some 93) : inner r = r := by
  unfold inner
  induction r with
  | nil => rfl
  | cons c r ih =>
    have hc : c ≠ 93 := fun z => h 0 (by rw [z]; rfl)
    rw [List.takeWhile_cons, if_pos (decide_eq_true hc), ih fun i => by simpa using h (i + 1)]
/-- so far these parts, and then the rest from a place -/
def Sofar (l : List Nat) (a : Nat) (ps : List (List Nat)) : Prop := a ≤ l.length ∧ ps.length ≤ a ∧ parse l = (parse (l.drop a)).map (ps ++ ·)
theorem Sofar.zero (l : List Nat) : Sofar l 0 [] := ⟨Nat.zero_le _, Nat.le_refl _, by
  rw [List.drop_zero]
  cases parse l <;> rfl⟩
theorem map_cat {o : Option (List (List Nat))} {ps : List (List Nat)} {x : List Nat} : (o.map (x :: ·)).map (ps ++ ·) = o.map (ps ++ [x] ++ ·) := by
  cases o with
  | none => rfl
  | some v => simp
theorem Sofar.fin {l : List Nat} {a : Nat} {ps : List (List Nat)} (h : Sofar l a ps) (e : a = l.length) : parse l = some ps := by
  rw [h.2.2, e, List.drop_length, parse_nil]
  simp
theorem Sofar.one {l : List Nat} {a c : Nat} {ps : List (List Nat)} (h : Sofar l a ps) (e : l[a]? = some c) (h1 : c ≠ 91) (hp : plainSg c = true) : Sofar l (a + 1) (ps ++ [[c]]) := by
  obtain ⟨lt, e'⟩ := List.getElem?_eq_some_iff.mp e
  refine ⟨lt, by rw [List.length_append]; exact Nat.succ_le_succ h.2.1, ?_⟩
  rw [h.2.2, List.drop_eq_getElem_cons lt, e', parse_one h1 hp, map_cat]
theorem Sofar.no {l : List Nat} {a c : Nat} {ps : List (List Nat)} (h : Sofar l a ps) (e : l[a]? = some c) (h1 : c ≠ 91) (hp : plainSg c = false) : parse l = none := by
  obtain ⟨lt, e'⟩ := List.getElem?_eq_some_iff.mp e
  rw [h.2.2, List.drop_eq_getElem_cons lt, e', parse_no h1 hp]
  rfl
theorem Sofar.bad {l : List Nat} {a : Nat} {ps : List (List Nat)} (h : Sofar l a ps) (e : l[a]? = some 91) (hb : ¬ ((inner (l.drop (a + 1))).length < (l.drop (a + 1)).length ∧ isCh (inner (l.drop (a + 1))) = true)) : parse l = none := by
  obtain ⟨lt, e'⟩ := List.getElem?_eq_some_iff.mp e
  rw [h.2.2, List.drop_eq_getElem_cons lt, e', parse_bad hb]
  rfl
/-- the first closing sign behind a stands at k -/
theorem inner_k {l : List Nat} {a k : Nat} (hk : a < k) (ek : l[k]? = some 93) (hn : ∀ i, a < i → i < k → l[i]? ≠ some 93) : inner (l.drop (a + 1)) = (l.drop (a + 1)).take (k - (a + 1)) ∧ k - (a + 1) < (l.drop (a + 1)).length := by
  refine inner_at ?_ fun i hi => ?_
  · rw [List.getElem?_drop, show a + 1 + (k - (a + 1)) = k by omega]; exact ek
  · rw [List.getElem?_drop]; exact hn _ (by omega) (by omega)
theorem Sofar.open {l : List Nat} {a k : Nat} {ps : List (List Nat)} (h : Sofar l a ps) (e : l[a]? = some 91) (hk : a < k) (ek : l[k]? = some 93) (hn : ∀ i, a < i → i < k → l[i]? ≠ some 93) (hc : isCh ((l.drop (a + 1)).take (k - (a + 1))) = true) : Sofar l (k + 1) (ps ++ [(l.drop (a + 1)).take (k - (a + 1))]) := by
  obtain ⟨lt, e'⟩ := List.getElem?_eq_some_iff.mp e
  obtain ⟨i1, i2⟩ := inner_k hk ek hn
  have hz := h.2.1
  have hlen : (inner (l.drop (a + 1))).length = k - (a + 1) := by rw [i1, List.length_take]; omega
  refine ⟨(List.getElem?_eq_some_iff.mp ek).1, by rw [List.length_append]; show ps.length + 1 ≤ _; omega, ?_⟩
  rw [h.2.2, List.drop_eq_getElem_cons lt, e', parse_open (by rw [hlen]; exact i2) (by rw [i1]; exact hc), map_cat, hlen, i1, List.drop_drop]
  rw [show a + 1 + (k - (a + 1) + 1) = k + 1 by omega]
theorem Sofar.badk {l : List Nat} {a k : Nat} {ps : List (List Nat)} (h : Sofar l a ps) (e : l[a]? = some 91) (hk : a < k) (ek : l[k]? = some 93) (hn : ∀ i, a < i → i < k → l[i]? ≠ some 93) (hc : isCh ((l.drop (a + 1)).take (k - (a + 1))) = false) : parse l = none := by
  refine h.bad e fun z => ?_
  rw [(inner_k hk ek hn).1, hc] at z
  exact nomatch z.2
theorem Sofar.never {l : List Nat} {a : Nat} {ps : List (List Nat)} (h : Sofar l a ps) (e : l[a]? = some 91) (hn : ∀ i, a < i → l[i]? ≠ some 93) : parse l = none := by
  refine h.bad e fun z => ?_
  rw [inner_all fun i => by rw [List.getElem?_drop]; exact hn _ (by omega)] at z
  exact Nat.lt_irrefl _ z.1
/-- a sign within that is none of the signs -/
theorem Sofar.odd {l : List Nat} {a j c : Nat} {ps : List (List Nat)} (h : Sofar l a ps) (e : l[a]? = some 91) (hj : a < j) (ej : l[j]? = some c) (hc : c ∉ sg36) (h9 : c ≠ 93) (hn : ∀ i, a < i → i < j → l[i]? ≠ some 93) : parse l = none := by
  refine h.bad e fun z => ?_
  have mem : c ∈ inner (l.drop (a + 1)) := by
    by_cases hex : ∃ k, j < k ∧ l[k]? = some 93 ∧ ∀ i, a < i → i < k → l[i]? ≠ some 93
    · obtain ⟨k, k1, k2, k3⟩ := hex
      rw [(inner_k (by omega) k2 k3).1]
      refine List.mem_of_getElem? (i := j - (a + 1)) ?_
      rw [List.getElem?_take_of_lt (by omega), List.getElem?_drop, show a + 1 + (j - (a + 1)) = j by omega]
      exact ej
    · rw [inner_all fun i => ?_]
      · refine List.mem_of_getElem? (i := j - (a + 1)) ?_
        rw [List.getElem?_drop, show a + 1 + (j - (a + 1)) = j by omega]
        exact ej
      · rw [List.getElem?_drop]
        intro y
        refine hex ?_
        -- the least such place
        have least : ∀ n m, m ≤ n → l[a + 1 + m]? = some 93 → ∃ k, a < k ∧ l[k]? = some 93 ∧ ∀ i, a < i → i < k → l[i]? ≠ some 93 := by
          intro n
          induction n with
          | zero =>
            intro m hm em
            obtain rfl : m = 0 := by omega
            exact ⟨a + 1, by omega, em, fun i h1 h2 => by omega⟩
          | succ n ih =>
            intro m hm em
            by_cases hx : ∃ i, a < i ∧ i < a + 1 + m ∧ l[i]? = some 93
            · obtain ⟨i, i1, i2, i3⟩ := hx
              exact ih (i - (a + 1)) (by omega) (by rw [show a + 1 + (i - (a + 1)) = i by omega]; exact i3)
            · exact ⟨a + 1 + m, by omega, em, fun i h1 h2 h3 => hx ⟨i, h1, h2, h3⟩⟩
        obtain ⟨k, k1, k2, k3⟩ := least i i (Nat.le_refl _) y
        refine ⟨k, ?_, k2, k3⟩
        rcases Nat.lt_trichotomy k j with z1 | z1 | z1
        · exact absurd k2 (hn k k1 z1)
        · rw [z1, ej] at k2
          exact absurd (Option.some.inj k2) h9
        · exact z1
  have all := z.2
  unfold isCh at all
  rw [Bool.and_eq_true, List.all_eq_true] at all
  exact hc (of_decide_eq_true (all.2 c mem))

/-! ### lists of texts beside the empty list -/
def okT (l : List Nat) : Prop := ∀ c ∈ l, c < 1114112
theorem okT.take {l : List Nat} (h : okT l) (n : Nat) : okT (l.take n) := fun c hc => h c (List.mem_of_mem_take hc)
theorem okT.drop {l : List Nat} (h : okT l) (n : Nat) : okT (l.drop n) := fun c hc => h c (List.mem_of_mem_drop hc)
theorem okT.app {l r : List Nat} (h : okT l) (g : okT r) : okT (l ++ r) := fun c hc => (List.mem_append.mp hc).elim (h c) (g c)
theorem okT.one {l : List Nat} (h : okT l) {i c : Nat} (e : l[i]? = some c) : okT [c] := fun d hd => by
  rw [List.mem_singleton.mp hd]
  exact h c (List.mem_of_getElem? e)
abbrev txs (ps : List (List Nat)) : List V := ps.map fun x => .str (SX.S x)
theorem txs_snoc (ps : List (List Nat)) (x : List Nat) : txs (ps ++ [x]) = txs ps ++ [.str (SX.S x)] := by simp [txs]
def txD (x : List Nat) : PyData := .str (SX.S x)
theorem dp_txs {K : PySem.W.Frag} {H : Hp} : ∀ ps : List (List Nat), DpAll K H (txs ps) (ps.map txD)
  | [] => .nil
  | _ :: r => .cons (.str _) (dp_txs r)
theorem lay_txs : ∀ ps : List (List Nat), (∀ x ∈ ps, okT x) → PyData.canLayAll0 (ps.map txD) = true
  | [], _ => by simp only [List.map_nil, PyData.canLayAll0]
  | p :: r, h => by
    rw [List.map_cons, PyData.canLayAll0, lay_txs r fun x hx => h x (List.mem_cons_of_mem _ hx), txD, PyData.canLay0, strOk_S (h p (List.mem_cons_self ..))]
    rfl
theorem depth_txs : ∀ ps : List (List Nat), PyData.depthAll (ps.map txD) ≤ 1
  | [] => by simp only [List.map_nil, PyData.depthAll]; omega
  | p :: r => by
    rw [List.map_cons, PyData.depthAll]
    have := depth_txs r
    simp [txD, PyData.depth]
    omega
theorem shaped_txs (ps : List (List Nat)) (h : ∀ x ∈ ps, okT x) : SeqAt.shaped (PyData.list (ps.map txD)) = true := by
  unfold SeqAt.shaped
  rw [PyData.canLay0, lay_txs ps h, PyData.depth, Bool.true_and]
  exact decide_eq_true (by have := depth_txs ps; omega)
theorem eqv_no {α : Type} (f : α → PyData) (ps : List α) : PyData.eqv (PyData.list (ps.map f)) (PyData.list []) = ps.isEmpty := by
  cases ps with
  | nil => simp [PyData.eqv, PyData.eqvAll]
  | cons p r => simp [PyData.eqv, PyData.eqvAll]
/-- xs != [] -/
theorem ne_nil {K : PySem.W.Frag} {H : Hp} {p l : Addr} {ps : List (List Nat)} {Q : VK} (h : ∀ x ∈ ps, okT x) (e : H p = some (.lst (txs ps))) (el : H l = some (.lst [])) (q : Q (.bl (!ps.isEmpty)) H) : rNeD K (.ref p) (.ref l) H Q :=
  ⟨_, .list [], .lst (SqL.of e) (dp_txs ps), .lst (SqL.of el) .nil, shaped_txs ps h, by rfl, by rw [eqv_no]; exact q⟩
theorem eq_nil {K : PySem.W.Frag} {H : Hp} {p l : Addr} {ps : List (List Nat)} {Q : VK} (h : ∀ x ∈ ps, okT x) (e : H p = some (.lst (txs ps))) (el : H l = some (.lst [])) (q : Q (.bl ps.isEmpty) H) : rEqD K (.ref p) (.ref l) H Q :=
  ⟨_, .list [], .lst (SqL.of e) (dp_txs ps), .lst (SqL.of el) .nil, shaped_txs ps h, by rfl, by rw [eqv_no]; exact q⟩

/-! ### zip of a text and a list -/
def ItzX (K : PySem.W.Frag) (q : Str) (b : Addr) : It :=
  ⟨fun i H => ∃ (ys : List V) (c : Nat) (y : V), SqL K H b ys ∧ q.cps[i]? = some c ∧ ys[i]? = some y,
    fun i H v H' => ∃ T c y, v = .ref T ∧ H T = none ∧ H' = upd H T (.tup [.str ⟨#[c]⟩, y]) ∧ q.cps[i]? = some c ∧ ∀ ys, SqL K H b ys → ys[i]? = some y,
    fun i H => ∃ ys : List V, SqL K H b ys ∧ i = q.cps.size ∧ i ≤ ys.length⟩
theorem turn_zipX {P : Program} {w : World} {K : PySem.W.Frag} {elts : List Expr} {kk : Nat} {tpos : Pos} {b z TI TO i1 i2 : Addr} (q0 : Str) (tq : Tok) (D : ZipSep2 z TI TO i1 i2 [i1] [i2, b]) (n2 : b ≠ i2) :
    Turn P w K (.Tuple elts kk tpos) (ItzX K q0 b) [z, TI, TO, i1, i2] z (fun i h => IsZip h z TI TO .none ∧ IsTupOf2 h TI (.ref i1) (.ref i2) ∧ (∃ x y, IsTupOf2 h TO x y) ∧ h.IsStrIter i1 (strIterType q0) q0 tq i ∧ h.IsListIter i2 b i) where
  mem := by simp
  obj := fun i h st c hc => by
    obtain ⟨hz, hTI, ⟨x, y, hTO⟩, ⟨o1, e1, _, d1⟩, ⟨o2, e2, _, d2⟩⟩ := st
    have e' : c = z ∨ c = TI ∨ c = TO ∨ c = i1 ∨ c = i2 := by simpa using hc
    rcases e' with q | q | q | q | q
    · rw [q]; exact ⟨_, hz, fun v q => nomatch q⟩
    · rw [q]; exact ⟨_, hTI, fun v q => nomatch q⟩
    · rw [q]; exact ⟨_, hTO, fun v q => nomatch q⟩
    · rw [q]; exact ⟨o1, e1, fun v q => by rw [d1] at q; cases q⟩
    · rw [q]; exact ⟨o2, e2, fun v q => by rw [d2] at q; cases q⟩
  keep := fun i h h' st k => by
    obtain ⟨hz, hTI, ⟨x, y, hTO⟩, h1, h2⟩ := st
    exact ⟨k z (by simp) _ hz, k TI (by simp) _ hTI, ⟨x, y, k TO (by simp) _ hTO⟩, (let ⟨o, q1, q2⟩ := h1; ⟨o, k i1 (by simp) o q1, q2⟩), h2.at fun o q => k i2 (by simp) o q⟩
  item := by
    intro X hP hw hK hc i pins s σ H E I hf st hg
    subst hP hw hK
    obtain ⟨hz, hTI, ⟨x0, y0, hTO⟩, h1, h2⟩ := st
    obtain ⟨ys, ch, y, hqy, hch, hy⟩ := hg
    obtain ⟨its2, rv2, p2, _⟩ := I.list hqy
    obtain ⟨u2, hu2, ru2⟩ := rv2.get hy
    have hui2 : its2.toArray[i]? = some u2 := by simpa using hu2
    have hzl : z < s.heap.objs.size := Heap.lt_size hz
    have D1 := Draws.text (prog := X.prog) (w := X.w) (A := X.A.in1) (I.ok.hd hc) i1 q0 tq
    have D2 := Draws.list (prog := X.prog) (w := X.w) (A := X.A.in1) (I.ok.hd hc) i2 b n2 its2.toArray
    refine wpAny_pyNext_zipD2_item D D1 D2 hz hTI hTO h1 ⟨h2, p2.isList⟩ (Array.getElem?_eq_some_iff.mp hch).1 (Array.getElem?_eq_some_iff.mp hui2).1 fun v1 v2 h' tk e1 e2 z' TO' h1' h2' hT hsz hk => ?_
    obtain ⟨ch', tc, hch', rfl⟩ := e1
    have ech : ch = ch' := Option.some.inj (hch.symm.trans hch')
    have ev2 : u2 = v2 := Option.some.inj (hui2.symm.trans e2)
    subst ech ev2
    refine ⟨_, rfl, wpAny_letOwnedTupleGo_zip (s := { s with heap := h', toks := tk }) z' fun h'' z'' sb => ?_⟩
    have hT2 : h''.get? s.heap.objs.size = some { cls := .type "tuple", data := .seq #[.str ⟨#[ch]⟩ tc, u2] } := (sb.2 _ (Nat.ne_of_gt hzl)).trans hT
    have new : ObjOk X.prog X.w (upd H s.heap.objs.size (.tup [.str ⟨#[ch]⟩, y])) h'' s.heap.objs.size (.tup [.str ⟨#[ch]⟩, y]) :=
      ⟨by show 2 ≤ sizeLine; decide, [.str ⟨#[ch]⟩ tc, u2], .cons ⟨_, rfl⟩ (.cons ru2 .nil), ⟨_, hT2, rfl, _, rfl⟩⟩
    have I1 : Inv X pins σ (upd H s.heap.objs.size (.tup [.str ⟨#[ch]⟩, y])) { s with heap := h'', toks := tk } :=
      I.turnedNew (t' := tk) (ch := [z, TI, TO, i1, i2]) (fun c o hb q => (sb.2 c (fun q' => hb (by simp [q']))).trans (hk c o (fun q' => hb (by simp [q'])) (fun q' => hb (by simp [q'])) (fun q' => hb (by simp [q'])) (fun q' => hb (by simp [q'])) q)) hf (Nat.le_refl _) new
    refine ⟨.ref s.heap.objs.size, _, I1, rfl, ⟨_, ch, y, rfl, I.hok.fresh (Nat.le_refl _), rfl, hch, fun l hl => by rw [I.list_inj hl hqy]; exact hy⟩, ⟨z'', ?_, ⟨.str ⟨#[ch]⟩ tc, u2, ?_⟩, ?_, ?_⟩, fun c hcm => ?_⟩
    · exact (sb.2 _ D.TIz).trans (hk _ _ D.TIz D.TITO D.TIi1 D.TIi2 hTI)
    · exact (sb.2 _ D.TOz).trans TO'
    · exact (let ⟨o, q1, q2⟩ := h1'; ⟨o, (sb.2 _ D.zi1.symm).trans q1, q2⟩)
    · exact h2'.1.at fun o q => (sb.2 _ D.zi2.symm).trans q
    · have hlt : c < s.heap.objs.size := by
        have e' : c = z ∨ c = TI ∨ c = TO ∨ c = i1 ∨ c = i2 := by simpa using hcm
        rcases e' with q | q | q | q | q
        · rw [q]; exact hzl
        · rw [q]; exact Heap.lt_size hTI
        · rw [q]; exact Heap.lt_size hTO
        · rw [q]; obtain ⟨_, e1, _⟩ := h1; exact Heap.lt_size e1
        · rw [q]; obtain ⟨_, e2, _⟩ := h2; exact Heap.lt_size e2
      rw [upd_ne (Nat.ne_of_lt hlt)]
      exact (hf c hcm).1
  done := by
    intro X hP hw hK hc i pins s σ H E I hf st hg
    subst hP hw hK
    obtain ⟨hz, hTI, ⟨x0, y0, hTO⟩, h1, h2⟩ := st
    obtain ⟨ys, hqy, g1, g2⟩ := hg
    obtain ⟨its2, rv2, p2, _⟩ := I.list hqy
    have l2 : its2.toArray.size = ys.length := by rw [List.size_toArray, rv2.length]
    have D1 := Draws.text (prog := X.prog) (w := X.w) (A := X.A.in1) (I.ok.hd hc) i1 q0 tq
    have D2 := Draws.list (prog := X.prog) (w := X.w) (A := X.A.in1) (I.ok.hd hc) i2 b n2 its2.toArray
    exact wpAny_pyNext_zipD2_end D D1 D2 hz hTI hTO h1 ⟨h2, p2.isList⟩ (by omega) (by omega) (by omega) fun h' tk hk => ⟨rfl, I.turnedL (t' := tk) (ch := [z, TI, TO, i1, i2]) (fun c o hb q =>
      hk c o (fun q' => hb (by simp [q'])) (fun q' => hb (by simp [q'])) (fun q' => hb (by simp [q'])) (fun q' => hb (by simp [q'])) q) hf⟩
  self := fun A i s Q E st h => wpAny_pyIter_zip st.1 h
def iZipX (K : PySem.W.Frag) (ta : TA) : TI := fun σ H R => ta σ H fun vs H1 => ∃ q b ys, vs = [.str q, .ref b] ∧ SqL K H1 b ys ∧ R (ItzX K q b) H1
theorem pi_zipX {X : Cx} {e e2 : Expr} {ta : TA} {p pos tpos : Pos} {elts : List Expr} {kk : Nat} (hg : Gl X "zip") (hm : X.mg "zip" = none) (ha : PA X [e, e2] ta)
    (hs : starEach [e, e2] X.env = (false, eval e X.env) :: starEach [e2] X.env := by rfl) (hpl : (backTo pos (starEach [e2] X.env)).any (·.1) = false := by rfl) :
    PI X (.Tuple elts kk tpos) (.Call (.Name "zip" p) [e, e2] [] pos) (iZipX X.K ta) := by
  refine ⟨fun pins s σ H R I h => ?_⟩
  refine Call_ (ld_blt I hg hm PyProof.Rows.boot_zip (PyProof.Rows.callWith_type1 (thn (ha.run pos pins s σ H _ I h) fun us s1 ⟨vs, H1, I1, r1, q1⟩ => ?_) hs hpl))
  obtain ⟨q0, b, ys, ex, hqy, q⟩ := q1
  subst ex
  cases r1 with
  | cons r rr =>
    cases rr with
    | cons r' rr =>
      cases rr
      obtain ⟨tq, rfl⟩ := r
      cases r'
      have fresh5 : ∀ c, c ∈ [s1.heap.objs.size + 4, s1.heap.objs.size + 2, s1.heap.objs.size + 3, s1.heap.objs.size, s1.heap.objs.size + 1] → FpOk X pins H1 c := fun c hcm => by
        have e' : c = s1.heap.objs.size + 4 ∨ c = s1.heap.objs.size + 2 ∨ c = s1.heap.objs.size + 3 ∨ c = s1.heap.objs.size ∨ c = s1.heap.objs.size + 1 := by simpa using hcm
        have hle : s1.heap.objs.size ≤ c := by
          rcases e' with z | z | z | z | z
          · rw [z]; exact Nat.le_add_right _ _
          · rw [z]; exact Nat.le_add_right _ _
          · rw [z]; exact Nat.le_add_right _ _
          · rw [z]; exact Nat.le_refl _
          · rw [z]; exact Nat.le_add_right _ _
        exact I1.fpOk hle (I1.hok.fresh hle)
      obtain ⟨its2, rv2, p2, _⟩ := I1.list hqy
      have lb : b < s1.heap.objs.size := p2.lt
      refine zip_begins2 (begins_text q0 tq) (begins_list b its2.toArray) trivial p2.isList fun h' hz hTI hTO h1 h2 hsz hk => wpAny_pyIter_zip hz ?_
      have I2 : Inv X pins σ H1 { s1 with heap := h' } := I1.kept (t' := s1.toks) hk
      exact ⟨s1.heap.objs.size + 4, [s1.heap.objs.size + 4, s1.heap.objs.size + 2, s1.heap.objs.size + 3, s1.heap.objs.size, s1.heap.objs.size + 1], _, _, H1, rfl, I2, turn_zipX q0 tq (zip_sep2 (N := s1.heap.objs.size) (fun c hc => nomatch hc) (fun c hc => by rw [List.mem_singleton.mp hc]; exact lb)) (Nat.ne_of_lt (Nat.lt_succ_of_lt lb)), ⟨hz, hTI, ⟨_, _, hTO⟩, ⟨_, h1, rfl, rfl⟩, ⟨_, h2, rfl, rfl⟩⟩, fresh5, q⟩
theorem walk_zipX {K : PySem.W.Frag} {q : Str} {b : Addr} {ys : List V} (hl : q.cps.size ≤ ys.length) : Walk (ItzX K q b) q.cps.size (fun H => SqL K H b ys) (fun i H v H' => ∃ T c y, v = .ref T ∧ H T = none ∧ H' = upd H T (.tup [.str ⟨#[c]⟩, y]) ∧ q.cps[i]? = some c ∧ ys[i]? = some y) where
  goes := fun i _ hi h => ⟨ys, q.cps[i], ys[i]'(Nat.lt_of_lt_of_le hi hl), h, Array.getElem?_eq_getElem hi, List.getElem?_eq_getElem (Nat.lt_of_lt_of_le hi hl)⟩
  stops := fun _ h => ⟨ys, h, rfl, hl⟩
  yields := fun i H v H' _ h ⟨T, c, y, h1, h2, h3, h4, h5⟩ => ⟨T, c, y, h1, h2, h3, h4, h5 ys h⟩
theorem for_zipX {K : PySem.W.Frag} {l : List Nat} {b : Addr} {ys : List V} {g : TG} {tb : TS} {D : Ends} {σ : L2.St} {H1 : Hp} (hl : l.length ≤ ys.length) (Pv : Nat → L2.St → Hp → Prop) (h0 : Pv 0 σ H1) (hs : ∀ i σ H', Pv i σ H' → H' b = some (.lst ys))
    (turn : ∀ (i c : Nat) y T σ H, l[i]? = some c → ys[i]? = some y → Pv i σ H → H T = none → g (.ref T) σ (upd H T (.tup [.str ⟨#[c]⟩, y])) fun σ2 H2 => tb { D with nx := Pv (i + 1), ct := Pv (i + 1), bk := D.nx } σ2 H2) (fin : ∀ σ H, Pv l.length σ H → D.nx σ H) :
    ForR (ItzX K (SX.S l) b) g tb D σ H1 := by
  have en : (SX.S l).cps.size = l.length := by rw [← Array.length_toList, S_cps]
  refine for_it (walk_zipX (ys := ys) (by rw [en]; exact hl)) Pv h0 (fun i σ H' _ p => SqL.of (hs i σ H' p)) (fun i v σ H H' _ hp hy => ?_) (fun σ H hp => fin σ H (en ▸ hp))
  obtain ⟨T, c, y, rfl, nT, rfl, e, e2⟩ := hy
  exact turn i c y T σ H (by rw [← S_cps l, Array.getElem?_toList]; exact e) e2 hp nT

/-! ### is_choice, parts_of, is_reading -/
open GxR in
def spIsCh (Pt : Addr) : Sp := fun vs H Q _ => ∃ l : List Nat, vs = [.str (SX.S l)] ∧ l.length ≤ 1000 ∧ TabG H Pt ∧ ∀ H2, Tabbed Pt H H2 → Q (.bl (isCh l)) H2
/-- all but the table is kept -/
def Tbk (Pt : Addr) (H H2 : Hp) : Prop := GxR.TabG H2 Pt ∧ ∀ b o, b ≠ Pt → H b = some o → H2 b = some o
theorem Tbk.refl {Pt : Addr} {H : Hp} (g : GxR.TabG H Pt) : Tbk Pt H H := ⟨g, fun _ _ _ e => e⟩
theorem Tbk.trans {Pt : Addr} {H H1 H2 : Hp} (a : Tbk Pt H H1) (b : Tbk Pt H1 H2) : Tbk Pt H H2 := ⟨b.1, fun x o h e => b.2 x o h (a.2 x o h e)⟩
theorem Tbk.of {Pt : Addr} {H H2 : Hp} (a : GxR.Tabbed Pt H H2) : Tbk Pt H H2 := ⟨a.1, fun b o h e => by rw [a.2 b h]; exact e⟩
theorem Tbk.same {Pt : Addr} {H H2 : Hp} (g : GxR.TabG H Pt) (s : Same H H2) : Tbk Pt H H2 := ⟨tabG_same g s, fun b o _ e => s b o e⟩
theorem Tbk.free {Pt l : Addr} {H H2 : Hp} (g : GxR.TabG H Pt) (s : Tbk Pt H H2) (n : H2 l = none) : H l = none := by
  cases e : H l with
  | none => rfl
  | some o =>
    by_cases h : l = Pt
    · obtain ⟨ps, e2, _⟩ := s.1
      rw [h, e2] at n; cases n
    · rw [s.2 l o h e] at n; cases n
def spPartsOf (Pt : Addr) : Sp := fun vs H Q _ => ∃ l : List Nat, vs = [.str (SX.S l)] ∧ l.length ≤ 1000 ∧ GxR.TabG H Pt ∧
  (∀ H2, Tbk Pt H H2 → isRd l = false → Q .non H2) ∧ ∀ H2 p ps, Tbk Pt H H2 → isRd l = true → parse l = some ps → H p = none → H2 p = some (.lst (txs ps)) → Q (.ref p) H2
abbrev sIsCh : Stmt := topS 19
theorem scIsCh : FnScope ["signs"] ["signs"] (defScope sIsCh) := ⟨rfl, rfl, rfl, by decide +kernel, rfl, by decide +kernel, by decide +kernel⟩
abbrev sPartsOf : Stmt := topS 20
theorem scPartsOf : FnScope ["text", "parts", "at", "part", "end"] ["text"] (defScope sPartsOf) := ⟨rfl, rfl, rfl, by decide +kernel, rfl, by decide +kernel, by decide +kernel⟩
theorem len_S (l : List Nat) : (SX.S l).length = l.length := SX.S_len l
section
variable {K : PySem.W.Frag} {mg : Str → Option Value} {P : Program} {w : World} {base : Heap}
theorem ok_IsCh {f : Addr} {k : Nat} {c Pt : Addr} {oc kV doc pm ct : Value} {od an : Option Addr} {osl : Array (Option Value)}
    (lk : K.lookup f = some ⟨oc, od, .func (PySem.W.fnOf "is_choice" "is_choice" (defArgs sIsCh) (defBody sIsCh) (defScope sIsCh) .none kV doc pm an (.ref c) ct), osl⟩) (hcd : PySem.W.codeIn K (.ref c) "is_choice" = true)
    (TB : GxR.TabB base mg c Pt) (c_FEWEST_IN_CHOICE : ∃ u, mg "FEWEST_IN_CHOICE" = some u ∧ RelV (.int 2) u) (c_MOST_IN_CHOICE : ∃ u, mg "MOST_IN_CHOICE" = some u ∧ RelV (.int 6) u) (c_SIGNS : ∃ u, mg "SIGNS" = some u ∧ RelV (.str "abcdefghijklmnopqrstuvwxyz0123456789") u) (m_len : mg "len" = none) (m_set : mg "set" = none) (m_all : mg "all" = none) :
    FnOk P w K mg base CX0 (k + 1) f (PySem.W.fnOf "is_choice" "is_choice" (defArgs sIsCh) (defBody sIsCh) (defScope sIsCh) .none kV doc pm an (.ref c) ct) ["signs"] (spIsCh Pt) := by
  refine fn_of lk hcd scIsCh (fun vs H Q E h => ?_) (fun A outer s H vs Q E hr h => ?_)
  · obtain ⟨l, rfl, _⟩ := h
    rfl
  · obtain ⟨l, rfl, hl, hT, q⟩ := h
    refine ⟨_, PSs.nox (pss_cons (ps_if (pt_not (pt_chain op_le op_le (C8.pe_gc (by rfl) c_FEWEST_IN_CHOICE) (pe_callB call_len_str (by rfl) m_len PySem.boot_len (pa_cons (pv 0) pa_nil)) (C8.pe_gc (by rfl) c_MOST_IN_CHOICE))) (pss_one (ps_ret pe_bl))
        pss_nil)
      (pss_one (ps_ret (pe_and (pe_cmpR op_eq (pe_lenSigns (by rfl) m_len (by rfl) m_set (pv 0)) (pe_callB call_len_str (by rfl) m_len PySem.boot_len (pa_cons (pv 0) pa_nil)) (nomark _)) (pe_one (pe_allC hr (by rfl) m_all TB rfl ⟨rfl, rfl, by decide +kernel, by decide +kernel, by decide +kernel, fun y hy hf => absurd hf ((by decide +kernel : ∀ y ∈ _, y.2 ≠ NameKind.free) y hy)⟩ (pv 0) (fun pins σ s₁ H₁ I g => elt_in_name TB.gP I g c_SIGNS rfl (by decide +kernel) (by decide +kernel)) (fun _ => rfl))))))), ?_⟩
    have hz : (SX.S l).length ≤ sizeLine := S_le (by omega)
    have q0 : isCh l = false → Q (.bl false) H := fun e => by
      have := q H ⟨hT, fun _ _ => rfl⟩
      rwa [e] at this
    refine ⟨_, rfl, SX.S l, rfl, hz, _, _, rfl, rfl, _, rfl, ite2 (fun c1 => ?_) (fun c1 => ?_)⟩
    · refine ⟨_, _, rfl, rfl, _, rfl, ite2 (fun c2 => ?_) (fun c2 => ?_)⟩
      · exact q0 (by
          have z : ¬ (l.length ≤ 6) := fun y => by
            have w : decide ((((SX.S l).length : Nat) : Int) ≤ 6) = true := decide_eq_true (by rw [len_S]; omega)
            rw [w] at c2
            cases c2
          unfold isCh
          rw [decide_eq_false z, Bool.and_false, Bool.false_and, Bool.false_and])
      · have h2 : 2 ≤ l.length := by
          have := of_decide_eq_true c1
          rw [len_S] at this
          omega
        have h6 : l.length ≤ 6 := by
          have y : decide ((((SX.S l).length : Nat) : Int) ≤ 6) = true := by simpa using c2
          have := of_decide_eq_true y
          rw [len_S] at this
          omega
        refine ⟨_, rfl, l, rfl, hl, _, rfl, SX.S l, rfl, hz, rfl, _, rfl, ite2 (fun c3 => ?_) (fun c3 => ?_)⟩
        · refine ⟨_, rfl, SX.S l, rfl, hT, fun H2 x2 => ?_⟩
          have e3 : dst l = l.length := by
            have := of_decide_eq_true c3
            rw [len_S] at this
            have := V.int.inj this
            omega
          have e : isCh l = (SX.S l).cps.toList.all fun ch => decide (ch ∈ (Str.ofString "abcdefghijklmnopqrstuvwxyz0123456789").cps.toList) := by
            unfold isCh
            rw [S_cps, decide_eq_true h2, decide_eq_true h6, decide_eq_true e3]
            rfl
          have := q H2 x2
          rw [e] at this
          exact this
        · exact q0 (by
            have z : dst l ≠ l.length := fun y => by
              rw [len_S, y] at c3
              simp at c3
            unfold isCh
            rw [decide_eq_false z, Bool.and_false, Bool.false_and])
    · refine ⟨_, rfl, ite2 (fun _ => q0 ?_) (fun z => absurd rfl z)⟩
      have z : ¬ (2 ≤ l.length) := fun y => c1 (decide_eq_true (by rw [len_S]; omega))
      unfold isCh
      rw [decide_eq_false z, Bool.false_and, Bool.false_and, Bool.false_and]
/-- what stands in parts_of's walk -/
def PtW (Pt : Addr) (H : Hp) (l : List Nat) (p : Addr) (m : Nat) (σ : L2.St) (Hx : Hp) : Prop := ∃ (a : Nat) (ps : List (List Nat)) (y3 y4 : Option V), σ = [some (.str (SX.S l)), some (.ref p), some (.int (a : Int)), y3, y4] ∧ m = l.length - a ∧ Sofar l a ps ∧ H p = none ∧ Tbk Pt H Hx ∧ p ≠ Pt ∧ Hx p = some (.lst (txs ps))
theorem isRd_none {l : List Nat} (h : parse l = none) : isRd l = false := by unfold isRd; rw [h]
theorem sg_eq {c : Nat} {z : Str} {d : Nat} (hz : z = ⟨#[d]⟩) : (V.str ⟨#[c]⟩ = V.str z) ↔ c = d := by
  subst hz
  constructor
  · intro h
    have := V.str.inj h
    simpa using this
  · intro h
    rw [h]
theorem find_in (l : List Nat) (a : Nat) : (Txt.find3 (SX.S l) "]" (a : Int) = -1 ∧ ∀ i, a ≤ i → l[i]? ≠ some 93) ∨ ∃ k : Nat, Txt.find3 (SX.S l) "]" (a : Int) = (k : Int) ∧ a ≤ k ∧ l[k]? = some 93 ∧ ∀ i, a ≤ i → i < k → l[i]? ≠ some 93 := by
  have ef : fromIndex (SX.S l).length (a : Int) = a := by
    unfold fromIndex
    rw [if_neg (by omega)]
    omega
  have eg : ∀ v, (SX.S l).cps.getD v 0 = (l[v]?).getD 0 := fun v => by
    show l.toArray.getD v 0 = _
    simp [Array.getD_eq_getD_getElem?]
  rcases StrLaws.find3_spec (SX.S l) 93 (a : Int) with ⟨hf, hn⟩ | ⟨k, hf, hlo, hlt, hc, hn⟩
  · refine .inl ⟨hf, fun i hi e => hn i (by rw [ef]; exact hi) (by rw [len_S]; exact (List.getElem?_eq_some_iff.mp e).1) ?_⟩
    rw [eg, e]; rfl
  · rw [len_S] at hlt
    rw [ef] at hlo
    refine .inr ⟨k, hf, hlo, ?_, fun i h1 h2 e => hn i (by rw [ef]; exact h1) h2 (by rw [eg, e]; rfl)⟩
    rw [eg, List.getElem?_eq_getElem hlt] at hc
    rw [List.getElem?_eq_getElem hlt]
    exact congrArg some hc
theorem plain_is (c : Nat) : plainSg c = decide (c ∈ (("abcdefghijklmnopqrstuvwxyz0123456789" : Str) ++ ("?" : Str) ++ ("*" : Str)).cps.toList) := by
  have e : (("abcdefghijklmnopqrstuvwxyz0123456789" : Str) ++ ("?" : Str) ++ ("*" : Str)).cps.toList = sg36 ++ [63] ++ [42] := by decide +kernel
  rw [e]
  rfl
theorem ok_PartsOf {f : Addr} {fd : FuncData} (F : Fun K "parts_of" "parts_of" sPartsOf f fd) (C_is_choice : Cal P w K mg base 1 "is_choice" ["signs"] (spIsCh Pt)) (c_SIGNS : ∃ u, mg "SIGNS" = some u ∧ RelV (.str "abcdefghijklmnopqrstuvwxyz0123456789") u) (c_UNREAD : ∃ u, mg "UNREAD" = some u ∧ RelV (.str "?") u) (c_LOST : ∃ u, mg "LOST" = some u ∧ RelV (.str "*") u) (m_len : mg "len" = none) (m_max : mg "max" = none) : FnOk P w K mg base CX0 2 f fd ["text"] (spPartsOf Pt) := by
  refine F.ok scPartsOf (fun vs H Q E h => ?_) (fun cdv A outer s H vs Q E hr h => ?_)
  · obtain ⟨l, rfl, _⟩ := h
    rfl
  · obtain ⟨l, rfl, hl, hT, q1, q2⟩ := h
    refine ⟨_, pss_cons (ps_set (i := 1) scPartsOf.nd rfl (.inl rfl) (pe_lst pa_nil))
      (pss_cons (ps_set (i := 2) scPartsOf.nd rfl (.inl rfl) pe_int)
      (pss_cons (ps_while PassesOwn.never (pt_cmpR op_lt (pv 2) (pe_callB call_len_str (by rfl) m_len PySem.boot_len (pa_cons (pv 0) pa_nil)) (nomark _))
        (pss_cons (ps_set (i := 3) scPartsOf.nd rfl (.inl rfl) (pe_ix ix_str (pv 0) (pv 2) (fun _ _ => rfl)))
        (Evl.pss_cut (ps_if (pt_cmpR op_eq (pv 3) pe_str (nomark _)) (pss_cons (ps_set (i := 4) scPartsOf.nd rfl (.inl rfl) (pe_bm PySem.F.plainAttrs_str PySem.F.slot_str_find PySem.F.type_str_find mt_find3 (pv 0) (pa_cons pe_str (pa_cons (pv 2) pa_nil))))
          (pss_cons (ps_set (i := 3) scPartsOf.nd rfl (.inl rfl) (pe_slice sl_str (pv 0) (po_some (pe_op op_add (pv 2) pe_int)) (po_some (pe_callB (call_max2 rfl) (by rfl) m_max (by decide +kernel) (pa_cons (pv 2) (pa_cons (pv 4) pa_nil))))))
          (pss_cons (ps_if (pt_not (pt_val (pe_own C_is_choice hr (by rfl) (pa_cons (pv 3) pa_nil)))) (pss_one (ps_ret pe_non))
            pss_nil)
          (pss_one (ps_set (i := 2) scPartsOf.nd rfl (.inl rfl) (pv 4))))))
          (pss_one (ps_if (pt_cmpR op_notIn_sign (pv 3) (pe_op op_add_str (pe_op op_add_str (C8.pe_gc (by rfl) c_SIGNS) (C8.pe_gc (by rfl) c_UNREAD)) (C8.pe_gc (by rfl) c_LOST)) (by rfl)) (pss_one (ps_ret pe_non))
            pss_nil)))
        (pss_cons (ps_expr (pe_bm PySem.F.plainAttrs_list PySem.F.slot_list_append PySem.F.type_list_append mt_append (pv 1) (pa_cons (pv 3) pa_nil)))
        (pss_one (ps_aug (i := 2) scPartsOf.nd rfl (.inl rfl) pe_int ip_add))))))
      (pss_one (ps_ret (pe_ifExp (pt_truth (pv 1) (by intro _; rfl)) (pv 1) pe_non))))), ?_⟩
    have hz : (SX.S l).length ≤ sizeLine := S_le (by omega)
    refine ⟨Nat.zero_le _, fun p np => ?_⟩
    have s0 := same_upd (o := .lst []) np
    have hpP : p ≠ Pt := fun z => by
      obtain ⟨ps, e, _⟩ := hT
      rw [z, e] at np; cases np
    refine ⟨PtW Pt H l p, ⟨_, 0, [], none, none, rfl, rfl, Sofar.zero l, np, Tbk.same hT s0, hpP, upd_same⟩, fun m σ H1 hW => ?_⟩
    obtain ⟨a, ps, y3, y4, rfl, rfl, hso, _, hk, _, ep⟩ := hW
    refine ⟨_, rfl, _, rfl, SX.S l, rfl, hz, _, _, rfl, rfl, _, rfl, ite2 (fun c1 => ?_) (fun c1 => ?_)⟩
    · have lt : a < l.length := by
        have := of_decide_eq_true c1
        rw [len_S] at this
        omega
      have ea : l[a]? = some l[a] := List.getElem?_eq_getElem lt
      refine ⟨fun σ' H' => ∃ m', m' < l.length - a ∧ PtW Pt H l p m' σ' H', fun _ _ h => h, ?_⟩
      refine ⟨_, rfl, _, rfl, _, _, _, rfl, rfl, hz, sign_at lt, ?_⟩
      -- between: the part and the place of its last sign
      refine ⟨fun σ' H' => ∃ (b : Nat) (x : List Nat) (y4 : Option V), σ' = [some (.str (SX.S l)), some (.ref p), some (.int (b : Int)), some (.str (SX.S x)), y4] ∧ a ≤ b ∧ Sofar l (b + 1) (ps ++ [x]) ∧ Tbk Pt H H' ∧ H' p = some (.lst (txs ps)), ?_, ?_⟩
      · refine ⟨_, rfl, rfl, _, rfl, ite2 (fun c2 => ?_) (fun c2 => ?_)⟩
        · have h91 : l[a] = 91 := (sg_eq (d := 91) (by rfl)).mp (of_decide_eq_true c2)
          rw [h91] at ea
          refine ⟨_, rfl, rfl, _, rfl, SX.S l, _, _, rfl, rfl, ?_⟩
          rcases find_in l a with ⟨ef, hn⟩ | ⟨k, ef, hlo, hk93, hn⟩
          · rw [ef]
            refine ⟨_, rfl, _, rfl, _, 1, rfl, rfl, _, rfl, _, rfl, _, rfl, _, _, rfl, _, rfl, SX.S l, rfl, hz, ?_⟩
            have e0 : cutS (SX.S l) (some ((a : Int) + 1)) (some (if (-1 : Int) > (a : Int) then -1 else (a : Int))) = SX.S [] := by
              rw [if_neg (by omega), show (a : Int) + 1 = ((a + 1 : Nat) : Int) by omega, cutS_mid, show a - (a + 1) = 0 by omega, List.take_zero]
            rw [e0]
            refine ⟨_, rfl, [], rfl, by decide, hk.1, fun H2 x2 => ⟨_, rfl, ite2 (fun _ => q1 H2 (hk.trans (Tbk.of x2)) (isRd_none (hso.never ea fun i hi => hn i (by omega)))) (fun z => absurd rfl z)⟩⟩
          · rw [ef]
            have hak : a < k := by
              rcases Nat.lt_or_eq_of_le hlo with z | z
              · exact z
              · rw [← z, ea] at hk93; cases hk93
            have hkl : k < l.length := (List.getElem?_eq_some_iff.mp hk93).1
            refine ⟨_, rfl, _, rfl, _, 1, rfl, rfl, _, rfl, _, rfl, _, rfl, _, _, rfl, _, rfl, SX.S l, rfl, hz, ?_⟩
            have e0 : cutS (SX.S l) (some ((a : Int) + 1)) (some (if (k : Int) > (a : Int) then (k : Int) else (a : Int))) = SX.S ((l.drop (a + 1)).take (k - (a + 1))) := by
              rw [if_pos (by omega), show (a : Int) + 1 = ((a + 1 : Nat) : Int) by omega, cutS_mid]
            rw [e0]
            have hn' : ∀ i, a < i → i < k → l[i]? ≠ some 93 := fun i h1 h2 => hn i (by omega) h2
            refine ⟨_, rfl, _, rfl, by rw [List.length_take, List.length_drop]; omega, hk.1, fun H2 x2 => ⟨_, rfl, ?_⟩⟩
            cases hch : isCh ((l.drop (a + 1)).take (k - (a + 1))) with
            | false => exact ite2 (fun _ => q1 H2 (hk.trans (Tbk.of x2)) (isRd_none (hso.badk ea hak hk93 hn' hch))) (fun z => absurd rfl z)
            | true =>
              refine ite2 (fun z => nomatch z) (fun _ => ?_)
              exact ⟨_, rfl, k, _, _, rfl, by omega, hso.open ea hak hk93 hn' hch, hk.trans (Tbk.of x2), tab_at hk.1 x2 ep (fun _ z => nomatch z)⟩
        · have h91 : l[a] ≠ 91 := fun z => c2 (decide_eq_true ((sg_eq (d := 91) (by rfl)).mpr z))
          refine ⟨_, rfl, _, _, rfl, rfl, (by decide +kernel), _, _, rfl, rfl, (by decide +kernel), _, _, rfl, rfl, _, rfl, ite2 (fun c3 => ?_) (fun c3 => ?_)⟩
          · refine q1 H1 hk (isRd_none (hso.no ea h91 ?_))
            rw [plain_is]
            simpa using c3
          · refine ⟨a, [l[a]], _, rfl, Nat.le_refl _, hso.one ea h91 ?_, hk, ep⟩
            rw [plain_is]
            simpa using c3
      · rintro σ' H' ⟨b, x, y4', rfl, hab, hso', hk', ep'⟩
        have hb := hso'.1
        have hps := hso.2.1
        refine ⟨_, rfl, .inl ⟨rfl, _, SqL.of ep'⟩, _, rfl, p, _, _, rfl, rfl, ep', small1000 (by rw [List.length_map]; omega), ?_⟩
        refine ⟨_, rfl, (b : Int), 1, rfl, rfl, l.length - (b + 1), by omega, b + 1, ps ++ [x], some (.str (SX.S x)), y4', rfl, rfl, hso', np, ⟨?_, fun c o hc e => ?_⟩, hpP, ?_⟩
        · exact tabG_upd hk'.1 ep' (fun _ z => nomatch z)
        · rw [upd_ne (ne_of_none e np)]
          exact hk'.2 c o hc e
        · rw [upd_same, txs_snoc]
    · have ge : a = l.length := by
        have := hso.1
        by_cases z : a < l.length
        · exact absurd (decide_eq_true (by rw [len_S]; omega)) c1
        · omega
      have hp := hso.fin ge
      refine ⟨_, rfl, !(txs ps).isEmpty, .inl ⟨_, SqL.of ep, rfl⟩, ite2 (fun c2 => ?_) (fun c2 => ?_)⟩
      · refine ⟨_, rfl, q2 H1 p ps hk ?_ hp np ep⟩
        unfold isRd
        rw [hp]
        cases ps with
        | nil => cases c2
        | cons => rfl
      · refine q1 H1 hk ?_
        unfold isRd
        rw [hp]
        cases ps with
        | nil => rfl
        | cons => exact absurd rfl c2
end

def spIsRd (Pt : Addr) : Sp := fun vs H Q _ => ∃ l : List Nat, vs = [.str (SX.S l)] ∧ l.length ≤ 1000 ∧ GxR.TabG H Pt ∧ ∀ H2, Tbk Pt H H2 → Q (.bl (isRd l)) H2
abbrev sIsRd : Stmt := topS 21
theorem scIsRd : FnScope ["text"] ["text"] (defScope sIsRd) := ⟨rfl, rfl, rfl, by decide +kernel, rfl, by decide +kernel, by decide +kernel⟩
section
variable {K : PySem.W.Frag} {mg : Str → Option Value} {P : Program} {w : World} {base : Heap}
theorem ok_IsRd {f : Addr} {fd : FuncData} (F : Fun K "is_reading" "is_reading" sIsRd f fd) (C_parts_of : Cal P w K mg base 2 "parts_of" ["text"] (spPartsOf Pt)) : FnOk P w K mg base CX0 3 f fd ["text"] (spIsRd Pt) := by
  refine F.ok scIsRd (fun vs H Q E h => ?_) (fun cdv A outer s H vs Q E hr h => ?_)
  · obtain ⟨l, rfl, _⟩ := h
    rfl
  · obtain ⟨l, rfl, hl, hT, q⟩ := h
    refine ⟨_, pss_one (ps_ret (pe_cmpR op_notN (pe_own C_parts_of hr (by rfl) (pa_cons (pv 0) pa_nil)) pe_non (nomark _))), ?_⟩
    refine ⟨_, rfl, l, rfl, hl, hT, fun H2 h2 e => ⟨rfl, ?_⟩, fun H2 p ps h2 e _ _ _ => ⟨rfl, ?_⟩⟩
    · have := q H2 h2
      rw [e] at this
      exact this
    · have := q H2 h2
      rw [e] at this
      exact this
end

/-! ### the parts by the law -/
def spLParts : Sp := fun vs H Q _ => ∃ l : List Nat, vs = [.str (SX.S l)] ∧ l.length ≤ 1000 ∧ okT l ∧ (∀ H2, Same H H2 → isRd l = false → Q .non H2) ∧ ∀ H2 p, Same H H2 → isRd l = true → Q (.ref p) H2
abbrev sLParts : Stmt := topS 36
theorem scLParts : FnScope ["_law_text", "_law_signs", "_law_parts_here", "_law_open_at", "_law_at", "_law_sign", "_law_inner"] ["_law_text"] (defScope sLParts) := ⟨rfl, rfl, rfl, by decide +kernel, rfl, by decide +kernel, by decide +kernel⟩
/-- what stands in its walk: closed, or open at j -/
def LpW (H : Hp) (l : List Nat) (p : Addr) (i : Nat) (σ : L2.St) (Hx : Hp) : Prop := ∃ (ps : List (List Nat)) (xs : List (List Nat)) (o : V) (y4 y5 y6 : Option V), σ = [some (.str (SX.S l)), some (.str "abcdefghijklmnopqrstuvwxyz0123456789"), some (.ref p), some o, y4, y5, y6] ∧ Same H Hx ∧ Hx p = some (.lst (txs xs)) ∧ xs.length = ps.length ∧ xs.length ≤ i ∧ (∀ x ∈ xs, okT x) ∧
  ((o = .non ∧ Sofar l i ps) ∨ ∃ j : Nat, o = .int (j : Int) ∧ j < i ∧ Sofar l j ps ∧ l[j]? = some 91 ∧ ∀ k, j < k → k < i → ∃ c, l[k]? = some c ∧ c ∈ sg36)
theorem sg_no93 : (93 : Nat) ∉ sg36 := by decide +kernel
theorem ch_is {x : List Nat} (h : ∀ c ∈ x, c ∈ sg36) (h1 : 1 < x.length) (h2 : x.length < 7) (h3 : dst x = x.length) : isCh x = true := by
  unfold isCh
  rw [decide_eq_true (show 2 ≤ x.length by omega), decide_eq_true (show x.length ≤ 6 by omega), decide_eq_true h3]
  rw [List.all_eq_true.mpr fun c hc => decide_eq_true (h c hc)]
  rfl
theorem ch_not {x : List Nat} (h : ¬ (1 < x.length ∧ x.length < 7 ∧ dst x = x.length)) : isCh x = false := by
  rw [Bool.eq_false_iff]
  intro z
  unfold isCh at z
  rw [Bool.and_eq_true, Bool.and_eq_true, Bool.and_eq_true] at z
  obtain ⟨⟨⟨z1, z2⟩, z3⟩, _⟩ := z
  have z1 := of_decide_eq_true z1
  have z2 := of_decide_eq_true z2
  exact h ⟨by omega, by omega, of_decide_eq_true z3⟩
theorem in_two {c : Nat} : inV (.str ⟨#[c]⟩) [.str "?", .str "*"] = (decide (c = 63) || decide (c = 42)) := by
  have e : ∀ (d : Nat) (z : Str), z = ⟨#[d]⟩ → (z == (⟨#[c]⟩ : Str)) = decide (c = d) := fun d z hz => by
    subst hz
    rw [Bool.eq_iff_iff, beq_iff_eq, decide_eq_true_iff]
    constructor
    · intro y
      have := congrArg Str.cps y
      simpa using this.symm
    · intro y; rw [y]
  show (eqV (.str "?") (.str ⟨#[c]⟩) || (eqV (.str "*") (.str ⟨#[c]⟩) || false)) = _
  rw [Bool.or_false]
  exact congr (congrArg or (e 63 "?" rfl)) (e 42 "*" rfl)
theorem mem_mid {l : List Nat} {j i : Nat} (h : ∀ k, j < k → k < i → ∃ c, l[k]? = some c ∧ c ∈ sg36) : ∀ c ∈ (l.drop (j + 1)).take (i - (j + 1)), c ∈ sg36 := fun c hc => by
  obtain ⟨k, hk, e⟩ := List.getElem_of_mem hc
  have lt : k < i - (j + 1) := Nat.lt_of_lt_of_le hk (by rw [List.length_take]; exact Nat.min_le_left ..)
  have e2 : ((l.drop (j + 1)).take (i - (j + 1)))[k]? = some c := by rw [List.getElem?_eq_getElem hk, e]
  rw [List.getElem?_take_of_lt lt, List.getElem?_drop] at e2
  obtain ⟨c', e3, m⟩ := h (j + 1 + k) (by omega) (by omega)
  rw [e2] at e3
  exact (Option.some.inj e3) ▸ m
theorem plain_sg {c : Nat} (h : c ∈ sg36) : plainSg c = true := decide_eq_true (by simp [h])
theorem plain_or {c : Nat} (h : c = 63 ∨ c = 42) : plainSg c = true := decide_eq_true (by rcases h with h | h <;> simp [h])
theorem plain_no {c : Nat} (h : c ∉ sg36) (h2 : (decide (c = 63) || decide (c = 42)) = false) : plainSg c = false := decide_eq_false (by
  rw [Bool.or_eq_false_iff, decide_eq_false_iff_not, decide_eq_false_iff_not] at h2
  simp [h, h2.1, h2.2])
theorem no_91 : (91 : Nat) ∉ sg36 := by decide +kernel
section
variable {K : PySem.W.Frag} {mg : Str → Option Value} {P : Program} {w : World} {base : Heap}
theorem ok_LParts {f : Addr} {fd : FuncData} (F : Fun K "_law_parts" "_law_parts" sLParts f fd) (m_enumerate : mg "enumerate" = none) (m_len : mg "len" = none) (m_set : mg "set" = none) : FnOk P w K mg base CX0 1 f fd ["_law_text"] spLParts := by
  refine F.ok scLParts (fun vs H Q E h => ?_) (fun cdv A outer s H vs Q E hr h => ?_)
  · obtain ⟨l, rfl, _⟩ := h
    rfl
  · obtain ⟨l, rfl, hl, hokl, q1, q2⟩ := h
    refine ⟨_, pss_cons (ps_par3 rfl scLParts.nd (i := 1) (j := 2) (l := 3) rfl rfl rfl (by decide) (by decide) (by decide) rfl rfl rfl (pa_cons pe_str (pa_cons (pe_lst pa_nil) (pa_cons pe_non pa_nil))) (by rfl))
      (pss_cons (ps_for PassesOwn.never rfl (pi_enX (by rfl) m_enumerate (pa_cons (pv 0) pa_nil)) (pg_tup rfl (pgs_cons (pg_name (i := 4) scLParts.nd rfl (.inl rfl)) (pgs_cons (pg_name (i := 5) scLParts.nd rfl (.inl rfl)) pgs_nil)))
        (pss_one (ps_if (PW.pt (pw_and (pt_cmpR op_notN (pv 3) pe_non (nomark _)) (pw_and1 (pt_cmpR op_eq (pv 5) pe_str (nomark _))))) (pss_cons (ps_set (i := 6) scLParts.nd rfl (.inl rfl) (pe_slice sl_str (pv 0) (po_some (pe_op op_add (pv 3) pe_int)) (po_some (pv 4))))
          (pss_cons (ps_if (PW.pt (pw_or (pt_not (pt_chain op_lt op_lt pe_int (pe_callB call_len_str (by rfl) m_len PySem.boot_len (pa_cons (pv 6) pa_nil)) pe_int)) (pw_or1 (pt_cmpR op_ne (pe_lenSigns (by rfl) m_len (by rfl) m_set (pv 6)) (pe_callB call_len_str (by rfl) m_len PySem.boot_len (pa_cons (pv 6) pa_nil)) (nomark _))))) (pss_one (ps_ret pe_non))
            pss_nil)
          (pss_cons (ps_expr (pe_bm PySem.F.plainAttrs_list PySem.F.slot_list_append PySem.F.type_list_append mt_append (pv 2) (pa_cons (pe_slice sl_str (pv 0) (po_some (pv 3)) (po_some (pe_op op_add (pv 4) pe_int))) pa_nil)))
          (pss_one (ps_set (i := 3) scLParts.nd rfl (.inl rfl) pe_non)))))
          (pss_one (ps_if (pt_cmpR op_notN (pv 3) pe_non (nomark _)) (pss_one (ps_if (pt_cmpR op_notIn_sign (pv 5) (pv 1) (by rfl)) (pss_one (ps_ret pe_non))
              pss_nil))
            (pss_one (ps_if (pt_cmpR op_eq (pv 5) pe_str (nomark _)) (pss_one (ps_set (i := 3) scLParts.nd rfl (.inl rfl) (pv 4)))
              (pss_one (ps_if (PW.pt (pw_or (pt_cmpR op_in_sign (pv 5) (pv 1) (by rfl)) (pw_or1 (pt_cmpR op_in_seq (pv 5) (pe_tup (pa_cons pe_str (pa_cons pe_str pa_nil))) (by rfl))))) (pss_one (ps_expr (pe_bm PySem.F.plainAttrs_list PySem.F.slot_list_append PySem.F.type_list_append mt_append (pv 2) (pa_cons (pv 5) pa_nil))))
                (pss_one (ps_ret pe_non)))))))))))
      (pss_one (ps_ret (pe_ifExp (PW.pt (pw_and (pt_cmpR op_isN (pv 3) pe_non (nomark _)) (pw_and1 (pt_cmpR (op_neD hr.units) (pv 2) (pe_lst pa_nil) (nomark _))))) (pv 2) pe_non)))), ?_⟩
    have hz : (SX.S l).length ≤ sizeLine := S_le (by omega)
    refine ⟨Nat.zero_le _, fun p np => ?_⟩
    have s0 := same_upd (o := .lst []) np
    refine ⟨_, _, _, rfl, _, rfl, SX.S l, rfl, for_enX (LpW H l p) ⟨[], [], .non, _, _, _, rfl, s0, upd_same, rfl, Nat.le_refl _, (fun _ z => nomatch z), .inl ⟨rfl, Sofar.zero l⟩⟩ (fun i c T σ Hx hc hP nT => ?_) (fun σ Hx hP => ?_)⟩
    · obtain ⟨ps, xs, o, y4, y5, y6, rfl, sm, ep, hxl, hxi, hok, hst⟩ := hP
      have sT := same_upd (o := .tup [.int (i : Nat), .str ⟨#[c]⟩]) nT
      have eT : upd Hx T (.tup [.int (i : Nat), .str ⟨#[c]⟩]) T = some (.tup [.int (i : Nat), .str ⟨#[c]⟩]) := upd_same
      have ep1 := sT _ _ ep
      have sm1 := sm.trans sT
      revert sT eT ep1 sm1
      generalize upd Hx T (.tup [.int (i : Nat), .str ⟨#[c]⟩]) = H1
      intro sT eT ep1 sm1
      refine ⟨T, _, rfl, .inl (.inl eT), rfl, _, _, rfl, _, _, rfl, rfl, ?_⟩
      have hil : i < l.length := (List.getElem?_eq_some_iff.mp hc).1
      have small : (txs xs).length < sizeLine := small1000 (by rw [List.length_map]; omega)
      rcases hst with ⟨rfl, hso⟩ | ⟨j, rfl, hji, hso, hj, hall⟩
      · refine ⟨_, rfl, rfl, _, rfl, ite2 (fun z => nomatch z) (fun _ => ite2 (fun z => nomatch z) (fun _ => ?_))⟩
        refine ⟨_, rfl, rfl, _, rfl, ite2 (fun z => nomatch z) (fun _ => ?_)⟩
        refine ⟨_, rfl, rfl, _, rfl, ite2 (fun c1 => ?_) (fun c1 => ?_)⟩
        · have e91 : c = 91 := (sg_eq (d := 91) (by rfl)).mp (of_decide_eq_true c1)
          subst e91
          exact ⟨_, rfl, ps, xs, _, _, _, _, rfl, sm1, ep1, hxl, by omega, hok, .inr ⟨i, rfl, by omega, hso, hc, fun k h1 h2 => by omega⟩⟩
        · have h91 : c ≠ 91 := fun z => c1 (decide_eq_true ((sg_eq (d := 91) (by rfl)).mpr z))
          have put : ∀ H2, Same H1 H2 → plainSg c = true → LpW H l p (i + 1) [some (.str (SX.S l)), some (.str "abcdefghijklmnopqrstuvwxyz0123456789"), some (.ref p), some .non, some (.int (i : Nat)), some (.str ⟨#[c]⟩), y6] (upd H2 p (.lst (txs xs ++ [.str ⟨#[c]⟩]))) := fun H2 s2 hp => by
            refine ⟨ps ++ [[c]], xs ++ [[c]], .non, _, _, _, rfl, fun b o e => ?_, by rw [upd_same, txs_snoc], by simp [hxl], by simp; omega, fun x hx => ?_, .inl ⟨rfl, hso.one hc h91 hp⟩⟩
            · rw [upd_ne (ne_of_none e np)]
              exact s2 _ _ (sm1 b o e)
            · rcases List.mem_append.mp hx with z | z
              · exact hok x z
              · rw [List.mem_singleton.mp z]; exact hokl.one hc
          refine ⟨_, rfl, _, rfl, c, _, rfl, rfl, _, rfl, ite2 (fun c2 => ite2 (fun _ => ?_) (fun z => absurd rfl z)) (fun c2 => ?_)⟩
          · exact ⟨_, rfl, .inl ⟨rfl, _, SqL.of ep1⟩, _, rfl, p, _, _, rfl, rfl, ep1, small, put H1 (Same.refl _) (plain_sg (of_decide_eq_true c2))⟩
          · refine ⟨_, rfl, (by show 2 ≤ sizeLine; decide), fun T2 nT2 => ?_⟩
            have sT2 := same_upd (o := .tup [.str "?", .str "*"]) nT2
            refine ⟨T2, _, rfl, .inr (.inl (.inl upd_same)), rfl, rfl, _, rfl, ite2 (fun c3 => ?_) (fun c3 => ?_)⟩
            · have ep2 := sT2 _ _ ep1
              refine ⟨_, rfl, .inl ⟨rfl, _, SqL.of ep2⟩, _, rfl, p, _, _, rfl, rfl, ep2, small, put _ sT2 (plain_or ?_)⟩
              have c3 : inV (.str ⟨#[c]⟩) [.str "?", .str "*"] = true := c3
              rw [in_two, Bool.or_eq_true, decide_eq_true_iff, decide_eq_true_iff] at c3
              exact c3
            · refine q1 _ (sm1.trans sT2) (isRd_none (hso.no hc h91 (plain_no (fun z => c2 (decide_eq_true z)) ?_)))
              have c3 : ¬ inV (.str ⟨#[c]⟩) [.str "?", .str "*"] = true := c3
              rw [in_two] at c3
              simpa using c3
      · have opn : ∀ k, j < k → k < i → l[k]? ≠ some 93 := fun k h1 h2 e => by
          obtain ⟨c', e', m⟩ := hall k h1 h2
          rw [e] at e'
          exact sg_no93 (Option.some.inj e' ▸ m)
        refine ⟨_, rfl, rfl, _, rfl, ite2 (fun _ => ?_) (fun z => absurd (by simp) z)⟩
        refine ⟨_, rfl, rfl, _, rfl, ite2 (fun c1 => ?_) (fun c1 => ?_)⟩
        · have e93 : c = 93 := (sg_eq (d := 93) (by rfl)).mp (of_decide_eq_true c1)
          subst e93
          have hX : ((l.drop (j + 1)).take (i - (j + 1))).length ≤ 1000 := by rw [List.length_take, List.length_drop]; omega
          refine ⟨_, rfl, _, rfl, _, 1, rfl, rfl, _, rfl, _, rfl, _, rfl, SX.S l, rfl, hz, ?_⟩
          have e0 : cutS (SX.S l) (some ((j : Int) + 1)) (some (i : Int)) = SX.S ((l.drop (j + 1)).take (i - (j + 1))) := by
            rw [show (j : Int) + 1 = ((j + 1 : Nat) : Int) by omega, cutS_mid]
          rw [e0]
          have mm := mem_mid hall
          have bad : ¬ (1 < ((l.drop (j + 1)).take (i - (j + 1))).length ∧ ((l.drop (j + 1)).take (i - (j + 1))).length < 7 ∧ dst ((l.drop (j + 1)).take (i - (j + 1))) = ((l.drop (j + 1)).take (i - (j + 1))).length) → isRd l = false := fun z => isRd_none (hso.badk hj hji hc opn (ch_not z))
          have good : 1 < ((l.drop (j + 1)).take (i - (j + 1))).length → ((l.drop (j + 1)).take (i - (j + 1))).length < 7 → dst ((l.drop (j + 1)).take (i - (j + 1))) = ((l.drop (j + 1)).take (i - (j + 1))).length → Sofar l (i + 1) (ps ++ [(l.drop (j + 1)).take (i - (j + 1))]) := fun g1 g2 g3 => hso.open hj hji hc opn (ch_is mm g1 g2 g3)
          revert hX bad good
          generalize (l.drop (j + 1)).take (i - (j + 1)) = X
          intro hX bad good
          have hz2 : (SX.S X).length ≤ sizeLine := S_le (by omega)
          refine ⟨_, rfl, SX.S X, rfl, hz2, _, _, rfl, rfl, _, rfl, ite2 (fun c2 => ?_) (fun c2 => ?_)⟩
          · have g1 : 1 < X.length := by
              have := of_decide_eq_true c2
              rw [len_S] at this
              omega
            refine ⟨_, _, rfl, rfl, _, rfl, ?_⟩
            refine ite2 (fun c3 => ite2 (fun _ => q1 H1 sm1 (bad fun z => ?_)) (fun z => absurd rfl z)) (fun c3 => ?_)
            · have w : decide ((((SX.S X).length : Nat) : Int) < 7) = true := decide_eq_true (by rw [len_S]; omega)
              rw [w] at c3
              cases c3
            · have g2 : X.length < 7 := by
                have y : decide ((((SX.S X).length : Nat) : Int) < 7) = true := by simpa using c3
                have := of_decide_eq_true y
                rw [len_S] at this
                omega
              refine ⟨_, rfl, X, rfl, hX, _, rfl, SX.S X, rfl, hz2, rfl, _, rfl, ite2 (fun c4 => q1 H1 sm1 (bad fun z => ?_)) (fun c4 => ?_)⟩
              · rw [len_S, z.2.2] at c4
                simp at c4
              · have g3 : dst X = X.length := by
                  rw [len_S] at c4
                  have y : decide (V.int ((dst X : Nat) : Int) = V.int ((X.length : Nat) : Int)) = true := by simpa using c4
                  have := V.int.inj (of_decide_eq_true y)
                  omega
                refine ⟨_, rfl, .inl ⟨rfl, _, SqL.of ep1⟩, _, rfl, _, rfl, _, rfl, _, rfl, _, 1, rfl, rfl, _, rfl, SX.S l, rfl, hz, p, _, _, rfl, rfl, ep1, small, ?_⟩
                rw [show (i : Int) + 1 = ((i + 1 : Nat) : Int) by omega, cutS_mid]
                refine ⟨ps ++ [X], xs ++ [(l.drop j).take (i + 1 - j)], .non, _, _, _, rfl, fun b o e => ?_, by rw [upd_same, txs_snoc], by simp [hxl], by simp; omega, fun x hx => ?_, .inl ⟨rfl, good g1 g2 g3⟩⟩
                · rw [upd_ne (ne_of_none e np)]
                  exact sm1 b o e
                · rcases List.mem_append.mp hx with z | z
                  · exact hok x z
                  · rw [List.mem_singleton.mp z]; exact (hokl.drop _).take _
          · refine ⟨_, rfl, ite2 (fun _ => ite2 (fun _ => q1 H1 sm1 (bad fun z => c2 (decide_eq_true (by rw [len_S]; omega)))) (fun z => absurd rfl z)) (fun z => absurd rfl z)⟩
        · have h93 : c ≠ 93 := fun z => c1 (decide_eq_true ((sg_eq (d := 93) (by rfl)).mpr z))
          refine ⟨_, rfl, rfl, _, rfl, ite2 (fun _ => ?_) (fun z => absurd (by simp) z)⟩
          refine ⟨_, rfl, _, rfl, c, _, rfl, rfl, _, rfl, ite2 (fun c2 => ?_) (fun c2 => ?_)⟩
          · refine q1 H1 sm1 (isRd_none (hso.odd hj hji hc (fun z => ?_) h93 opn))
            have w : decide (c ∈ (Str.ofString "abcdefghijklmnopqrstuvwxyz0123456789").cps.toList) = true := decide_eq_true z
            rw [w] at c2
            cases c2
          · have m : c ∈ sg36 := by
              have y : decide (c ∈ (Str.ofString "abcdefghijklmnopqrstuvwxyz0123456789").cps.toList) = true := by simpa using c2
              exact of_decide_eq_true y
            refine ⟨ps, xs, _, _, _, _, rfl, sm1, ep1, hxl, by omega, hok, .inr ⟨j, rfl, by omega, hso, hj, fun k h1 h2 => ?_⟩⟩
            rcases Nat.lt_or_eq_of_le (Nat.le_of_lt_succ h2) with z | z
            · exact hall k h1 z
            · exact ⟨c, by rw [z]; exact hc, m⟩
    · obtain ⟨ps, xs, o, y4, y5, y6, rfl, sm, ep, hxl, hxi, hok, hst⟩ := hP
      rcases hst with ⟨rfl, hso⟩ | ⟨j, rfl, hji, hso, hj, hall⟩
      · have hp := hso.fin rfl
        refine ⟨_, rfl, rfl, _, rfl, ite2 (fun _ => ?_) (fun z => absurd (by simp) z)⟩
        refine ⟨_, rfl, Nat.zero_le _, fun l2 nl2 => ?_⟩
        have s2 := same_upd (o := .lst []) nl2
        refine ne_nil hok (s2 _ _ ep) upd_same ⟨_, rfl, ite2 (fun c1 => ?_) (fun c1 => ?_)⟩
        · refine ⟨_, rfl, q2 _ p (sm.trans s2) ?_⟩
          unfold isRd
          rw [hp]
          cases ps with
          | nil =>
            obtain rfl : xs = [] := List.length_eq_zero_iff.mp hxl
            cases c1
          | cons => rfl
        · refine q1 _ (sm.trans s2) ?_
          unfold isRd
          rw [hp]
          cases ps with
          | nil => rfl
          | cons =>
            cases xs with
            | nil => cases hxl
            | cons => exact absurd rfl c1
      · refine ⟨_, rfl, rfl, _, rfl, ite2 (fun z => nomatch z) (fun _ => ite2 (fun z => nomatch z) (fun _ => ?_))⟩
        refine q1 _ sm (isRd_none (hso.never hj fun k hk e => ?_))
        obtain ⟨c', e', m⟩ := hall k hk (List.getElem?_eq_some_iff.mp e).1
        rw [e] at e'
        exact sg_no93 (Option.some.inj e' ▸ m)
end

/-! ### the draws of texts -/
theorem sgn_at {z : Str} {n : Nat} (hn : z.cps.toList.length = n) (ho : okT z.cps.toList) {r : Int} (r0 : 0 ≤ r) (r1 : r < n) : ∃ ch, atI z.cps.toList r = some ch ∧ ch < 1114112 := by
  obtain ⟨k, rfl⟩ := Int.eq_ofNat_of_zero_le r0
  have lt : k < z.cps.toList.length := by omega
  exact ⟨_, atI_nat (List.getElem?_eq_getElem lt), ho _ (List.getElem_mem lt)⟩
theorem pick_at {xs : List V} {n : Nat} (hn : xs.length = n) {r : Int} (r0 : 0 ≤ r) (r1 : r < n) : ∃ v, atI xs r = some v ∧ v ∈ xs := by
  obtain ⟨k, rfl⟩ := Int.eq_ofNat_of_zero_le r0
  have lt : k < xs.length := by omega
  exact ⟨_, atI_nat (List.getElem?_eq_getElem lt), List.getElem_mem lt⟩
theorem joinL_nil : ∀ xs : List (List Nat), TL.joinL [] xs = xs.flatten
  | [] => rfl
  | [x] => by simp [TL.joinL]
  | x :: y :: r => by
    have ih := joinL_nil (y :: r)
    show x ++ ([] ++ TL.joinL [] (y :: r)) = _
    rw [ih]
    simp
theorem join_txs (xs : List (List Nat)) : Txt.join "" (xs.map SX.S) = SX.S xs.flatten := by
  have z := SX.join_S [] xs
  rw [joinL_nil] at z
  exact z
theorem flat_le {m : Nat} : ∀ {xs : List (List Nat)}, (∀ x ∈ xs, x.length ≤ m) → xs.flatten.length ≤ m * xs.length
  | [], _ => by simp
  | x :: r, h => by
    have h1 := h x (List.mem_cons_self ..)
    have h2 := flat_le fun y hy => h y (List.mem_cons_of_mem _ hy)
    rw [List.flatten_cons, List.length_append, List.length_cons, Nat.mul_add, Nat.mul_one]
    omega
theorem sum_txs : ∀ xs : List (List Nat), ((xs.map SX.S).map (·.length)).sum = xs.flatten.length
  | [] => rfl
  | x :: r => by
    rw [List.map_cons, List.map_cons, List.sum_cons, sum_txs r, List.flatten_cons, List.length_append, SX.S_len]
theorem fits_txs {xs : List (List Nat)} (h : xs.flatten.length ≤ 100000) : ((xs.map SX.S).map (·.length)).sum + (xs.map SX.S).length * ("" : Str).length ≤ 16777216 := by
  rw [sum_txs, show ("" : Str).length = 0 from rfl, Nat.mul_zero]
  omega
theorem okT_flat {xs : List (List Nat)} (h : ∀ x ∈ xs, okT x) : okT xs.flatten := fun c hc => by
  obtain ⟨x, hx, hc'⟩ := List.mem_flatten.mp hc
  exact h x hx c hc'
theorem txs_strs (xs : List (List Nat)) : txs xs = (xs.map SX.S).map V.str := by simp [txs]
/-- a text of so many signs at most -/
def TxS (n : Nat) (z : Str) : Prop := ∃ l, z = SX.S l ∧ l.length ≤ n ∧ okT l
theorem TxS.of {n : Nat} {l : List Nat} (h : l.length ≤ n) (o : okT l) : TxS n (SX.S l) := ⟨l, rfl, h, o⟩
theorem TxS.mono {n m : Nat} {z : Str} (h : TxS n z) (le : n ≤ m) : TxS m z := let ⟨l, e, h1, h2⟩ := h; ⟨l, e, Nat.le_trans h1 le, h2⟩
theorem TxS.len {n : Nat} {z : Str} (h : TxS n z) : z.length ≤ n := by
  obtain ⟨l, rfl, h1, _⟩ := h
  rw [SX.S_len]; exact h1
theorem TxS.cut {n : Nat} {z : Str} (h : TxS n z) (lo hi : Option Int) : TxS n (cutS z lo hi) := by
  obtain ⟨l, rfl, h1, h2⟩ := h
  unfold cutS
  rw [S_cps]
  refine ⟨_, rfl, ?_, (h2.drop _).take _⟩
  rw [List.length_take, List.length_drop]
  omega
theorem TxS.cutTo {n : Nat} {z : Str} (h : TxS n z) (k : Nat) : TxS k (cutS z none (some (k : Int))) := by
  obtain ⟨l, rfl, h1, h2⟩ := h
  rw [cutS_take]
  exact ⟨_, rfl, by rw [List.length_take]; omega, h2.take _⟩
theorem TxS.cat {n m : Nat} {y z : Str} (h : TxS n y) (g : TxS m z) : TxS (n + m) (y ++ z) := by
  obtain ⟨a, rfl, h1, h2⟩ := h
  obtain ⟨b, rfl, g1, g2⟩ := g
  exact ⟨a ++ b, SX.S_cat a b, by rw [List.length_append]; omega, h2.app g2⟩
theorem TxS.sg {c : Nat} (h : c < 1114112) : TxS 1 ⟨#[c]⟩ := ⟨[c], rfl, Nat.le_refl _, fun d hd => by rw [List.mem_singleton.mp hd]; exact h⟩
theorem TxS.fits {n : Nat} {z : Str} (h : TxS n z) (le : n ≤ 10000) : z.length ≤ sizeLine := Nat.le_trans h.len (Nat.le_trans le (by decide))
theorem TxS.fit {n m : Nat} {y z : Str} (h : TxS n y) (g : TxS m z) (le : n + m ≤ 10000) : y.length + z.length ≤ sizeLine := Nat.le_trans (Nat.add_le_add h.len g.len) (Nat.le_trans le (by decide))
def spMark : Sp := fun vs H Q _ => ∃ (d c : Addr) (t n f : Int), vs = [.ref d, .int n, .int f] ∧ StAt H d c t ∧ t < 2 ^ 59 ∧ 0 ≤ n ∧ n ≤ 20 ∧ 0 < f ∧ f ≤ 36 ∧
  ∀ l H' t', (l.length : Int) = n → okT l → t ≤ t' → t' ≤ t + 20 → StAt H' d c t' → Kp d c H H' → Q (.str (SX.S l)) H'
def spMarks : Sp := fun vs H Q _ => ∃ (d c : Addr) (t m : Int), vs = [.ref d, .int m] ∧ StAt H d c t ∧ t < 2 ^ 58 ∧ 0 ≤ m ∧ m ≤ 30 ∧
  ∀ ms p H' t', (1 ≤ m → 1 ≤ ms.length) → ms.length ≤ 30 → (∀ x ∈ ms, x.length ≤ 30 ∧ okT x) → H p = none → H' p = some (.lst (txs ms)) → t ≤ t' → t' ≤ t + 10000 → StAt H' d c t' → Kp d c H H' → Q (.ref p) H'
def spChoice : Sp := fun vs H Q _ => ∃ (d c : Addr) (t : Int) (x : List Nat), vs = [.ref d, .str (SX.S x)] ∧ StAt H d c t ∧ t < 2 ^ 59 ∧ x.length ≤ 1 ∧ okT x ∧
  ∀ l H' t', l.length ≤ 10 → okT l → t ≤ t' → t' ≤ t + 10 → StAt H' d c t' → Kp d c H H' → Q (.str (SX.S l)) H'
def spRead : Sp := fun vs H Q _ => ∃ (d c : Addr) (t pl : Int) (mk : List Nat), vs = [.ref d, .str (SX.S mk), .int pl] ∧ StAt H d c t ∧ t < 2 ^ 58 ∧ mk.length ≤ 30 ∧ okT mk ∧ 0 ≤ pl ∧ pl ≤ 5 ∧
  ∀ ps p H' t', ps.length ≤ 70 → (∀ x ∈ ps, x.length ≤ 10 ∧ okT x) → H p = none → H' p = some (.lst (txs ps)) → t ≤ t' → t' ≤ t + 1000 → StAt H' d c t' → Kp d c H H' → Q (.ref p) H'
def spBent : Sp := fun vs H Q _ => ∃ (d c : Addr) (t : Int) (x : List Nat), vs = [.ref d, .str (SX.S x)] ∧ StAt H d c t ∧ t < 2 ^ 59 ∧ x.length ≤ 200 ∧ okT x ∧
  ∀ l H' t', l.length ≤ 1000 → okT l → t ≤ t' → t' ≤ t + 10 → StAt H' d c t' → Kp d c H H' → Q (.str (SX.S l)) H'
abbrev sMark : Stmt := topS 32
theorem scMark : FnScope ["_law_state", "_law_long", "_law_few", "_law_signs", "_law_k"] ["_law_state", "_law_long", "_law_few"] (defScope sMark) := ⟨rfl, rfl, rfl, by decide +kernel, rfl, by decide +kernel, by decide +kernel⟩
abbrev sMarks : Stmt := topS 33
theorem scMarks : FnScope ["_law_state", "_law_many", "_law_long", "_law_few", "_law_base", "_law_found", "_law_k", "_law_sort", "_law_at", "_law_mark_here"] ["_law_state", "_law_many"] (defScope sMarks) := ⟨rfl, rfl, rfl, by decide +kernel, rfl, by decide +kernel, by decide +kernel⟩
abbrev sChoice : Stmt := topS 34
theorem scChoice : FnScope ["_law_state", "_law_sign", "_law_signs", "_law_many", "_law_step", "_law_first", "_law_some", "_law_k"] ["_law_state", "_law_sign"] (defScope sChoice) := ⟨rfl, rfl, rfl, by decide +kernel, rfl, by decide +kernel, by decide +kernel⟩
abbrev sRead : Stmt := topS 35
theorem scRead : FnScope ["_law_state", "_law_mark_here", "_law_plain", "_law_parts_here", "_law_at", "_law_sort"] ["_law_state", "_law_mark_here", "_law_plain"] (defScope sRead) := ⟨rfl, rfl, rfl, by decide +kernel, rfl, by decide +kernel, by decide +kernel⟩
abbrev sBent : Stmt := topS 37
theorem scBent : FnScope ["_law_state", "_law_text", "_law_signs", "_law_at", "_law_way", "_law_sign", "_law_far"] ["_law_state", "_law_text"] (defScope sBent) := ⟨rfl, rfl, rfl, by decide +kernel, rfl, by decide +kernel, by decide +kernel⟩
abbrev abS : Str := "ab1c2dz09mefghijklnopqrstuvwxy345678"
theorem ab_len : abS.cps.toList.length = 36 := by decide +kernel
theorem okT_of {l : List Nat} (h : (l.all fun c => decide (c < 1114112)) = true) : okT l := fun c hc => of_decide_eq_true (List.all_eq_true.mp h c hc)
theorem ab_ok : okT abS.cps.toList := okT_of (by decide +kernel)
section
variable {K : PySem.W.Frag} {mg : Str → Option Value} {P : Program} {w : World} {base : Heap}
theorem ok_Mark {f : Addr} {fd : FuncData} (F : Fun K "_law_mark" "_law_mark" sMark f fd) (C__law_take : Cal P w K mg base 1 "_law_take" ["_law_state", "_law_many"] spTake) (m_range : mg "range" = none) : FnOk P w K mg base CX0 2 f fd ["_law_state", "_law_long", "_law_few"] spMark := by
  refine F.ok scMark (fun vs H Q E h => ?_) (fun cdv A outer s H vs Q E hr h => ?_)
  · obtain ⟨d, c, t, n, f, rfl, _⟩ := h
    rfl
  · obtain ⟨d, c, t, n, f, rfl, hS, ht, n0, n1, f0, f1, q⟩ := h
    refine ⟨_, pss_cons (ps_set (i := 3) scMark.nd rfl (.inr rfl) pe_str)
      (pss_one (ps_ret (pe_join pe_str (pe_lc (own := [("_law_k", 4)]) (g := (gName 4)) (tt := tYes) (te := (tOp (L2.rIxS) (tVar 3) (tCall spTake [] E0 (tCons (tVar 0) (tCons (tVar 2) tNil))))) rfl scMark.nd (pi_range1 rfl m_range (pa_cons (pv 1) pa_nil)) (blkOk_by (own := [("_law_k", 4)]) (N := ["_law_state", "_law_long", "_law_few", "_law_signs", "_law_k"]) (sc := defScope sMark) (by decide +kernel)) (fun _ _ _ _ _ => (pg_name (i := 4) scMark.nd rfl (.inl rfl))) (fun _ _ _ _ _ => pts_nil) (fun _ _ _ _ _ => (pe_ix ix_str (pv 3) (pe_own C__law_take hr (by rfl) (pa_cons (pv 0) (pa_cons (pv 2) pa_nil))) (fun _ _ => rfl))))))), ?_⟩
    refine ⟨⟨_, rfl⟩, _, rfl, n, rfl, by omega, by omega, fun D nD => lc_draw (α := Nat) (fun ch => .str (sgS ch)) (fun _ ch => ch < 1114112) 1 (walk_range (lo := 0) (n := n.toNat)) hS nD (by omega) (fun _ _ => trivial) (fun i x Hx Hx' t' Kt Kn hi u0 u1 hSx kx hy k => ?_) (fun H3 t3 cs hcl hcs u0 u1 hS3 k3 hD => ?_)⟩
    · obtain ⟨rfl, rfl⟩ := hy
      refine ⟨rfl, _, rfl, _, rfl, _, rfl, d, c, t', f, rfl, hSx, by omega, by omega, by omega, fun r2 H4 r20 r21 hS4 k4 => ?_⟩
      obtain ⟨ch, e, hch⟩ := sgn_at ab_len ab_ok r20 (show r2 < 36 by omega)
      exact ⟨_, r2, _, rfl, rfl, (by show abS.length ≤ sizeLine; decide +kernel), e, k ch _ _ H4 hch (.str _) (by omega) (by omega) hS4 k4⟩
    obtain ⟨_, ws, e, _, eD, hws⟩ := hD.list
    cases e
    have ews : ws = (cs.map sgS).map V.str := (EchN.strs (ns := cs.map sgS) (by rw [List.map_map]; exact hws))
    subst ews
    refine ⟨_, D, cs.map sgS, rfl, rfl, .inl (SqL.of eD), join_fits (by omega), ?_⟩
    rw [join_signs]
    exact q cs H3 t3 (by omega) (fun ch hch => by
      obtain ⟨i, hi, e⟩ := List.getElem_of_mem hch
      exact hcs i ch (by rw [List.getElem?_eq_getElem hi, e])) (by omega) (by omega) hS3 k3
theorem ok_Bent {f : Addr} {fd : FuncData} (F : Fun K "_law_bent" "_law_bent" sBent f fd) (C__law_take : Cal P w K mg base 1 "_law_take" ["_law_state", "_law_many"] spTake) (m_len : mg "len" = none) (m_min : mg "min" = none) (m_max : mg "max" = none) : FnOk P w K mg base CX0 2 f fd ["_law_state", "_law_text"] spBent := by
  refine F.ok scBent (fun vs H Q E h => ?_) (fun cdv A outer s H vs Q E hr h => ?_)
  · obtain ⟨d, c, t, x, rfl, _⟩ := h
    rfl
  · obtain ⟨d, c, t, x, rfl, hS, ht, hx, hox, q⟩ := h
    refine ⟨_, pss_cons (ps_set (i := 2) scBent.nd rfl (.inl rfl) pe_str)
      (pss_cons (ps_par3 rfl scBent.nd (i := 3) (j := 4) (l := 5) rfl rfl rfl (by decide) (by decide) (by decide) rfl rfl rfl (pa_cons (pe_own C__law_take hr (by rfl) (pa_cons (pv 0) (pa_cons (pe_op op_add (pe_callB call_len_str (by rfl) m_len PySem.boot_len (pa_cons (pv 1) pa_nil)) pe_int) pa_nil))) (pa_cons (pe_own C__law_take hr (by rfl) (pa_cons (pv 0) (pa_cons pe_int pa_nil))) (pa_cons (pe_ix ix_str (pv 2) (pe_own C__law_take hr (by rfl) (pa_cons (pv 0) (pa_cons pe_int pa_nil))) (fun _ _ => rfl)) pa_nil))) (by rfl))
      (pss_cons (ps_if (pt_cmpR op_eq (pv 4) pe_int (nomark _)) (pss_cons (ps_set (i := 6) scBent.nd rfl (.inl rfl) (pe_own C__law_take hr (by rfl) (pa_cons (pv 0) (pa_cons (pe_op op_add (pe_callB call_len_str (by rfl) m_len PySem.boot_len (pa_cons (pv 1) pa_nil)) pe_int) pa_nil))))
        (pss_one (ps_ret (pe_op op_add_str (pe_op op_add_str (pe_slice sl_str (pv 1) po_none (po_some (pv 3))) (pe_slice sl_str (pv 1) (po_some (pe_callB (call_min2 rfl) (by rfl) m_min (by decide +kernel) (pa_cons (pv 3) (pa_cons (pv 6) pa_nil)))) (po_some (pe_callB (call_max2 rfl) (by rfl) m_max (by decide +kernel) (pa_cons (pv 3) (pa_cons (pv 6) pa_nil)))))) (pe_slice sl_str (pv 1) (po_some (pv 3)) po_none)))))
        pss_nil)
      (pss_one (ps_ret (pe_ix ix_list (pe_lst (pa_cons (pe_op op_add_str (pe_op op_add_str (pe_slice sl_str (pv 1) po_none (po_some (pv 3))) (pv 5)) (pe_slice sl_str (pv 1) (po_some (pv 3)) po_none)) (pa_cons (pe_op op_add_str (pe_slice sl_str (pv 1) po_none (po_some (pv 3))) (pe_slice sl_str (pv 1) (po_some (pe_op op_add (pv 3) pe_int)) po_none)) (pa_cons (pe_op op_add_str (pe_op op_add_str (pe_slice sl_str (pv 1) po_none (po_some (pv 3))) (pv 5)) (pe_slice sl_str (pv 1) (po_some (pe_op op_add (pv 3) pe_int)) po_none)) (pa_cons (pe_slice sl_str (pv 1) po_none (po_some (pv 3))) pa_nil))))) (pv 4) (fun _ _ => rfl)))))), ?_⟩
    have hz : (SX.S x).length ≤ sizeLine := S_le (by omega)
    have hX : TxS 200 (SX.S x) := .of hx hox
    refine ⟨_, rfl, _, rfl, SX.S x, rfl, hz, _, 1, rfl, rfl, d, c, t, (x.length : Int) + 1, by rw [SX.S_len]; rfl, hS, by omega, by omega, by omega, fun r1 H1 r10 r11 hS1 k1 => ?_⟩
    refine ⟨_, rfl, d, c, t + 1, 5, rfl, hS1, by omega, by decide, by decide, fun r2 H2 r20 r21 hS2 k2 => ?_⟩
    refine ⟨_, rfl, _, rfl, d, c, t + 1 + 1, 19, rfl, hS2, by omega, by decide, by decide, fun r3 H3 r30 r31 hS3 k3 => ?_⟩
    obtain ⟨ch, e, hch⟩ := sgn_at (z := "[]?*abz019]-[.A _~\n") (n := 19) (by decide +kernel) (okT_of (by decide +kernel)) r30 r31
    refine ⟨_, r3, ch, rfl, rfl, (by decide +kernel), e, _, _, _, rfl, ?_⟩
    have k13 := (k1.trans k2).trans k3
    have hC := TxS.sg hch
    refine ⟨_, rfl, rfl, _, rfl, ite2 (fun c1 => ?_) (fun c1 => ?_)⟩
    · refine ⟨_, rfl, _, rfl, SX.S x, rfl, hz, _, 1, rfl, rfl, d, c, t + 1 + 1 + 1, (x.length : Int) + 1, by rw [SX.S_len]; rfl, hS3, by omega, by omega, by omega, fun r4 H4 r40 r41 hS4 k4 => ?_⟩
      refine ⟨_, rfl, _, rfl, _, rfl, SX.S x, rfl, hz, _, rfl, _, rfl, _, rfl, _, _, rfl, _, rfl, _, rfl, _, rfl, _, _, rfl, _, rfl, SX.S x, rfl, hz, _, _, rfl, rfl, (hX.cut _ _).fit (hX.cut _ _) (by decide), ?_⟩
      refine ⟨_, rfl, _, rfl, _, rfl, SX.S x, rfl, hz, _, _, rfl, rfl, ((hX.cut _ _).cat (hX.cut _ _)).fit (hX.cut _ _) (by decide), ?_⟩
      obtain ⟨y, ey, hy, hoy⟩ := ((hX.cut none (some r1)).cat (hX.cut (some (if r4 < r1 then r4 else r1)) (some (if r4 > r1 then r4 else r1)))).cat (hX.cut (some r1) none)
      rw [ey]
      exact q y H4 _ (by omega) hoy (by omega) (by omega) hS4 (k13.trans k4)
    · have r24 : r2 < 4 := by
        rcases Int.lt_or_le r2 4 with z | z
        · exact z
        · exact absurd (decide_eq_true (by rw [show r2 = 4 by omega])) c1
      have hA := hX.cut none (some r1)
      have hB := hX.cut (some r1) none
      have hD := hX.cut (some (r1 + 1)) none
      refine ⟨_, rfl, _, rfl, _, rfl, SX.S x, rfl, hz, _, rfl, _, _, rfl, rfl, hA.fit hC (by decide), _, rfl, _, rfl, _, rfl, SX.S x, rfl, hz, _, _, rfl, rfl, (hA.cat hC).fit hB (by decide), ?_⟩
      refine ⟨_, rfl, _, rfl, _, rfl, SX.S x, rfl, hz, _, rfl, _, rfl, _, 1, rfl, rfl, _, rfl, SX.S x, rfl, hz, _, _, rfl, rfl, hA.fit hD (by decide), ?_⟩
      refine ⟨_, rfl, _, rfl, _, rfl, SX.S x, rfl, hz, _, rfl, _, _, rfl, rfl, hA.fit hC (by decide), _, rfl, _, rfl, _, 1, rfl, rfl, _, rfl, SX.S x, rfl, hz, _, _, rfl, rfl, (hA.cat hC).fit hD (by decide), ?_⟩
      refine ⟨_, rfl, _, rfl, _, rfl, SX.S x, rfl, hz, (by show 4 ≤ sizeLine; decide), fun L nL => ?_⟩
      obtain ⟨v, ev, hv⟩ := pick_at (xs := [.str (cutS (SX.S x) none (some r1) ++ ⟨#[ch]⟩ ++ cutS (SX.S x) (some r1) none), .str (cutS (SX.S x) none (some r1) ++ cutS (SX.S x) (some (r1 + 1)) none), .str (cutS (SX.S x) none (some r1) ++ ⟨#[ch]⟩ ++ cutS (SX.S x) (some (r1 + 1)) none), .str (cutS (SX.S x) none (some r1))]) (n := 4) rfl r20 r24
      have hv' : ∃ y, v = .str (SX.S y) ∧ y.length ≤ 1000 ∧ okT y := by
        have g : ∀ {n : Nat} {z : Str}, TxS n z → n ≤ 1000 → V.str z = v → ∃ y, v = .str (SX.S y) ∧ y.length ≤ 1000 ∧ okT y := fun h le e => by
          obtain ⟨y, rfl, h1, h2⟩ := h
          exact ⟨y, e.symm, by omega, h2⟩
        rcases List.mem_cons.mp hv with z | hv
        · exact g ((hA.cat hC).cat hB) (by decide) z.symm
        rcases List.mem_cons.mp hv with z | hv
        · exact g (hA.cat hD) (by decide) z.symm
        rcases List.mem_cons.mp hv with z | hv
        · exact g ((hA.cat hC).cat hD) (by decide) z.symm
        exact g hA (by decide) (List.mem_singleton.mp hv).symm
      obtain ⟨y, rfl, hy, hoy⟩ := hv'
      have sL := same_upd (o := .lst [.str (cutS (SX.S x) none (some r1) ++ ⟨#[ch]⟩ ++ cutS (SX.S x) (some r1) none), .str (cutS (SX.S x) none (some r1) ++ cutS (SX.S x) (some (r1 + 1)) none), .str (cutS (SX.S x) none (some r1) ++ ⟨#[ch]⟩ ++ cutS (SX.S x) (some (r1 + 1)) none), .str (cutS (SX.S x) none (some r1))]) nL
      exact ⟨_, rfl, L, _, r2, _, rfl, rfl, SqL.of upd_same, ev, q y _ _ hy hoy (by omega) (by omega) (hS3.same sL) (k13.trans (Kp.same d c sL))⟩
end

theorem flat_txs (xs : List (List Nat)) : (txs xs).all flatV = true := by
  rw [List.all_eq_true]
  intro v hv
  obtain ⟨x, _, rfl⟩ := List.mem_map.mp hv
  rfl
theorem noInt_txs (xs : List (List Nat)) : NoInt (txs xs) := fun x hx i e => by
  obtain ⟨y, _, rfl⟩ := List.mem_map.mp hx
  cases e
/-- the sign at a number, all thirty-six round -/
def chAt (fi st : Int) (k : Nat) : Nat := sg36.getD ((fi + st * (k : Int)) % 36).toNat 0
theorem sg36_len : sg36.length = 36 := by decide +kernel
theorem sg36_ok : okT sg36 := okT_of (by decide +kernel)
theorem chAt_at (fi st : Int) (k : Nat) : atI sg36 ((fi + st * (k : Int)) % 36) = some (chAt fi st k) ∧ chAt fi st k < 1114112 := by
  have h0 : 0 ≤ (fi + st * (k : Int)) % 36 := Int.emod_nonneg _ (by decide)
  have h1 : (fi + st * (k : Int)) % 36 < 36 := Int.emod_lt_of_pos _ (by decide)
  unfold chAt
  revert h0 h1
  generalize (fi + st * (k : Int)) % 36 = r
  intro h0 h1
  obtain ⟨n, rfl⟩ := Int.eq_ofNat_of_zero_le h0
  have lt : n < sg36.length := by rw [sg36_len]; omega
  rw [Int.toNat_natCast, List.getD_eq_getElem?_getD, List.getElem?_eq_getElem lt]
  exact ⟨atI_nat (List.getElem?_eq_getElem lt), sg36_ok _ (List.getElem_mem lt)⟩
section
variable {K : PySem.W.Frag} {mg : Str → Option Value} {P : Program} {w : World} {base : Heap}
theorem ok_Choice {f : Addr} {fd : FuncData} (F : Fun K "_law_choice" "_law_choice" sChoice f fd) (C__law_take : Cal P w K mg base 1 "_law_take" ["_law_state", "_law_many"] spTake) (m_range : mg "range" = none) : FnOk P w K mg base CX0 2 f fd ["_law_state", "_law_sign"] spChoice := by
  refine F.ok scChoice (fun vs H Q E h => ?_) (fun cdv A outer s H vs Q E hr h => ?_)
  · obtain ⟨d, c, t, x, rfl, _⟩ := h
    rfl
  · obtain ⟨d, c, t, x, rfl, hS, ht, hx, hox, q⟩ := h
    refine ⟨_, pss_cons (ps_set (i := 2) scChoice.nd rfl (.inr rfl) pe_str)
      (pss_cons (ps_asg (pe_tup (pa_cons (pe_op op_add pe_int (pe_own C__law_take hr (by rfl) (pa_cons (pv 0) (pa_cons pe_int pa_nil)))) (pa_cons (pe_ix ix_list (pe_lst (pa_cons pe_int (pa_cons pe_int (pa_cons pe_int (pa_cons pe_int pa_nil))))) (pe_own C__law_take hr (by rfl) (pa_cons (pv 0) (pa_cons pe_int pa_nil))) (fun _ _ => rfl)) (pa_cons (pe_own C__law_take hr (by rfl) (pa_cons (pv 0) (pa_cons pe_int pa_nil))) pa_nil)))) (pg_tup rfl (pgs_cons (pg_name (i := 3) scChoice.nd rfl (.inl rfl)) (pgs_cons (pg_name (i := 4) scChoice.nd rfl (.inr rfl)) (pgs_cons (pg_name (i := 5) scChoice.nd rfl (.inr rfl)) pgs_nil)))))
      (pss_cons (ps_setLc (i := 6) (own := [("_law_k", 7)]) (g := (gName 7)) (tt := tYes) (te := (tOp (L2.rIxS) (tVar 2) (tOp (rI (fun _ j => 0 < j) fun i j => .int (i % j)) (tOp (rI0 fun i j => .int (i + j)) (tVar 5) (tOp (rI CMulW fun i j => .int (i * j)) (tVar 4) (tVar 7))) (tC (.int 36))))) rfl scChoice.nd rfl rfl (sw_true rfl rfl rfl (by decide +kernel)) (pi_range1 rfl m_range (pa_cons (pv 3) pa_nil)) (blkOk_by (own := [("_law_k", 7)]) (N := ["_law_state", "_law_sign", "_law_signs", "_law_many", "_law_step", "_law_first", "_law_some", "_law_k"]) (sc := defScope sChoice) (by decide +kernel)) (fun _ _ _ _ _ => (pg_name (i := 7) scChoice.nd rfl (.inl rfl))) (fun _ _ _ _ _ => pts_nil) (fun _ _ _ _ _ => (pe_ix ix_str (pv 2) (pe_op op_mod (pe_op op_add (pv 5) (pe_op op_mulW (pv 4) (pv 7))) pe_int) (fun _ _ => rfl))))
      (Evl.pss_cut (ps_if (PW.pt (pw_and (pt_cmpR op_eq (pe_own C__law_take hr (by rfl) (pa_cons (pv 0) (pa_cons pe_int pa_nil))) pe_int (nomark _)) (pw_and1 (pt_cmpR op_notIn_seq (pv 1) (pv 6) (by rfl))))) (pss_one (ps_asg (pv 1) (pg_sub (pv 6) (pe_own C__law_take hr (by rfl) (pa_cons (pv 0) (pa_cons (pv 3) pa_nil))) set_list)))
        pss_nil)
      (pss_one (ps_ret (pe_op op_add_str (pe_op op_add_str pe_str (pe_join pe_str (pv 6))) pe_str)))))), ?_⟩
    refine ⟨_, rfl, d, c, t, 5, rfl, hS, by omega, by decide, by decide, fun r1 H1 r10 r11 hS1 k1 => ?_⟩
    refine ⟨2, r1, rfl, rfl, (by show 4 ≤ sizeLine; decide), fun L nL => ?_⟩
    have sL := same_upd (o := .lst [.int 1, .int 5, .int 7, .int 11]) nL
    have offL := hS1.off nL
    refine ⟨_, rfl, d, c, t + 1, 4, rfl, hS1.same sL, by omega, by decide, by decide, fun r2 H2 r20 r21 hS2 k2 => ?_⟩
    obtain ⟨v, ev, hv⟩ := pick_at (xs := [.int 1, .int 5, .int 7, .int 11]) (n := 4) rfl r20 r21
    have hv' : ∃ st : Int, v = .int st ∧ 1 ≤ st ∧ st ≤ 11 := by
      simp only [List.mem_cons, List.not_mem_nil, or_false] at hv
      rcases hv with rfl | rfl | rfl | rfl
      · exact ⟨_, rfl, by decide, by decide⟩
      · exact ⟨_, rfl, by decide, by decide⟩
      · exact ⟨_, rfl, by decide, by decide⟩
      · exact ⟨_, rfl, by decide, by decide⟩
    obtain ⟨st, rfl, st1, st2⟩ := hv'
    refine ⟨L, _, r2, _, rfl, rfl, SqL.of (k2 _ _ offL.1 offL.2 upd_same), ev, ?_⟩
    refine ⟨_, rfl, d, c, t + 1 + 1, 36, rfl, hS2, by omega, by decide, by decide, fun fi H3 fi0 fi1 hS3 k3 => ?_⟩
    refine ⟨(by show 3 ≤ sizeLine; decide), fun T nT => ?_⟩
    have sT := same_upd (o := .tup [.int (2 + r1), .int st, .int fi]) nT
    refine ⟨T, _, rfl, .inl (.inl upd_same), rfl, _, _, rfl, _, _, rfl, _, _, rfl, rfl, ?_⟩
    have k03 : Kp d c H (upd H3 T (.tup [.int (2 + r1), .int st, .int fi])) := (((k1.trans (Kp.same d c sL)).trans k2).trans k3).trans (Kp.same d c sT)
    have hS4 := hS3.same sT
    revert k03 hS4
    generalize upd H3 T (.tup [.int (2 + r1), .int st, .int fi]) = H4
    intro k03 hS4
    have e5 : ∀ k : Nat, ((2 + r1).toNat : Int) = 2 + r1 := fun _ => by omega
    refine ⟨_, rfl, 2 + r1, rfl, by omega, by omega, fun D nD => lc_new (walk_range (lo := 0) (n := (2 + r1).toNat)) ((List.range (2 + r1).toNat).map fun k => PyData.str (sgS (chAt fi st k))) nD (by rw [List.length_map, List.length_range]) (by omega) (fun _ _ => trivial) (fun i y dd Hx Hx' Kt Kn hd sm hy kk => ?_) (fun H5 s5 hD => ?_)⟩
    · obtain ⟨rfl, rfl⟩ := hy
      have lt : i < (2 + r1).toNat := by
        have := (List.getElem?_eq_some_iff.mp hd).1
        rwa [List.length_map, List.length_range] at this
      rw [List.getElem?_map, List.getElem?_range lt] at hd
      cases hd
      refine ⟨rfl, _, rfl, _, rfl, _, rfl, _, rfl, st, _, rfl, rfl, mulw (by omega) (by omega), fi, _, rfl, rfl, _, 36, rfl, rfl, (show (0 : Int) < 36 by decide), _, _, chAt fi st i, rfl, rfl, (by decide +kernel), ?_, ?_⟩
      · rw [Int.zero_add]
        exact (chAt_at fi st i).1
      · exact kk _ _ (Same.refl _) (.str _)
    obtain ⟨_, ws, e, _, eD, hws⟩ := hD.list
    cases e
    have ews : ws = txs ((List.range (2 + r1).toNat).map fun k => [chAt fi st k]) := by
      have z := EchN.strs (ns := (List.range (2 + r1).toNat).map fun k => sgS (chAt fi st k)) (by rw [List.map_map]; exact hws)
      rw [z]
      simp [txs, sgS, SX.S]
    subst ews
    have hS5 := hS4.same s5
    have offD := hS4.off nD
    -- perhaps the sign itself is among them
    refine ⟨fun σ' H' => ∃ (xs : List (List Nat)) (t' : Int), σ' = [some (.ref d), some (.str (SX.S x)), some (.str "abcdefghijklmnopqrstuvwxyz0123456789"), some (.int (2 + r1)), some (.int st), some (.int fi), some (.ref D), none] ∧ H' D = some (.lst (txs xs)) ∧ (xs.length : Int) = 2 + r1 ∧ (∀ y ∈ xs, y.length ≤ 1 ∧ okT y) ∧ t ≤ t' ∧ t' ≤ t + 6 ∧ StAt H' d c t' ∧ Kp d c H H', ?_, ?_⟩
    · have all0 : ∀ y ∈ (List.range (2 + r1).toNat).map fun k => [chAt fi st k], y.length ≤ 1 ∧ okT y := fun y hy => by
        obtain ⟨k, _, rfl⟩ := List.mem_map.mp hy
        exact ⟨Nat.le_refl _, fun z hz => by rw [List.mem_singleton.mp hz]; exact (chAt_at fi st k).2⟩
      have len0 : (((List.range (2 + r1).toNat).map fun k => [chAt fi st k]).length : Int) = 2 + r1 := by rw [List.length_map, List.length_range]; omega
      revert all0 len0 eD
      generalize (List.range (2 + r1).toNat).map (fun k => [chAt fi st k]) = xs
      intro eD all0 len0
      refine ⟨_, rfl, d, c, t + 1 + 1 + 1, 2, rfl, hS5, by omega, by decide, by decide, fun r4 H6 r40 r41 hS6 k6 => ?_⟩
      have eD6 := k6 _ _ offD.1 offD.2 eD
      have k06 := (k03.trans (Kp.same d c s5)).trans k6
      refine ⟨rfl, _, rfl, ite2 (fun c1 => ?_) (fun c1 => ?_)⟩
      · refine ⟨_, rfl, _, rfl, D, _, rfl, .inl (SqL.of eD6), rfl, flat_txs xs, _, rfl, ite2 (fun c2 => ?_) (fun c2 => ?_)⟩
        · refine ⟨_, rfl, _, rfl, _, rfl, _, rfl, d, c, t + 1 + 1 + 1 + 1, 2 + r1, rfl, hS6, by omega, by omega, by omega, fun r5 H7 r50 r51 hS7 k7 => ?_⟩
          obtain ⟨j, rfl⟩ := Int.eq_ofNat_of_zero_le r50
          refine ⟨D, _, _, j, rfl, rfl, k7 _ _ offD.1 offD.2 eD6, ixN_of (by rw [List.length_map]; omega), xs.set j x, _, rfl, ?_, by rw [List.length_set]; exact len0, fun y hy => ?_, by omega, by omega, hS7.upd offD.1 offD.2, fun b o b1 b2 e => ?_⟩
          · rw [upd_same, ← List.map_set]
          · rcases List.mem_or_eq_of_mem_set hy with z | z
            · exact all0 y z
            · rw [z]; exact ⟨hx, hox⟩
          · have nb : b ≠ D := by
              intro z
              have e4 := k03 b o b1 b2 e
              rw [z, nD] at e4
              cases e4
            rw [upd_ne nb]
            exact k7 b o b1 b2 (k06 b o b1 b2 e)
        · exact ⟨xs, _, rfl, eD6, len0, all0, by omega, by omega, hS6, k06⟩
      · exact ⟨xs, _, rfl, eD6, len0, all0, by omega, by omega, hS6, k06⟩
    · rintro σ' H' ⟨xs, t', rfl, eD', len', all', u0, u1, hS', k'⟩
      have hfl : xs.flatten.length ≤ 6 := by
        have := flat_le fun y hy => (all' y hy).1
        omega
      have hF : TxS 6 (SX.S xs.flatten) := .of hfl (okT_flat fun y hy => (all' y hy).2)
      rw [txs_strs] at eD'
      refine ⟨⟨_, rfl⟩, _, rfl, _, D, _, rfl, rfl, .inl (SqL.of eD'), fits_txs (by omega), ?_⟩
      rw [join_txs]
      have hO : TxS 1 "[" := .sg (c := 91) (by decide)
      have hE : TxS 1 "]" := .sg (c := 93) (by decide)
      refine ⟨_, _, rfl, rfl, hO.fit hF (by decide), _, _, rfl, rfl, (hO.cat hF).fit hE (by decide), ?_⟩
      obtain ⟨y, ey, hy, hoy⟩ := (hO.cat hF).cat hE
      rw [ey]
      exact q y H' t' (by omega) hoy u0 (by omega) hS' k'
end

/-- the marks so far -/
def MkAll (ms : List (List Nat)) : Prop := ∀ x ∈ ms, x.length ≤ 30 ∧ okT x
theorem inV_nil (v : V) : inV v (txs []) = false := rfl
section
variable {K : PySem.W.Frag} {mg : Str → Option Value} {P : Program} {w : World} {base : Heap}
theorem ok_Marks {f : Addr} {fd : FuncData} (F : Fun K "_law_marks" "_law_marks" sMarks f fd) (C__law_take : Cal P w K mg base 1 "_law_take" ["_law_state", "_law_many"] spTake) (C__law_mark : Cal P w K mg base 2 "_law_mark" ["_law_state", "_law_long", "_law_few"] spMark) (m_range : mg "range" = none) (m_len : mg "len" = none) : FnOk P w K mg base CX0 3 f fd ["_law_state", "_law_many"] spMarks := by
  refine F.ok scMarks (fun vs H Q E h => ?_) (fun cdv A outer s H vs Q E hr h => ?_)
  · obtain ⟨d, c, t, m, rfl, _⟩ := h
    rfl
  · obtain ⟨d, c, t, m, rfl, hS, ht, m0, m1, q⟩ := h
    refine ⟨_, pss_cons (ps_par rfl scMarks.nd (i := 2) (j := 3) rfl rfl (by decide) rfl rfl (pa_cons (pe_op op_add pe_int (pe_own C__law_take (hr.mono (show 1 ≤ 2 by decide)) (by rfl) (pa_cons (pv 0) (pa_cons pe_int pa_nil)))) (pa_cons (pe_ix ix_list (pe_lst (pa_cons pe_int (pa_cons pe_int (pa_cons pe_int pa_nil)))) (pe_own C__law_take (hr.mono (show 1 ≤ 2 by decide)) (by rfl) (pa_cons (pv 0) (pa_cons pe_int pa_nil))) (fun _ _ => rfl)) pa_nil)) (by rfl))
      (pss_cons (ps_par rfl scMarks.nd (i := 4) (j := 5) rfl rfl (by decide) rfl rfl (pa_cons (pe_own C__law_mark hr (by rfl) (pa_cons (pv 0) (pa_cons (pv 2) (pa_cons (pv 3) pa_nil)))) (pa_cons (pe_lst pa_nil) pa_nil)) (by rfl))
      (pss_cons (ps_for PassesOwn.never rfl (pi_range1 rfl m_range (pa_cons (pe_op op_mulW pe_int (pv 1)) pa_nil)) (pg_name (i := 6) scMarks.nd rfl (.inl rfl))
        (pss_cons (ps_par rfl scMarks.nd (i := 7) (j := 8) rfl rfl (by decide) rfl rfl (pa_cons (pe_own C__law_take (hr.mono (show 1 ≤ 2 by decide)) (by rfl) (pa_cons (pv 0) (pa_cons pe_int pa_nil))) (pa_cons (pe_own C__law_take (hr.mono (show 1 ≤ 2 by decide)) (by rfl) (pa_cons (pv 0) (pa_cons (pv 2) pa_nil))) pa_nil)) (by rfl))
        (pss_cons (ps_set (i := 9) scMarks.nd rfl (.inl rfl) (pe_op op_add_str (pe_op op_add_str (pe_slice sl_str (pv 4) po_none (po_some (pv 8))) (pe_own C__law_mark hr (by rfl) (pa_cons (pv 0) (pa_cons pe_int (pa_cons (pv 3) pa_nil))))) (pe_slice sl_str (pv 4) (po_some (pe_op op_add (pv 8) pe_int)) po_none)))
        (Evl.pss_cut (ps_if (pt_cmpR op_eq (pv 7) pe_int (nomark _)) (pss_one (ps_set (i := 9) scMarks.nd rfl (.inl rfl) (pe_own C__law_mark hr (by rfl) (pa_cons (pv 0) (pa_cons (pe_op op_add pe_int (pe_own C__law_take (hr.mono (show 1 ≤ 2 by decide)) (by rfl) (pa_cons (pv 0) (pa_cons pe_int pa_nil)))) (pa_cons (pv 3) pa_nil))))))
          pss_nil)
        (Evl.pss_cut (ps_if (pt_cmpR op_eq (pv 7) pe_int (nomark _)) (pss_one (ps_set (i := 9) scMarks.nd rfl (.inl rfl) (pe_slice sl_str (pe_op op_add_str (pv 9) (pe_own C__law_mark hr (by rfl) (pa_cons (pv 0) (pa_cons pe_int (pa_cons (pv 3) pa_nil))))) po_none (po_some (pe_op op_add pe_int (pe_own C__law_take (hr.mono (show 1 ≤ 2 by decide)) (by rfl) (pa_cons (pv 0) (pa_cons pe_int pa_nil))))))))
          pss_nil)
        (Evl.pss_cut (ps_if (pt_cmpR op_eq (pv 7) pe_int (nomark _)) (pss_one (ps_set (i := 9) scMarks.nd rfl (.inl rfl) (pe_op op_add_str (pe_slice sl_str (pv 9) (po_some pe_int) po_none) (pe_slice sl_str (pv 9) po_none (po_some pe_int)))))
          pss_nil)
        (pss_one (ps_if (PW.pt (pw_and (pt_cmpR op_notIn_seq (pv 9) (pv 5) (by rfl)) (pw_and1 (pt_cmpR op_lt (pe_callB call_len_seq (by rfl) m_len PySem.boot_len (pa_cons (pv 5) pa_nil)) (pv 1) (nomark _))))) (pss_one (ps_expr (pe_bm PySem.F.plainAttrs_list PySem.F.slot_list_append PySem.F.type_list_append mt_append (pv 5) (pa_cons (pv 9) pa_nil))))
          pss_nil))))))))
      (pss_one (ps_ret (pv 5))))), ?_⟩
    refine ⟨_, rfl, d, c, t, 7, rfl, hS, by omega, by decide, by decide, fun r1 H1 r10 r11 hS1 k1 => ?_⟩
    refine ⟨4, r1, rfl, rfl, (by show 3 ≤ sizeLine; decide), fun L nL => ?_⟩
    have sL := same_upd (o := .lst [.int 2, .int 4, .int 36]) nL
    have offL := hS1.off nL
    refine ⟨_, rfl, d, c, t + 1, 3, rfl, hS1.same sL, by omega, by decide, by decide, fun r2 H2 r20 r21 hS2 k2 => ?_⟩
    obtain ⟨v, ev, hv⟩ := pick_at (xs := [.int 2, .int 4, .int 36]) (n := 3) rfl r20 r21
    have hv' : ∃ fw : Int, v = .int fw ∧ 1 ≤ fw ∧ fw ≤ 36 := by
      simp only [List.mem_cons, List.not_mem_nil, or_false] at hv
      rcases hv with rfl | rfl | rfl
      · exact ⟨_, rfl, by decide, by decide⟩
      · exact ⟨_, rfl, by decide, by decide⟩
      · exact ⟨_, rfl, by decide, by decide⟩
    obtain ⟨fw, rfl, fw1, fw2⟩ := hv'
    refine ⟨L, _, r2, _, rfl, rfl, SqL.of (k2 _ _ offL.1 offL.2 upd_same), ev, _, _, rfl, ?_⟩
    have k02 := (k1.trans (Kp.same d c sL)).trans k2
    -- the base
    refine ⟨_, rfl, _, rfl, _, rfl, d, c, t + 1 + 1, 4 + r1, fw, rfl, hS2, by omega, by omega, by omega, by omega, by omega, fun bs H3 t3 hbl hbo u0 u1 hS3 k3 => ?_⟩
    refine ⟨Nat.zero_le _, fun p np => ⟨_, _, rfl, ?_⟩⟩
    have sp := same_upd (o := .lst []) np
    have offp := hS3.off np
    have k03 := k02.trans k3
    have hB : TxS 10 (SX.S bs) := .of (by omega) hbo
    have hzB := hB.fits (by decide)
    refine ⟨_, rfl, 2, m, rfl, rfl, mulw (by decide) (by omega), 2 * m, rfl, by omega, by omega, for_range (n := (2 * m).toNat) (fun i σ Hx => ∃ (t' : Int) (ms : List (List Nat)) (y6 y7 y8 y9 : Option V), σ = [some (.ref d), some (.int m), some (.int (4 + r1)), some (.int fw), some (.str (SX.S bs)), some (.ref p), y6, y7, y8, y9] ∧ Hx p = some (.lst (txs ms)) ∧ (0 < i → 1 ≤ ms.length) ∧ (ms.length : Int) ≤ m ∧ MkAll ms ∧ t3 ≤ t' ∧ t' ≤ t3 + 100 * (i : Int) ∧ StAt Hx d c t' ∧ Kp d c H Hx)
      ⟨t3, [], _, _, _, _, rfl, upd_same, (fun z => absurd z (Nat.lt_irrefl 0)), by show (0 : Int) ≤ m; omega, (fun _ z => nomatch z), by omega, by omega, hS3.same sp, k03.trans (Kp.same d c sp)⟩ (fun i σ Hx hi hP => ?_) (fun σ Hx hP => ?_)⟩
    · obtain ⟨t', ms, y6, y7, y8, y9, rfl, ep, hne, hml, hall, v0, v1, hSx, kx⟩ := hP
      have hi2 : (i : Int) < 60 := by omega
      refine ⟨_, rfl, d, c, t', 4, rfl, hSx, by omega, by decide, by decide, fun r3 H4 r30 r31 hS4 k4 => ?_⟩
      refine ⟨_, rfl, _, rfl, d, c, t' + 1, 4 + r1, rfl, hS4, by omega, by omega, by omega, fun r4 H5 r40 r41 hS5 k5 => ⟨_, _, rfl, ?_⟩⟩
      have ep5 := k5 _ _ offp.1 offp.2 (k4 _ _ offp.1 offp.2 ep)
      have kx5 := (kx.trans k4).trans k5
      refine ⟨_, rfl, _, rfl, _, rfl, SX.S bs, rfl, hzB, ?_⟩
      refine ⟨_, rfl, _, rfl, d, c, t' + 1 + 1, 1, fw, rfl, hS5, by omega, by decide, by decide, by omega, by omega, fun s1 H6 t6 hs1 ho1 w0 w1 hS6 k6 => ?_⟩
      have h1 : TxS 1 (SX.S s1) := .of (by omega) ho1
      refine ⟨_, _, rfl, rfl, (hB.cut _ _).fit h1 (by decide), ?_⟩
      refine ⟨_, rfl, _, rfl, _, 1, rfl, rfl, _, rfl, SX.S bs, rfl, hzB, _, _, rfl, rfl, ((hB.cut _ _).cat h1).fit (hB.cut _ _) (by decide), ?_⟩
      have hA := ((hB.cut none (some r4)).cat h1).cat (hB.cut (some (r4 + 1)) none)
      revert hA
      generalize cutS (SX.S bs) none (some r4) ++ SX.S s1 ++ cutS (SX.S bs) (some (r4 + 1)) none = zA
      intro hA
      have ep6 := k6 _ _ offp.1 offp.2 ep5
      have kx6 := kx5.trans k6
      -- the first change
      refine ⟨fun σ' H' => ∃ (z : Str) (t7 : Int), σ' = [some (.ref d), some (.int m), some (.int (4 + r1)), some (.int fw), some (.str (SX.S bs)), some (.ref p), some (.int (0 + (i : Int))), some (.int r3), some (.int r4), some (.str z)] ∧ TxS 21 z ∧ H' p = some (.lst (txs ms)) ∧ t' ≤ t7 ∧ t7 ≤ t' + 44 ∧ StAt H' d c t7 ∧ Kp d c H H', ?_, ?_⟩
      · refine ⟨_, rfl, rfl, _, rfl, ite2 (fun c1 => ?_) (fun c1 => ?_)⟩
        · refine ⟨_, rfl, _, rfl, d, c, t6, 7, rfl, hS6, by omega, by decide, by decide, fun r5 H7 r50 r51 hS7 k7 => ?_⟩
          refine ⟨4, r5, rfl, rfl, _, rfl, d, c, t6 + 1, 4 + r5, fw, rfl, hS7, by omega, by omega, by omega, by omega, by omega, fun s2 H8 t8 hs2 ho2 w2 w3 hS8 k8 => ?_⟩
          exact ⟨_, t8, rfl, .of (by omega) ho2, k8 _ _ offp.1 offp.2 (k7 _ _ offp.1 offp.2 ep6), by omega, by omega, hS8, (kx6.trans k7).trans k8⟩
        · exact ⟨zA, t6, rfl, hA, ep6, by omega, by omega, hS6, kx6⟩
      rintro σ7 H7 ⟨zB, t7, rfl, hZB, ep7, w2, w3, hS7, kx7⟩
      -- the second change
      refine ⟨fun σ' H' => ∃ (z : Str) (t8 : Int), σ' = [some (.ref d), some (.int m), some (.int (4 + r1)), some (.int fw), some (.str (SX.S bs)), some (.ref p), some (.int (0 + (i : Int))), some (.int r3), some (.int r4), some (.str z)] ∧ TxS 27 z ∧ H' p = some (.lst (txs ms)) ∧ t' ≤ t8 ∧ t8 ≤ t' + 70 ∧ StAt H' d c t8 ∧ Kp d c H H', ?_, ?_⟩
      · refine ⟨_, rfl, rfl, _, rfl, ite2 (fun c1 => ?_) (fun c1 => ?_)⟩
        · refine ⟨_, rfl, _, rfl, _, rfl, d, c, t7, 6, fw, rfl, hS7, by omega, by decide, by decide, by omega, by omega, fun s2 H8 t8 hs2 ho2 w4 w5 hS8 k8 => ?_⟩
          have h2 : TxS 6 (SX.S s2) := .of (by omega) ho2
          refine ⟨_, _, rfl, rfl, hZB.fit h2 (by decide), ?_⟩
          refine ⟨_, rfl, d, c, t8, 7, rfl, hS8, by omega, by decide, by decide, fun r5 H9 r50 r51 hS9 k9 => ?_⟩
          refine ⟨4, r5, rfl, rfl, _, rfl, _, rfl, (hZB.cat h2).fits (by decide), ?_⟩
          exact ⟨_, t8 + 1, rfl, (hZB.cat h2).cut _ _, k9 _ _ offp.1 offp.2 (k8 _ _ offp.1 offp.2 ep7), by omega, by omega, hS9, (kx7.trans k8).trans k9⟩
        · exact ⟨zB, t7, rfl, hZB.mono (by decide), ep7, by omega, by omega, hS7, kx7⟩
      rintro σ8 H8 ⟨zC, t8, rfl, hZC, ep8, w4, w5, hS8, kx8⟩
      -- the third change
      refine ⟨fun σ' H' => ∃ (z : List Nat), σ' = [some (.ref d), some (.int m), some (.int (4 + r1)), some (.int fw), some (.str (SX.S bs)), some (.ref p), some (.int (0 + (i : Int))), some (.int r3), some (.int r4), some (.str (SX.S z))] ∧ z.length ≤ 30 ∧ okT z ∧ H' = H8, ?_, ?_⟩
      · refine ⟨_, rfl, rfl, _, rfl, ite2 (fun c1 => ?_) (fun c1 => ?_)⟩
        · have hz8 := hZC.fits (by decide)
          refine ⟨_, rfl, _, rfl, _, rfl, hz8, _, rfl, _, rfl, _, rfl, hz8, _, _, rfl, rfl, (hZC.cut _ _).fit (hZC.cutTo 1) (by decide), ?_⟩
          obtain ⟨z, e, hl, ho⟩ := (hZC.cut (some 1) none).cat (hZC.cutTo 1)
          exact ⟨z, by rw [← e]; rfl, by omega, ho, rfl⟩
        · obtain ⟨z, rfl, hl, ho⟩ := hZC
          exact ⟨z, rfl, by omega, ho, rfl⟩
      rintro σ9 H9 ⟨z, rfl, hzl, hzo, rfl⟩
      refine ⟨_, rfl, _, rfl, p, _, rfl, .inl (SqL.of ep8), rfl, flat_txs ms, _, rfl, ite2 (fun c1 => ?_) (fun c1 => ?_)⟩
      · refine ⟨_, rfl, p, _, rfl, .inl (SqL.of ep8), _, rfl, _, _, rfl, rfl, _, rfl, ite2 (fun c2 => ?_) (fun c2 => ?_)⟩
        · have lt : (ms.length : Int) < m := by
            have := of_decide_eq_true c2
            rwa [List.length_map] at this
          refine ⟨_, rfl, .inl ⟨rfl, _, SqL.of ep8⟩, _, rfl, p, _, _, rfl, rfl, ep8, small1000 (by rw [List.length_map]; omega), ?_⟩
          refine ⟨t8, ms ++ [z], _, _, _, _, rfl, by rw [upd_same, txs_snoc], fun _ => by simp, by rw [List.length_append]; show ((ms.length + 1 : Nat) : Int) ≤ m; omega, fun x hx => ?_, by omega, by omega, hS8.upd offp.1 offp.2, fun b o b1 b2 e => ?_⟩
          · rcases List.mem_append.mp hx with y | y
            · exact hall x y
            · rw [List.mem_singleton.mp y]; exact ⟨hzl, hzo⟩
          · have nb : b ≠ p := fun z => by
              have e3 := k03 b o b1 b2 e
              rw [z, np] at e3
              cases e3
            rw [upd_ne nb]
            exact kx8 b o b1 b2 e
        · refine ⟨t8, ms, _, _, _, _, rfl, ep8, fun _ => ?_, hml, hall, by omega, by omega, hS8, kx8⟩
          rcases Nat.eq_zero_or_pos ms.length with y | y
          · exact absurd (decide_eq_true (by rw [List.length_map, y]; show (0 : Int) < m; omega)) c2
          · exact y
      · refine ⟨t8, ms, _, _, _, _, rfl, ep8, fun _ => ?_, hml, hall, by omega, by omega, hS8, kx8⟩
        cases ms with
        | nil => exact absurd rfl c1
        | cons => simp
    · obtain ⟨t', ms, y6, y7, y8, y9, rfl, ep, hne, hml, hall, v0, v1, hSx, kx⟩ := hP
      have npH : H p = none := k03.free hS3 np
      exact ⟨_, rfl, q ms p Hx t' (fun hm => hne (by omega)) (by omega) hall npH ep (by omega) (by omega) hSx kx⟩
end

/-- parts as they are drawn -/
def PtAll (ps : List (List Nat)) : Prop := ∀ x ∈ ps, x.length ≤ 10 ∧ okT x
theorem PtAll.snoc {ps : List (List Nat)} {x : List Nat} (h : PtAll ps) (g : TxS 10 (SX.S x)) : PtAll (ps ++ [x]) := fun y hy => by
  obtain ⟨z, e, h1, h2⟩ := g
  have ez := SX.S_inj e
  rcases List.mem_append.mp hy with q | q
  · exact h y q
  · rw [List.mem_singleton.mp q, ez]; exact ⟨h1, h2⟩
def RdW (H : Hp) (d c : Addr) (mk : List Nat) (pl : Int) (p : Addr) (t : Int) (m : Nat) (σ : L2.St) (Hx : Hp) : Prop := ∃ (a : Nat) (ps : List (List Nat)) (t' : Int) (y5 : Option V), σ = [some (.ref d), some (.str (SX.S mk)), some (.int pl), some (.ref p), some (.int (a : Int)), y5] ∧ m = mk.length - a ∧ a ≤ mk.length ∧ ps.length ≤ 2 * a ∧ PtAll ps ∧ Hx p = some (.lst (txs ps)) ∧ t ≤ t' ∧ t' ≤ t + 20 * (a : Int) ∧ StAt Hx d c t' ∧ Kp d c H Hx
def RdM (H : Hp) (d c : Addr) (mk : List Nat) (pl : Int) (p : Addr) (t : Int) (a : Nat) (sr : Int) (σ : L2.St) (Hx : Hp) : Prop := ∃ (b : Nat) (ps : List (List Nat)) (t' : Int), σ = [some (.ref d), some (.str (SX.S mk)), some (.int pl), some (.ref p), some (.int (b : Int)), some (.int sr)] ∧ a ≤ b ∧ b < mk.length ∧ ps.length ≤ 2 * a + 2 ∧ PtAll ps ∧ Hx p = some (.lst (txs ps)) ∧ t ≤ t' ∧ t' ≤ t + 20 * (a : Int) + 20 ∧ StAt Hx d c t' ∧ Kp d c H Hx
section
variable {K : PySem.W.Frag} {mg : Str → Option Value} {P : Program} {w : World} {base : Heap}
theorem ok_Read {f : Addr} {fd : FuncData} (F : Fun K "_law_read" "_law_read" sRead f fd) (C__law_take : Cal P w K mg base 1 "_law_take" ["_law_state", "_law_many"] spTake) (C__law_choice : Cal P w K mg base 2 "_law_choice" ["_law_state", "_law_sign"] spChoice) (m_len : mg "len" = none) (m_int : mg "int" = none) : FnOk P w K mg base CX0 3 f fd ["_law_state", "_law_mark_here", "_law_plain"] spRead := by
  refine F.ok scRead (fun vs H Q E h => ?_) (fun cdv A outer s H vs Q E hr h => ?_)
  · obtain ⟨d, c, t, pl, mk, rfl, _⟩ := h
    rfl
  · obtain ⟨d, c, t, pl, mk, rfl, hS, ht, hmk, hom, pl0, pl1, q⟩ := h
    refine ⟨_, pss_cons (ps_par rfl scRead.nd (i := 3) (j := 4) rfl rfl (by decide) rfl rfl (pa_cons (pe_lst pa_nil) (pa_cons pe_int pa_nil)) (by rfl))
      (pss_cons (ps_while PassesOwn.never (pt_cmpR op_lt (pv 4) (pe_callB call_len_str (by rfl) m_len PySem.boot_len (pa_cons (pv 1) pa_nil)) (nomark _))
        (pss_cons (ps_set (i := 5) scRead.nd rfl (.inl rfl) (pe_own C__law_take (hr.mono (show 1 ≤ 2 by decide)) (by rfl) (pa_cons (pv 0) (pa_cons (pe_op op_add (pv 2) pe_int) pa_nil))))
        (Evl.pss_cut (ps_if (pt_cmpR op_eq (pv 5) pe_int (nomark _)) (pss_one (ps_expr (pe_bm PySem.F.plainAttrs_list PySem.F.slot_list_append PySem.F.type_list_append mt_append (pv 3) (pa_cons pe_str pa_nil))))
          (pss_one (ps_if (pt_cmpR op_eq (pv 5) pe_int (nomark _)) (pss_one (ps_expr (pe_bm PySem.F.plainAttrs_list PySem.F.slot_list_append PySem.F.type_list_append mt_append (pv 3) (pa_cons (pe_own C__law_choice hr (by rfl) (pa_cons (pv 0) (pa_cons (pe_ix ix_str (pv 1) (pv 4) (fun _ _ => rfl)) pa_nil))) pa_nil))))
            (pss_one (ps_if (pt_cmpR op_eq (pv 5) pe_int (nomark _)) (pss_one (ps_expr (pe_bm PySem.F.plainAttrs_list PySem.F.slot_list_append PySem.F.type_list_append mt_append (pv 3) (pa_cons (pe_ix ix_str pe_str (pe_own C__law_take (hr.mono (show 1 ≤ 2 by decide)) (by rfl) (pa_cons (pv 0) (pa_cons pe_int pa_nil))) (fun _ _ => rfl)) pa_nil))))
              (pss_one (ps_if (pt_cmpR op_eq (pv 5) pe_int (nomark _)) (pss_cons (ps_expr (pe_bm PySem.F.plainAttrs_list PySem.F.slot_list_append PySem.F.type_list_append mt_append (pv 3) (pa_cons pe_str pa_nil)))
                (pss_one (ps_set (i := 4) scRead.nd rfl (.inl rfl) (pe_op op_add (pv 4) (pe_own C__law_take (hr.mono (show 1 ≤ 2 by decide)) (by rfl) (pa_cons (pv 0) (pa_cons (pe_op op_sub (pe_callB call_len_str (by rfl) m_len PySem.boot_len (pa_cons (pv 1) pa_nil)) (pv 4)) pa_nil)))))))
                (pss_one (ps_if (PW.pt (pw_and (pt_cmpR op_eq (pv 5) pe_int (nomark _)) (pw_and1 (pt_cmpR op_eq (pe_own C__law_take (hr.mono (show 1 ≤ 2 by decide)) (by rfl) (pa_cons (pv 0) (pa_cons pe_int pa_nil))) pe_int (nomark _))))) (pss_one (ps_expr (pe_bm PySem.F.plainAttrs_list PySem.F.slot_list_extend PySem.F.type_list_extend mt_extend (pv 3) (pa_cons (pe_lst (pa_cons (pe_ix ix_str (pv 1) (pv 4) (fun _ _ => rfl)) (pa_cons (pe_ix ix_list (pe_lst (pa_cons pe_str (pa_cons pe_str (pa_cons pe_str pa_nil)))) (pe_own C__law_take (hr.mono (show 1 ≤ 2 by decide)) (by rfl) (pa_cons (pv 0) (pa_cons pe_int pa_nil))) (fun _ _ => rfl)) pa_nil))) pa_nil))))
                  (pss_one (ps_if (PW.pt (pw_or (pt_cmpR op_ne (pv 5) pe_int (nomark _)) (pw_or1 (pt_cmpR op_gt (pe_own C__law_take (hr.mono (show 1 ≤ 2 by decide)) (by rfl) (pa_cons (pv 0) (pa_cons pe_int pa_nil))) pe_int (nomark _))))) (pss_one (ps_expr (pe_bm PySem.F.plainAttrs_list PySem.F.slot_list_append PySem.F.type_list_append mt_append (pv 3) (pa_cons (pe_ix ix_str (pv 1) (pv 4) (fun _ _ => rfl)) pa_nil))))
                    pss_nil)))))))))))
        (pss_one (ps_set (i := 4) scRead.nd rfl (.inl rfl) (pe_op op_add (pv 4) pe_int))))))
      (pss_one (ps_ret (pe_op op_cat (pv 3) (pe_op op_rep (pe_lst (pa_cons pe_str pa_nil)) (pe_callTy call_int1 (by rfl) m_int (by decide +kernel) (pa_cons (pe_or (pe_cmpR op_eq (pe_own C__law_take (hr.mono (show 1 ≤ 2 by decide)) (by rfl) (pa_cons (pv 0) (pa_cons pe_int pa_nil))) pe_int (nomark _)) (pe_one (pe_cmpR (op_eqD hr.units) (pv 3) (pe_lst pa_nil) (nomark _)))) pa_nil))))))), ?_⟩
    have hM : TxS 30 (SX.S mk) := .of hmk hom
    have hz := hM.fits (by decide)
    refine ⟨Nat.zero_le _, fun p np => ⟨_, _, rfl, ?_⟩⟩
    have sp := same_upd (o := .lst []) np
    have offp := hS.off np
    refine ⟨RdW H d c mk pl p t, ⟨_, 0, [], t, _, rfl, rfl, Nat.zero_le _, Nat.le_refl _, (fun _ z => nomatch z), upd_same, by omega, by omega, hS.same sp, Kp.same d c sp⟩, fun m σ H1 hW => ?_⟩
    obtain ⟨a, ps, t1, y5, rfl, rfl, ha, hpl, hps, ep, u0, u1, hS1, k1⟩ := hW
    refine ⟨_, rfl, _, rfl, _, rfl, hz, _, _, rfl, rfl, _, rfl, ite2 (fun c1 => ?_) (fun c1 => ?_)⟩
    · have lt : a < mk.length := by
        have := of_decide_eq_true c1
        rw [len_S] at this
        omega
      refine ⟨fun σ' H' => ∃ m', m' < mk.length - a ∧ RdW H d c mk pl p t m' σ' H', fun _ _ h => h, ?_⟩
      refine ⟨_, rfl, _, rfl, pl, 7, rfl, rfl, d, c, t1, pl + 7, rfl, hS1, by omega, by omega, by omega, fun sr H2 sr0 sr1 hS2 k2 => ?_⟩
      have ep2 := k2 _ _ offp.1 offp.2 ep
      have k12 := k1.trans k2
      have hch := TxS.sg (hom _ (List.getElem_mem lt))
      -- one part more
      have put : ∀ (x : List Nat) (b : Nat) (tn : Int) (Hn : Hp), TxS 10 (SX.S x) → a ≤ b → b < mk.length → Hn p = some (.lst (txs ps)) → t1 + 1 ≤ tn → tn ≤ t1 + 15 → StAt Hn d c tn → Kp d c H Hn → RdM H d c mk pl p t a sr [some (.ref d), some (.str (SX.S mk)), some (.int pl), some (.ref p), some (.int (b : Int)), some (.int sr)] (upd Hn p (.lst (txs ps ++ [.str (SX.S x)]))) := fun x b tn Hn hx h1 h2 e v0 v1 hSn kn =>
        ⟨b, ps ++ [x], tn, rfl, h1, h2, by rw [List.length_append]; show ps.length + 1 ≤ _; omega, hps.snoc hx, by rw [upd_same, txs_snoc], by omega, by omega, hSn.upd offp.1 offp.2, fun b' o b1 b2 e' => by
          rw [upd_ne (ne_of_none e' np)]
          exact kn b' o b1 b2 e'⟩
      have sml : (txs ps).length < sizeLine := small1000 (by rw [List.length_map]; omega)
      refine ⟨RdM H d c mk pl p t a sr, ?_, ?_⟩
      · refine ⟨_, rfl, rfl, _, rfl, ite2 (fun c2 => ?_) (fun c2 => ?_)⟩
        · exact ⟨_, rfl, .inl ⟨rfl, _, SqL.of ep2⟩, p, _, _, rfl, rfl, ep2, sml, put [63] a _ H2 (TxS.sg (c := 63) (by decide) |>.mono (by decide)) (Nat.le_refl _) lt ep2 (Int.le_refl _) (by omega) hS2 k12⟩
        refine ⟨_, rfl, rfl, _, rfl, ite2 (fun c3 => ?_) (fun c3 => ?_)⟩
        · refine ⟨_, rfl, .inl ⟨rfl, _, SqL.of ep2⟩, _, rfl, _, rfl, _, rfl, _, _, _, rfl, rfl, hz, sign_at lt, d, c, t1 + 1, [mk[a]], rfl, hS2, by omega, Nat.le_refl _, hom.one (List.getElem?_eq_getElem lt), fun l H3 t3 hl ho v0 v1 hS3 k3 => ?_⟩
          have ep3 := k3 _ _ offp.1 offp.2 ep2
          exact ⟨p, _, _, rfl, rfl, ep3, sml, put l a t3 H3 (.of hl ho) (Nat.le_refl _) lt ep3 (by omega) (by omega) hS3 (k12.trans k3)⟩
        refine ⟨_, rfl, rfl, _, rfl, ite2 (fun c4 => ?_) (fun c4 => ?_)⟩
        · refine ⟨_, rfl, .inl ⟨rfl, _, SqL.of ep2⟩, _, rfl, d, c, t1 + 1, 6, rfl, hS2, by omega, by decide, by decide, fun r3 H3 r30 r31 hS3 k3 => ?_⟩
          obtain ⟨ch, e, hc'⟩ := sgn_at (z := "a1z0m9") (n := 6) (by decide +kernel) (okT_of (by decide +kernel)) r30 r31
          have ep3 := k3 _ _ offp.1 offp.2 ep2
          exact ⟨_, _, ch, rfl, rfl, (by decide +kernel), e, p, _, _, rfl, rfl, ep3, sml, put [ch] a _ H3 ((TxS.sg hc').mono (by decide)) (Nat.le_refl _) lt ep3 (by omega) (by omega) hS3 (k12.trans k3)⟩
        refine ⟨_, rfl, rfl, _, rfl, ite2 (fun c5 => ?_) (fun c5 => ?_)⟩
        · refine ⟨_, rfl, .inl ⟨rfl, _, SqL.of ep2⟩, p, _, _, rfl, rfl, ep2, sml, ?_⟩
          refine ⟨_, rfl, _, rfl, _, rfl, _, rfl, hz, _, rfl, _, _, rfl, rfl, d, c, t1 + 1, (mk.length : Int) - (a : Int), by rw [SX.S_len]; rfl, hS2.upd offp.1 offp.2, by omega, by omega, by omega, fun r3 H3 r30 r31 hS3 k3 => ?_⟩
          obtain ⟨k, rfl⟩ := Int.eq_ofNat_of_zero_le r30
          refine ⟨(a : Int), _, rfl, rfl, a + k, ps ++ [[42]], t1 + 1 + 1, rfl, by omega, by omega, by rw [List.length_append]; show ps.length + 1 ≤ _; omega, hps.snoc (TxS.sg (c := 42) (by decide) |>.mono (by decide)), k3 _ _ offp.1 offp.2 (by rw [upd_same, txs_snoc]; rfl), by omega, by omega, hS3, fun b' o b1 b2 e' => k3 b' o b1 b2 ?_⟩
          rw [upd_ne (ne_of_none e' np)]
          exact k12 b' o b1 b2 e'
        have none_ : ∀ (tn : Int) (Hn : Hp), Hn p = some (.lst (txs ps)) → t1 + 1 ≤ tn → tn ≤ t1 + 15 → StAt Hn d c tn → Kp d c H Hn → RdM H d c mk pl p t a sr [some (.ref d), some (.str (SX.S mk)), some (.int pl), some (.ref p), some (.int (a : Int)), some (.int sr)] Hn := fun tn Hn e v0 v1 hSn kn => ⟨a, ps, tn, rfl, Nat.le_refl _, lt, by omega, hps, e, by omega, by omega, hSn, kn⟩
        refine ⟨_, rfl, rfl, _, rfl, ite2 (fun c6 => ?_) (fun c6 => ?_)⟩
        · refine ⟨_, rfl, d, c, t1 + 1, 3, rfl, hS2, by omega, by decide, by decide, fun r3 H3 r30 r31 hS3 k3 => ?_⟩
          have ep3 := k3 _ _ offp.1 offp.2 ep2
          have k13 := k12.trans k3
          refine ⟨rfl, _, rfl, ite2 (fun c7 => ?_) (fun c7 => ?_)⟩
          · refine ⟨_, rfl, .inl ⟨rfl, _, SqL.of ep3⟩, _, rfl, _, rfl, _, _, _, rfl, rfl, hz, sign_at lt, (by show 3 ≤ sizeLine; decide), fun L nL => ?_⟩
            have sL := same_upd (o := .lst [.str "?", .str "*", .str "b"]) nL
            have offL := hS3.off nL
            refine ⟨_, rfl, d, c, t1 + 1 + 1, 3, rfl, hS3.same sL, by omega, by decide, by decide, fun r4 H4 r40 r41 hS4 k4 => ?_⟩
            obtain ⟨v, ev, hv⟩ := pick_at (xs := [.str "?", .str "*", .str "b"]) (n := 3) rfl r40 r41
            have hv' : ∃ x, v = .str (SX.S x) ∧ TxS 10 (SX.S x) := by
              simp only [List.mem_cons, List.not_mem_nil, or_false] at hv
              rcases hv with rfl | rfl | rfl
              · exact ⟨[63], rfl, (TxS.sg (by decide)).mono (by decide)⟩
              · exact ⟨[42], rfl, (TxS.sg (by decide)).mono (by decide)⟩
              · exact ⟨[98], rfl, (TxS.sg (by decide)).mono (by decide)⟩
            obtain ⟨x2, rfl, hx2⟩ := hv'
            have ep4 := k4 _ _ offp.1 offp.2 (sL _ _ ep3)
            refine ⟨L, _, r4, _, rfl, rfl, SqL.of (k4 _ _ offL.1 offL.2 upd_same), ev, (by show 2 ≤ sizeLine; decide), fun L2 nL2 => ?_⟩
            have s2 := same_upd (o := .lst [.str ⟨#[mk[a]]⟩, .str (SX.S x2)]) nL2
            refine ⟨p, L2, _, _, rfl, rfl, s2 _ _ ep4, upd_same, Nat.le_trans (show _ ≤ 1000 by show (txs ps).length + 2 ≤ 1000; rw [List.length_map]; omega) (by decide), ?_⟩
            have k14 := ((k13.trans (Kp.same d c sL)).trans k4).trans (Kp.same d c s2)
            refine ⟨a, ps ++ [[mk[a]]] ++ [x2], t1 + 1 + 1 + 1, rfl, Nat.le_refl _, lt, by rw [List.length_append, List.length_append]; show ps.length + 1 + 1 ≤ _; omega, (hps.snoc (hch.mono (by decide))).snoc hx2, by rw [upd_same, txs_snoc, txs_snoc, List.append_assoc]; rfl, by omega, by omega, (hS4.same s2).upd offp.1 offp.2, fun b' o b1 b2 e' => ?_⟩
            rw [upd_ne (ne_of_none e' np)]
            exact k14 b' o b1 b2 e'
          · refine ⟨_, rfl, rfl, _, rfl, ite2 (fun c8 => ?_) (fun c8 => ?_)⟩
            · exact ⟨_, rfl, .inl ⟨rfl, _, SqL.of ep3⟩, _, rfl, _, rfl, _, _, _, rfl, rfl, hz, sign_at lt, p, _, _, rfl, rfl, ep3, sml, put [mk[a]] a _ H3 (hch.mono (by decide)) (Nat.le_refl _) lt ep3 (by omega) (by omega) hS3 k13⟩
            · refine ⟨_, rfl, d, c, t1 + 1 + 1, 3, rfl, hS3, by omega, by decide, by decide, fun r4 H4 r40 r41 hS4 k4 => ?_⟩
              have ep4 := k4 _ _ offp.1 offp.2 ep3
              refine ⟨_, _, rfl, rfl, _, rfl, ite2 (fun c9 => ?_) (fun c9 => ?_)⟩
              · exact ⟨_, rfl, .inl ⟨rfl, _, SqL.of ep4⟩, _, rfl, _, rfl, _, _, _, rfl, rfl, hz, sign_at lt, p, _, _, rfl, rfl, ep4, sml, put [mk[a]] a _ H4 (hch.mono (by decide)) (Nat.le_refl _) lt ep4 (by omega) (by omega) hS4 (k13.trans k4)⟩
              · exact none_ _ H4 ep4 (by omega) (by omega) hS4 (k13.trans k4)
        · refine ⟨_, rfl, rfl, _, rfl, ite2 (fun c8 => ?_) (fun c8 => ?_)⟩
          · exact ⟨_, rfl, .inl ⟨rfl, _, SqL.of ep2⟩, _, rfl, _, rfl, _, _, _, rfl, rfl, hz, sign_at lt, p, _, _, rfl, rfl, ep2, sml, put [mk[a]] a _ H2 (hch.mono (by decide)) (Nat.le_refl _) lt ep2 (by omega) (by omega) hS2 k12⟩
          · refine ⟨_, rfl, d, c, t1 + 1, 3, rfl, hS2, by omega, by decide, by decide, fun r4 H4 r40 r41 hS4 k4 => ?_⟩
            have ep4 := k4 _ _ offp.1 offp.2 ep2
            refine ⟨_, _, rfl, rfl, _, rfl, ite2 (fun c9 => ?_) (fun c9 => ?_)⟩
            · exact ⟨_, rfl, .inl ⟨rfl, _, SqL.of ep4⟩, _, rfl, _, rfl, _, _, _, rfl, rfl, hz, sign_at lt, p, _, _, rfl, rfl, ep4, sml, put [mk[a]] a _ H4 (hch.mono (by decide)) (Nat.le_refl _) lt ep4 (by omega) (by omega) hS4 (k12.trans k4)⟩
            · exact none_ _ H4 ep4 (by omega) (by omega) hS4 (k12.trans k4)
      · rintro σ' H' ⟨b, ps', t', rfl, h1, h2, h3, h4, h5, h6, h7, h8, h9⟩
        exact ⟨_, rfl, (b : Int), 1, rfl, rfl, mk.length - (b + 1), by omega, b + 1, ps', t', _, rfl, rfl, by omega, by omega, h4, h5, h6, by omega, h8, h9⟩
    · refine ⟨_, rfl, (by show 1 ≤ sizeLine; decide), fun L nL => ?_⟩
      have sL := same_upd (o := .lst [.str "*"]) nL
      have offL := hS1.off nL
      have nLp : p ≠ L := fun z => by rw [← z, ep] at nL; cases nL
      refine ⟨_, rfl, d, c, t1, 6, rfl, hS1.same sL, by omega, by decide, by decide, fun r2 H2 r20 r21 hS2 k2 => ?_⟩
      have ep2 := k2 _ _ offp.1 offp.2 (sL _ _ ep)
      have eL2 := k2 _ _ offL.1 offL.2 (upd_same (H := H1) (a := L) (o := .lst [.str "*"]))
      have k12 := (k1.trans (Kp.same d c sL)).trans k2
      -- what is told in the end
      have fin : ∀ (k : Bool) (Hn : Hp), Same H2 Hn → ∃ l kk xs, V.ref L = V.ref l ∧ V.int (if k then 1 else 0) = V.int kk ∧ Hn l = some (.lst xs) ∧ -(2 ^ 63) ≤ kk ∧ kk < 2 ^ 63 ∧ xs.length * kk.toNat ≤ sizeLine ∧ ∀ R, Hn R = none → ∃ l2 b2 xs2 zs2, V.ref p = V.ref l2 ∧ V.ref R = V.ref b2 ∧ upd Hn R (.lst (List.replicate kk.toNat xs).flatten) l2 = some (.lst xs2) ∧ upd Hn R (.lst (List.replicate kk.toNat xs).flatten) b2 = some (.lst zs2) ∧ xs2.length + zs2.length ≤ sizeLine ∧ ∀ R2, upd Hn R (.lst (List.replicate kk.toNat xs).flatten) R2 = none → Q (.ref R2) (upd (upd Hn R (.lst (List.replicate kk.toNat xs).flatten)) R2 (.lst (xs2 ++ zs2))) := fun k Hn sn => by
        refine ⟨L, (if k then 1 else 0), _, rfl, rfl, sn _ _ eL2, by cases k <;> decide, by cases k <;> decide, by cases k <;> decide, fun R nR => ?_⟩
        have epn := sn _ _ ep2
        have sR := same_upd (o := .lst (List.replicate (if k then (1 : Int) else 0).toNat [V.str "*"]).flatten) nR
        refine ⟨p, R, _, _, rfl, rfl, sR _ _ epn, upd_same, Nat.le_trans (show _ ≤ 1000 by cases k <;> (rw [List.length_map]; show ps.length + _ ≤ 1000; simp; omega)) (by decide), fun R2 nR2 => ?_⟩
        have sR2 := same_upd (o := .lst (txs ps ++ (List.replicate (if k then (1 : Int) else 0).toNat [V.str "*"]).flatten)) nR2
        have kN : Kp d c H (upd (upd Hn R (.lst (List.replicate (if k then (1 : Int) else 0).toNat [V.str "*"]).flatten)) R2 (.lst (txs ps ++ (List.replicate (if k then (1 : Int) else 0).toNat [V.str "*"]).flatten))) := ((k12.trans (Kp.same d c sn)).trans (Kp.same d c sR)).trans (Kp.same d c sR2)
        have hSn := ((hS2.same sn).same sR).same sR2
        have nH : H R2 = none := (((k12.trans (Kp.same d c sn)).trans (Kp.same d c sR))).free ((hS2.same sn).same sR) nR2
        have fine : ∀ zs : List (List Nat), zs.length ≤ 1 → PtAll zs → (List.replicate (if k then (1 : Int) else 0).toNat [V.str "*"]).flatten = txs zs → Q (.ref R2) (upd (upd Hn R (.lst (List.replicate (if k then (1 : Int) else 0).toNat [V.str "*"]).flatten)) R2 (.lst (txs ps ++ (List.replicate (if k then (1 : Int) else 0).toNat [V.str "*"]).flatten))) := fun zs hzl hzs e => by
          refine q (ps ++ zs) R2 _ _ (by rw [List.length_append]; omega) (fun x hx => ?_) nH (by rw [upd_same, e]; simp [txs]) (by omega) (by omega) hSn kN
          rcases List.mem_append.mp hx with y | y
          · exact hps x y
          · exact hzs x y
        cases k with
        | true => exact fine [[42]] (Nat.le_refl _) (fun x hx => by rw [List.mem_singleton.mp hx]; exact ⟨by decide, fun d hd => by rw [List.mem_singleton.mp hd]; decide⟩) rfl
        | false => exact fine [] (Nat.zero_le _) (fun x hx => nomatch hx) rfl
      refine ⟨rfl, _, rfl, ite2 (fun c2 => ?_) (fun c2 => ?_)⟩
      · exact .inr ⟨true, rfl, fin true H2 (Same.refl _)⟩
      · refine ⟨_, rfl, Nat.zero_le _, fun E2 nE2 => ?_⟩
        have sE := same_upd (o := .lst []) nE2
        exact eq_nil (fun x hx => (hps x hx).2) (sE _ _ ep2) upd_same (.inr ⟨_, rfl, fin _ _ sE⟩)
end

/-! ### slips -/
def optV : Option Nat → V
  | none => .non
  | some n => .int (n : Int)
def slipF (x : List Nat) (c : Nat) : Nat := if x = [63] ∨ c ∈ x then 0 else 1
def better : Option Nat → Option Nat → Option Nat
  | none, c => c
  | some b, none => some b
  | some b, some c => if c < b then some c else some b
def lostF : Option Nat → List (Option Nat) → List (Option Nat)
  | _, [] => []
  | b, c :: r => better b c :: lostF (better b c) r
def signR (x : List Nat) : List Nat → List (Option Nat) → List (Option Nat)
  | [], _ => []
  | _, [] => []
  | c :: m, o :: r => o.map (· + slipF x c) :: signR x m r
def signF (x mk : List Nat) (row : List (Option Nat)) : List (Option Nat) := none :: signR x mk row
def stepF (mk : List Nat) (row : List (Option Nat)) (x : List Nat) : List (Option Nat) := if x = [42] then lostF none row else signF x mk row
def row0 (n : Nat) : List (Option Nat) := some 0 :: List.replicate n none
def rowF (mk : List Nat) (ps : List (List Nat)) : List (Option Nat) := ps.foldl (stepF mk) (row0 mk.length)
def fewF (mk : List Nat) (ps : List (List Nat)) : Option Nat := ((rowF mk ps)[mk.length]?).getD none
theorem lostF_len : ∀ (b : Option Nat) (r : List (Option Nat)), (lostF b r).length = r.length
  | _, [] => rfl
  | b, c :: r => by rw [lostF, List.length_cons, lostF_len, List.length_cons]
theorem signR_len (x : List Nat) : ∀ (m : List Nat) (r : List (Option Nat)), m.length ≤ r.length → (signR x m r).length = m.length
  | [], _, _ => by simp [signR]
  | _ :: _, [], h => by simp at h
  | c :: m, o :: r, h => by
    rw [signR, List.length_cons, signR_len x m r (by simpa using h), List.length_cons]
theorem signF_len (x mk : List Nat) {row : List (Option Nat)} (h : row.length = mk.length + 1) : (signF x mk row).length = mk.length + 1 := by
  rw [signF, List.length_cons, signR_len _ _ _ (by omega)]
theorem stepF_len (mk x : List Nat) {row : List (Option Nat)} (h : row.length = mk.length + 1) : (stepF mk row x).length = mk.length + 1 := by
  unfold stepF
  split
  · rw [lostF_len, h]
  · exact signF_len x mk h
theorem row0_len (n : Nat) : (row0 n).length = n + 1 := by simp [row0]
theorem rowF_snoc (mk : List Nat) (ps : List (List Nat)) (x : List Nat) : rowF mk (ps ++ [x]) = stepF mk (rowF mk ps) x := by simp [rowF]
theorem foldl_len (mk : List Nat) : ∀ (ps : List (List Nat)) (row : List (Option Nat)), row.length = mk.length + 1 → (ps.foldl (stepF mk) row).length = mk.length + 1
  | [], _, h => h
  | x :: r, row, h => foldl_len mk r _ (stepF_len mk x h)
theorem rowF_len (mk : List Nat) (ps : List (List Nat)) : (rowF mk ps).length = mk.length + 1 := foldl_len mk ps _ (row0_len _)
theorem fewF_at (mk : List Nat) (ps : List (List Nat)) : (rowF mk ps)[mk.length]? = some (fewF mk ps) := by
  have h : mk.length < (rowF mk ps).length := by rw [rowF_len]; omega
  unfold fewF
  rw [List.getElem?_eq_getElem h]
  rfl
theorem signR_at (x : List Nat) : ∀ (m : List Nat) (r : List (Option Nat)) (j c : Nat) (o : Option Nat), m[j]? = some c → r[j]? = some o → (signR x m r)[j]? = some (o.map (· + slipF x c))
  | [], _, _, _, _, h, _ => by cases h
  | _ :: _, [], _, _, _, _, h => by cases h
  | d :: m, p :: r, 0, c, o, h1, h2 => by
    cases h1; cases h2
    rfl
  | d :: m, p :: r, j + 1, c, o, h1, h2 => by
    rw [signR]
    exact signR_at x m r j c o (by simpa using h1) (by simpa using h2)
/-- at most so many slips at a place -/
def AtMost (row : List (Option Nat)) (j v : Nat) : Prop := ∃ u, row[j]? = some (some u) ∧ u ≤ v
theorem better_le {b : Option Nat} {c v : Nat} (h : c ≤ v) : ∃ u, better b (some c) = some u ∧ u ≤ v := by
  cases b with
  | none => exact ⟨c, rfl, h⟩
  | some b =>
    by_cases z : c < b
    · exact ⟨c, if_pos z, h⟩
    · exact ⟨b, if_neg z, by omega⟩
theorem better_keep {b : Nat} {c : Option Nat} {v : Nat} (h : b ≤ v) : ∃ u, better (some b) c = some u ∧ u ≤ v := by
  cases c with
  | none => exact ⟨b, rfl, h⟩
  | some c =>
    by_cases z : c < b
    · exact ⟨c, if_pos z, by omega⟩
    · exact ⟨b, if_neg z, h⟩
theorem lost_keep : ∀ (r : List (Option Nat)) (b v j : Nat), b ≤ v → j < r.length → AtMost (lostF (some b) r) j v
  | [], _, _, _, _, h => by simp at h
  | c :: r, b, v, 0, hb, _ => by
    obtain ⟨u, e, hu⟩ := better_keep (c := c) hb
    exact ⟨u, by rw [lostF, e]; rfl, hu⟩
  | c :: r, b, v, j + 1, hb, hj => by
    obtain ⟨u, e, hu⟩ := better_keep (c := c) hb
    have h2 := lost_keep r u v j hu (by simpa using hj)
    rw [lostF, e]
    obtain ⟨u', e', h'⟩ := h2
    exact ⟨u', by simpa using e', h'⟩
theorem lost_at : ∀ (r : List (Option Nat)) (b : Option Nat) (v i j : Nat), AtMost r i v → i ≤ j → j < r.length → AtMost (lostF b r) j v
  | [], _, _, _, _, _, _, h => by simp at h
  | c :: r, b, v, 0, j, ⟨u, e, hu⟩, _, hj => by
    cases e
    obtain ⟨u', e', h'⟩ := better_le (b := b) hu
    rw [lostF, e']
    cases j with
    | zero => exact ⟨u', rfl, h'⟩
    | succ j =>
      obtain ⟨w, e2, h2⟩ := lost_keep r u' v j h' (by simpa using hj)
      exact ⟨w, by simpa using e2, h2⟩
  | c :: r, b, v, i + 1, 0, _, hij, _ => by omega
  | c :: r, b, v, i + 1, j + 1, ⟨u, e, hu⟩, hij, hj => by
    rw [lostF]
    obtain ⟨w, e2, h2⟩ := lost_at r (better b c) v i j ⟨u, by simpa using e, hu⟩ (by omega) (by simpa using hj)
    exact ⟨w, by simpa using e2, h2⟩
theorem step_lost {mk : List Nat} {ps : List (List Nat)} {i j v : Nat} (h : AtMost (rowF mk ps) i v) (hij : i ≤ j) (hj : j ≤ mk.length) : AtMost (rowF mk (ps ++ [[42]])) j v := by
  rw [rowF_snoc]
  unfold stepF
  rw [if_pos rfl]
  exact lost_at _ _ _ _ _ h hij (by rw [rowF_len]; omega)
theorem step_sign {mk : List Nat} {ps : List (List Nat)} {x : List Nat} {i c v : Nat} (h : AtMost (rowF mk ps) i v) (hc : mk[i]? = some c) (hx : x ≠ [42]) : AtMost (rowF mk (ps ++ [x])) (i + 1) (v + slipF x c) := by
  obtain ⟨u, e, hu⟩ := h
  rw [rowF_snoc]
  unfold stepF
  rw [if_neg hx, signF]
  refine ⟨u + slipF x c, ?_, by omega⟩
  rw [List.getElem?_cons_succ, signR_at x mk _ i c _ hc e]
  rfl
theorem AtMost.mono {row : List (Option Nat)} {j v w : Nat} (h : AtMost row j v) (le : v ≤ w) : AtMost row j w := let ⟨u, e, hu⟩ := h; ⟨u, e, by omega⟩
/-! parts none of which is lost: one way alone -/
def cost : List Nat → List (List Nat) → Nat
  | c :: m, x :: r => slipF x c + cost m r
  | _, _ => 0
/-- one number at place k, nothing else, of n + 1 -/
def loneR (n k v : Nat) : List (Option Nat) := (List.range (n + 1)).map fun j => if j = k then some v else none
theorem loneR_len (n k v : Nat) : (loneR n k v).length = n + 1 := by simp [loneR]
theorem loneR_at {n k v j : Nat} (h : j ≤ n) : (loneR n k v)[j]? = some (if j = k then some v else none) := by
  unfold loneR
  rw [List.getElem?_map, List.getElem?_range (by omega)]
  rfl
theorem row0_lone (n : Nat) : row0 n = loneR n 0 0 := by
  refine List.ext_getElem? fun j => ?_
  by_cases h : j ≤ n
  · rw [loneR_at h]
    unfold row0
    cases j with
    | zero => rfl
    | succ j => rw [List.getElem?_cons_succ, List.getElem?_replicate, if_pos (by omega), if_neg (by omega)]
  · rw [List.getElem?_eq_none (by rw [row0_len]; omega), List.getElem?_eq_none (by rw [loneR_len]; omega)]
theorem sign_lone (mk : List Nat) (x : List Nat) (k v : Nat) : signF x mk (loneR mk.length k v) = loneR mk.length (k + 1) (v + (match mk[k]? with | some c => slipF x c | none => 0)) := by
  refine List.ext_getElem? fun j => ?_
  by_cases h : j ≤ mk.length
  · rw [loneR_at h]
    cases j with
    | zero =>
      rw [if_neg (by omega)]
      rfl
    | succ j =>
      have hj : mk[j]? = some mk[j] := List.getElem?_eq_getElem (by omega)
      rw [signF, List.getElem?_cons_succ, signR_at x mk _ j mk[j] _ hj (loneR_at (by omega))]
      by_cases e : j = k
      · subst e
        rw [if_pos rfl, if_pos rfl, hj]
        rfl
      · rw [if_neg e, if_neg (by omega)]
        rfl
  · rw [List.getElem?_eq_none (by rw [signF_len _ _ (loneR_len ..)]; omega), List.getElem?_eq_none (by rw [loneR_len]; omega)]
theorem fold_lone (mk : List Nat) : ∀ (ps : List (List Nat)) (k v : Nat), (∀ x ∈ ps, x ≠ [42]) → ps.foldl (stepF mk) (loneR mk.length k v) = loneR mk.length (k + ps.length) (v + cost (mk.drop k) ps)
  | [], k, v, _ => by
    have : cost (mk.drop k) [] = 0 := by cases mk.drop k <;> rfl
    rw [List.foldl_nil, this]
    rfl
  | x :: r, k, v, h => by
    rw [List.foldl_cons, stepF, if_neg (h x (List.mem_cons_self ..)), sign_lone, fold_lone mk r _ _ fun y hy => h y (List.mem_cons_of_mem _ hy), List.length_cons]
    have e1 : k + 1 + r.length = k + (r.length + 1) := by omega
    rw [e1]
    congr 1
    cases hk : mk[k]? with
    | none =>
      have hl : mk.length ≤ k := List.getElem?_eq_none_iff.mp hk
      rw [List.drop_eq_nil_of_le hl, List.drop_eq_nil_of_le (by omega)]
      show v + 0 + cost [] r = v + cost [] (x :: r)
      cases r <;> rfl
    | some c =>
      obtain ⟨lt, e⟩ := List.getElem?_eq_some_iff.mp hk
      rw [List.drop_eq_getElem_cons lt, e]
      show v + slipF x c + cost (mk.drop (k + 1)) r = v + (slipF x c + cost (mk.drop (k + 1)) r)
      omega
theorem few_plain {mk : List Nat} {ps : List (List Nat)} (h : ∀ x ∈ ps, x ≠ [42]) : fewF mk ps = if mk.length = ps.length then some (cost mk ps) else none := by
  have e := fewF_at mk ps
  unfold rowF at e
  rw [row0_lone, fold_lone mk ps 0 0 h, loneR_at (Nat.le_refl _)] at e
  rw [← Option.some.inj e, Nat.zero_add, Nat.zero_add, List.drop_zero]
theorem few_lost (mk : List Nat) : fewF mk [[42]] = some 0 := by
  have h0 : AtMost (rowF mk []) 0 0 := ⟨0, rfl, Nat.le_refl _⟩
  obtain ⟨u, e, hu⟩ := step_lost h0 (Nat.zero_le mk.length) (Nat.le_refl _)
  have e2 := fewF_at mk [[42]]
  rw [show ([] : List (List Nat)) ++ [[42]] = [[42]] from rfl] at e
  rw [e] at e2
  rw [← Option.some.inj e2, show u = 0 by omega]
theorem cost_unread : ∀ (mk : List Nat) (n : Nat), cost mk (List.replicate n [63]) = 0
  | [], n => by cases n <;> rfl
  | c :: m, 0 => rfl
  | c :: m, n + 1 => by
    rw [List.replicate_succ, cost, cost_unread m n]
    unfold slipF
    rw [if_pos (.inl rfl)]
theorem cost_own : ∀ (mk m : List Nat), mk.length = m.length → (∀ c ∈ m, c ≠ 63) → (cost mk (m.map fun c => [c]) = 0 ↔ mk = m)
  | [], [], _, _ => by simp [cost]
  | [], _ :: _, h, _ => by simp at h
  | _ :: _, [], h, _ => by simp at h
  | d :: mk, c :: m, h, h63 => by
    rw [List.map_cons, cost]
    have ih := cost_own mk m (by simpa using h) fun c hc => h63 c (List.mem_cons_of_mem _ hc)
    have hc : c ≠ 63 := h63 c (List.mem_cons_self ..)
    unfold slipF
    by_cases e : d = c
    · subst e
      rw [if_pos (.inr (List.mem_singleton.mpr rfl)), Nat.zero_add, ih]
      constructor
      · intro z; rw [z]
      · intro z; exact (List.cons.inj z).2
    · rw [if_neg (fun z => z.elim (fun y => hc (by simpa using y)) fun y => e (List.mem_singleton.mp y))]
      constructor
      · intro z; omega
      · intro z; exact absurd (List.cons.inj z).1 e
/-! the parts written and read again -/
def wr (x : List Nat) : List Nat := if x.length = 1 then x else 91 :: (x ++ [93])
def GdP (x : List Nat) : Prop := (∃ c, x = [c] ∧ c ≠ 91 ∧ plainSg c = true) ∨ (isCh x = true)
theorem ch_no93 {x : List Nat} (h : isCh x = true) : ∀ c ∈ x, c ≠ 93 := fun c hc z => by
  unfold isCh at h
  rw [Bool.and_eq_true, List.all_eq_true] at h
  have := of_decide_eq_true (h.2 c hc)
  rw [z] at this
  exact (by decide +kernel : (93 : Nat) ∉ sg36) this
theorem inner_app : ∀ (x r : List Nat), (∀ c ∈ x, c ≠ 93) → inner (x ++ 93 :: r) = x
  | [], r, _ => by
    unfold inner
    rw [List.nil_append, List.takeWhile_cons, if_neg (by decide)]
  | c :: x, r, h => by
    have ih := inner_app x r fun d hd => h d (List.mem_cons_of_mem _ hd)
    unfold inner at ih ⊢
    rw [List.cons_append, List.takeWhile_cons, if_pos (decide_eq_true (h c (List.mem_cons_self ..))), ih]
theorem parse_wr : ∀ ps : List (List Nat), (∀ x ∈ ps, GdP x) → parse (ps.map wr).flatten = some ps
  | [], _ => by
    rw [List.map_nil, List.flatten_nil, parse_nil]
  | x :: r, h => by
    have ih := parse_wr r fun y hy => h y (List.mem_cons_of_mem _ hy)
    rw [List.map_cons, List.flatten_cons]
    rcases h x (List.mem_cons_self ..) with ⟨c, rfl, h1, h2⟩ | hc
    · rw [wr, if_pos (show [c].length = 1 from rfl)]
      show parse (c :: (r.map wr).flatten) = _
      rw [parse_one h1 h2, ih]
      rfl
    · have l2 : x.length ≠ 1 := fun z => by
        unfold isCh at hc
        rw [Bool.and_eq_true, Bool.and_eq_true, Bool.and_eq_true] at hc
        have := of_decide_eq_true hc.1.1.1
        omega
      rw [wr, if_neg l2]
      show parse (91 :: (x ++ [93] ++ (r.map wr).flatten)) = _
      rw [List.append_assoc]
      show parse (91 :: (x ++ 93 :: (r.map wr).flatten)) = _
      have e := inner_app x (r.map wr).flatten (ch_no93 hc)
      rw [parse_open (by rw [e, List.length_append, List.length_cons]; omega) (by rw [e]; exact hc), e]
      have ed : (x ++ 93 :: (r.map wr).flatten).drop (x.length + 1) = (r.map wr).flatten := by
        rw [List.drop_append, List.drop_eq_nil_of_le (by omega), Nat.add_sub_cancel_left]
        rfl
      rw [ed, ih]
      rfl

/-! ### the program's slips -/
/-- a sign so many times -/
def rRepC : R2 := fun x y H Q => ∃ (c k : Nat), x = .str ⟨#[c]⟩ ∧ y = .int (k : Int) ∧ 1 ≤ k ∧ k ≤ 1000 ∧ Q (.str (SX.S (List.replicate k c))) H
theorem fold_rep (c : Nat) : ∀ (k : Nat) (a : Array Nat), (List.replicate k (#[c] : Array Nat)).foldl (· ++ ·) a = a ++ (List.replicate k c).toArray
  | 0, a => by simp
  | k + 1, a => by
    rw [List.replicate_succ, List.foldl_cons, fold_rep c k, List.replicate_succ]
    apply Array.ext'
    simp
theorem op_repC {X : Cx} : OpR X (binaryOp .Mult) rRepC := by
  intro pins s σ H x y v u Q I rx ry h
  obtain ⟨c, k, rfl, rfl, h1, h2, q⟩ := h
  obtain ⟨t, rfl⟩ := rx
  obtain ⟨t', rfl⟩ := ry
  refine PySem.P.mul_str ?_ ?_ ?_ ?_
  · rw [decide_eq_false (by omega), decide_eq_false (by omega)]; rfl
  · intro _ _
    show ¬ ((1 : Int) > (2 ^ 63 - 1) / (k : Int))
    have : (1 : Int) ≤ (2 ^ 63 - 1) / (k : Int) := (Int.le_ediv_iff_mul_le (by omega)).mpr (by omega)
    omega
  · intro _ _
    show decide (1 * (k : Int).toNat > sizeLine) = false
    rw [sizeLine_eq]
    exact decide_eq_false (by omega)
  · rw [if_neg (show ¬ (k : Int) < 1 by omega)]
    by_cases h3 : k = 1
    · subst h3
      exact ⟨.str ⟨#[c]⟩, H, I, ⟨t, rfl⟩, q⟩
    · have e : (((k : Int) == 1) || ((⟨#[c]⟩ : Str).length == 0)) = false := by
        have e1 : ((k : Int) == 1) = false := by
          rw [Bool.eq_false_iff]
          intro z
          have := eq_of_beq z
          omega
        rw [e1]
        rfl
      rw [if_neg (by rw [e]; decide), Int.toNat_natCast]
      have e2 : (⟨(List.replicate k (#[c] : Array Nat)).foldl (· ++ ·) #[]⟩ : Str) = SX.S (List.replicate k c) := by
        rw [fold_rep]
        simp [SX.S]
      show (Made.str (⟨(List.replicate k (#[c] : Array Nat)).foldl (· ++ ·) #[]⟩ : Str)).post _ _
      rw [e2]
      refine ⟨?_, ⟨.str (SX.S (List.replicate k c)), H, I.tok _, ⟨_, rfl⟩, q⟩⟩
      rw [SX.S_len, List.length_replicate, sizeLine_eq]
      omega
theorem lost_take : ∀ (r : List (Option Nat)) (b : Option Nat) (i : Nat) (c : Option Nat), r[i]? = some c → (lostF b r).take (i + 1) = (lostF b r).take i ++ [better ((r.take i).foldl better b) c]
  | [], _, _, _, h => by cases h
  | d :: r, b, 0, c, h => by
    cases h
    rfl
  | d :: r, b, i + 1, c, h => by
    have ih := lost_take r (better b d) i c (by simpa using h)
    rw [lostF, List.take_succ_cons, ih]
    rfl
theorem sign_take (x : List Nat) : ∀ (m : List Nat) (r : List (Option Nat)) (i c : Nat) (o : Option Nat), m[i]? = some c → r[i]? = some o → (signR x m r).take (i + 1) = (signR x m r).take i ++ [o.map (· + slipF x c)] := fun m r i c o h1 h2 => by
  rw [List.take_add_one, signR_at x m r i c o h1 h2]
  rfl
theorem rep_one {α : Type} (v : α) : ∀ n : Nat, (List.replicate n [v]).flatten = List.replicate n v
  | 0 => rfl
  | n + 1 => by rw [List.replicate_succ, List.flatten_cons, rep_one v n]; rfl
def rowV (row : List (Option Nat)) : List V := row.map optV
def spRefuse (Pt : Addr) : Sp := fun vs H Q _ => ∃ l : List Nat, vs = [.str (SX.S l)] ∧ l.length ≤ 1000 ∧ GxR.TabG H Pt ∧ isRd l = true ∧ ∀ H2 p ps, Tbk Pt H H2 → parse l = some ps → H p = none → H2 p = some (.lst (txs ps)) → Q (.ref p) H2
def spSlip : Sp := fun vs H Q _ => ∃ (x : List Nat) (c : Nat), vs = [.str (SX.S x), .str ⟨#[c]⟩] ∧ Q (.int (slipF x c : Nat)) H
def spBLost : Sp := fun vs H Q _ => ∃ (a : Addr) (row : List (Option Nat)), vs = [.ref a] ∧ H a = some (.lst (rowV row)) ∧ row.length ≤ 950 ∧ ∀ p H', H p = none → Same H H' → H' p = some (.lst (rowV (lostF none row))) → Q (.ref p) H'
def spBSign : Sp := fun vs H Q _ => ∃ (x mk : List Nat) (a : Addr) (row : List (Option Nat)), vs = [.str (SX.S x), .str (SX.S mk), .ref a] ∧ H a = some (.lst (rowV row)) ∧ row.length = mk.length + 1 ∧ mk.length ≤ 900 ∧ ∀ p H', H p = none → Same H H' → H' p = some (.lst (rowV (signF x mk row))) → Q (.ref p) H'
def spFew : Sp := fun vs H Q _ => ∃ (a : Addr) (ps : List (List Nat)) (mk : List Nat), vs = [.ref a, .str (SX.S mk)] ∧ H a = some (.lst (txs ps)) ∧ ps.length ≤ 1000 ∧ mk.length ≤ 900 ∧ ∀ H', Same H H' → Q (optV (fewF mk ps)) H'
abbrev sRefuse : Stmt := topS 22
theorem scRefuse : FnScope ["reading", "parts"] ["reading"] (defScope sRefuse) := ⟨rfl, rfl, rfl, by decide +kernel, rfl, by decide +kernel, by decide +kernel⟩
abbrev sSlip : Stmt := topS 23
theorem scSlip : FnScope ["part", "sign"] ["part", "sign"] (defScope sSlip) := ⟨rfl, rfl, rfl, by decide +kernel, rfl, by decide +kernel, by decide +kernel⟩
abbrev sBLost : Stmt := topS 24
theorem scBLost : FnScope ["slips", "row", "best", "count"] ["slips"] (defScope sBLost) := ⟨rfl, rfl, rfl, by decide +kernel, rfl, by decide +kernel, by decide +kernel⟩
abbrev sBSign : Stmt := topS 25
theorem scBSign : FnScope ["part", "mark", "slips", "row", "sign", "count"] ["part", "mark", "slips"] (defScope sBSign) := ⟨rfl, rfl, rfl, by decide +kernel, rfl, by decide +kernel, by decide +kernel⟩
abbrev sFew : Stmt := topS 26
theorem scFew : FnScope ["parts", "mark", "slips", "part"] ["parts", "mark"] (defScope sFew) := ⟨rfl, rfl, rfl, by decide +kernel, rfl, by decide +kernel, by decide +kernel⟩
theorem parse_le : ∀ (n : Nat) (l : List Nat) (ps : List (List Nat)), l.length ≤ n → parse l = some ps → ps.length ≤ l.length
  | n, [], ps, _, h => by
    rw [parse_nil] at h
    cases h
    exact Nat.le_refl _
  | 0, c :: r, ps, h, _ => by simp at h
  | n + 1, c :: r, ps, hn, h => by
    have hr : r.length ≤ n := by simpa using hn
    by_cases hc : c = 91
    · subst hc
      by_cases hb : (inner r).length < r.length ∧ isCh (inner r) = true
      · rw [parse_open hb.1 hb.2] at h
        cases hp : parse (r.drop ((inner r).length + 1)) with
        | none => rw [hp] at h; cases h
        | some q =>
          rw [hp] at h
          cases h
          have := parse_le n _ q (by rw [List.length_drop]; omega) hp
          rw [List.length_drop] at this
          simp only [List.length_cons]
          omega
      · rw [parse_bad hb] at h
        cases h
    · cases hp1 : plainSg c with
      | false => rw [parse_no hc hp1] at h; cases h
      | true =>
        rw [parse_one hc hp1] at h
        cases hp : parse r with
        | none => rw [hp] at h; cases h
        | some q =>
          rw [hp] at h
          cases h
          have := parse_le n _ q hr hp
          simp only [List.length_cons]
          omega
theorem isRd_some {l : List Nat} (h : isRd l = true) : ∃ ps, parse l = some ps ∧ ps.length ≤ l.length := by
  unfold isRd at h
  cases hp : parse l with
  | none => rw [hp] at h; cases h
  | some ps => exact ⟨ps, rfl, parse_le _ _ _ (Nat.le_refl _) hp⟩
theorem Tbk.lst {Pt : Addr} {H H2 : Hp} {p : Addr} {xs : List V} (x : Tbk Pt H H2) (g : GxR.TabG H Pt) (e : H p = some (.lst xs)) : H2 p = some (.lst xs) := by
  obtain ⟨ps, eP, _⟩ := g
  exact x.2 _ _ (ne_of e eP (fun z => nomatch z)) e
theorem un_eq {x : List Nat} {z : Str} {d : Nat} (hz : z = SX.S [d]) : (V.str (SX.S x) = V.str z) ↔ x = [d] := by
  subst hz
  exact ⟨fun h => SX.S_inj (V.str.inj h), fun h => by rw [h]⟩
section
variable {K : PySem.W.Frag} {mg : Str → Option Value} {P : Program} {w : World} {base : Heap}
theorem ok_Refuse {f : Addr} {fd : FuncData} (F : Fun K "parts_or_refuse" "parts_or_refuse" sRefuse f fd) (C_parts_of : Cal P w K mg base 2 "parts_of" ["text"] (spPartsOf Pt)) : FnOk P w K mg base CX0 3 f fd ["reading"] (spRefuse Pt) := by
  refine F.ok scRefuse (fun vs H Q E h => ?_) (fun cdv A outer s H vs Q E hr h => ?_)
  · obtain ⟨l, rfl, _⟩ := h
    rfl
  · obtain ⟨l, rfl, hl, hT, hR, q⟩ := h
    refine ⟨_, pss_cons (ps_set (i := 1) scRefuse.nd rfl (.inl rfl) (pe_own C_parts_of hr (by rfl) (pa_cons (pv 0) pa_nil)))
      (pss_cons (ps_if (pt_cmpR op_isN (pv 1) pe_non (nomark _)) pss_never
        pss_nil)
      (pss_one (ps_ret (pv 1)))), ?_⟩
    refine ⟨_, rfl, l, rfl, hl, hT, fun H2 h2 e => ?_, fun H2 p ps h2 e hp np ep => ?_⟩
    · rw [hR] at e; cases e
    · exact ⟨_, rfl, rfl, _, rfl, ite2 (fun z => nomatch z) (fun _ => ⟨_, rfl, q H2 p ps h2 hp np ep⟩)⟩
theorem ok_Slip {f : Addr} {fd : FuncData} (F : Fun K "slip_of" "slip_of" sSlip f fd) (c_UNREAD : ∃ u, mg "UNREAD" = some u ∧ RelV (.str "?") u) : FnOk P w K mg base CX0 1 f fd ["part", "sign"] spSlip := by
  refine F.ok scSlip (fun vs H Q E h => ?_) (fun cdv A outer s H vs Q E hr h => ?_)
  · obtain ⟨x, c, rfl, _⟩ := h
    rfl
  · obtain ⟨x, c, rfl, q⟩ := h
    refine ⟨_, pss_one (ps_ret (pe_ifExp (PW.pt (pw_or (pt_cmpR op_eq (pv 0) (C8.pe_gc (by rfl) c_UNREAD) (nomark _)) (pw_or1 (pt_cmpR op_in_sign (pv 1) (pv 0) (by rfl))))) pe_int pe_int)), ?_⟩
    refine ⟨_, rfl, rfl, _, rfl, ite2 (fun c1 => ite2 (fun _ => ?_) (fun z => absurd rfl z)) (fun c1 => ?_)⟩
    · have e : x = [63] := (un_eq (d := 63) rfl).mp (of_decide_eq_true c1)
      have : slipF x c = 0 := by unfold slipF; rw [if_pos (.inl e)]
      rw [this] at q
      exact q
    · have e : x ≠ [63] := fun z => c1 (decide_eq_true ((un_eq (d := 63) rfl).mpr z))
      refine ⟨_, rfl, _, rfl, c, SX.S x, rfl, rfl, _, rfl, ite2 (fun c2 => ?_) (fun c2 => ?_)⟩
      · have m : c ∈ x := by
          have := of_decide_eq_true c2
          rwa [S_cps] at this
        have : slipF x c = 0 := by unfold slipF; rw [if_pos (.inr m)]
        rw [this] at q
        exact q
      · have m : c ∉ x := fun z => c2 (decide_eq_true (by rw [S_cps]; exact z))
        have : slipF x c = 1 := by unfold slipF; rw [if_neg (fun z => z.elim e m)]
        rw [this] at q
        exact q
theorem ok_BLost {f : Addr} {fd : FuncData} (F : Fun K "behind_lost" "behind_lost" sBLost f fd) : FnOk P w K mg base CX0 1 f fd ["slips"] spBLost := by
  refine F.ok scBLost (fun vs H Q E h => ?_) (fun cdv A outer s H vs Q E hr h => ?_)
  · obtain ⟨a, row, rfl, _⟩ := h
    rfl
  · obtain ⟨a, row, rfl, ha, hl, q⟩ := h
    refine ⟨_, pss_cons (ps_set (i := 1) scBLost.nd rfl (.inl rfl) (pe_lst pa_nil))
      (pss_cons (ps_set (i := 2) scBLost.nd rfl (.inl rfl) pe_non)
      (pss_cons (ps_for PassesOwn.never rfl (pi_list (pv 0)) (pg_name (i := 3) scBLost.nd rfl (.inl rfl))
        (Evl.pss_cut (ps_if (PW.pt (pw_or (pt_cmpR op_isN (pv 2) pe_non (nomark _)) (pw_or1 (PW.pt (pw_and (pt_cmpR op_notN (pv 3) pe_non (nomark _)) (pw_and1 (pt_cmpR op_lt (pv 3) (pv 2) (nomark _)))))))) (pss_one (ps_set (i := 2) scBLost.nd rfl (.inl rfl) (pv 3)))
          pss_nil)
        (pss_one (ps_expr (pe_bm PySem.F.plainAttrs_list PySem.F.slot_list_append PySem.F.type_list_append mt_append (pv 1) (pa_cons (pv 2) pa_nil))))))
      (pss_one (ps_ret (pv 1))))), ?_⟩
    refine ⟨Nat.zero_le _, fun p np => ?_⟩
    have s0 := same_upd (o := .lst []) np
    refine ⟨_, rfl, a, rfl, ⟨_, SqL.of (s0 _ _ ha)⟩, for_list (xs := rowV row) (fun i σ Hx => ∃ y3 : Option V, σ = [some (.ref a), some (.ref p), some (optV ((row.take i).foldl better none)), y3] ∧ Same H Hx ∧ Hx p = some (.lst (rowV ((lostF none row).take i)))) ⟨_, rfl, s0, upd_same⟩ (fun i σ Hx _ hP => ?_) (fun i x σ Hx hx hP => ?_) (fun σ Hx hP => ?_)⟩
    · obtain ⟨y3, rfl, sm, ep⟩ := hP
      exact SqL.of (sm _ _ ha)
    · obtain ⟨y3, rfl, sm, ep⟩ := hP
      have hx' : row[i]?.map optV = some x := by rw [← List.getElem?_map]; exact hx
      cases hc : row[i]? with
      | none => rw [hc] at hx'; cases hx'
      | some c =>
        rw [hc] at hx'
        cases hx'
        have lt := (List.getElem?_eq_some_iff.mp hc).1
        have ef : (row.take (i + 1)).foldl better none = better ((row.take i).foldl better none) c := by
          rw [List.take_add_one, hc, List.foldl_append]
          rfl
        refine ⟨fun σ' H' => σ' = [some (.ref a), some (.ref p), some (optV (better ((row.take i).foldl better none) c)), some (optV c)] ∧ H' = Hx, ?_, ?_⟩
        · generalize (row.take i).foldl better none = b
          cases b with
          | none => exact ⟨_, rfl, rfl, _, rfl, ite2 (fun _ => ite2 (fun _ => ⟨_, rfl, rfl, rfl⟩) (fun z => absurd rfl z)) (fun z => absurd (by rfl) z)⟩
          | some b =>
            refine ⟨_, rfl, rfl, _, rfl, ite2 (fun z => nomatch z) (fun _ => ?_)⟩
            cases c with
            | none => exact ⟨_, rfl, rfl, _, rfl, ite2 (fun z => nomatch z) (fun _ => ite2 (fun z => nomatch z) (fun _ => ⟨rfl, rfl⟩))⟩
            | some c =>
              refine ⟨_, rfl, rfl, _, rfl, ite2 (fun _ => ?_) (fun z => absurd (by rfl) z)⟩
              refine ⟨_, rfl, _, rfl, _, _, rfl, rfl, _, rfl, ite2 (fun c1 => ?_) (fun c1 => ?_)⟩
              · have lt2 : c < b := by have := of_decide_eq_true c1; omega
                have e : better (some b) (some c) = some c := if_pos lt2
                rw [e]
                exact ⟨_, rfl, rfl, rfl⟩
              · have lt2 : ¬ c < b := fun z => c1 (decide_eq_true (by omega))
                have e : better (some b) (some c) = some b := if_neg lt2
                rw [e]
                exact ⟨rfl, rfl⟩
        · rintro σ' H' ⟨rfl, rfl⟩
          have el : rowV ((lostF none row).take (i + 1)) = rowV ((lostF none row).take i) ++ [optV (better ((row.take i).foldl better none) c)] := by
            rw [lost_take row none i c hc]
            simp [rowV]
          refine ⟨_, rfl, .inl ⟨rfl, _, SqL.of ep⟩, _, rfl, p, _, _, rfl, rfl, ep, small1000 (by unfold rowV; rw [List.length_map, List.length_take]; omega), ?_⟩
          rw [← el]
          refine ⟨_, by rw [ef], fun b o e => ?_, upd_same⟩
          rw [upd_ne (ne_of_none e np)]
          exact sm b o e
    · obtain ⟨y3, rfl, sm, ep⟩ := hP
      unfold rowV at ep
      rw [List.length_map, ← lostF_len none row, List.take_length] at ep
      exact ⟨_, rfl, q p Hx np sm ep⟩
theorem ok_BSign {f : Addr} {fd : FuncData} (F : Fun K "behind_sign" "behind_sign" sBSign f fd) (C_slip_of : Cal P w K mg base 1 "slip_of" ["part", "sign"] spSlip) (m_zip : mg "zip" = none) : FnOk P w K mg base CX0 2 f fd ["part", "mark", "slips"] spBSign := by
  refine F.ok scBSign (fun vs H Q E h => ?_) (fun cdv A outer s H vs Q E hr h => ?_)
  · obtain ⟨x, mk, a, row, rfl, _⟩ := h
    rfl
  · obtain ⟨x, mk, a, row, rfl, ha, hl, hm, q⟩ := h
    refine ⟨_, pss_cons (ps_set (i := 3) scBSign.nd rfl (.inl rfl) (pe_lst (pa_cons pe_non pa_nil)))
      (pss_cons (ps_for PassesOwn.never rfl (pi_zipX (by rfl) m_zip (pa_cons (pv 1) (pa_cons (pv 2) pa_nil))) (pg_tup rfl (pgs_cons (pg_name (i := 4) scBSign.nd rfl (.inl rfl)) (pgs_cons (pg_name (i := 5) scBSign.nd rfl (.inl rfl)) pgs_nil)))
        (pss_one (ps_expr (pe_bm PySem.F.plainAttrs_list PySem.F.slot_list_append PySem.F.type_list_append mt_append (pv 3) (pa_cons (pe_ifExp (pt_cmpR op_isN (pv 5) pe_non (nomark _)) pe_non (pe_op op_add (pv 5) (pe_own C_slip_of hr (by rfl) (pa_cons (pv 0) (pa_cons (pv 4) pa_nil))))) pa_nil)))))
      (pss_one (ps_ret (pv 3)))), ?_⟩
    refine ⟨(by show 1 ≤ sizeLine; decide), fun p np => ?_⟩
    have s0 := same_upd (o := .lst [.non]) np
    have npa : a ≠ p := fun z => by rw [← z, ha] at np; cases np
    refine ⟨_, rfl, _, rfl, SX.S mk, a, rowV row, rfl, SqL.of (s0 _ _ ha), for_zipX (ys := rowV row) (by unfold rowV; rw [List.length_map]; omega) (fun i σ Hx => ∃ y4 y5 : Option V, σ = [some (.str (SX.S x)), some (.str (SX.S mk)), some (.ref a), some (.ref p), y4, y5] ∧ Same H Hx ∧ Hx p = some (.lst (.non :: rowV ((signR x mk row).take i)))) ⟨_, _, rfl, s0, upd_same⟩ (fun i σ Hx hP => ?_) (fun i c y T σ Hx hc hy hP nT => ?_) (fun σ Hx hP => ?_)⟩
    · obtain ⟨y4, y5, rfl, sm, ep⟩ := hP
      exact sm _ _ ha
    · obtain ⟨y4, y5, rfl, sm, ep⟩ := hP
      have sT := same_upd (o := .tup [.str ⟨#[c]⟩, y]) nT
      have eT : upd Hx T (.tup [.str ⟨#[c]⟩, y]) T = some (.tup [.str ⟨#[c]⟩, y]) := upd_same
      have ep1 := sT _ _ ep
      have sm1 := sm.trans sT
      revert sT eT ep1 sm1
      generalize upd Hx T (.tup [.str ⟨#[c]⟩, y]) = H1
      intro sT eT ep1 sm1
      refine ⟨T, _, rfl, .inl (.inl eT), rfl, _, _, rfl, _, _, rfl, rfl, ?_⟩
      have hy' : row[i]?.map optV = some y := by rw [← List.getElem?_map]; exact hy
      have hil := (List.getElem?_eq_some_iff.mp hc).1
      have sml : (V.non :: rowV ((signR x mk row).take i)).length < sizeLine := small1000 (by unfold rowV; rw [List.length_cons, List.length_map, List.length_take]; omega)
      cases ho : row[i]? with
      | none => rw [ho] at hy'; cases hy'
      | some o =>
        rw [ho] at hy'
        cases hy'
        have el : V.non :: rowV ((signR x mk row).take (i + 1)) = (V.non :: rowV ((signR x mk row).take i)) ++ [optV (o.map (· + slipF x c))] := by
          rw [sign_take x mk row i c o hc ho]
          simp [rowV]
        have fin : ∀ v, v = optV (o.map (· + slipF x c)) → ∃ y4 y5 : Option V, [some (V.str (SX.S x)), some (V.str (SX.S mk)), some (V.ref a), some (V.ref p), some (V.str ⟨#[c]⟩), some (optV o)] = [some (.str (SX.S x)), some (.str (SX.S mk)), some (.ref a), some (.ref p), y4, y5] ∧ Same H (upd H1 p (.lst ((V.non :: rowV ((signR x mk row).take i)) ++ [v]))) ∧ upd H1 p (.lst ((V.non :: rowV ((signR x mk row).take i)) ++ [v])) p = some (.lst (.non :: rowV ((signR x mk row).take (i + 1)))) := fun v e => by
          subst e
          refine ⟨_, _, rfl, fun b ob eb => ?_, by rw [upd_same, el]⟩
          rw [upd_ne (ne_of_none eb np)]
          exact sm1 b ob eb
        refine ⟨_, rfl, .inl ⟨rfl, _, SqL.of ep1⟩, ?_⟩
        cases o with
        | none => exact ⟨_, rfl, rfl, _, rfl, ite2 (fun _ => ⟨p, _, _, rfl, rfl, ep1, sml, fin _ rfl⟩) (fun z => absurd (by rfl) z)⟩
        | some n =>
          refine ⟨_, rfl, rfl, _, rfl, ite2 (fun z => nomatch z) (fun _ => ?_)⟩
          refine ⟨_, rfl, _, rfl, _, rfl, x, c, rfl, (n : Int), _, rfl, rfl, p, _, _, rfl, rfl, ep1, sml, fin _ ?_⟩
          rfl
    · obtain ⟨y4, y5, rfl, sm, ep⟩ := hP
      rw [← signR_len x mk row (by omega), List.take_length] at ep
      exact ⟨_, rfl, q p Hx np sm ep⟩
theorem ok_Few {f : Addr} {fd : FuncData} (F : Fun K "fewest" "fewest" sFew f fd) (C_behind_lost : Cal P w K mg base 1 "behind_lost" ["slips"] spBLost) (C_behind_sign : Cal P w K mg base 2 "behind_sign" ["part", "mark", "slips"] spBSign) (c_LOST : ∃ u, mg "LOST" = some u ∧ RelV (.str "*") u) (m_len : mg "len" = none) : FnOk P w K mg base CX0 3 f fd ["parts", "mark"] spFew := by
  refine F.ok scFew (fun vs H Q E h => ?_) (fun cdv A outer s H vs Q E hr h => ?_)
  · obtain ⟨a, ps, mk, rfl, _⟩ := h
    rfl
  · obtain ⟨a, ps, mk, rfl, ha, hl, hm, q⟩ := h
    refine ⟨_, pss_cons (ps_set (i := 2) scFew.nd rfl (.inl rfl) (pe_op op_cat (pe_lst (pa_cons pe_int pa_nil)) (pe_op op_rep (pe_lst (pa_cons pe_non pa_nil)) (pe_callB call_len_str (by rfl) m_len PySem.boot_len (pa_cons (pv 1) pa_nil)))))
      (pss_cons (ps_for PassesOwn.never rfl (pi_list (pv 0)) (pg_name (i := 3) scFew.nd rfl (.inl rfl))
        (pss_one (ps_set (i := 2) scFew.nd rfl (.inl rfl) (pe_ifExp (pt_cmpR op_eq (pv 3) (C8.pe_gc (by rfl) c_LOST) (nomark _)) (pe_own C_behind_lost (hr.mono (show 1 ≤ 2 by decide)) (by rfl) (pa_cons (pv 2) pa_nil)) (pe_own C_behind_sign hr (by rfl) (pa_cons (pv 3) (pa_cons (pv 1) (pa_cons (pv 2) pa_nil))))))))
      (pss_one (ps_ret (pe_ix ix_list (pv 2) (pe_callB call_len_str (by rfl) m_len PySem.boot_len (pa_cons (pv 1) pa_nil)) (fun _ _ => rfl))))), ?_⟩
    have hz : (SX.S mk).length ≤ sizeLine := S_le (by omega)
    refine ⟨(by show 1 ≤ sizeLine; decide), fun A0 nA => ⟨(by show 1 ≤ sizeLine; decide), fun B0 nB => ?_⟩⟩
    have sA := same_upd (o := .lst [.int 0]) nA
    have sB := same_upd (o := .lst [.non]) nB
    refine ⟨_, rfl, _, rfl, hz, B0, _, _, rfl, rfl, upd_same, by omega, by rw [len_S]; omega, ?_, fun R nR => ?_⟩
    · rw [len_S]
      exact Nat.le_trans (show _ ≤ 1000 by show 1 * ((mk.length : Nat) : Int).toNat ≤ 1000; omega) (by decide)
    have sR := same_upd (o := .lst (List.replicate ((SX.S mk).length : Int).toNat [V.non]).flatten) nR
    refine ⟨A0, R, _, _, rfl, rfl, sR _ _ (sB _ _ upd_same), upd_same, ?_, fun C nC => ?_⟩
    · rw [rep_one, List.length_replicate, len_S]
      exact Nat.le_trans (show _ ≤ 1000 by show 1 + ((mk.length : Nat) : Int).toNat ≤ 1000; omega) (by decide)
    have sC := same_upd (o := .lst ([.int 0] ++ (List.replicate ((SX.S mk).length : Int).toNat [V.non]).flatten)) nC
    have e0 : [.int 0] ++ (List.replicate ((SX.S mk).length : Int).toNat [V.non]).flatten = rowV (row0 mk.length) := by
      rw [rep_one, len_S, Int.toNat_natCast]
      unfold rowV row0
      rw [List.map_cons, List.map_replicate]
      rfl
    rw [e0] at sC
    rw [e0]
    have s3 := ((sA.trans sB).trans sR).trans sC
    refine ⟨_, rfl, a, rfl, ⟨_, SqL.of (s3 _ _ ha)⟩, for_list (xs := txs ps) (fun i σ Hx => ∃ (r : Addr) (y3 : Option V), σ = [some (.ref a), some (.str (SX.S mk)), some (.ref r), y3] ∧ Same H Hx ∧ Hx r = some (.lst (rowV ((ps.take i).foldl (stepF mk) (row0 mk.length))))) ⟨C, _, rfl, s3, upd_same⟩ (fun i σ Hx _ hP => ?_) (fun i x σ Hx hx hP => ?_) (fun σ Hx hP => ?_)⟩
    · obtain ⟨r, y3, rfl, sm, er⟩ := hP
      exact SqL.of (sm _ _ ha)
    · obtain ⟨r, y3, rfl, sm, er⟩ := hP
      have hx' : ps[i]?.map (fun z => V.str (SX.S z)) = some x := by rw [← List.getElem?_map]; exact hx
      cases hp : ps[i]? with
      | none => rw [hp] at hx'; cases hx'
      | some z =>
        rw [hp] at hx'
        cases hx'
        have ef : (ps.take (i + 1)).foldl (stepF mk) (row0 mk.length) = stepF mk ((ps.take i).foldl (stepF mk) (row0 mk.length)) z := by
          rw [List.take_add_one, hp, List.foldl_append]
          rfl
        have hlen := foldl_len mk (ps.take i) _ (row0_len mk.length)
        revert ef hlen er
        generalize (ps.take i).foldl (stepF mk) (row0 mk.length) = row
        generalize (ps.take (i + 1)).foldl (stepF mk) (row0 mk.length) = row'
        intro er ef hlen
        refine ⟨_, rfl, rfl, _, rfl, ite2 (fun c1 => ?_) (fun c1 => ?_)⟩
        · have e : z = [42] := (un_eq (d := 42) rfl).mp (of_decide_eq_true c1)
          have e2 : stepF mk row z = lostF none row := if_pos e
          refine ⟨_, rfl, r, row, rfl, er, by omega, fun p H' np s' ep => ⟨p, _, rfl, sm.trans s', ?_⟩⟩
          rw [ef, e2]
          exact ep
        · have e : z ≠ [42] := fun y => c1 (decide_eq_true ((un_eq (d := 42) rfl).mpr y))
          have e2 : stepF mk row z = signF z mk row := if_neg e
          refine ⟨_, rfl, _, rfl, _, rfl, z, mk, r, row, rfl, er, hlen, hm, fun p H' np s' ep => ⟨p, _, rfl, sm.trans s', ?_⟩⟩
          rw [ef, e2]
          exact ep
    · obtain ⟨r, y3, rfl, sm, er⟩ := hP
      rw [List.length_map, List.take_length] at er
      have hat := fewF_at mk ps
      refine ⟨_, rfl, _, rfl, _, rfl, hz, r, _, _, _, rfl, rfl, SqL.of er, ?_, q Hx sm⟩
      rw [len_S]
      refine atI_nat ?_
      show (rowV (rowF mk ps))[mk.length]? = _
      unfold rowV
      rw [List.getElem?_map, hat]
      rfl
end

def spLeast (Pt : Addr) : Sp := fun vs H Q _ => ∃ (l mk : List Nat), vs = [.str (SX.S l), .str (SX.S mk)] ∧ l.length ≤ 1000 ∧ mk.length ≤ 900 ∧ GxR.TabG H Pt ∧ isRd l = true ∧ ∀ H2 ps, Tbk Pt H H2 → parse l = some ps → Q (optV (fewF mk ps)) H2
abbrev sLeast : Stmt := topS 27
theorem scLeast : FnScope ["reading", "mark"] ["reading", "mark"] (defScope sLeast) := ⟨rfl, rfl, rfl, by decide +kernel, rfl, by decide +kernel, by decide +kernel⟩
section
variable {K : PySem.W.Frag} {mg : Str → Option Value} {P : Program} {w : World} {base : Heap}
theorem ok_Least {f : Addr} {fd : FuncData} (F : Fun K "least_slips" "least_slips" sLeast f fd) (C_fewest : Cal P w K mg base 3 "fewest" ["parts", "mark"] spFew) (C_parts_or_refuse : Cal P w K mg base 3 "parts_or_refuse" ["reading"] (spRefuse Pt)) : FnOk P w K mg base CX0 4 f fd ["reading", "mark"] (spLeast Pt) := by
  refine F.ok scLeast (fun vs H Q E h => ?_) (fun cdv A outer s H vs Q E hr h => ?_)
  · obtain ⟨l, mk, rfl, _⟩ := h
    rfl
  · obtain ⟨l, mk, rfl, hl, hm, hT, hR, q⟩ := h
    refine ⟨_, pss_one (ps_ret (pe_own C_fewest hr (by rfl) (pa_cons (pe_own C_parts_or_refuse hr (by rfl) (pa_cons (pv 0) pa_nil)) (pa_cons (pv 1) pa_nil)))), ?_⟩
    refine ⟨_, rfl, l, rfl, hl, hT, hR, fun H2 p ps h2 hp np ep => ?_⟩
    obtain ⟨ps', hp', hle⟩ := isRd_some hR
    have e : ps = ps' := Option.some.inj (hp.symm.trans hp')
    subst e
    exact ⟨_, rfl, p, ps, mk, rfl, ep, by omega, hm, fun H' s' => q H' ps (h2.trans (Tbk.same h2.1 s')) hp⟩
end

/-- whether a mark is read with so many slips -/
def fits (ps : List (List Nat)) (s : Int) (mk : List Nat) : Bool := match fewF mk ps with
  | some v => decide ((v : Int) ≤ s)
  | none => false
def spMRead (Pt : Addr) : Sp := fun vs H Q _ => ∃ (l : List Nat) (m : Addr) (ms : List (List Nat)) (s : Int), vs = [.str (SX.S l), .ref m, .int s] ∧ l.length ≤ 1000 ∧ H m = some (.lst (txs ms)) ∧ ms.length ≤ 900 ∧ (∀ x ∈ ms, x.length ≤ 900) ∧ GxR.TabG H Pt ∧ isRd l = true ∧ ∀ H2 p ps, Tbk Pt H H2 → parse l = some ps → H p = none → H2 p = some (.lst (txs (ms.filter (fits ps s)))) → Q (.ref p) H2
abbrev sMRead : Stmt := topS 28
theorem scMRead : FnScope ["reading", "marks", "slips", "parts", "fitting", "mark", "count"] ["reading", "marks", "slips"] (defScope sMRead) := ⟨rfl, rfl, rfl, by decide +kernel, rfl, by decide +kernel, by decide +kernel⟩
section
variable {K : PySem.W.Frag} {mg : Str → Option Value} {P : Program} {w : World} {base : Heap}
theorem ok_MRead {f : Addr} {fd : FuncData} (F : Fun K "marks_read" "marks_read" sMRead f fd) (C_parts_or_refuse : Cal P w K mg base 3 "parts_or_refuse" ["reading"] (spRefuse Pt)) (C_fewest : Cal P w K mg base 3 "fewest" ["parts", "mark"] spFew) : FnOk P w K mg base CX0 4 f fd ["reading", "marks", "slips"] (spMRead Pt) := by
  refine F.ok scMRead (fun vs H Q E h => ?_) (fun cdv A outer s H vs Q E hr h => ?_)
  · obtain ⟨l, m, ms, sl, rfl, _⟩ := h
    rfl
  · obtain ⟨l, m, ms, sl, rfl, hl, hM, hml, hmx, hT, hR, q⟩ := h
    refine ⟨_, pss_cons (ps_set (i := 3) scMRead.nd rfl (.inl rfl) (pe_own C_parts_or_refuse hr (by rfl) (pa_cons (pv 0) pa_nil)))
      (pss_cons (ps_set (i := 4) scMRead.nd rfl (.inl rfl) (pe_lst pa_nil))
      (pss_cons (ps_for PassesOwn.never rfl (pi_list (pv 1)) (pg_name (i := 5) scMRead.nd rfl (.inl rfl))
        (pss_cons (ps_set (i := 6) scMRead.nd rfl (.inl rfl) (pe_own C_fewest hr (by rfl) (pa_cons (pv 3) (pa_cons (pv 5) pa_nil))))
        (pss_one (ps_if (PW.pt (pw_and (pt_cmpR op_notN (pv 6) pe_non (nomark _)) (pw_and1 (pt_cmpR op_le (pv 6) (pv 2) (nomark _))))) (pss_one (ps_expr (pe_bm PySem.F.plainAttrs_list PySem.F.slot_list_append PySem.F.type_list_append mt_append (pv 4) (pa_cons (pv 5) pa_nil))))
          pss_nil))))
      (pss_one (ps_ret (pv 4))))), ?_⟩
    refine ⟨_, rfl, l, rfl, hl, hT, hR, fun H2 p ps h2 hp np ep => ?_⟩
    obtain ⟨ps', hp', hle⟩ := isRd_some hR
    have e : ps = ps' := Option.some.inj (hp.symm.trans hp')
    subst e
    have hM2 := h2.lst hT hM
    refine ⟨Nat.zero_le _, fun f nf => ?_⟩
    have sf := same_upd (o := .lst []) nf
    have nfp : f ≠ p := fun z => by rw [z, ep] at nf; cases nf
    have nfm : f ≠ m := fun z => by rw [z, hM2] at nf; cases nf
    refine ⟨_, rfl, m, rfl, ⟨_, SqL.of (sf _ _ hM2)⟩, for_list (xs := txs ms) (fun i σ Hx => ∃ y5 y6 : Option V, σ = [some (.str (SX.S l)), some (.ref m), some (.int sl), some (.ref p), some (.ref f), y5, y6] ∧ Same H2 Hx ∧ Hx f = some (.lst (txs ((ms.take i).filter (fits ps sl))))) ⟨_, _, rfl, sf, upd_same⟩ (fun i σ Hx _ hP => ?_) (fun i x σ Hx hx hP => ?_) (fun σ Hx hP => ?_)⟩
    · obtain ⟨y5, y6, rfl, sm, ef⟩ := hP
      exact SqL.of (sm _ _ hM2)
    · obtain ⟨y5, y6, rfl, sm, ef⟩ := hP
      have hx' : ms[i]?.map (fun z => V.str (SX.S z)) = some x := by rw [← List.getElem?_map]; exact hx
      cases hz : ms[i]? with
      | none => rw [hz] at hx'; cases hx'
      | some z =>
        rw [hz] at hx'
        cases hx'
        have et : (ms.take (i + 1)).filter (fits ps sl) = (ms.take i).filter (fits ps sl) ++ (if fits ps sl z = true then [z] else []) := by
          rw [List.take_add_one, hz, List.filter_append]
          show _ ++ List.filter (fits ps sl) [z] = _
          by_cases c : fits ps sl z = true
          · rw [if_pos c, List.filter_cons_of_pos c]; rfl
          · rw [if_neg c, List.filter_cons_of_neg c]; rfl
        refine ⟨_, rfl, _, rfl, p, ps, z, rfl, sm _ _ ep, by omega, hmx z (List.mem_of_getElem? hz), fun H' s' => ?_⟩
        have ef' := s' _ _ ef
        have no : fits ps sl z = false → ∃ y5 y6 : Option V, [some (V.str (SX.S l)), some (V.ref m), some (V.int sl), some (V.ref p), some (V.ref f), some (V.str (SX.S z)), some (optV (fewF z ps))] = [some (.str (SX.S l)), some (.ref m), some (.int sl), some (.ref p), some (.ref f), y5, y6] ∧ Same H2 H' ∧ H' f = some (.lst (txs ((ms.take (i + 1)).filter (fits ps sl)))) := fun e => by
          refine ⟨_, _, rfl, sm.trans s', ?_⟩
          rw [et, e]
          simpa using ef'
        cases hv : fewF z ps with
        | none =>
          rw [hv] at no
          exact ⟨_, rfl, rfl, _, rfl, ite2 (fun z => nomatch z) (fun _ => ite2 (fun z => nomatch z) (fun _ => no (by unfold fits; rw [hv])))⟩
        | some v =>
          rw [hv] at no
          refine ⟨_, rfl, rfl, _, rfl, ite2 (fun _ => ?_) (fun z => absurd (by rfl) z)⟩
          refine ⟨_, rfl, _, rfl, _, _, rfl, rfl, _, rfl, ite2 (fun c1 => ?_) (fun c1 => ?_)⟩
          · have yes : fits ps sl z = true := by unfold fits; rw [hv]; exact c1
            refine ⟨_, rfl, .inl ⟨rfl, _, SqL.of ef'⟩, _, rfl, f, _, _, rfl, rfl, ef', small1000 (by rw [List.length_map]; exact Nat.le_trans (List.length_filter_le ..) (by rw [List.length_take]; omega)), ?_⟩
            refine ⟨_, _, rfl, fun b o e => ?_, ?_⟩
            · rw [upd_ne (ne_of_none e nf)]
              exact s' _ _ (sm b o e)
            · rw [upd_same, et, if_pos yes, txs_snoc]
          · exact no (by unfold fits; rw [hv]; simpa using c1)
    · obtain ⟨y5, y6, rfl, sm, ef⟩ := hP
      rw [List.length_map, List.take_length] at ef
      have nfH : H f = none := h2.free hT nf
      exact ⟨_, rfl, q Hx f ps (h2.trans (Tbk.same h2.1 sm)) hp nfH ef⟩
end

/-! ### an error that is kept -/
/-- an error of the class at D stands at a -/
def ExT (D a : Addr) : HO := .ext fun h => ∃ (oe : Obj) (vs : Array Value), h.get? a = some oe ∧ Zc (.ref D) none oe ∧ oe.data = .fields vs
section
variable {X : Cx} {pins : List (Addr × Obj)} {σ : L2.St} {H : Hp} {s : Shared}
theorem ext_inst {D a : Addr} (I : Inv X pins σ H s) (e : H a = some (ExT D a)) : ∃ oe, PySem.W.InstAt s.heap a oe D none := by
  have z : ObjOk X.prog X.w H s.heap a (ExT D a) := I.hok a _ e
  obtain ⟨⟨oe, vs, h1, h2, h3⟩, _⟩ := z
  refine ⟨oe, ?_⟩
  obtain ⟨oc, od, dt, sl⟩ := oe
  obtain ⟨z1, z2⟩ := h2
  cases z1
  cases z2
  cases h3
  exact ⟨h1, rfl, rfl, trivial⟩
/-- isinstance of a kept error: one class; a tuple of classes -/
def rIsX (K : PySem.W.Frag) (D : Addr) : List V → Hp → VK → Prop := fun xs H Q => ∃ (a : Addr) (c : V) (u : Value) (b : Bool), xs = [.ref a, c] ∧ H a = some (ExT D a) ∧ ClsV c u ∧ PySem.W.kitOne K (.ref D) u = some b ∧ Q (.bl b) H
def rIsXT (K : PySem.W.Frag) (D : Addr) : List V → Hp → VK → Prop := fun xs H Q => ∃ (a tp : Addr) (cs : List V) (us : List Value) (b : Bool), xs = [.ref a, .ref tp] ∧ H a = some (ExT D a) ∧ H tp = some (.tup cs) ∧ Paired ClsV cs us ∧ PySem.W.kitAny K (.ref D) us = some b ∧ Q (.bl b) H
theorem call_isX {D : Addr} (C : ExcC X.K D) : CallR X (.builtin "isinstance") (rIsX X.K D) := fun pins s σ H xs us Q I r h => by
  obtain ⟨a, c, u, b, rfl, ha, k, e, q⟩ := h
  obtain ⟨u1, u2, rfl, r1, r2⟩ := vals2 r
  cases k.eq r2
  cases (show u1 = Value.ref a from r1)
  obtain ⟨oe, J⟩ := ext_inst I ha
  exact PySem.W.kia_one (PySem.W.handS_kitx_exc C.hg C.hk C.hs C.hd C.ha C.hn C.ht C.hm) I.kIn J e (fun z => nomatch z) fun tk => ⟨.bl b, H, I.tok tk, rfl, q⟩
theorem call_isXT {D : Addr} (C : ExcC X.K D) : CallR X (.builtin "isinstance") (rIsXT X.K D) := fun pins s σ H xs us Q I r h => by
  obtain ⟨a, tp, cs, ws, b, rfl, ha, hT, k, e, q⟩ := h
  obtain ⟨u1, u2, rfl, r1, r2⟩ := vals2 r
  cases (show u1 = Value.ref a from r1)
  cases (show u2 = Value.ref tp from r2)
  obtain ⟨oe, J⟩ := ext_inst I ha
  have ht : ObjOk X.prog X.w H s.heap tp (.tup cs) := I.hok tp _ hT
  obtain ⟨_, its, rv, o, g1, g2, n, g3⟩ := ht
  cases ClsV.all k rv
  obtain ⟨oc, od, dt, sl⟩ := o
  cases (show oc = _ from g2)
  cases (show dt = _ from g3)
  exact PySem.W.kia_tup (PySem.W.handS_kitx_exc C.hg C.hk C.hs C.hd C.ha C.hn C.ht C.hm) I.kIn J g1 e (fun z => nomatch z) fun tk => ⟨.bl b, H, I.tok tk, rfl, q⟩
/-- what is not from before may be taken into the tracked heap -/
theorem inv_track {a D : Addr} {oe : Obj} {vs : Array Value} (I : Inv X pins σ H s) (na : H a = none) (n0 : X.s_0.heap.get? a = none) (e : s.heap.get? a = some oe) (z : Zc (.ref D) none oe) (d : oe.data = .fields vs) (nL : a ≠ X.env.locals)
    (np : ∀ p ∈ X.pn ++ pins, p.1 ≠ a) : Inv X pins σ (upd H a (ExT D a)) s := by
  have ne : ∀ {b : Addr} {o : HO}, H b = some o → b ≠ a := fun q => ne_of_none q na
  refine ⟨I.ok, I.os, I.bare, ⟨I.base.keep, I.base.slot, fun b o q n hx => ?_, I.base.there, fun b xs q => ?_, fun b o u q => ?_, fun b ps q => ?_⟩, I.loc, I.cell, ?_, fun x c q => ?_, fun p hp => ?_, ?_, I.len⟩
  · have nb : b ≠ a := fun w => by rw [w, n0] at q; cases q
    rw [upd_ne nb]
    exact I.base.free b o q n hx
  · have q' := I.base.tups b xs q
    rw [upd_ne (ne q')]
    exact q'
  · have q' := I.base.frzs b o u q
    rw [upd_ne (ne q')]
    exact q'
  · obtain ⟨more, q'⟩ := I.base.tbls b ps q
    exact ⟨more, by rw [upd_ne (ne q')]; exact q'⟩
  · rw [upd_ne nL.symm]
    exact I.free
  · have nc : c ≠ a := fun w => by
      obtain ⟨v, hv⟩ := I.cell x c q
      rw [w] at hv
      obtain ⟨o, g1, g2⟩ := hv
      rw [e] at g1
      cases g1
      rw [d] at g2
      cases g2
    rw [upd_ne nc]
    exact I.freeC x c q
  · obtain ⟨p1, p2, p3⟩ := I.pin p hp
    exact ⟨p1, by rw [upd_ne (np p hp)]; exact p2, p3⟩
  · exact HOk.laidN (show HOk X.prog X.w H s.heap from I.hok) (fun _ _ q => q) na ⟨⟨oe, vs, e, z, d⟩, ⟨oe, e⟩, fun _ _ ⟨o, v, q, r⟩ k => ⟨o, v, k o q, r⟩⟩
end
/-- what the clause 'except c as n: y = n' asks of an error of the body: slot i is n's, slot j is y's -/
def wKept (K : PySem.W.Frag) (c : Value) (i j : Nat) (D : Ends) : WX := fun cls d σ H => PySem.W.exmOne K cls c = some true ∧ ∃ C : Addr, cls = .ref C ∧ d = none ∧ ∀ a, H a = none → D.nx ((σ.set j (some (.ref a))).set i none) (upd H a (ExT C a))
section
variable {X : Cx} {x n y : Str} {c : Value} {i j : Nat} {body : List Stmt} {p1 p2 p3 np pos pos' : Pos} {tb : WX → TS}
theorem ps_kept (hs : X.stack = X.env :: X.outer) (hf : X.env.frame = some X.env.locals) (hN : X.N.Nodup) (hi : X.N[i]? = some n) (hln : X.env.kindOf n = some .local) (hj : X.N[j]? = some y) (hly : X.env.kindOf y = some .local) (hij : i ≠ j) (hx0 : X.ex = []) (hc : Names X x c)
    (ev : ∀ (a : Addr) (pn : List (Addr × Obj)), PE (X.suite a pn) (.Name n p2) (tVar i))
    (hb : ∀ (W : WX) (pn : List (Addr × Obj)) (xe : Value → Shared → Prop), Takes (X.tr pn xe) W → PassesOwn (model X.prog X.w) X.A X.env xe → PSs (X.tr pn xe) body (tb W)) :
    PS X (.Try body [.ExceptHandler (some (.Name x np)) (some n) [.Assign [.Name y p1] (.Name n p2) p3] pos'] [] [] pos) (fun D σ H => tb (wKept X.K c i j D) D σ H) := by
  refine ⟨fun pins s σ H D I h => wpAny_Try_except ?_⟩
  have ok := I.ok
  have fr : X.A.frames = some (X.env :: X.outer) := by rw [ok.frames, hs]
  refine wpAny_mono ((hb (wKept X.K c i j D) (X.pn ++ pins) _ (fun u s' xx => ?_) PassesOwn.looking).run [] s σ H D (I.toTry _) h) (fun f s1 g => ?_) (fun e s1 he => he)
  · obtain ⟨a, B, sI, pins', σ1, H1, cls, d, rfl, J', nb, up, sky, na, os, ag, hm, C, rfl, rfl, fin⟩ := xx
    have J : Inv X pins σ1 H1 sI := J'.ofTry ok
    have sk : Sky B (X.env :: X.outer) a (Zc (.ref C) none) X.env.locals s'.heap := by
      rw [← hs]
      exact sky
    have nB : B.get? a = none := by
      rcases sk with z | z | z <;> exact z.2.1
    show wpAny (model X.prog X.w) X.A (noteFrame (.ref a) X.env) _ _ _
    refine Sky.land Zc.steady fr hf sk fun h2 fl up2 => ?_
    obtain ⟨o2, v2, e2, z2, d2⟩ := fl.there
    have out : a ∉ frs (X.env :: X.outer) := fun hm => by
      obtain ⟨_, o', q, nf⟩ := fl.2.2.1.mem hm
      cases e2.symm.trans q
      exact nf _ d2
    have inF : ∀ b, b ∈ frs (X.env :: X.outer) → b = X.env.locals ∨ b ∈ X.fs := fun b hb => by
      obtain ⟨e, he, q⟩ := List.mem_filterMap.mp hb
      rcases List.mem_cons.mp he with w | w
      · left
        rw [w, hf] at q
        exact (Option.some.inj q).symm
      · exact .inr (List.mem_filterMap.mpr ⟨e, w, q⟩)
    have nL : a ≠ X.env.locals := fun w => out (List.mem_filterMap.mpr ⟨X.env, List.mem_cons_self, by rw [hf, w]⟩)
    have nF : a ∉ X.fs := fun hm => by
      obtain ⟨e, he, q⟩ := List.mem_filterMap.mp hm
      exact out (List.mem_filterMap.mpr ⟨e, List.mem_cons_of_mem _ he, q⟩)
    have n0 : X.s_0.heap.get? a = none := by
      cases q : X.s_0.heap.get? a with
      | none => rfl
      | some o =>
        obtain ⟨o', q'⟩ := J.base.there a o q (by rw [hx0]; exact List.not_mem_nil)
        have w := nb a o' q' (by show a ∉ frs X.stack; rw [hs]; exact out)
        rw [nB] at w
        cases w
    have np' : ∀ p ∈ X.pn ++ pins, p.1 ≠ a := fun p hp w => by
      obtain ⟨g1, _, g3, g4, _⟩ := J.pin p hp
      have u := nb p.1 p.2 g1 (by
        show p.1 ∉ frs X.stack
        rw [hs]
        exact fun hb => (inF _ hb).elim g3 g4)
      rw [w, nB] at u
      cases u
    have J2 : Inv X pins σ1 H1 { s' with heap := h2 } := J.landed nb fl.1 (up.trans up2) os ag
    have S2 := J2.suite e2 d2 na nL nF
    refine wpAny_handleBy_cons (codeAny_handlers_test ?_) (by intro q; cases q)
    have LM := PySem.W.exm_one (M := model X.prog X.w) J2.kIn (fun A Q E s k q => wpAny_typeOf_ref (k _ _ e2) (by rw [z2.1]; exact q)) hm
    have named : ∀ {Q : Value → Shared → Prop} {E : Value → Shared → Prop}, Q c { s' with heap := h2 } → wpAny (model X.prog X.w) (X.A.mark (some (.ref a))) (eval (.Name x np) X.env) Q E { s' with heap := h2 } := fun {Q E} q => by
      obtain ⟨g, dbg, m | ⟨m, v, nn⟩⟩ := hc
      · exact ld_glob (X := X.suite a ((a, o2) :: (X.pn ++ pins))) S2 g m q dbg
      · exact ld_blt (X := X.suite a ((a, o2) :: (X.pn ++ pins))) S2 g m v q nn dbg
    refine named (LM.here (codeAny_handlers_suite_as (HandSPX.lands_againZ fl fun h4 fl4 up4 => ?_)))
    obtain ⟨o4, v4, e4, z4, d4⟩ := fl4.there
    have J4 : Inv X pins σ1 H1 { s' with heap := h4 } := J.landed nb fl4.1 ((up.trans up2).trans up4) os ag
    have S4 := J4.suite e4 d4 na nL nF
    refine store_ok (X := X.suite a ((a, o4) :: (X.pn ++ pins))) (v := .ref a) S4 hN hi (.inl hln) rfl (fun s5 S5 => ?_) (.inr hln)
    have inner : PSs (X.suite a ((a, o4) :: (X.pn ++ pins))) [.Assign [.Name y p1] (.Name n p2) p3] _ := pss_one (ps_set (i := j) hN hj (.inl hly) (ev a _) rfl (.inr hly))
    have il : i < σ1.length := by
      rw [J.len]
      exact (List.getElem?_eq_some_iff.mp hi).1
    refine wpAny_mono (inner.run [] s5 _ H1 { nx := fun σ' H' => H' = H1 ∧ σ' = (σ1.set i (some (.ref a))).set j (some (.ref a)), rt := fun _ _ => False, bk := fun _ _ => False, ct := fun _ _ => False } S5 ⟨_, by rw [List.getElem?_set_self il], rfl, rfl⟩) (fun f s6 g => ?_) (fun _ _ w => False.elim w)
    cases f with
    | next =>
      obtain ⟨σ6, H6, S6, rfl, rfl⟩ := g
      refine gone_ok (X := X.suite a ((a, o4) :: (X.pn ++ pins))) S6 hN hi hln fun s7 S7 => ?_
      have e7 := (S7.pin (a, o4) (List.mem_append.mpr (.inl List.mem_cons_self))).1
      have J7 : Inv X pins _ _ s7 := S7.unsuite ok
      refine ⟨_, _, inv_track J7 na n0 e7 z4 d4 nL np', ?_⟩
      have sw : (σ1.set i (some (V.ref a))).set j (some (V.ref a)) = (σ1.set j (some (V.ref a))).set i (some (V.ref a)) := List.set_comm _ _ hij
      rw [sw, List.set_set]
      exact fin a na
    | brk => obtain ⟨_, _, _, w⟩ := g; exact w.elim
    | cont => obtain ⟨_, _, _, w⟩ := g; exact w.elim
    | ret u => obtain ⟨_, _, _, _, _, w⟩ := g; exact w.elim
  · cases f with
    | next =>
      obtain ⟨σ6, H6, S6, q6⟩ := g
      exact wpAny_execs_nil ⟨σ6, H6, S6.ofTry ok, q6⟩
    | brk =>
      obtain ⟨σ6, H6, S6, q6⟩ := g
      exact ⟨σ6, H6, S6.ofTry ok, q6⟩
    | cont =>
      obtain ⟨σ6, H6, S6, q6⟩ := g
      exact ⟨σ6, H6, S6.ofTry ok, q6⟩
    | ret u =>
      obtain ⟨v6, σ6, H6, S6, r6, q6⟩ := g
      exact ⟨v6, σ6, H6, S6.ofTry ok, r6, q6⟩
end

/-! ### what is no reading is refused -/
/-- what is said of the class of the error at C -/
structure BadR (K : PySem.W.Frag) (mg : Str → Option Value) (C : Addr) : Prop where
  gC : mg "BadReading" = some (.ref C)
  xC : PySem.W.excIn K C [.type "ValueError", .type "Exception", .type "BaseException", .type "object"] "ValueError.__new__" = true
  kC : PySem.W.keepIn K (.ref C) = true
  bC : PySem.W.subIn K (.ref C) (.type "BaseException") = some true
  tC : PySem.W.typeIn K (.ref C) = some (.type "type")
/-- a def that may raise, as its callers see it -/
def CalX (P : Program) (w : World) (K : PySem.W.Frag) (mg : Str → Option Value) (base : Heap) (k : Nat) (x : Str) (ps : List Str) (sp : Sp) : Prop :=
  ∃ f fd, FnOk P w K mg base (L2.CX P w) k f fd ps sp ∧ mg x = some (.ref f) ∧ PySem.W.keepIn K (.ref f) = true ∧ Binds K fd ps []
theorem pe_ownX {X : Cx} {W : WX} {k : Nat} {x : Str} {ps : List Str} {sp : Sp} {e : Expr} {es : List Expr} {t : TA} {p pos : Pos} (C : CalX X.prog X.w X.K X.mg X.base k x ps sp) (hr : Room k X.A) (hg : Gl X x) (tk : Takes X W) (ha : PA X (e :: es) t)
    (dbg : (x == ("__debug__" : Str)) = false := by decide) (one : starEach (e :: es) X.env = (false, eval e X.env) :: starEach es X.env := by rfl) (star : (backTo pos (starEach es X.env)).any (·.1) = false := by rfl) :
    PE X (.Call (.Name x p) (e :: es) [] pos) (tCallS sp (WE W) t) := by
  obtain ⟨f, fd, F, hm, hk, hb⟩ := C
  exact pe_callS F hr hg hm hk hb (fun σ => passAt tk σ) ha dbg one star
def spRefX (Pt C : Addr) : Sp := fun vs H _ E => ∃ l : List Nat, vs = [.str (SX.S l)] ∧ l.length ≤ 1000 ∧ GxR.TabG H Pt ∧ isRd l = false ∧ ∀ H2, Tbk Pt H H2 → E (.ref C) none H2
def spLeastX (Pt C : Addr) : Sp := fun vs H _ E => ∃ (l : List Nat) (v : V), vs = [.str (SX.S l), v] ∧ l.length ≤ 1000 ∧ GxR.TabG H Pt ∧ isRd l = false ∧ ∀ H2, Tbk Pt H H2 → E (.ref C) none H2
def spMReadX (Pt C : Addr) : Sp := fun vs H _ E => ∃ (l : List Nat) (v u : V), vs = [.str (SX.S l), v, u] ∧ l.length ≤ 1000 ∧ GxR.TabG H Pt ∧ isRd l = false ∧ ∀ H2, Tbk Pt H H2 → E (.ref C) none H2
section
variable {K : PySem.W.Frag} {mg : Str → Option Value} {P : Program} {w : World} {base : Heap} {Pt C : Addr}
theorem ok_RefX {f : Addr} {fd : FuncData} (F : Fun K "parts_or_refuse" "parts_or_refuse" sRefuse f fd) (B : BadR K mg C) (C_parts_of : Cal P w K mg base 2 "parts_of" ["text"] (spPartsOf Pt)) : FnOk P w K mg base (L2.CX P w) 3 f fd ["reading"] (spRefX Pt C) := by
  refine F.okX scRefuse (fun vs H Q E h => ?_) (fun cdv A outer s H vs Q E hr h => ?_)
  · obtain ⟨l, rfl, _⟩ := h
    rfl
  · obtain ⟨l, rfl, hl, hT, hR, q⟩ := h
    refine ⟨_, pss_cons (ps_set (i := 1) scRefuse.nd rfl (.inl rfl) (pe_own C_parts_of hr (by rfl) (pa_cons (pv 0) pa_nil)))
      (pss_cons (ps_if (pt_cmpR op_isN (pv 1) pe_non (nomark _)) (pss_one (ps_raise rfl (takes_of rfl rfl rfl rfl) (pmk_own PySem.F.excBase_ValueError B.xC B.gC B.kC (raises_own B.bC B.tC) rfl))) pss_nil) pss_never), ?_⟩
    refine ⟨_, rfl, l, rfl, hl, hT, fun H2 h2 e => ?_, fun H2 p ps h2 e hp np ep => ?_⟩
    · exact ⟨_, rfl, rfl, _, rfl, ite2 (fun _ => q H2 h2) (fun z => absurd (by rfl) z)⟩
    · rw [hR] at e; cases e
theorem ok_LeastX {f : Addr} {fd : FuncData} (F : Fun K "least_slips" "least_slips" sLeast f fd) (C_fewest : Cal P w K mg base 3 "fewest" ["parts", "mark"] spFew) (CR : CalX P w K mg base 3 "parts_or_refuse" ["reading"] (spRefX Pt C)) : FnOk P w K mg base (L2.CX P w) 4 f fd ["reading", "mark"] (spLeastX Pt C) := by
  refine F.okX scLeast (fun vs H Q E h => ?_) (fun cdv A outer s H vs Q E hr h => ?_)
  · obtain ⟨l, v, rfl, _⟩ := h
    rfl
  · obtain ⟨l, v, rfl, hl, hT, hR, q⟩ := h
    exact ⟨_, pss_one (ps_ret (pe_own C_fewest hr (by rfl) (pa_cons (pe_ownX CR hr (by rfl) (takes_of rfl rfl rfl rfl) (pa_cons (pv 0) pa_nil)) (pa_cons (pv 1) pa_nil)))), ⟨_, rfl, l, rfl, hl, hT, hR, q⟩⟩
theorem ok_MReadX {f : Addr} {fd : FuncData} (F : Fun K "marks_read" "marks_read" sMRead f fd) (CR : CalX P w K mg base 3 "parts_or_refuse" ["reading"] (spRefX Pt C)) : FnOk P w K mg base (L2.CX P w) 4 f fd ["reading", "marks", "slips"] (spMReadX Pt C) := by
  refine F.okX scMRead (fun vs H Q E h => ?_) (fun cdv A outer s H vs Q E hr h => ?_)
  · obtain ⟨l, v, u, rfl, _⟩ := h
    rfl
  · obtain ⟨l, v, u, rfl, hl, hT, hR, q⟩ := h
    exact ⟨_, pss_cons (ps_set (i := 3) scMRead.nd rfl (.inl rfl) (pe_ownX CR hr (by rfl) (takes_of rfl rfl rfl rfl) (pa_cons (pv 0) pa_nil))) pss_never, ⟨_, rfl, l, rfl, hl, hT, hR, q⟩⟩
end

/-! ### what is refused, and by which error -/
/-- the other errors: an error of the class at C is none of them -/
structure Ten (K : PySem.W.Frag) (mg : Str → Option Value) (C d0 d1 d2 d3 d4 d5 d6 d7 d8 d9 : Addr) : Prop where
  g0 : mg "BadRow" = some (.ref d0)
  n0 : PySem.W.kitOne K (.ref C) (.ref d0) = some false
  g1 : mg "NoBatch" = some (.ref d1)
  n1 : PySem.W.kitOne K (.ref C) (.ref d1) = some false
  g2 : mg "NoCase" = some (.ref d2)
  n2 : PySem.W.kitOne K (.ref C) (.ref d2) = some false
  g3 : mg "NoDeed" = some (.ref d3)
  n3 : PySem.W.kitOne K (.ref C) (.ref d3) = some false
  g4 : mg "NoPacking" = some (.ref d4)
  n4 : PySem.W.kitOne K (.ref C) (.ref d4) = some false
  g5 : mg "NoPage" = some (.ref d5)
  n5 : PySem.W.kitOne K (.ref C) (.ref d5) = some false
  g6 : mg "NoTest" = some (.ref d6)
  n6 : PySem.W.kitOne K (.ref C) (.ref d6) = some false
  g7 : mg "NoTin" = some (.ref d7)
  n7 : PySem.W.kitOne K (.ref C) (.ref d7) = some false
  g8 : mg "Taken" = some (.ref d8)
  n8 : PySem.W.kitOne K (.ref C) (.ref d8) = some false
  g9 : mg "Twice" = some (.ref d9)
  n9 : PySem.W.kitOne K (.ref C) (.ref d9) = some false
/-- what is said of an error of the class at C, and of the class at R over it -/
structure OwnE (K : PySem.W.Frag) (mg : Str → Option Value) (C R : Addr) : Prop where
  gR : mg "RecallError" = some (.ref R)
  em : PySem.W.exmOne K (.ref C) (.ref R) = some true
  ex : ExcC K C
  k1 : PySem.W.kitOne K (.ref C) (.ref C) = some true
  k2 : PySem.W.kitOne K (.ref C) (.type "ValueError") = some true
def spRefd (Pt : Addr) : Sp := fun vs H Q _ => ∃ (k : Int) (l : List Nat) (m : Addr) (ms : List (List Nat)), vs = [.int k, .str (SX.S l), .ref m] ∧ l.length ≤ 1000 ∧ H m = some (.lst (txs ms)) ∧ ms.length ≤ 900 ∧ (∀ x ∈ ms, x.length ≤ 900 ∧ okT x) ∧ GxR.TabG H Pt ∧ (isRd l = true → ∀ H2, Tbk Pt H H2 → Q .non H2) ∧ (isRd l = false → ∀ H2, Tbk Pt H H2 → Q (.bl true) H2)
abbrev sRefd : Stmt := topS 38
theorem scRefd : FnScope ["_law_which", "_law_text", "_law_marks_here", "_law_caught", "error"] ["_law_which", "_law_text", "_law_marks_here"] (defScope sRefd) := ⟨rfl, rfl, rfl, by decide +kernel, rfl, by decide +kernel, by decide +kernel⟩
section
variable {K : PySem.W.Frag} {mg : Str → Option Value} {P : Program} {w : World} {base : Heap} {Pt C R : Addr}
theorem ok_Refd {f d0 d1 d2 d3 d4 d5 d6 d7 d8 d9 : Addr} {fd : FuncData} (F : Fun K "_law_refused" "_law_refused" sRefd f fd) (B : BadR K mg C) (T : Ten K mg C d0 d1 d2 d3 d4 d5 d6 d7 d8 d9) (O : OwnE K mg C R) (CL : Cal P w K mg base 4 "least_slips" ["reading", "mark"] (spLeast Pt)) (CM : Cal P w K mg base 4 "marks_read" ["reading", "marks", "slips"] (spMRead Pt)) (XL : CalX P w K mg base 4 "least_slips" ["reading", "mark"] (spLeastX Pt C)) (XM : CalX P w K mg base 4 "marks_read" ["reading", "marks", "slips"] (spMReadX Pt C)) (m_isinstance : mg "isinstance" = none) (m_ValueError : mg "ValueError" = none) : FnOk P w K mg base CX0 5 f fd ["_law_which", "_law_text", "_law_marks_here"] (spRefd Pt) := by
  refine F.ok scRefd (fun vs H Q E h => ?_) (fun cdv A outer s H vs Q E hr h => ?_)
  · obtain ⟨k, l, m, ms, rfl, _⟩ := h
    rfl
  · obtain ⟨k, l, m, ms, rfl, hl, hM, hml, hmx, hT, q1, q0⟩ := h
    have okm : ∀ x ∈ ms, okT x := fun x hx => (hmx x hx).2
    cases hR : isRd l with
    | true =>
      refine ⟨_, pss_cons (ps_set (i := 3) scRefd.nd rfl (.inl rfl) pe_non)
        (pss_cons (ps_try_thru0 (pss_one (ps_if (pt_cmpR op_eq (pv 0) pe_int (nomark _)) (pss_one (ps_expr (pe_own CL hr (by rfl) (pa_cons (pv 1) (pa_cons (pe_mid (pe_ifExp (pt_cmpR (op_neD hr.units) (pv 2) (pe_lst pa_nil) (nomark _)) (pe_ix ix_list (pv 2) pe_int (fun _ _ => rfl)) pe_str)) pa_nil))))) (pss_one (ps_expr (pe_own CM hr (by rfl) (pa_cons (pv 1) (pa_cons (pv 2) (pa_cons pe_int pa_nil)))))))))
        (pss_cons (ps_if (pt_cmpR op_isN (pv 3) pe_non (nomark _)) (pss_one (ps_ret pe_non)) pss_nil) pss_never)), ?_⟩
      refine ⟨_, rfl, rfl, _, rfl, ite2 (fun c1 => ?_) (fun c1 => ?_)⟩
      · refine ⟨_, rfl, fun v H' => ∃ mk : List Nat, v = .str (SX.S mk) ∧ mk.length ≤ 900 ∧ Same H H', ?_, ?_⟩
        · refine ⟨_, rfl, Nat.zero_le _, fun n nn => ?_⟩
          have sn := same_upd (o := .lst []) nn
          refine ne_nil okm (sn _ _ hM) upd_same ⟨_, rfl, ite2 (fun c2 => ?_) (fun _ => ⟨[97, 98, 99, 100], rfl, by decide, sn⟩)⟩
          cases ms with
          | nil => cases c2
          | cons x r => exact ⟨_, rfl, m, _, 0, _, rfl, rfl, SqL.of (sn _ _ hM), atI_nat (j := 0) rfl, x, rfl, (hmx x (List.mem_cons_self ..)).1, sn⟩
        rintro _ H1 ⟨mk, rfl, hmk, s1⟩
        exact ⟨l, mk, rfl, hl, hmk, tabG_same hT s1, hR, fun H2 ps x2 _ => ⟨_, rfl, rfl, _, rfl, ite2 (fun _ => q1 hR _ ((Tbk.same hT s1).trans x2)) (fun z => absurd (by rfl) z)⟩⟩
      · exact ⟨_, rfl, _, rfl, l, m, ms, 3, rfl, hl, hM, hml, fun x hx => (hmx x hx).1, hT, hR, fun H2 p ps x2 _ _ _ => ⟨_, rfl, rfl, _, rfl, ite2 (fun _ => q1 hR _ x2) (fun z => absurd (by rfl) z)⟩⟩
    | false =>
      refine ⟨_, pss_cons (ps_set (i := 3) scRefd.nd rfl (.inl rfl) pe_non)
        (pss_cons (ps_kept (i := 4) (j := 3) (tb := fun W => tIfS (tTest (tOp rEq (tVar 0) (tC (.int 0)))) (tDrop (tCallS (spLeastX Pt C) (WE W) (tCons (tVar 1) (tCons (tMid (tIf (tTest (tOp (rNeD K) (tVar 2) (tLst tNil))) (tOp (rIxL K) (tVar 2) (tC (.int 0))) (tC (.str "abcd")))) tNil)))) (tDrop (tCallS (spMReadX Pt C) (WE W) (tCons (tVar 1) (tCons (tVar 2) (tCons (tC (.int 3)) tNil)))))) rfl rfl scRefd.nd rfl rfl rfl rfl (by decide) rfl ⟨rfl, by decide, .inl O.gR⟩ (fun _ _ => pv 4) (fun W pn xe tk _ => pss_one (ps_if (pt_cmpR op_eq (pv 0) pe_int (nomark _)) (pss_one (ps_expr (pe_ownX XL hr (by rfl) tk (pa_cons (pv 1) (pa_cons (pe_mid (pe_ifExp (pt_cmpR (op_neD hr.units) (pv 2) (pe_lst pa_nil) (nomark _)) (pe_ix ix_list (pv 2) pe_int (fun _ _ => rfl)) pe_str)) pa_nil))))) (pss_one (ps_expr (pe_ownX XM hr (by rfl) tk (pa_cons (pv 1) (pa_cons (pv 2) (pa_cons pe_int pa_nil)))))))))
        (pss_cons (ps_if (pt_cmpR op_isN (pv 3) pe_non (nomark _)) (pss_one (ps_ret pe_non)) pss_nil)
      (pss_cons (ps_if (pt_val (pe_callB (call_isXT O.ex) (by rfl) m_isinstance (by decide +kernel) (pa_cons (pv 3) (pa_cons (pe_tup (pa_cons (pe_glob (v := .ref d0) rfl T.g0 rfl) (pa_cons (pe_glob (v := .ref d1) rfl T.g1 rfl) (pa_cons (pe_glob (v := .ref d2) rfl T.g2 rfl) (pa_cons (pe_glob (v := .ref d3) rfl T.g3 rfl) (pa_cons (pe_glob (v := .ref d4) rfl T.g4 rfl) (pa_cons (pe_glob (v := .ref d5) rfl T.g5 rfl) (pa_cons (pe_glob (v := .ref d6) rfl T.g6 rfl) (pa_cons (pe_glob (v := .ref d7) rfl T.g7 rfl) (pa_cons (pe_glob (v := .ref d8) rfl T.g8 rfl) (pa_cons (pe_glob (v := .ref d9) rfl T.g9 rfl) pa_nil))))))))))) pa_nil)))) (pss_one (ps_ret pe_bl)) pss_nil)
      (pss_one (ps_ret (pe_and (pe_callB (call_isX O.ex) (by rfl) m_isinstance (by decide +kernel) (pa_cons (pv 3) (pa_cons (pe_glob (v := .ref C) rfl B.gC rfl) pa_nil))) (pe_one (pe_callB (call_isX O.ex) (by rfl) m_isinstance (by decide +kernel) (pa_cons (pv 3) (pa_cons (pe_bltn (v := .ty "ValueError") (by rfl) m_ValueError (by decide +kernel) rfl) pa_nil)))))))))), ?_⟩
      have ka : PySem.W.kitAny K (.ref C) [.ref d0, .ref d1, .ref d2, .ref d3, .ref d4, .ref d5, .ref d6, .ref d7, .ref d8, .ref d9] = some false := (kitAny_cons T.n0 (fun _ => (kitAny_cons T.n1 (fun _ => (kitAny_cons T.n2 (fun _ => (kitAny_cons T.n3 (fun _ => (kitAny_cons T.n4 (fun _ => (kitAny_cons T.n5 (fun _ => (kitAny_cons T.n6 (fun _ => (kitAny_cons T.n7 (fun _ => (kitAny_cons T.n8 (fun _ => (kitAny_cons T.n9 (fun _ => kitAny_nil) (fun z => nomatch z))) (fun z => nomatch z))) (fun z => nomatch z))) (fun z => nomatch z))) (fun z => nomatch z))) (fun z => nomatch z))) (fun z => nomatch z))) (fun z => nomatch z))) (fun z => nomatch z))) (fun z => nomatch z))
      refine ⟨_, rfl, rfl, _, rfl, ite2 (fun c1 => ?_) (fun c1 => ?_)⟩
      · refine ⟨_, rfl, fun v H' => Same H H', ?_, ?_⟩
        · refine ⟨_, rfl, Nat.zero_le _, fun n nn => ?_⟩
          have sn := same_upd (o := .lst []) nn
          refine ne_nil okm (sn _ _ hM) upd_same ⟨_, rfl, ite2 (fun c2 => ?_) (fun _ => sn)⟩
          cases ms with
          | nil => cases c2
          | cons x r => exact ⟨_, rfl, m, _, 0, _, rfl, rfl, SqL.of (sn _ _ hM), atI_nat (j := 0) rfl, sn⟩
        · intro v H1 s1
          refine ⟨l, v, rfl, hl, tabG_same hT s1, hR, fun H2 x2 => ⟨O.em, C, rfl, rfl, fun a na => ?_⟩⟩
          have X02 := (Tbk.same hT s1).trans x2
          have s3 := same_upd (o := ExT C a) na
          refine ⟨_, rfl, rfl, false, congrArg V.bl (decide_eq_false (fun z => nomatch z)), iteF ?_⟩
          refine ⟨_, rfl, (by show 10 ≤ sizeLine; decide), fun T' nT => ?_⟩
          have s4 := same_upd (o := .tup [.ref d0, .ref d1, .ref d2, .ref d3, .ref d4, .ref d5, .ref d6, .ref d7, .ref d8, .ref d9]) nT
          have ea := s4 _ _ (upd_same (H := H2) (a := a) (o := ExT C a))
          refine ⟨a, T', _, _, false, rfl, ea, upd_same, (.cons (.own _) (.cons (.own _) (.cons (.own _) (.cons (.own _) (.cons (.own _) (.cons (.own _) (.cons (.own _) (.cons (.own _) (.cons (.own _) (.cons (.own _) .nil)))))))))), ka, _, rfl, iteF ?_⟩
          refine ⟨_, rfl, a, .ref C, .ref C, true, rfl, ea, .own _, O.k1, _, rfl, iteT ?_⟩
          exact ⟨_, rfl, a, .ty "ValueError", .type "ValueError", true, rfl, ea, .ty _, O.k2, q0 hR _ ((X02.trans (Tbk.same X02.1 s3)).trans (Tbk.same (tabG_same X02.1 s3) s4))⟩
      · refine ⟨_, rfl, _, rfl, l, _, _, rfl, hl, hT, hR, fun H2 X02 => ⟨O.em, C, rfl, rfl, fun a na => ?_⟩⟩
        have s3 := same_upd (o := ExT C a) na
        refine ⟨_, rfl, rfl, false, congrArg V.bl (decide_eq_false (fun z => nomatch z)), iteF ?_⟩
        refine ⟨_, rfl, (by show 10 ≤ sizeLine; decide), fun T' nT => ?_⟩
        have s4 := same_upd (o := .tup [.ref d0, .ref d1, .ref d2, .ref d3, .ref d4, .ref d5, .ref d6, .ref d7, .ref d8, .ref d9]) nT
        have ea := s4 _ _ (upd_same (H := H2) (a := a) (o := ExT C a))
        refine ⟨a, T', _, _, false, rfl, ea, upd_same, (.cons (.own _) (.cons (.own _) (.cons (.own _) (.cons (.own _) (.cons (.own _) (.cons (.own _) (.cons (.own _) (.cons (.own _) (.cons (.own _) (.cons (.own _) .nil)))))))))), ka, _, rfl, iteF ?_⟩
        refine ⟨_, rfl, a, .ref C, .ref C, true, rfl, ea, .own _, O.k1, _, rfl, iteT ?_⟩
        exact ⟨_, rfl, a, .ty "ValueError", .type "ValueError", true, rfl, ea, .ty _, O.k2, q0 hR _ ((X02.trans (Tbk.same X02.1 s3)).trans (Tbk.same (tabG_same X02.1 s3) s4))⟩
end

/-! ### the law of k13 -/
theorem StAt.tbk {Pt : Addr} {H H2 : Hp} {d c : Addr} {t : Int} (S : StAt H d c t) (g : GxR.TabG H Pt) (x : Tbk Pt H H2) : StAt H2 d c t := by
  obtain ⟨ps, eP, _⟩ := g
  obtain ⟨cs, ec, r⟩ := S.cells
  exact ⟨x.2 _ _ (ne_of S.dict eP (fun z => nomatch z)) S.dict, ⟨cs, x.2 _ _ (ne_of ec eP (fun z => nomatch z)) ec, r⟩, S.pos⟩
def spRight (Pt : Addr) : Sp := fun vs H Q _ => ∃ (l : List Nat) (m : Addr) (ms : List (List Nat)), vs = [.str (SX.S l), .ref m] ∧ l.length ≤ 1000 ∧ okT l ∧ H m = some (.lst (txs ms)) ∧ ms.length ≤ 900 ∧ (∀ x ∈ ms, x.length ≤ 900 ∧ okT x) ∧ GxR.TabG H Pt ∧ ∀ H2, Tbk Pt H H2 → Q (.bl true) H2
def spLaw (K : PySem.W.Frag) (Pt : Addr) : Sp := fun vs H Q _ => ∃ (a : Addr) (ns : List Int), vs = [.ref a] ∧ SqL K H a (ns.map V.int) ∧ ns.length ≤ 63 ∧ GxR.TabG H Pt ∧ ∀ H', Q (.bl true) H'
abbrev sRight : Stmt := topS 39
theorem scRight : FnScope ["_law_text", "_law_marks_here", "_law_due", "_law_which", "_law_found"] ["_law_text", "_law_marks_here"] (defScope sRight) := ⟨rfl, rfl, rfl, by decide +kernel, rfl, by decide +kernel, by decide +kernel⟩
abbrev sLaw : Stmt := topS 40
theorem scLaw : FnScope ["_law_script", "_law_state", "_law_marks_here", "_law_turn", "_law_about", "_law_text", "_law_again"] ["_law_script"] (defScope sLaw) := ⟨rfl, rfl, rfl, by decide +kernel, rfl, by decide +kernel, by decide +kernel⟩
section
variable {K : PySem.W.Frag} {mg : Str → Option Value} {P : Program} {w : World} {base : Heap}
theorem ok_Right {f : Addr} {fd : FuncData} (F : Fun K "_law_right" "_law_right" sRight f fd) (C__law_parts : Cal P w K mg base 1 "_law_parts" ["_law_text"] spLParts) (C__law_refused : Cal P w K mg base 5 "_law_refused" ["_law_which", "_law_text", "_law_marks_here"] (spRefd Pt)) (C_is_reading : Cal P w K mg base 3 "is_reading" ["text"] (spIsRd Pt)) (m_list : mg "list" = none) : FnOk P w K mg base CX0 6 f fd ["_law_text", "_law_marks_here"] (spRight Pt) := by
  refine F.ok scRight (fun vs H Q E h => ?_) (fun cdv A outer s H vs Q E hr h => ?_)
  · obtain ⟨l, m, ms, rfl, _⟩ := h
    rfl
  · obtain ⟨l, m, ms, rfl, hl, hok, hM, hml, hmx, hT, q⟩ := h
    refine ⟨_, pss_cons (ps_set (i := 2) scRight.nd rfl (.inl rfl) (pe_mid (pe_ifExp (pt_cmpR op_notN (pe_own C__law_parts (hr.mono (show 1 ≤ 5 by decide)) (by rfl) (pa_cons (pv 0) pa_nil)) pe_non (nomark _)) pe_non pe_bl)))
      (pss_cons (ps_for PassesOwn.never rfl (pi_tup (pe_tup (pa_cons pe_int (pa_cons pe_int pa_nil)))) (pg_name (i := 3) scRight.nd rfl (.inl rfl))
        (pss_cons (ps_set (i := 4) scRight.nd rfl (.inl rfl) (pe_own C__law_refused hr (by rfl) (pa_cons (pv 3) (pa_cons (pv 0) (pa_cons (pe_callTy call_list_of (by rfl) m_list (by decide +kernel) (pa_cons (pv 1) pa_nil)) pa_nil)))))
        (pss_one (ps_if (PW.pt (pw_or (pt_cmpR op_ne (pe_cmpR op_isN (pv 4) pe_non (nomark _)) (pe_cmpR op_isN (pv 2) pe_non (nomark _)) (nomark _)) (pw_or1 (pt_cmpR op_ne (pv 4) (pv 2) (nomark _))))) (pss_one (ps_ret pe_bl))
          pss_nil))))
      (pss_one (ps_ret (pe_cmpR op_eq (pe_own C_is_reading (hr.mono (show 3 ≤ 5 by decide)) (by rfl) (pa_cons (pv 0) pa_nil)) (pe_cmpR op_isN (pv 2) pe_non (nomark _)) (nomark _))))), ?_⟩
    refine ⟨fun v H' => Same H H' ∧ v = (if isRd l = true then V.non else V.bl true), ?_, ?_⟩
    · refine ⟨_, rfl, l, rfl, hl, hok, fun H1 s1 e => ?_, fun H1 p s1 e => ?_⟩
      · exact ⟨rfl, _, rfl, ite2 (fun z => nomatch z) (fun _ => ⟨s1, by rw [e]; rfl⟩)⟩
      · exact ⟨rfl, true, congrArg V.bl (by rw [decide_eq_false (fun z => nomatch z)]; rfl), iteT ⟨s1, by rw [e]; rfl⟩⟩
    rintro dv H1 ⟨s1, hdv⟩
    refine ⟨(by show 2 ≤ sizeLine; decide), fun T nT => ?_⟩
    have sT := same_upd (o := .tup [.int 0, .int 1]) nT
    have hT1 := tabG_same hT s1
    have hTT := tabG_same hT1 sT
    have emT := sT _ _ (s1 _ _ hM)
    have TP : T ≠ Pt := fun z => by
      obtain ⟨tp, e, _⟩ := hT1
      rw [z, e] at nT
      cases nT
    cases hR : isRd l with
    | true =>
      rw [hR] at hdv
      obtain rfl : dv = V.non := hdv
      refine ⟨T, rfl, ⟨_, .inl (.inl upd_same)⟩, for_tup (xs := [.int 0, .int 1]) (fun i σ Hx => ∃ y3 y4 : Option V, σ = [some (.str (SX.S l)), some (.ref m), some (V.non), y3, y4] ∧ Tbk Pt (upd H1 T (.tup [.int 0, .int 1])) Hx) ⟨_, _, rfl, Tbk.refl hTT⟩ (fun i σ Hx _ hP => ?_) (fun i x σ Hx hx hP => ?_) (fun σ Hx hP => ?_)⟩
      · obtain ⟨y3, y4, rfl, xx⟩ := hP
        exact .inl (.inl (xx.2 _ _ TP upd_same))
      · obtain ⟨y3, y4, rfl, xx⟩ := hP
        have hk : ∃ k : Int, x = .int k := by
          rcases List.mem_cons.mp (List.mem_of_getElem? hx) with z | z
          · exact ⟨0, z⟩
          · exact ⟨1, List.mem_singleton.mp z⟩
        obtain ⟨k, rfl⟩ := hk
        have em := xx.lst hTT emT
        refine ⟨_, rfl, _, rfl, _, rfl, m, _, rfl, .inl (SqL.of em), fun L nL => ?_⟩
        have sL := same_upd (o := .lst (txs ms)) nL
        refine ⟨k, l, L, ms, rfl, hl, upd_same, hml, hmx, tabG_same xx.1 sL, fun e H2 x2 => ?_, fun e H2 x2 => ?_⟩
        · refine ⟨_, rfl, rfl, _, rfl, rfl, rfl, _, rfl, ite2 (fun z => nomatch z) (fun _ => ?_)⟩
          refine ⟨_, rfl, _, rfl, rfl, _, rfl, ite2 (fun z => nomatch z) (fun _ => ?_)⟩
          exact ⟨_, _, rfl, (xx.trans (Tbk.same xx.1 sL)).trans x2⟩
        · rw [hR] at e; cases e
      · obtain ⟨y3, y4, rfl, xx⟩ := hP
        refine ⟨_, rfl, l, rfl, hl, xx.1, fun H2 x2 => ⟨_, rfl, rfl, ?_⟩⟩
        have xq := q H2 (((Tbk.same hT s1).trans (Tbk.same hT1 sT)).trans (xx.trans x2))
        rw [hR]
        exact ⟨rfl, xq⟩
    | false =>
      rw [hR] at hdv
      obtain rfl : dv = V.bl true := hdv
      refine ⟨T, rfl, ⟨_, .inl (.inl upd_same)⟩, for_tup (xs := [.int 0, .int 1]) (fun i σ Hx => ∃ y3 y4 : Option V, σ = [some (.str (SX.S l)), some (.ref m), some (V.bl true), y3, y4] ∧ Tbk Pt (upd H1 T (.tup [.int 0, .int 1])) Hx) ⟨_, _, rfl, Tbk.refl hTT⟩ (fun i σ Hx _ hP => ?_) (fun i x σ Hx hx hP => ?_) (fun σ Hx hP => ?_)⟩
      · obtain ⟨y3, y4, rfl, xx⟩ := hP
        exact .inl (.inl (xx.2 _ _ TP upd_same))
      · obtain ⟨y3, y4, rfl, xx⟩ := hP
        have hk : ∃ k : Int, x = .int k := by
          rcases List.mem_cons.mp (List.mem_of_getElem? hx) with z | z
          · exact ⟨0, z⟩
          · exact ⟨1, List.mem_singleton.mp z⟩
        obtain ⟨k, rfl⟩ := hk
        have em := xx.lst hTT emT
        refine ⟨_, rfl, _, rfl, _, rfl, m, _, rfl, .inl (SqL.of em), fun L nL => ?_⟩
        have sL := same_upd (o := .lst (txs ms)) nL
        refine ⟨k, l, L, ms, rfl, hl, upd_same, hml, hmx, tabG_same xx.1 sL, fun e H2 x2 => ?_, fun e H2 x2 => ?_⟩
        · rw [hR] at e; cases e
        · refine ⟨_, rfl, rfl, _, rfl, rfl, rfl, _, rfl, ite2 (fun z => nomatch z) (fun _ => ?_)⟩
          refine ⟨_, rfl, _, rfl, rfl, _, rfl, ite2 (fun z => nomatch z) (fun _ => ?_)⟩
          exact ⟨_, _, rfl, (xx.trans (Tbk.same xx.1 sL)).trans x2⟩
      · obtain ⟨y3, y4, rfl, xx⟩ := hP
        refine ⟨_, rfl, l, rfl, hl, xx.1, fun H2 x2 => ⟨_, rfl, rfl, ?_⟩⟩
        have xq := q H2 (((Tbk.same hT s1).trans (Tbk.same hT1 sT)).trans (xx.trans x2))
        rw [hR]
        exact ⟨rfl, xq⟩
theorem ok_Law {f : Addr} {fd : FuncData} (F : Fun K "law" "law" sLaw f fd) (C__law_begin : Cal P w K mg base 1 "_law_begin" ["_law_script"] (spBegin K)) (C__law_marks : Cal P w K mg base 3 "_law_marks" ["_law_state", "_law_many"] spMarks) (C__law_take : Cal P w K mg base 1 "_law_take" ["_law_state", "_law_many"] spTake) (C__law_read : Cal P w K mg base 3 "_law_read" ["_law_state", "_law_mark_here", "_law_plain"] spRead) (C__law_right : Cal P w K mg base 6 "_law_right" ["_law_text", "_law_marks_here"] (spRight Pt)) (C__law_bent : Cal P w K mg base 2 "_law_bent" ["_law_state", "_law_text"] spBent) (m_range : mg "range" = none) : FnOk P w K mg base CX0 7 f fd ["_law_script"] (spLaw K Pt) := by
  refine F.ok scLaw (fun vs H Q E h => ?_) (fun cdv A outer s H vs Q E hr h => ?_)
  · obtain ⟨a, ns, rfl, _⟩ := h
    rfl
  · obtain ⟨a, ns, rfl, hA, hl, hT, q⟩ := h
    refine ⟨_, pss_cons (ps_set (i := 1) scLaw.nd rfl (.inl rfl) (pe_own C__law_begin (hr.mono (show 1 ≤ 6 by decide)) (by rfl) (pa_cons (pv 0) pa_nil)))
      (pss_cons (ps_set (i := 2) scLaw.nd rfl (.inl rfl) (pe_own C__law_marks (hr.mono (show 3 ≤ 6 by decide)) (by rfl) (pa_cons (pv 1) (pa_cons (pe_own C__law_take (hr.mono (show 1 ≤ 6 by decide)) (by rfl) (pa_cons (pv 1) (pa_cons pe_int pa_nil))) pa_nil))))
      (pss_cons (ps_for PassesOwn.never rfl (pi_range1 rfl m_range (pa_cons pe_int pa_nil)) (pg_name (i := 3) scLaw.nd rfl (.inl rfl))
        (pss_cons (ps_set (i := 4) scLaw.nd rfl (.inl rfl) (pe_mid (pe_ifExp (pt_cmpR (op_neD hr.units) (pv 2) (pe_lst pa_nil) (nomark _)) (pe_ix ix_list (pv 2) pe_int (fun _ _ => rfl)) pe_str)))
        (pss_cons (ps_set (i := 5) scLaw.nd rfl (.inl rfl) (pe_slice sl_str (pe_join pe_str (pe_own C__law_read (hr.mono (show 3 ≤ 6 by decide)) (by rfl) (pa_cons (pv 1) (pa_cons (pv 4) (pa_cons (pe_own C__law_take (hr.mono (show 1 ≤ 6 by decide)) (by rfl) (pa_cons (pv 1) (pa_cons pe_int pa_nil))) pa_nil))))) po_none (po_some pe_int)))
        (pss_cons (ps_if (pt_not (pt_val (pe_own C__law_right hr (by rfl) (pa_cons (pv 5) (pa_cons (pv 2) pa_nil))))) (pss_one (ps_ret pe_bl))
          pss_nil)
        (pss_cons (ps_for PassesOwn.never rfl (pi_range1 rfl m_range (pa_cons (pe_op op_add pe_int (pe_own C__law_take (hr.mono (show 1 ≤ 6 by decide)) (by rfl) (pa_cons (pv 1) (pa_cons pe_int pa_nil)))) pa_nil)) (pg_name (i := 6) scLaw.nd rfl (.inl rfl))
          (pss_one (ps_set (i := 5) scLaw.nd rfl (.inl rfl) (pe_slice sl_str (pe_own C__law_bent (hr.mono (show 2 ≤ 6 by decide)) (by rfl) (pa_cons (pv 1) (pa_cons (pv 5) pa_nil))) po_none (po_some pe_int)))))
        (pss_one (ps_if (pt_not (pt_val (pe_own C__law_right hr (by rfl) (pa_cons (pv 5) (pa_cons (pv 2) pa_nil))))) (pss_one (ps_ret pe_bl))
          pss_nil)))))))
      (pss_one (ps_ret (pe_own C__law_right hr (by rfl) (pa_cons pe_str (pa_cons (pv 2) pa_nil))))))), ?_⟩
    refine ⟨.ref a, rfl, a, ns, rfl, hA, hl, fun d c H1 s1 nd nc hS1 => ?_⟩
    have hT1 := tabG_same hT s1
    refine ⟨_, rfl, _, rfl, d, c, 0, 4, rfl, hS1, by decide, by decide, by decide, fun r1 H2 r10 r11 hS2 k2 => ?_⟩
    refine ⟨d, c, 0 + 1, r1, rfl, hS2, by decide, by omega, by omega, fun ms ml H3 t3 hm1 hm2 hma nml eml v0 v1 hS3 k3 => ?_⟩
    have offm := hS2.off nml
    have hT3 : GxR.TabG H3 Pt := tabG_kp (tabG_kp hT1 hS1 k2) hS2 k3
    have okm : ∀ x ∈ ms, okT x := fun x hx => (hma x hx).2
    have hma' : ∀ x ∈ ms, x.length ≤ 900 ∧ okT x := fun x hx => ⟨by have := (hma x hx).1; omega, (hma x hx).2⟩
    refine ⟨8, rfl, by decide, by decide, for_range (n := 8) (fun i σ Hx => ∃ (t : Int) (y3 y4 y5 y6 : Option V), σ = [some (.ref a), some (.ref d), some (.ref ml), y3, y4, y5, y6] ∧ Hx ml = some (.lst (txs ms)) ∧ 0 ≤ t ∧ t ≤ 20000 + 3000 * (i : Int) ∧ StAt Hx d c t ∧ GxR.TabG Hx Pt) ⟨t3, _, _, _, _, rfl, eml, by omega, by omega, hS3, hT3⟩ (fun i σ Hx hi hP => ?_) (fun σ Hx hP => ?_)⟩
    · obtain ⟨t, y3, y4, y5, y6, rfl, em, u0, u1, hS, hTx⟩ := hP
      have hi' : (i : Int) < 8 := by omega
      refine ⟨fun v H' => ∃ mk : List Nat, v = .str (SX.S mk) ∧ mk.length ≤ 30 ∧ okT mk ∧ Same Hx H', ?_, ?_⟩
      · refine ⟨_, rfl, Nat.zero_le _, fun n nn => ?_⟩
        have sn := same_upd (o := .lst []) nn
        refine ne_nil okm (sn _ _ em) upd_same ⟨_, rfl, ite2 (fun c2 => ?_) (fun _ => ⟨[109, 49, 110, 50], rfl, by decide, fun c hc => (by revert c; decide), sn⟩)⟩
        cases ms with
        | nil => cases c2
        | cons x r => exact ⟨_, rfl, ml, _, 0, _, rfl, rfl, SqL.of (sn _ _ em), atI_nat (j := 0) rfl, x, rfl, (hma x (List.mem_cons_self ..)).1, (hma x (List.mem_cons_self ..)).2, sn⟩
      rintro _ H4 ⟨mk, rfl, mk1, mk2, s4⟩
      have em4 := s4 _ _ em
      have hS4 := hS.same s4
      have hT4 := tabG_same hTx s4
      refine ⟨⟨_, rfl⟩, _, rfl, _, rfl, _, rfl, d, c, t, 3, rfl, hS4, by omega, by decide, by decide, fun r2 H5 r20 r21 hS5 k5 => ?_⟩
      refine ⟨d, c, t + 1, r2, mk, rfl, hS5, by omega, mk1, mk2, by omega, by omega, fun ps p H6 t6 hpl hps np ep w60 w61 hS6 k6 => ?_⟩
      have em6 := k6 _ _ offm.1 offm.2 (k5 _ _ offm.1 offm.2 em4)
      have hT6 := tabG_kp (tabG_kp hT4 hS4 k5) hS5 k6
      have hfl : ps.flatten.length ≤ 700 := by
        have := flat_le (m := 10) (xs := ps) fun u hu => (hps u hu).1
        omega
      have ep' := ep
      rw [txs_strs] at ep'
      refine ⟨_, p, _, rfl, rfl, .inl (SqL.of ep'), fits_txs (by omega), ?_⟩
      rw [join_txs]
      have hokf : okT ps.flatten := okT_flat fun x hx => (hps x hx).2
      refine ⟨_, rfl, _, rfl, S_le (by omega), ?_⟩
      have ec : cutS (SX.S ps.flatten) none (some 40) = SX.S (ps.flatten.take 40) := cutS_take _ 40
      rw [ec]
      refine ⟨_, rfl, _, rfl, ps.flatten.take 40, ml, ms, rfl, by rw [List.length_take]; omega, hokf.take _, em6, by omega, hma', hT6, fun H7 x7 => ⟨_, rfl, ite2 (fun z => nomatch z) (fun _ => ?_)⟩⟩
      have em7 := x7.lst hT6 em6
      have hS7 := hS6.tbk hT6 x7
      refine ⟨_, rfl, d, c, t6, 3, rfl, hS7, by omega, by decide, by decide, fun r3 H8 r30 r31 hS8 k8 => ?_⟩
      refine ⟨1, r3, rfl, rfl, 1 + r3, rfl, by omega, by omega, for_range (n := (1 + r3).toNat) (fun j σ Hy => ∃ (x : List Nat) (t' : Int) (y6 : Option V), σ = [some (.ref a), some (.ref d), some (.ref ml), some (.int (0 + (i : Int))), some (.str (SX.S mk)), some (.str (SX.S x)), y6] ∧ x.length ≤ 40 ∧ okT x ∧ Hy ml = some (.lst (txs ms)) ∧ t6 ≤ t' ∧ t' ≤ t6 + 1 + 10 * (j : Int) ∧ StAt Hy d c t' ∧ GxR.TabG Hy Pt) ⟨ps.flatten.take 40, t6 + 1, _, rfl, by rw [List.length_take]; omega, hokf.take _, k8 _ _ offm.1 offm.2 em7, by omega, by omega, hS8, tabG_kp x7.1 hS7 k8⟩ (fun j σ Hy hj hP => ?_) (fun σ Hy hP => ?_)⟩
      · obtain ⟨x, t', y6, rfl, hx, hxo, emy, v60, v61, hSy, hTy⟩ := hP
        have hj3 : (j : Int) < 3 := by omega
        refine ⟨_, rfl, _, rfl, d, c, t', x, rfl, hSy, by omega, by omega, hxo, fun z H9 t9 hz hzo v90 v91 hS9 k9 => ?_⟩
        refine ⟨_, rfl, _, rfl, S_le (by omega), ?_⟩
        have ez : cutS (SX.S z) none (some 40) = SX.S (z.take 40) := cutS_take _ 40
        rw [ez]
        exact ⟨z.take 40, t9, _, rfl, by rw [List.length_take]; omega, hzo.take _, k9 _ _ offm.1 offm.2 emy, by omega, by omega, hS9, tabG_kp hTy hSy k9⟩
      · obtain ⟨x, t', y6, rfl, hx, hxo, emy, v60, v61, hSy, hTy⟩ := hP
        refine ⟨_, rfl, _, rfl, x, ml, ms, rfl, by omega, hxo, emy, by omega, hma', hTy, fun H9 x9 => ⟨_, rfl, ite2 (fun z => nomatch z) (fun _ => ?_)⟩⟩
        exact ⟨t', _, _, _, _, rfl, x9.lst hTy emy, by omega, by omega, hSy.tbk hTy x9, x9.1⟩
    · obtain ⟨t, y3, y4, y5, y6, rfl, em, u0, u1, hS, hTx⟩ := hP
      exact ⟨_, rfl, [], ml, ms, rfl, Nat.zero_le _, (fun _ h => nomatch h), em, by omega, hma', hTx, fun H2 _ => q H2⟩
end

/-! ### the end: what the top has left, the tables of code objects among it -/
/-- each def of the text has a code object with an empty table -/
def Tabs (q : Program) (mg : Str → Option Value) (h : Heap) : Prop := ∀ dr ∈ recsOf q, ∃ (f : Addr) (o : Obj) (fd : FuncData) (c P : Addr), mg dr.name = some (.ref f) ∧ h.get? f = some o ∧ o.data = .func fd ∧ fd.code = .ref c ∧ PySem.W.CodeHd h c P ∧ h.get? P = some (PySem.W.tabObj #[])
theorem tab_in {q : Program} {mg : Str → Option Value} {h : Heap} {K : PySem.W.Frag} {y : Str} {f c P : Addr} {oc e : Value} {od dd : Option Addr} {fd : FuncData} {osl sl : Array (Option Value)} {vs : Array Value} (TT : Tabs q mg h) (X : K.In h) (rec : ((recsOf q).any fun r => r.name == y) = true)
    (g : mg y = some (.ref f)) (lf : K.lookup f = some ⟨oc, od, .func fd, osl⟩) (hc : fd.code = .ref c) (lc : K.lookup c = some ⟨e, dd, .fields vs, sl⟩) (v : vs[11]? = some (.ref P)) : PySem.W.CodeHd h c P ∧ h.get? P = some (PySem.W.tabObj #[]) := by
  obtain ⟨dr, mem, nm⟩ := List.any_eq_true.mp rec
  obtain ⟨f', o', fd', c', P', t1, t2, t3, t4, t5, t6⟩ := TT dr mem
  have ef : f' = f := by
    rw [beq_iff_eq.mp nm, g] at t1
    exact (Value.ref.inj (Option.some.inj t1)).symm
  rw [ef, X _ _ lf] at t2
  rw [← Option.some.inj t2] at t3
  have efd : fd = fd' := Data.func.inj t3
  rw [← efd, hc] at t4
  have ec : c = c' := Value.ref.inj t4
  rw [← ec] at t5
  have t5' := t5
  obtain ⟨oc', us, _, _, _, _, _, _, _, u1, _, u3, u4, _⟩ := t5'
  rw [X _ _ lc] at u1
  rw [← Option.some.inj u1] at u3
  have eu : vs = us := Data.fields.inj u3
  rw [← eu, v] at u4
  have eP : P = P' := Value.ref.inj (Option.some.inj u4)
  rw [eP]
  exact ⟨t5, t6⟩
theorem law_end {l : PySem.W.OpenLaw} {k : Nat} {q : Program} {loose : List Str} {XP : (Str → Option Value) → Heap → Prop} {YP : World → Heap → Prop} {d : DefRec} {K : Params → PySem.W.Frag} (most : l.most = some 63) (plain : d.params.defaults = []) (room : Room k callerA)
    (part : ∀ w h, YP w h → (K w.params).In h) (made : ∀ (w : World) (mg : Str → Option Value) (f : Addr) (h : Heap), (K w.params).In h → h.Ns mainGlobals mg → mg d.name = some (.ref f) → Tabs q mg h → LamX.LawAtS l w (K w.params) CX0 k 63 "_law_script" mg f h) : PySem.W.WalkO q loose XP YP l.row.toRowW d [] (fun f vs => PySem.call f vs) := by
  refine Att.attach_callB most plain ?_
  intro w _ s₁ mg _ f _ _ _ _ a vs ns ground said _ _ _ name script nums len size still
  have X := part w _ said
  have tabs : Tabs q mg s₁.heap := fun dr mem => by
    obtain ⟨f', o', fd', c', P', t1, t2, t3, t4, t5, t6⟩ := ground.T.tab dr mem
    exact ⟨f', o', fd', c', P', t1, t2, t3, t4, PySem.W.CodeHd.of t5 t6, t6.2⟩
  obtain ⟨fd, cs, sp, e1, e2, e3, e4, e5, e6⟩ := made w mg f _ X ground.T.g name tabs
  exact LamX.law_callTs X ground.T.g ground.T.b ground.T.builtins ground.T.nolimit still e1 e2 e3 ground.T.bmain script nums (Nat.le_trans len (by decide)) room e6 e4 (fun H z1 z2 => e5 H a ns len size z1 z2) fun _ _ _ z => z

theorem all_mk {l : PySem.W.OpenLaw} {q : Program} {w : World} {K : PySem.W.Frag} {h : Heap} {mg : Str → Option Value} {fa f0 f1 f2 f3 f4 f5 f6 f7 f8 f9 f10 f11 f12 f13 f14 f15 f16 f17 f18 f19 f20 : Addr} {c0 P0 : Addr} (X : K.In h) (G : h.Ns mainGlobals mg) (hfa : mg "law" = some (.ref fa)) (TT : Tabs q mg h)
    {od0 an0 od1 an1 od2 an2 od3 an3 od4 an4 od5 an5 od6 an6 od7 an7 od8 an8 od9 an9 od10 an10 od11 an11 od12 an12 od13 an13 od14 an14 od15 an15 od16 an16 od17 an17 od18 an18 od19 an19 od20 an20 : Option Addr} {sl0 sl1 sl2 sl3 sl4 sl5 sl6 sl7 sl8 sl9 sl10 sl11 sl12 sl13 sl14 sl15 sl16 sl17 sl18 sl19 sl20 : Array (Option Value)} {oc0 kV0 dc0 pm0 ct0 oc1 kV1 dc1 pm1 ct1 cd1 oc2 kV2 dc2 pm2 ct2 cd2 oc3 kV3 dc3 pm3 ct3 cd3 oc4 kV4 dc4 pm4 ct4 cd4 oc5 kV5 dc5 pm5 ct5 cd5 oc6 kV6 dc6 pm6 ct6 cd6 oc7 kV7 dc7 pm7 ct7 cd7 oc8 kV8 dc8 pm8 ct8 cd8 oc9 kV9 dc9 pm9 ct9 cd9 oc10 kV10 dc10 pm10 ct10 cd10 oc11 kV11 dc11 pm11 ct11 cd11 oc12 kV12 dc12 pm12 ct12 cd12 oc13 kV13 dc13 pm13 ct13 cd13 oc14 kV14 dc14 pm14 ct14 cd14 oc15 kV15 dc15 pm15 ct15 cd15 oc16 kV16 dc16 pm16 ct16 cd16 oc17 kV17 dc17 pm17 ct17 cd17 oc18 kV18 dc18 pm18 ct18 cd18 oc19 kV19 dc19 pm19 ct19 cd19 oc20 kV20 dc20 pm20 ct20 cd20 : Value}
    {e0 : Value} {dd0 : Option Addr} {vs0 : Array Value} {sc0 : Array (Option Value)}
    (a0 : PySem.W.nsIn K mainGlobals "is_choice" = some (some (.ref f0))) (l0 : K.lookup f0 = some ⟨oc0, od0, .func (PySem.W.fnOf "is_choice" "is_choice" (defArgs sIsCh) (defBody sIsCh) (defScope sIsCh) .none kV0 dc0 pm0 an0 (.ref c0) ct0), sl0⟩) (c0' : PySem.W.codeIn K (.ref c0) "is_choice" = true) (k0 : PySem.W.keepIn K (.ref f0) = true)
    (a1 : PySem.W.nsIn K mainGlobals "parts_of" = some (some (.ref f1))) (l1 : K.lookup f1 = some ⟨oc1, od1, .func (PySem.W.fnOf "parts_of" "parts_of" (defArgs sPartsOf) (defBody sPartsOf) (defScope sPartsOf) .none kV1 dc1 pm1 an1 cd1 ct1), sl1⟩) (c1' : PySem.W.codeIn K cd1 "parts_of" = true) (k1 : PySem.W.keepIn K (.ref f1) = true)
    (a2 : PySem.W.nsIn K mainGlobals "is_reading" = some (some (.ref f2))) (l2 : K.lookup f2 = some ⟨oc2, od2, .func (PySem.W.fnOf "is_reading" "is_reading" (defArgs sIsRd) (defBody sIsRd) (defScope sIsRd) .none kV2 dc2 pm2 an2 cd2 ct2), sl2⟩) (c2' : PySem.W.codeIn K cd2 "is_reading" = true) (k2 : PySem.W.keepIn K (.ref f2) = true)
    (a3 : PySem.W.nsIn K mainGlobals "parts_or_refuse" = some (some (.ref f3))) (l3 : K.lookup f3 = some ⟨oc3, od3, .func (PySem.W.fnOf "parts_or_refuse" "parts_or_refuse" (defArgs sRefuse) (defBody sRefuse) (defScope sRefuse) .none kV3 dc3 pm3 an3 cd3 ct3), sl3⟩) (c3' : PySem.W.codeIn K cd3 "parts_or_refuse" = true) (k3 : PySem.W.keepIn K (.ref f3) = true)
    (a4 : PySem.W.nsIn K mainGlobals "slip_of" = some (some (.ref f4))) (l4 : K.lookup f4 = some ⟨oc4, od4, .func (PySem.W.fnOf "slip_of" "slip_of" (defArgs sSlip) (defBody sSlip) (defScope sSlip) .none kV4 dc4 pm4 an4 cd4 ct4), sl4⟩) (c4' : PySem.W.codeIn K cd4 "slip_of" = true) (k4 : PySem.W.keepIn K (.ref f4) = true)
    (a5 : PySem.W.nsIn K mainGlobals "behind_lost" = some (some (.ref f5))) (l5 : K.lookup f5 = some ⟨oc5, od5, .func (PySem.W.fnOf "behind_lost" "behind_lost" (defArgs sBLost) (defBody sBLost) (defScope sBLost) .none kV5 dc5 pm5 an5 cd5 ct5), sl5⟩) (c5' : PySem.W.codeIn K cd5 "behind_lost" = true) (k5 : PySem.W.keepIn K (.ref f5) = true)
    (a6 : PySem.W.nsIn K mainGlobals "behind_sign" = some (some (.ref f6))) (l6 : K.lookup f6 = some ⟨oc6, od6, .func (PySem.W.fnOf "behind_sign" "behind_sign" (defArgs sBSign) (defBody sBSign) (defScope sBSign) .none kV6 dc6 pm6 an6 cd6 ct6), sl6⟩) (c6' : PySem.W.codeIn K cd6 "behind_sign" = true) (k6 : PySem.W.keepIn K (.ref f6) = true)
    (a7 : PySem.W.nsIn K mainGlobals "fewest" = some (some (.ref f7))) (l7 : K.lookup f7 = some ⟨oc7, od7, .func (PySem.W.fnOf "fewest" "fewest" (defArgs sFew) (defBody sFew) (defScope sFew) .none kV7 dc7 pm7 an7 cd7 ct7), sl7⟩) (c7' : PySem.W.codeIn K cd7 "fewest" = true) (k7 : PySem.W.keepIn K (.ref f7) = true)
    (a8 : PySem.W.nsIn K mainGlobals "least_slips" = some (some (.ref f8))) (l8 : K.lookup f8 = some ⟨oc8, od8, .func (PySem.W.fnOf "least_slips" "least_slips" (defArgs sLeast) (defBody sLeast) (defScope sLeast) .none kV8 dc8 pm8 an8 cd8 ct8), sl8⟩) (c8' : PySem.W.codeIn K cd8 "least_slips" = true) (k8 : PySem.W.keepIn K (.ref f8) = true)
    (a9 : PySem.W.nsIn K mainGlobals "marks_read" = some (some (.ref f9))) (l9 : K.lookup f9 = some ⟨oc9, od9, .func (PySem.W.fnOf "marks_read" "marks_read" (defArgs sMRead) (defBody sMRead) (defScope sMRead) .none kV9 dc9 pm9 an9 cd9 ct9), sl9⟩) (c9' : PySem.W.codeIn K cd9 "marks_read" = true) (k9 : PySem.W.keepIn K (.ref f9) = true)
    (a10 : PySem.W.nsIn K mainGlobals "_law_begin" = some (some (.ref f10))) (l10 : K.lookup f10 = some ⟨oc10, od10, .func (PySem.W.fnOf "_law_begin" "_law_begin" (defArgs sBegin) (defBody sBegin) (defScope sBegin) .none kV10 dc10 pm10 an10 cd10 ct10), sl10⟩) (c10' : PySem.W.codeIn K cd10 "_law_begin" = true) (k10 : PySem.W.keepIn K (.ref f10) = true)
    (a11 : PySem.W.nsIn K mainGlobals "_law_take" = some (some (.ref f11))) (l11 : K.lookup f11 = some ⟨oc11, od11, .func (PySem.W.fnOf "_law_take" "_law_take" (defArgs sTake) (defBody sTake) (defScope sTake) .none kV11 dc11 pm11 an11 cd11 ct11), sl11⟩) (c11' : PySem.W.codeIn K cd11 "_law_take" = true) (k11 : PySem.W.keepIn K (.ref f11) = true)
    (a12 : PySem.W.nsIn K mainGlobals "_law_mark" = some (some (.ref f12))) (l12 : K.lookup f12 = some ⟨oc12, od12, .func (PySem.W.fnOf "_law_mark" "_law_mark" (defArgs sMark) (defBody sMark) (defScope sMark) .none kV12 dc12 pm12 an12 cd12 ct12), sl12⟩) (c12' : PySem.W.codeIn K cd12 "_law_mark" = true) (k12 : PySem.W.keepIn K (.ref f12) = true)
    (a13 : PySem.W.nsIn K mainGlobals "_law_marks" = some (some (.ref f13))) (l13 : K.lookup f13 = some ⟨oc13, od13, .func (PySem.W.fnOf "_law_marks" "_law_marks" (defArgs sMarks) (defBody sMarks) (defScope sMarks) .none kV13 dc13 pm13 an13 cd13 ct13), sl13⟩) (c13' : PySem.W.codeIn K cd13 "_law_marks" = true) (k13 : PySem.W.keepIn K (.ref f13) = true)
    (a14 : PySem.W.nsIn K mainGlobals "_law_choice" = some (some (.ref f14))) (l14 : K.lookup f14 = some ⟨oc14, od14, .func (PySem.W.fnOf "_law_choice" "_law_choice" (defArgs sChoice) (defBody sChoice) (defScope sChoice) .none kV14 dc14 pm14 an14 cd14 ct14), sl14⟩) (c14' : PySem.W.codeIn K cd14 "_law_choice" = true) (k14 : PySem.W.keepIn K (.ref f14) = true)
    (a15 : PySem.W.nsIn K mainGlobals "_law_read" = some (some (.ref f15))) (l15 : K.lookup f15 = some ⟨oc15, od15, .func (PySem.W.fnOf "_law_read" "_law_read" (defArgs sRead) (defBody sRead) (defScope sRead) .none kV15 dc15 pm15 an15 cd15 ct15), sl15⟩) (c15' : PySem.W.codeIn K cd15 "_law_read" = true) (k15 : PySem.W.keepIn K (.ref f15) = true)
    (a16 : PySem.W.nsIn K mainGlobals "_law_parts" = some (some (.ref f16))) (l16 : K.lookup f16 = some ⟨oc16, od16, .func (PySem.W.fnOf "_law_parts" "_law_parts" (defArgs sLParts) (defBody sLParts) (defScope sLParts) .none kV16 dc16 pm16 an16 cd16 ct16), sl16⟩) (c16' : PySem.W.codeIn K cd16 "_law_parts" = true) (k16 : PySem.W.keepIn K (.ref f16) = true)
    (a17 : PySem.W.nsIn K mainGlobals "_law_bent" = some (some (.ref f17))) (l17 : K.lookup f17 = some ⟨oc17, od17, .func (PySem.W.fnOf "_law_bent" "_law_bent" (defArgs sBent) (defBody sBent) (defScope sBent) .none kV17 dc17 pm17 an17 cd17 ct17), sl17⟩) (c17' : PySem.W.codeIn K cd17 "_law_bent" = true) (k17 : PySem.W.keepIn K (.ref f17) = true)
    (a18 : PySem.W.nsIn K mainGlobals "_law_refused" = some (some (.ref f18))) (l18 : K.lookup f18 = some ⟨oc18, od18, .func (PySem.W.fnOf "_law_refused" "_law_refused" (defArgs sRefd) (defBody sRefd) (defScope sRefd) .none kV18 dc18 pm18 an18 cd18 ct18), sl18⟩) (c18' : PySem.W.codeIn K cd18 "_law_refused" = true) (k18 : PySem.W.keepIn K (.ref f18) = true)
    (a19 : PySem.W.nsIn K mainGlobals "_law_right" = some (some (.ref f19))) (l19 : K.lookup f19 = some ⟨oc19, od19, .func (PySem.W.fnOf "_law_right" "_law_right" (defArgs sRight) (defBody sRight) (defScope sRight) .none kV19 dc19 pm19 an19 cd19 ct19), sl19⟩) (c19' : PySem.W.codeIn K cd19 "_law_right" = true) (k19 : PySem.W.keepIn K (.ref f19) = true)
    (a20 : PySem.W.nsIn K mainGlobals "law" = some (some (.ref f20))) (l20 : K.lookup f20 = some ⟨oc20, od20, .func (PySem.W.fnOf "law" "law" (defArgs sLaw) (defBody sLaw) (defScope sLaw) .none kV20 dc20 pm20 an20 cd20 ct20), sl20⟩) (c20' : PySem.W.codeIn K cd20 "law" = true) (k20 : PySem.W.keepIn K (.ref f20) = true)
    (lc0 : K.lookup c0 = some ⟨e0, dd0, .fields vs0, sc0⟩) (v0 : vs0[11]? = some (.ref P0)) (nP0 : K.lookup P0 = none) (r0 : ((recsOf q).any fun e => e.name == ("is_choice" : Str)) = true)
    {tk_SIGNS : Tok} (zc_SIGNS : PySem.W.nsIn K mainGlobals "SIGNS" = some (some (.str "abcdefghijklmnopqrstuvwxyz0123456789" tk_SIGNS))) {tk_UNREAD : Tok} (zc_UNREAD : PySem.W.nsIn K mainGlobals "UNREAD" = some (some (.str "?" tk_UNREAD))) {tk_LOST : Tok} (zc_LOST : PySem.W.nsIn K mainGlobals "LOST" = some (some (.str "*" tk_LOST))) {tk_FEWEST_IN_CHOICE : Tok} (zc_FEWEST_IN_CHOICE : PySem.W.nsIn K mainGlobals "FEWEST_IN_CHOICE" = some (some (.int 2 tk_FEWEST_IN_CHOICE))) {tk_MOST_IN_CHOICE : Tok} (zc_MOST_IN_CHOICE : PySem.W.nsIn K mainGlobals "MOST_IN_CHOICE" = some (some (.int 6 tk_MOST_IN_CHOICE)))
    {C R d0 d1 d2 d3 d4 d5 d6 d7 d8 d9 : Addr}
    (x_C : PySem.W.nsIn K mainGlobals "BadReading" = some (some (.ref C)))
    (x_R : PySem.W.nsIn K mainGlobals "RecallError" = some (some (.ref R)))
    (x_d0 : PySem.W.nsIn K mainGlobals "BadRow" = some (some (.ref d0)))
    (x_d1 : PySem.W.nsIn K mainGlobals "NoBatch" = some (some (.ref d1)))
    (x_d2 : PySem.W.nsIn K mainGlobals "NoCase" = some (some (.ref d2)))
    (x_d3 : PySem.W.nsIn K mainGlobals "NoDeed" = some (some (.ref d3)))
    (x_d4 : PySem.W.nsIn K mainGlobals "NoPacking" = some (some (.ref d4)))
    (x_d5 : PySem.W.nsIn K mainGlobals "NoPage" = some (some (.ref d5)))
    (x_d6 : PySem.W.nsIn K mainGlobals "NoTest" = some (some (.ref d6)))
    (x_d7 : PySem.W.nsIn K mainGlobals "NoTin" = some (some (.ref d7)))
    (x_d8 : PySem.W.nsIn K mainGlobals "Taken" = some (some (.ref d8)))
    (x_d9 : PySem.W.nsIn K mainGlobals "Twice" = some (some (.ref d9)))
    (x_x : PySem.W.excIn K C [.type "ValueError", .type "Exception", .type "BaseException", .type "object"] "ValueError.__new__" = true)
    (x_k : PySem.W.keepIn K (.ref C) = true)
    (x_b : PySem.W.subIn K (.ref C) (.type "BaseException") = some true)
    (x_t : PySem.W.typeIn K (.ref C) = some (.type "type"))
    (x_rb : PySem.W.subIn K (.ref R) (.type "BaseException") = some true)
    (x_rd : PySem.W.hasDictIn K R = true)
    (x_rt : PySem.W.typeIn K (.ref R) = some (.type "type"))
    (x_rs : PySem.W.subIn K (.ref C) (.ref R) = some true)
    (x_g1 : PySem.W.findIn K (.ref C) "__getattribute__" = some (some (.builtin "BaseException.__getattribute__")))
    (x_g2 : PySem.W.findIn K (.ref C) "__getattr__" = some none)
    (x_hd : PySem.W.hasDictIn K C = true)
    (x_g3 : PySem.W.findIn K (.ref C) "__class__" = some (some (.builtin "object.__class__")))
    (x_s1 : PySem.W.specialIn K (.builtin "object.__class__") "__get__" = some (some (.builtin "getset_descriptor.__get__")))
    (x_s2 : PySem.W.takesIn K (.builtin "object.__class__") = some true)
    (x_m : PySem.W.mroIn K C (.type "object") = some true)
    (x_k1 : PySem.W.kitOne K (.ref C) (.ref C) = some true)
    (x_k2 : PySem.W.kitOne K (.ref C) (.type "ValueError") = some true)
    (x_n0 : PySem.W.kitOne K (.ref C) (.ref d0) = some false)
    (x_n1 : PySem.W.kitOne K (.ref C) (.ref d1) = some false)
    (x_n2 : PySem.W.kitOne K (.ref C) (.ref d2) = some false)
    (x_n3 : PySem.W.kitOne K (.ref C) (.ref d3) = some false)
    (x_n4 : PySem.W.kitOne K (.ref C) (.ref d4) = some false)
    (x_n5 : PySem.W.kitOne K (.ref C) (.ref d5) = some false)
    (x_n6 : PySem.W.kitOne K (.ref C) (.ref d6) = some false)
    (x_n7 : PySem.W.kitOne K (.ref C) (.ref d7) = some false)
    (x_n8 : PySem.W.kitOne K (.ref C) (.ref d8) = some false)
    (x_n9 : PySem.W.kitOne K (.ref C) (.ref d9) = some false)
    (z_ValueError : PySem.W.nsIn K mainGlobals "ValueError" = some none) (z_all : PySem.W.nsIn K mainGlobals "all" = some none) (z_divmod : PySem.W.nsIn K mainGlobals "divmod" = some none) (z_enumerate : PySem.W.nsIn K mainGlobals "enumerate" = some none) (z_int : PySem.W.nsIn K mainGlobals "int" = some none) (z_isinstance : PySem.W.nsIn K mainGlobals "isinstance" = some none) (z_len : PySem.W.nsIn K mainGlobals "len" = some none) (z_list : PySem.W.nsIn K mainGlobals "list" = some none) (z_max : PySem.W.nsIn K mainGlobals "max" = some none) (z_min : PySem.W.nsIn K mainGlobals "min" = some none) (z_range : PySem.W.nsIn K mainGlobals "range" = some none) (z_set : PySem.W.nsIn K mainGlobals "set" = some none) (z_zip : PySem.W.nsIn K mainGlobals "zip" = some none) :
    LamX.LawAtS l w K CX0 7 63 "_law_script" mg fa h := by
  cases hfa.symm.trans (PySem.W.mg_of X G a20)
  have F0 := fun_mk (st := sIsCh) l0 c0' k0
  have b0 := F0.binds (ps := ["signs"]) fun _ _ _ _ _ _ us hl => match us, hl with | [_], _ => rfl
  have F1 := fun_mk (st := sPartsOf) l1 c1' k1
  have b1 := F1.binds (ps := ["text"]) fun _ _ _ _ _ _ us hl => match us, hl with | [_], _ => rfl
  have F2 := fun_mk (st := sIsRd) l2 c2' k2
  have b2 := F2.binds (ps := ["text"]) fun _ _ _ _ _ _ us hl => match us, hl with | [_], _ => rfl
  have F3 := fun_mk (st := sRefuse) l3 c3' k3
  have b3 := F3.binds (ps := ["reading"]) fun _ _ _ _ _ _ us hl => match us, hl with | [_], _ => rfl
  have F4 := fun_mk (st := sSlip) l4 c4' k4
  have b4 := F4.binds (ps := ["part", "sign"]) fun _ _ _ _ _ _ us hl => match us, hl with | [_, _], _ => rfl
  have F5 := fun_mk (st := sBLost) l5 c5' k5
  have b5 := F5.binds (ps := ["slips"]) fun _ _ _ _ _ _ us hl => match us, hl with | [_], _ => rfl
  have F6 := fun_mk (st := sBSign) l6 c6' k6
  have b6 := F6.binds (ps := ["part", "mark", "slips"]) fun _ _ _ _ _ _ us hl => match us, hl with | [_, _, _], _ => rfl
  have F7 := fun_mk (st := sFew) l7 c7' k7
  have b7 := F7.binds (ps := ["parts", "mark"]) fun _ _ _ _ _ _ us hl => match us, hl with | [_, _], _ => rfl
  have F8 := fun_mk (st := sLeast) l8 c8' k8
  have b8 := F8.binds (ps := ["reading", "mark"]) fun _ _ _ _ _ _ us hl => match us, hl with | [_, _], _ => rfl
  have F9 := fun_mk (st := sMRead) l9 c9' k9
  have b9 := F9.binds (ps := ["reading", "marks", "slips"]) fun _ _ _ _ _ _ us hl => match us, hl with | [_, _, _], _ => rfl
  have F10 := fun_mk (st := sBegin) l10 c10' k10
  have b10 := F10.binds (ps := ["_law_script"]) fun _ _ _ _ _ _ us hl => match us, hl with | [_], _ => rfl
  have F11 := fun_mk (st := sTake) l11 c11' k11
  have b11 := F11.binds (ps := ["_law_state", "_law_many"]) fun _ _ _ _ _ _ us hl => match us, hl with | [_, _], _ => rfl
  have F12 := fun_mk (st := sMark) l12 c12' k12
  have b12 := F12.binds (ps := ["_law_state", "_law_long", "_law_few"]) fun _ _ _ _ _ _ us hl => match us, hl with | [_, _, _], _ => rfl
  have F13 := fun_mk (st := sMarks) l13 c13' k13
  have b13 := F13.binds (ps := ["_law_state", "_law_many"]) fun _ _ _ _ _ _ us hl => match us, hl with | [_, _], _ => rfl
  have F14 := fun_mk (st := sChoice) l14 c14' k14
  have b14 := F14.binds (ps := ["_law_state", "_law_sign"]) fun _ _ _ _ _ _ us hl => match us, hl with | [_, _], _ => rfl
  have F15 := fun_mk (st := sRead) l15 c15' k15
  have b15 := F15.binds (ps := ["_law_state", "_law_mark_here", "_law_plain"]) fun _ _ _ _ _ _ us hl => match us, hl with | [_, _, _], _ => rfl
  have F16 := fun_mk (st := sLParts) l16 c16' k16
  have b16 := F16.binds (ps := ["_law_text"]) fun _ _ _ _ _ _ us hl => match us, hl with | [_], _ => rfl
  have F17 := fun_mk (st := sBent) l17 c17' k17
  have b17 := F17.binds (ps := ["_law_state", "_law_text"]) fun _ _ _ _ _ _ us hl => match us, hl with | [_, _], _ => rfl
  have F18 := fun_mk (st := sRefd) l18 c18' k18
  have b18 := F18.binds (ps := ["_law_which", "_law_text", "_law_marks_here"]) fun _ _ _ _ _ _ us hl => match us, hl with | [_, _, _], _ => rfl
  have F19 := fun_mk (st := sRight) l19 c19' k19
  have b19 := F19.binds (ps := ["_law_text", "_law_marks_here"]) fun _ _ _ _ _ _ us hl => match us, hl with | [_, _], _ => rfl
  have F20 := fun_mk (st := sLaw) l20 c20' k20
  have m_SIGNS : ∃ u, mg "SIGNS" = some u ∧ RelV (.str "abcdefghijklmnopqrstuvwxyz0123456789") u := ⟨_, PySem.W.mg_of X G zc_SIGNS, ⟨_, rfl⟩⟩
  have m_UNREAD : ∃ u, mg "UNREAD" = some u ∧ RelV (.str "?") u := ⟨_, PySem.W.mg_of X G zc_UNREAD, ⟨_, rfl⟩⟩
  have m_LOST : ∃ u, mg "LOST" = some u ∧ RelV (.str "*") u := ⟨_, PySem.W.mg_of X G zc_LOST, ⟨_, rfl⟩⟩
  have m_FEWEST_IN_CHOICE : ∃ u, mg "FEWEST_IN_CHOICE" = some u ∧ RelV (.int 2) u := ⟨_, PySem.W.mg_of X G zc_FEWEST_IN_CHOICE, ⟨_, rfl⟩⟩
  have m_MOST_IN_CHOICE : ∃ u, mg "MOST_IN_CHOICE" = some u ∧ RelV (.int 6) u := ⟨_, PySem.W.mg_of X G zc_MOST_IN_CHOICE, ⟨_, rfl⟩⟩
  have m_ValueError := PySem.W.mg_none_of X G z_ValueError
  have m_all := PySem.W.mg_none_of X G z_all
  have m_divmod := PySem.W.mg_none_of X G z_divmod
  have m_enumerate := PySem.W.mg_none_of X G z_enumerate
  have m_int := PySem.W.mg_none_of X G z_int
  have m_isinstance := PySem.W.mg_none_of X G z_isinstance
  have m_len := PySem.W.mg_none_of X G z_len
  have m_list := PySem.W.mg_none_of X G z_list
  have m_max := PySem.W.mg_none_of X G z_max
  have m_min := PySem.W.mg_none_of X G z_min
  have m_range := PySem.W.mg_none_of X G z_range
  have m_set := PySem.W.mg_none_of X G z_set
  have m_zip := PySem.W.mg_none_of X G z_zip
  have tb0 := tab_in TT X r0 (PySem.W.mg_of X G a0) l0 rfl lc0 v0
  refine ⟨PySem.W.fnOf "law" "law" (defArgs sLaw) (defBody sLaw) (defScope sLaw) .none kV20 dc20 pm20 an20 cd20 ct20, [(c0, P0)], spLaw K P0, List.forall_mem_cons.mpr ⟨tb0.2, fun _ z => nomatch z⟩, List.forall_mem_cons.mpr ⟨nP0, fun _ z => nomatch z⟩, List.forall_mem_cons.mpr ⟨tb0.1, fun _ z => nomatch z⟩, fun s v => .of_eq rfl, fun H a ns hl _ hH hS => ?_, fun base _ _ TB => ?_⟩
  · have hT0 : GxR.TabG H P0 := ⟨#[], hH (c0, P0) (List.mem_cons_self ..), trivial⟩; exact ⟨a, ns, rfl, hS, hl, hT0, fun _ => rfl⟩
  · have g := fun {x : Str} {f : Addr} (a : PySem.W.nsIn K mainGlobals x = some (some (.ref f))) => PySem.W.mg_of X G a
    have T0 : GxR.TabB base mg c0 P0 := let t := TB (c0, P0) (List.mem_cons_self ..); ⟨t.code, t.bm, t.gP⟩
    have CT : Cal l.prog w K mg base 1 "_law_take" ["_law_state", "_law_many"] spTake := ⟨_, _, ok_take F11 m_len m_divmod, g a11, k11, b11⟩
    have CB : Cal l.prog w K mg base 1 "_law_begin" ["_law_script"] (spBegin K) := ⟨_, _, ok_begin F10 m_list, g a10, k10, b10⟩
    have IC : Cal l.prog w K mg base 1 "is_choice" ["signs"] (spIsCh P0) := ⟨_, _, ok_IsCh l0 c0' T0 m_FEWEST_IN_CHOICE m_MOST_IN_CHOICE m_SIGNS m_len m_set m_all, g a0, k0, b0⟩
    have PO : Cal l.prog w K mg base 2 "parts_of" ["text"] (spPartsOf P0) := ⟨_, _, ok_PartsOf F1 IC m_SIGNS m_UNREAD m_LOST m_len m_max, g a1, k1, b1⟩
    have IR : Cal l.prog w K mg base 3 "is_reading" ["text"] (spIsRd P0) := ⟨_, _, ok_IsRd F2 PO, g a2, k2, b2⟩
    have PR : Cal l.prog w K mg base 3 "parts_or_refuse" ["reading"] (spRefuse P0) := ⟨_, _, ok_Refuse F3 PO, g a3, k3, b3⟩
    have SL : Cal l.prog w K mg base 1 "slip_of" ["part", "sign"] spSlip := ⟨_, _, ok_Slip F4 m_UNREAD, g a4, k4, b4⟩
    have BL : Cal l.prog w K mg base 1 "behind_lost" ["slips"] spBLost := ⟨_, _, ok_BLost F5, g a5, k5, b5⟩
    have BS : Cal l.prog w K mg base 2 "behind_sign" ["part", "mark", "slips"] spBSign := ⟨_, _, ok_BSign F6 SL m_zip, g a6, k6, b6⟩
    have FW : Cal l.prog w K mg base 3 "fewest" ["parts", "mark"] spFew := ⟨_, _, ok_Few F7 BL BS m_LOST m_len, g a7, k7, b7⟩
    have LE : Cal l.prog w K mg base 4 "least_slips" ["reading", "mark"] (spLeast P0) := ⟨_, _, ok_Least F8 FW PR, g a8, k8, b8⟩
    have MR : Cal l.prog w K mg base 4 "marks_read" ["reading", "marks", "slips"] (spMRead P0) := ⟨_, _, ok_MRead F9 PR FW, g a9, k9, b9⟩
    have MK : Cal l.prog w K mg base 2 "_law_mark" ["_law_state", "_law_long", "_law_few"] spMark := ⟨_, _, ok_Mark F12 CT m_range, g a12, k12, b12⟩
    have MS : Cal l.prog w K mg base 3 "_law_marks" ["_law_state", "_law_many"] spMarks := ⟨_, _, ok_Marks F13 CT MK m_range m_len, g a13, k13, b13⟩
    have CH : Cal l.prog w K mg base 2 "_law_choice" ["_law_state", "_law_sign"] spChoice := ⟨_, _, ok_Choice F14 CT m_range, g a14, k14, b14⟩
    have RD : Cal l.prog w K mg base 3 "_law_read" ["_law_state", "_law_mark_here", "_law_plain"] spRead := ⟨_, _, ok_Read F15 CT CH m_len m_int, g a15, k15, b15⟩
    have LP : Cal l.prog w K mg base 1 "_law_parts" ["_law_text"] spLParts := ⟨_, _, ok_LParts F16 m_enumerate m_len m_set, g a16, k16, b16⟩
    have BE : Cal l.prog w K mg base 2 "_law_bent" ["_law_state", "_law_text"] spBent := ⟨_, _, ok_Bent F17 CT m_len m_min m_max, g a17, k17, b17⟩
    have BR : BadR K mg C := ⟨g x_C, x_x, x_k, x_b, x_t⟩
    have TN : Ten K mg C d0 d1 d2 d3 d4 d5 d6 d7 d8 d9 := ⟨g x_d0, x_n0, g x_d1, x_n1, g x_d2, x_n2, g x_d3, x_n3, g x_d4, x_n4, g x_d5, x_n5, g x_d6, x_n6, g x_d7, x_n7, g x_d8, x_n8, g x_d9, x_n9⟩
    have OE : OwnE K mg C R := ⟨g x_R, PySem.W.exm_ref x_rb x_rd x_rt x_rs, ⟨x_g1, x_g2, x_b, x_hd, x_g3, x_s1, x_s2, x_m⟩, x_k1, x_k2⟩
    have XR : CalX l.prog w K mg base 3 "parts_or_refuse" ["reading"] (spRefX P0 C) := ⟨_, _, ok_RefX F3 BR PO, g a3, k3, b3⟩
    have XL : CalX l.prog w K mg base 4 "least_slips" ["reading", "mark"] (spLeastX P0 C) := ⟨_, _, ok_LeastX F8 FW XR, g a8, k8, b8⟩
    have XM : CalX l.prog w K mg base 4 "marks_read" ["reading", "marks", "slips"] (spMReadX P0 C) := ⟨_, _, ok_MReadX F9 XR, g a9, k9, b9⟩
    have RF : Cal l.prog w K mg base 5 "_law_refused" ["_law_which", "_law_text", "_law_marks_here"] (spRefd P0) := ⟨_, _, ok_Refd F18 BR TN OE LE MR XL XM m_isinstance m_ValueError, g a18, k18, b18⟩
    have RG : Cal l.prog w K mg base 6 "_law_right" ["_law_text", "_law_marks_here"] (spRight P0) := ⟨_, _, ok_Right F19 LP RF IR m_list, g a19, k19, b19⟩
    exact ok_Law F20 CB MS CT RD RG BE m_range
end TK
open PySem PySem.W PyProof.Rows
set_option maxHeartbeats 0 in
theorem PySem.Challenge.cw_tinrecall_k13_no_readings_refused_holds : PySem.Challenge.rw_tinrecall_k13_no_readings_refused.Holds := by
  w_on; o_law; k_head; (case hw => w_witness2)
  k_fill
  refine TK.law_end (l := PySem.Challenge.rw_tinrecall_k13_no_readings_refused) (k := 7) rfl rfl ⟨rfl, by decide, by decide⟩ (fun w h Y => PySem.W.kIn_of Y) ?made
  case made =>
    intro w mg f h KX G hmg TT
    refine' TK.all_mk KX G hmg TT ?a0 ?l0 ?c0 ?k0 ?a1 ?l1 ?c1 ?k1 ?a2 ?l2 ?c2 ?k2 ?a3 ?l3 ?c3 ?k3 ?a4 ?l4 ?c4 ?k4 ?a5 ?l5 ?c5 ?k5 ?a6 ?l6 ?c6 ?k6 ?a7 ?l7 ?c7 ?k7 ?a8 ?l8 ?c8 ?k8 ?a9 ?l9 ?c9 ?k9 ?a10 ?l10 ?c10 ?k10 ?a11 ?l11 ?c11 ?k11 ?a12 ?l12 ?c12 ?k12 ?a13 ?l13 ?c13 ?k13 ?a14 ?l14 ?c14 ?k14 ?a15 ?l15 ?c15 ?k15 ?a16 ?l16 ?c16 ?k16 ?a17 ?l17 ?c17 ?k17 ?a18 ?l18 ?c18 ?k18 ?a19 ?l19 ?c19 ?k19 ?a20 ?l20 ?c20 ?k20 ?lc0 ?v0 ?nP0 ?r0 ?zc_SIGNS ?zc_UNREAD ?zc_LOST ?zc_FEWEST_IN_CHOICE ?zc_MOST_IN_CHOICE ?x_C ?x_R ?x_d0 ?x_d1 ?x_d2 ?x_d3 ?x_d4 ?x_d5 ?x_d6 ?x_d7 ?x_d8 ?x_d9 ?x_x ?x_k ?x_b ?x_t ?x_rb ?x_rd ?x_rt ?x_rs ?x_g1 ?x_g2 ?x_hd ?x_g3 ?x_s1 ?x_s2 ?x_m ?x_k1 ?x_k2 ?x_n0 ?x_n1 ?x_n2 ?x_n3 ?x_n4 ?x_n5 ?x_n6 ?x_n7 ?x_n8 ?x_n9 ?z_ValueError ?z_all ?z_divmod ?z_enumerate ?z_int ?z_isinstance ?z_len ?z_list ?z_max ?z_min ?z_range ?z_set ?z_zip
    (case a0 => k_is); (case l0 => k_is); (case c0 => k_is); (case k0 => k_is)
    (case a1 => k_is); (case l1 => k_is); (case c1 => k_is); (case k1 => k_is)
    (case a2 => k_is); (case l2 => k_is); (case c2 => k_is); (case k2 => k_is)
    (case a3 => k_is); (case l3 => k_is); (case c3 => k_is); (case k3 => k_is)
    (case a4 => k_is); (case l4 => k_is); (case c4 => k_is); (case k4 => k_is)
    (case a5 => k_is); (case l5 => k_is); (case c5 => k_is); (case k5 => k_is)
    (case a6 => k_is); (case l6 => k_is); (case c6 => k_is); (case k6 => k_is)
    (case a7 => k_is); (case l7 => k_is); (case c7 => k_is); (case k7 => k_is)
    (case a8 => k_is); (case l8 => k_is); (case c8 => k_is); (case k8 => k_is)
    (case a9 => k_is); (case l9 => k_is); (case c9 => k_is); (case k9 => k_is)
    (case a10 => k_is); (case l10 => k_is); (case c10 => k_is); (case k10 => k_is)
    (case a11 => k_is); (case l11 => k_is); (case c11 => k_is); (case k11 => k_is)
    (case a12 => k_is); (case l12 => k_is); (case c12 => k_is); (case k12 => k_is)
    (case a13 => k_is); (case l13 => k_is); (case c13 => k_is); (case k13 => k_is)
    (case a14 => k_is); (case l14 => k_is); (case c14 => k_is); (case k14 => k_is)
    (case a15 => k_is); (case l15 => k_is); (case c15 => k_is); (case k15 => k_is)
    (case a16 => k_is); (case l16 => k_is); (case c16 => k_is); (case k16 => k_is)
    (case a17 => k_is); (case l17 => k_is); (case c17 => k_is); (case k17 => k_is)
    (case a18 => k_is); (case l18 => k_is); (case c18 => k_is); (case k18 => k_is)
    (case a19 => k_is); (case l19 => k_is); (case c19 => k_is); (case k19 => k_is)
    (case a20 => k_is); (case l20 => k_is); (case c20 => k_is); (case k20 => k_is)
    (case lc0 => k_is); (case v0 => exact rfl); (case nP0 => exact rfl); (case r0 => decide +kernel)
    (case zc_SIGNS => k_is)
    (case zc_UNREAD => k_is)
    (case zc_LOST => k_is)
    (case zc_FEWEST_IN_CHOICE => k_is)
    (case zc_MOST_IN_CHOICE => k_is)
    (case x_C => k_is)
    (case x_R => k_is)
    (case x_d0 => k_is)
    (case x_d1 => k_is)
    (case x_d2 => k_is)
    (case x_d3 => k_is)
    (case x_d4 => k_is)
    (case x_d5 => k_is)
    (case x_d6 => k_is)
    (case x_d7 => k_is)
    (case x_d8 => k_is)
    (case x_d9 => k_is)
    (case x_x => k_exc)
    (case x_k => k_is)
    (case x_b => k_is)
    (case x_t => k_is)
    (case x_rb => k_is)
    (case x_rd => k_is)
    (case x_rt => k_is)
    (case x_rs => first | k_is | rfl | decide +kernel)
    (case x_g1 => k_is)
    (case x_g2 => k_is)
    (case x_hd => k_is)
    (case x_g3 => k_is)
    (case x_s1 => first | k_is | rfl | decide +kernel)
    (case x_s2 => first | k_is | rfl | decide +kernel)
    (case x_m => first | k_is | rfl | decide +kernel)
    (case x_k1 => first | k_is | rfl | decide +kernel)
    (case x_k2 => first | k_is | rfl | decide +kernel)
    (case x_n0 => first | k_is | rfl | decide +kernel)
    (case x_n1 => first | k_is | rfl | decide +kernel)
    (case x_n2 => first | k_is | rfl | decide +kernel)
    (case x_n3 => first | k_is | rfl | decide +kernel)
    (case x_n4 => first | k_is | rfl | decide +kernel)
    (case x_n5 => first | k_is | rfl | decide +kernel)
    (case x_n6 => first | k_is | rfl | decide +kernel)
    (case x_n7 => first | k_is | rfl | decide +kernel)
    (case x_n8 => first | k_is | rfl | decide +kernel)
    (case x_n9 => first | k_is | rfl | decide +kernel)
    (case z_ValueError => k_is); (case z_all => k_is); (case z_divmod => k_is); (case z_enumerate => k_is); (case z_int => k_is); (case z_isinstance => k_is); (case z_len => k_is); (case z_list => k_is); (case z_max => k_is); (case z_min => k_is); (case z_range => k_is); (case z_set => k_is); (case z_zip => k_is)

