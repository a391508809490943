import PyProof.Rows.All
import Wide.All
import OpenK.AllK
import Wide.FinOn
import HandS.ForMost
import HandS.WideBits
import HandS.IsInst
import HandS.Style
import HandS.AnyAll
import HandS.Nested
import HandS.Walk
import HandS.Evl
import HandS.EndTab
import HandS.SortInts
import HandS.SortRule
import HandS.Conv
import HandS.Star
import HandS.Codes
import HandS.Wide
import HandS.Zip
import HandS.DictComp
import HandS.SetFor
import PyProof.ReprRoads
import PyProof.ReprLen
import HandS.Small
import HandS.More
import KE.KDictPairs
import KE.GoesMore
import KE.GoesEnum
import PyProof.SumAny
import PyProof.WalksPairs
import PyProof.GenCompT
import PySem.Challenge.RW_tinrecall_k59_calls
set_option Elab.async false
set_option linter.all false
set_option maxRecDepth 100000
set_option maxHeartbeats 5000000
/-! ## sum(.. for a, b in ..): a generator expression over a list or a tuple of pairs of whole numbers -/
namespace GP
open PySem PySem.Spec PyProof.Rows L2 GxR

/-- a walk whose items are tuples that stand still -/
theorem asTuples {prog : Program} {w : World} {A : Around} {it : Addr} {foot : List Addr} {n : Nat} {Item : Nat → Value → Prop} {At : Nat → Heap → Prop} (W : Walks prog w A it foot [it] n Item At) (loc : Nat → Addr) (held : Nat → Array Value)
    (isT : ∀ j v, j < n → Item j v → v = .ref (loc j)) (apt : ∀ j, j < n → loc j ≠ it)
    (letGo : ∀ (es : List Expr) (k : Nat) (pos : Pos) (j : Nat) (T : Addr) (s : Shared) (Q : Unit → Shared → Prop) (E : Value → Shared → Prop), At j s.heap → Q () s → wpAny (model prog w) A (letOwnedTupleGo (.Tuple es k pos) (.ref it) (.ref T)) Q E s) :
    WalksU prog w A it (foot ++ (List.range n).map loc) [it] n (fun j xs => xs = held j) (fun j h => At j h ∧ ∀ m, m < n → h.IsTuple (loc m) (held m))
      (fun j T h => (j < n ∧ T = loc j) ∧ At (j + 1) h ∧ ∀ m, m < n → h.IsTuple (loc m) (held m)) := by
  have inFoot : ∀ m, m < n → loc m ∈ foot ++ (List.range n).map loc := fun m hm => List.mem_append.mpr (.inr (List.mem_map.mpr ⟨m, List.mem_range.mpr hm, rfl⟩))
  constructor
  case sub => exact fun b hb => List.mem_append.mpr (.inl (W.sub b hb))
  case frame =>
    intro j h h' ⟨a1, a2⟩ kept
    refine ⟨W.frame j h h' a1 fun b hb => kept b (List.mem_append.mpr (.inl hb)), fun m hm => ?_⟩
    obtain ⟨o, e, r⟩ := a2 m hm
    exact ⟨o, kept _ (inFoot m hm) o e, r⟩
  case item =>
    intro j s Q E hj ⟨a1, a2⟩ fin
    refine W.item j s Q E hj a1 fun v h' tk hv a1' kept => ?_
    have still : ∀ m, m < n → h'.IsTuple (loc m) (held m) := fun m hm => by
      obtain ⟨o, e, r⟩ := a2 m hm
      exact ⟨o, kept _ o (fun z => apt m hm (List.mem_singleton.mp z)) e, r⟩
    rw [isT j v hj hv]
    exact fin (loc j) (held j) h' tk rfl (still j hj) ⟨⟨hj, rfl⟩, a1', still⟩ kept
  case go =>
    intro es k pos j T s Q E hm fin
    exact letGo es k pos (j + 1) T s Q E hm.2.1 (fin s.heap hm.2 fun _ _ _ e => e)
  case apart =>
    intro j T h hm z
    rw [hm.1.2] at z
    exact apt j hm.1.1 (List.mem_singleton.mp z)
  case done => exact fun s Q E a fin => W.done s Q E a.1 fin
  case self => exact fun j s Q E a fin => W.self j s Q E a.1 fin

/-- the values vs are tuples that hold the pairs ps -/
def Prs (H : Hp) (vs : List V) (ps : List (Int × Int)) : Prop := vs.length = ps.length ∧ ∀ (i : Nat) p, ps[i]? = some p → ∃ a, vs[i]? = some (.ref a) ∧ H a = some (.tup [.int p.1, .int p.2])

/-- what is asked of the expression's own scope: the two names are its locals, its captured names are the def's -/
def OwnScope (env : Env) (sc : Scope) (xa xb : Str) : Prop :=
  (sc.kind = .function ∧ sc.isCoroutine = false ∧ xa ≠ xb) ∧ (sc.names.lookup (".0" : Str) = some .local ∧ sc.names.lookup xa = some .local ∧ sc.names.lookup xb = some .local) ∧
  (∀ y ∈ sc.names, y.2 ≠ NameKind.cell) ∧ ∀ y ∈ sc.names, y.2 = NameKind.free → ∃ c, env.cells.lookup y.1 = some c

section
variable {X : Cx} {s : Shared} {H : Hp} {σ : L2.St} {pins : List (Addr × Obj)}
/-- a tracked pair in the machine's heap -/
theorem pair_in {T : Addr} {p : Int × Int} (I : Inv X pins σ H s) (e : H T = some (.tup [.int p.1, .int p.2])) : ∃ ta tb, s.heap.IsTuple T #[.int p.1 ta, .int p.2 tb] := by
  obtain ⟨_, its, r, t⟩ := I.hok T _ e
  cases r with
  | cons q1 r =>
    cases r with
    | cons q2 r =>
      cases r
      obtain ⟨ta, rfl⟩ := q1
      obtain ⟨tb, rfl⟩ := q2
      exact ⟨ta, tb, t⟩
/-- the pairs by place: where they stand and what they hold -/
theorem pairs_in {vs : List V} {ps : List (Int × Int)} {its : List Value} (I : Inv X pins σ H s) (hp : Prs H vs ps) (r : Vals vs its) :
    ∃ (loc : Nat → Addr) (held : Nat → Array Value), ∀ j, j < ps.length → its[j]? = some (.ref (loc j)) ∧ s.heap.IsTuple (loc j) (held j) ∧ ∃ p ta tb, ps[j]? = some p ∧ held j = #[.int p.1 ta, .int p.2 tb] := by
  have one : ∀ j, ∃ (T : Addr) (xs : Array Value), j < ps.length → its[j]? = some (.ref T) ∧ s.heap.IsTuple T xs ∧ ∃ p ta tb, ps[j]? = some p ∧ xs = #[.int p.1 ta, .int p.2 tb] := fun j => by
    by_cases hj : j < ps.length
    · obtain ⟨T, e1, e2⟩ := hp.2 j ps[j] (List.getElem?_eq_getElem hj)
      obtain ⟨u, eu, ru⟩ := r.get e1
      cases ru
      obtain ⟨ta, tb, t⟩ := pair_in I e2
      exact ⟨T, _, fun _ => ⟨eu, t, ps[j], ta, tb, List.getElem?_eq_getElem hj, rfl⟩⟩
    · exact ⟨0, #[], fun z => absurd z hj⟩
  exact ⟨fun j => (one j).choose, fun j => (one j).choose_spec.choose, fun j hj => (one j).choose_spec.choose_spec hj⟩

/-- what a walk over the pairs is, begun at the new iterator that o is -/
def Begun (X : Cx) (s : Shared) (P : Addr) (ps : List (Int × Int)) (o : Obj) : Prop :=
  ∃ (foot : List Addr) (Hold : Nat → Array Value → Prop) (At : Nat → Heap → Prop) (Mid : Nat → Addr → Heap → Prop),
    (∀ A' : Around, A'.handled = none → WalksU X.prog X.w A' s.heap.objs.size foot [s.heap.objs.size] ps.length (fun j xs => j < ps.length ∧ Hold j xs) At Mid) ∧
    (∀ j xs, j < ps.length → Hold j xs → ∃ p ta tb, ps[j]? = some p ∧ xs = #[.int p.1 ta, .int p.2 tb]) ∧ At 0 (s.heap.push o) ∧ ∀ b ∈ foot, b < s.heap.objs.size + 1 ∧ b ≠ P
theorem begin_pairs {a P : Addr} {vs : List V} {ps : List (Int × Int)} {tb : Array Value} {Q' : Value → Shared → Prop} (I : Inv X pins σ H s) (hS : SqL X.K H a vs ∨ SqT X.K H a vs) (hp : Prs H vs ps) (hP : H P = some (.tbl tb))
    (fin : ∀ o, Begun X s P ps o → Q' (.ref s.heap.objs.size) { s with heap := s.heap.push o }) : wpAny (model X.prog X.w) X.A (pyIter (.ref a)) Q' X.xe s := by
  have hPo : s.heap.get? P = some { cls := .none, data := .fields tb } := I.hok P _ hP
  have notP : ∀ (b : Addr) (o : Obj) (xs : Array Value) (n : Nat), s.heap.get? b = some o → o.data = .seq xs n → b ≠ P := fun b o xs n e d z => by
    rw [z, hPo] at e
    rw [← Option.some.inj e] at d
    cases d
  have newP : s.heap.objs.size ≠ P := fun z => Nat.lt_irrefl _ (Nat.lt_of_lt_of_eq (Heap.lt_size hPo) z)
  -- from a walk over the items to the pairs
  have mk : ∀ (its : List Value) (o : Obj) (At : Nat → Heap → Prop), Vals vs its → a < s.heap.objs.size → a ≠ P → At 0 (s.heap.push o) →
      (∀ A' : Around, A'.handled = none → Walks X.prog X.w A' s.heap.objs.size [s.heap.objs.size, a] [s.heap.objs.size] its.toArray.size (fun i v => its.toArray[i]? = some v) At) →
      (∀ (A' : Around) (es : List Expr) (k : Nat) (pos : Pos) (j : Nat) (T : Addr) (s' : Shared) (Q : Unit → Shared → Prop) (E : Value → Shared → Prop), At j s'.heap → Q () s' → wpAny (model X.prog X.w) A' (letOwnedTupleGo (.Tuple es k pos) (.ref s.heap.objs.size) (.ref T)) Q E s') →
      Begun X s P ps o := by
    intro its o At r ha haP a0 W go
    obtain ⟨loc, held, hl⟩ := pairs_in I hp r
    have ln : its.toArray.size = ps.length := by rw [List.size_toArray, ← r.length, hp.1]
    have below : ∀ m, m < ps.length → loc m < s.heap.objs.size ∧ loc m ≠ P := fun m hm => by
      obtain ⟨_, ⟨ob, e, _, n, d⟩, _⟩ := hl m hm
      exact ⟨Heap.lt_size e, notP _ _ _ _ e d⟩
    refine ⟨_, _, _, _, fun A' hA => (asTuples (ln ▸ W A' hA) loc held (fun j v hj e => ?_) (fun j hj => Nat.ne_of_lt (below j hj).1) (fun es k pos j T s' Q E => go A' es k pos j T s' Q E)).bound, fun j xs hj e => ?_, ⟨a0, fun m hm => ?_⟩, fun b hb => ?_⟩
    · have e2 : its[j]? = some v := by simpa using e
      rw [(hl j hj).1] at e2
      exact (Option.some.inj e2).symm
    · obtain ⟨_, _, p, ta, tb', e1, e2⟩ := hl j hj
      exact ⟨p, ta, tb', e1, (show xs = held j from e).trans e2⟩
    · obtain ⟨_, ⟨ob, e, rest⟩, _⟩ := hl m hm
      exact ⟨ob, Heap.get?_push_of_some _ e, rest⟩
    · rcases List.mem_append.mp hb with z | z
      · rcases List.mem_cons.mp z with e | e
        · rw [e]; exact ⟨Nat.lt_succ_self _, newP⟩
        · rw [List.mem_singleton.mp e]; exact ⟨Nat.lt_succ_of_lt ha, haP⟩
      · obtain ⟨m, hm, e⟩ := List.mem_map.mp z
        obtain ⟨h1, h2⟩ := below m (List.mem_range.mp hm)
        rw [← e]; exact ⟨Nat.lt_succ_of_lt h1, h2⟩
  rcases hS with hS | hS
  · obtain ⟨its, r, hl, _⟩ := I.list hS
    obtain ⟨o, e, c, n, d⟩ := hl.isList
    refine wpAny_pyIter_list hl.isList (fin _ (mk its _ _ r (Heap.lt_size e) (notP _ _ _ _ e d) ⟨⟨_, Heap.get?_push_size _ rfl, rfl, rfl⟩, ⟨o, Heap.get?_push_of_some _ e, c, n, d⟩⟩ (fun A' hA => Walks.list hA _ a (Nat.ne_of_lt (Heap.lt_size e)) its.toArray) ?_))
    exact fun A' es k pos j T s' Q E at_ q => wpAny_letOwnedTupleGo_listiter at_.1 q
  · obtain ⟨its, r, ⟨o, e, c, n, d⟩, _⟩ := I.tuple hS
    refine wpAny_pyIter_tuple (items := its.toArray) ⟨o, e, c, n, d⟩ (fin _ (mk its _ _ r (Heap.lt_size e) (notP _ _ _ _ e d) ⟨⟨_, Heap.get?_push_size _ rfl, rfl, rfl⟩, ⟨o, Heap.get?_push_of_some _ e, c, n, d⟩⟩ (fun A' hA => Walks.tuple hA _ a (Nat.ne_of_lt (Heap.lt_size e)) its.toArray) ?_))
    exact fun A' es k pos j T s' Q E at_ q => letGo_tupleiter at_.1 q

/-- the expression's code object is made, or found: the table may grow, all else stands -/
theorem code_there {c P : Addr} {gpos : Pos} {qual : Str} {sc : Scope} {tb : Array Value} {Q' : Value → Shared → Prop} {E : Value → Shared → Prop} (hcode : X.env.code = .ref c) (C : PySem.W.CodeHd s.heap c P) (hP : s.heap.get? P = some { cls := .none, data := .fields tb }) (ok : TriplesOk tb.toList)
    (fin : ∀ (code : Value) (h' : Heap) (tk : Nat) (more : Array Value), Heap.ExtBut P s.heap h' → s.heap.objs.size ≤ h'.objs.size → h'.get? P = some { cls := .none, data := .fields (tb ++ more) } → TriplesOk (tb ++ more).toList → Q' code { s with heap := h', toks := tk }) :
    wpAny (model X.prog X.w) X.A (genexprCode X.env gpos qual sc) Q' E s := by
  cases found : codeAmong gpos tb.toList with
  | some old =>
    refine wpAny_genexprCode_hit hcode (C.code hP ok) found ?_
    have e : tb ++ #[] = tb := by simp
    exact fin old s.heap s.toks #[] (Heap.ExtBut.refl _ _) (Nat.le_refl _) (by rw [e]; exact hP) (by rw [e]; exact ok)
  | none =>
    refine wpAny_genexprCodeX hcode (C.code hP ok) (C.tab hP) found fun c' h' tk ext le lt isC _ tab _ => ?_
    obtain ⟨_, _, _, _, _, _, _, _, _, _, _, _, _, _, _, _, _, _, _, okT, _⟩ := isC
    exact fin _ h' tk _ ext (Nat.le_trans le (Nat.le_of_lt lt)) tab.2 okT

/-- the element at a pair of whole numbers: what it gives, wherever the expression runs later -/
def EltAt (X : Cx) (s₁ : Shared) (P : Addr) (sc : Scope) (xa xb : Str) (elt : Expr) (Gives : Int → Int → Value → Prop) : Prop :=
  ∀ (L : Addr) (code : Value) (A' : Around) (E' : Value → Shared → Prop) (a b : Int) (ta tb : Tok) (s₂ : Shared) (m : Str → Option Value), A'.handled = none →
    (∀ x o, x ≠ P → s₁.heap.get? x = some o → s₂.heap.get? x = some o) → s₂.heap.Ns L m → m xa = some (.int a ta) → m xb = some (.int b tb) →
    wpAny (model X.prog X.w) A' (eval elt (genEnv sc (cloFrom X.env.cells sc.names []) L code builtinsNs X.env)) (fun y s₃ => Gives a b y ∧ Keeps s₂ s₃) E' s₂

/-- the generator at g, in the state s₅, before its first item; H₁: what was held when it was made -/
def Fresh (X : Cx) (pins : List (Addr × Obj)) (σ : L2.St) (H₁ : Hp) (P : Addr) (ps : List (Int × Int)) (Gives : Int → Int → Value → Prop) (g : Addr) (s₅ : Shared) : Prop :=
  ∃ (foot writes : List Addr) (Gens : Array GenState → Array GenState → Prop) (Item : Nat → Value → Prop) (At : Nat → Shared → Prop),
    (WalksS X.prog X.w X.A.in1 g foot writes Gens ps.length Item At ∧ At 0 s₅ ∧ ∀ b ∈ foot, b < s₅.heap.objs.size) ∧
    (∀ j v, Item j v → ∃ p, ps[j]? = some p ∧ Gives p.1 p.2 v) ∧ ∀ s₆, Moved writes Gens s₅ s₆ → ∃ H₂, Tabbed P H₁ H₂ ∧ Inv X pins σ H₂ s₆

theorem gen_made {c P : Addr} {elt iter : Expr} {xa xb : Str} {pa pb pt gpos : Pos} {kt : Nat} {sc : Scope} {te : TE} {k : Nat} {Q' : Value → Shared → Prop} {Want : List (Int × Int) → Hp → Prop} {Gives : Int → Int → Value → Prop}
    (room : Room k X.A) (TB : TabB X.base X.mg c P) (hcode : X.env.code = .ref c) (own : OwnScope X.env sc xa xb) (walked : PE X iter te) (plain : ∀ v, genFold iter X.env v = pure v) (I : Inv X pins σ H s)
    (each : ∀ s₁ H₁, Inv X pins σ H₁ s₁ → TabG H₁ P → EltAt X s₁ P sc xa xb elt Gives)
    (h : te σ H fun v H₁ => ∃ (a : Addr) (vs : List V) (ps : List (Int × Int)), v = .ref a ∧ (SqL X.K H₁ a vs ∨ SqT X.K H₁ a vs) ∧ Prs H₁ vs ps ∧ TabG H₁ P ∧ Want ps H₁)
    (fin : ∀ ps H₁ g s₅, Want ps H₁ → Fresh X pins σ H₁ P ps Gives g s₅ → Q' (.ref g) s₅) :
    wpAny (model X.prog X.w) X.A (eval (.GeneratorExp elt [⟨.Tuple [.Name xa pa, .Name xb pb] kt pt, iter, [], 0⟩] sc gpos) X.env) Q' X.xe s := by
  obtain ⟨⟨o1, o2, o3⟩, ⟨o4, o5, o6⟩, o7, o8⟩ := own
  have deep : X.A.depth < recursionLimit := by have := room.dp; omega
  refine wpAny_GeneratorExp_walksQT room.hd o2 (closure_ok o8) o7 o4 o5 o6 o3 o1 deep (thn (walked.run pins s σ H _ I h) fun u s₁ had => ?_) plain
  obtain ⟨_, H₁, I₁, rel, a, vs, ps, rfl, hS, hp, ⟨tb, hP, ok⟩, want⟩ := had
  cases rel
  have tabAt : s₁.heap.get? P = some { cls := .none, data := .fields tb } := I₁.hok P _ hP
  refine begin_pairs I₁ hS hp hP fun o beg => ?_
  obtain ⟨foot, Hold, At, Mid, W, holds, at0, low⟩ := beg
  have statics : cStatics < s₁.heap.objs.size ∧ cStatics ≠ P := by
    obtain ⟨_, ns, _⟩ := I₁.nolimit
    refine ⟨ns.lt, fun z => ?_⟩
    obtain ⟨ob, _, _, e, d, _⟩ := ns
    rw [z, tabAt] at e
    rw [← Option.some.inj e] at d
    cases d
  have quiet : (s₁.heap.push o).NoLimit := I₁.nolimit.push o
  refine ⟨quiet, code_there hcode (TB.code.keeps fun b u e => Heap.get?_push_of_some _ (I₁.bk b u e)) (Heap.get?_push_of_some _ tabAt) ok fun code h₃ tk more ext le tab₃ ok₃ => ?_⟩
  rw [Heap.size_push] at le
  have stays : ∀ b u, b ≠ P → s₁.heap.get? b = some u → h₃.get? b = some u := fun b u hb e => ext b u hb (Heap.get?_push_of_some _ e)
  obtain ⟨bm, ob, f1, f2, f3, f4, f5, f6, f7, f8⟩ := TB.bm
  have globals : Heap.Ns h₃ X.env.globals X.mg := by
    rw [I₁.ok.glob]
    exact ((I₁.mod.glob.keeps I₁.bk).push o).extBut ext TB.gP
  refine wpAny_builtinsFor (m := X.mg) globals f1 f2 (stays bm ob f4 (I₁.bk bm ob f5)) f6 f7 f8 ?_
  have later : ∀ b u, s₁.heap.get? b = some u → b ∉ [h₃.objs.size, s₁.heap.objs.size] := fun b u e z => by
    have lt := Heap.lt_size e
    rcases List.mem_cons.mp z with z' | z'
    · exact Nat.lt_irrefl _ (Nat.lt_of_lt_of_le (z' ▸ lt) (Nat.le_of_succ_le le))
    · exact Nat.lt_irrefl _ (List.mem_singleton.mp z' ▸ lt)
  refine ⟨_, _, _, _, _, _, _, fun _ => true, fun i y => i < ps.length → ∃ p, ps[i]? = some p ∧ Gives p.1 p.2 y, rfl, W, fun i xs hx => ?_, ?_, fun b hb => Nat.lt_of_lt_of_le (low b hb).1 le, quiet.extBut ext statics.2, fun z => Nat.ne_of_lt statics.1 (List.mem_singleton.mp z), fun ref kept => ⟨?_, ?_⟩, ?_⟩
  · obtain ⟨p, ta, tb', _, e⟩ := holds i xs hx.1 hx.2
    exact ⟨_, _, e⟩
  · exact (W X.A room.hd).frame _ _ _ at0 fun b hb u e => ext b u (low b hb).2 e
  · intro A' E' i va vb s₂ m _ _ _ _ _ _
    rw [List.forIn_nil]
    exact wpAny_pure ⟨rfl, _, _, rfl, fun _ _ e => e⟩
  · intro A' E' i va vb s₂ m calm hx _ ns ea eb still
    obtain ⟨p, ta, tb', ep, e⟩ := holds i _ hx.1 hx.2
    have e1 : va = .int p.1 ta := by have z := congrArg (·[0]?) e; simpa using z
    have e2 : vb = .int p.2 tb' := by have z := congrArg (·[1]?) e; simpa using z
    subst e1 e2
    refine wpAny_mono (each s₁ H₁ I₁ ⟨tb, hP, ok⟩ _ code A' E' p.1 p.2 ta tb' s₂ m calm (fun b u hb q => ?_) ns ea eb) (fun y s₃ r => ⟨fun _ => ⟨p, ep, r.1⟩, r.2⟩) fun _ _ q => q
    have q3 := stays b u hb q
    exact still b (List.mem_range.mpr (Heap.lt_size q3)) (fun z => later b u q (List.mem_cons_of_mem _ z)) u (kept b u q3)
  · intro g h₅ tk₅ gs bare above size kept W₅ at₅
    rw [GxR.passing_true, List.length_range] at W₅
    have above' : h₃.objs.size < g := above
    have size' : h₅.objs.size = g + 1 := size
    refine fin ps H₁ g _ want ⟨_, _, _, _, _, ⟨W₅.in4_1, at₅, fun b hb => ?_⟩, fun j v it => ?_, fun s₆ mv => ?_⟩
    · show b < h₅.objs.size
      rw [size']
      rcases List.mem_cons.mp hb with eg | e
      · rw [eg]; exact Nat.lt_succ_self g
      · refine Nat.lt_succ_of_le (Nat.le_trans ?_ (Nat.le_of_lt above'))
        rcases List.mem_cons.mp e with e' | e'
        · rw [e']; exact Nat.le_refl _
        · exact Nat.le_of_lt (List.mem_range.mp e')
    · obtain ⟨i, ei, hg⟩ := it
      have lt : j < ps.length := by
        have z := (List.getElem?_eq_some_iff.mp ei).1
        rwa [List.length_range] at z
      rw [List.getElem?_range lt] at ei
      cases ei
      exact hg lt
    · have all : ∀ b u, b ≠ P → s₁.heap.get? b = some u → s₆.heap.get? b = some u := fun b u hb e => mv.heap b u (later b u e) (kept b u (stays b u hb e))
      have tab₆ := mv.heap P _ (later P _ tabAt) (kept P _ tab₃)
      have J := inv_tab (more := more) (d' := s₆.drawn) (t' := s₆.toks) I₁ hP all tab₆ (AllBare.movedS (I₁.bare.push bare) mv)
      rw [sh_eta s₁ s₆ mv.os] at J
      exact ⟨_, ⟨⟨tb ++ more, upd_same, ok₃⟩, fun b hb => upd_ne hb⟩, J⟩

/-- the sum of g over the pairs -/
def sumP (g : Int → Int → Int) (ps : List (Int × Int)) : Int := (ps.map fun p => g p.1 p.2).sum
theorem preSum_is (g : Int → Int → Int) (ps : List (Int × Int)) (val : Nat → Int) (h : ∀ i p, ps[i]? = some p → val i = g p.1 p.2) : ∀ n, n ≤ ps.length → preSum val n = sumP g (ps.take n)
  | 0, _ => rfl
  | n + 1, hn => by
    have e : ps[n]? = some ps[n] := List.getElem?_eq_getElem hn
    show preSum val n + val n = _
    rw [preSum_is g ps val h n (by omega), h n _ e]
    unfold sumP
    rw [List.take_add_one, e, List.map_append, List.sum_append]
    show _ = _ + (g ps[n].1 ps[n].2 + 0)
    rw [Int.add_zero]
/-- what the reading of sum(..), any(..) over pairs asks: what is captured (Cap), the pairs, the table; then the answer -/
def tOver {α : Type} (K : PySem.W.Frag) (P : Addr) (Cap : L2.St → α → Prop) (ans : α → List (Int × Int) → V) (te : TE) : TE := fun σ H Q => ∃ x : α, Cap σ x ∧ te σ H fun v H₁ => ∃ (a : Addr) (vs : List V) (ps : List (Int × Int)), v = .ref a ∧ (SqL K H₁ a vs ∨ SqT K H₁ a vs) ∧ Prs H₁ vs ps ∧ TabG H₁ P ∧
  ∀ H₂, Tabbed P H₁ H₂ → Q (ans x ps) H₂
/-- how a built-in takes a generator over pairs -/
def Takes2 (X : Cx) (name : String) (Gives : Int → Int → Value → Prop) (ans : List (Int × Int) → V) : Prop :=
  ∀ (pins : List (Addr × Obj)) (σ : L2.St) (P : Addr) (ps : List (Int × Int)) (H₁ : Hp) (gen : Addr) (s₅ : Shared) (Q : VK), Fresh X pins σ H₁ P ps Gives gen s₅ → (∀ H₂, Tabbed P H₁ H₂ → Q (ans ps) H₂) →
    wpAny (model X.prog X.w) X.A (call (.builtin name) [.ref gen]) (EP X pins σ Q) X.xe s₅
theorem pe_over {α : Type} {name : String} {x : Str} {c P : Addr} {elt iter : Expr} {xa xb : Str} {pa pb pt p pos gpos : Pos} {kt : Nat} {sc : Scope} {Cap : L2.St → α → Prop} {Gives : α → Int → Int → Value → Prop} {ans : α → List (Int × Int) → V} {te : TE} {k : Nat} (takes : ∀ y, Takes2 X name (Gives y) (ans y))
    (room : Room k X.A) (glob : Gl X x) (free : X.mg x = none) (bltn : bootBuiltins x = some (.builtin name)) (TB : TabB X.base X.mg c P) (hcode : X.env.code = .ref c) (own : OwnScope X.env sc xa xb) (walked : PE X iter te)
    (each : ∀ pins σ s₁ H₁ y, Inv X pins σ H₁ s₁ → TabG H₁ P → Cap σ y → EltAt X s₁ P sc xa xb elt (Gives y)) (plain : ∀ v, genFold iter X.env v = pure v) (n1 : x ≠ "__name__" := by decide) (n2 : (x == ("__debug__" : Str)) = false := by decide)
    (one : starEach [.GeneratorExp elt [⟨.Tuple [.Name xa pa, .Name xb pb] kt pt, iter, [], 0⟩] sc gpos] X.env = [(false, eval (.GeneratorExp elt [⟨.Tuple [.Name xa pa, .Name xb pb] kt pt, iter, [], 0⟩] sc gpos) X.env)] := by rfl) :
    PE X (.Call (.Name x p) [.GeneratorExp elt [⟨.Tuple [.Name xa pa, .Name xb pb] kt pt, iter, [], 0⟩] sc gpos] [] pos) (tOver X.K P Cap ans te) := by
  constructor
  intro pins s σ H Q I h
  obtain ⟨y, cap, h⟩ := h
  refine wpAny_Call_Name_kw (ld_blt I glob free bltn (callWith_builtin1 ?_ one (by rfl)) n1 n2)
  rw [one]
  refine Calls.spliced_cons (gen_made (Want := fun ps H₁ => ∀ H₂, Tabbed P H₁ H₂ → Q (ans y ps) H₂) (Gives := Gives y) room TB hcode own walked plain I (fun s₁ H₁ J g => each pins σ s₁ H₁ y J g cap) h fun ps H₁ gen s₅ want fresh => Calls.spliced_nil ?_)
  exact takes y pins σ P ps H₁ gen s₅ Q fresh want
theorem takes_sum (g : Int → Int → Int) : Takes2 X "sum" (fun a b y => ∃ t, y = .int (g a b) t) (fun ps => .int (sumP g ps)) := by
  intro pins σ P ps H₁ gen s₅ Q fresh want
  obtain ⟨foot, writes, Gens, Item, At, ⟨W, a0, low⟩, items, behind⟩ := fresh
  let val : Nat → Int := fun i => (ps[i]?.map fun p => g p.1 p.2).getD 0
  have hv : ∀ i p, ps[i]? = some p → val i = g p.1 p.2 := fun i p e => by show (ps[i]?.map _).getD 0 = _; rw [e]; rfl
  refine call_sum_walkAnyS (W.self 0 _ _ _ a0 ⟨gen, foot, writes, Gens, ps.length, Item, At, val, rfl, W, a0, low, fun i v it => ?_, fun s₆ t mv => ?_⟩)
  · obtain ⟨p, e, t, ev⟩ := items i v it
    exact ⟨t, by rw [hv i p e]; exact ev⟩
  · obtain ⟨H₂, tabbed, J⟩ := behind s₆ mv
    refine ⟨.int (preSum val ps.length), H₂, J, ⟨t, rfl⟩, ?_⟩
    rw [preSum_is g ps val hv ps.length (Nat.le_refl _), List.take_length]
    exact want H₂ tabbed
def anyP (g : Int → Int → Bool) (ps : List (Int × Int)) : Bool := ps.any fun p => g p.1 p.2
theorem any_is {α : Type} (ps : List α) (f : α → Bool) (tr : Nat → Bool) (h : ∀ i p, ps[i]? = some p → tr i = f p) : (List.range ps.length).any tr = ps.any f := by
  rw [Bool.eq_iff_iff, List.any_eq_true (l := List.range _), List.any_eq_true]
  constructor
  · rintro ⟨i, hi, e⟩
    have lt := List.mem_range.mp hi
    exact ⟨ps[i], List.getElem_mem lt, by rw [← h i _ (List.getElem?_eq_getElem lt)]; exact e⟩
  · rintro ⟨p, hp, e⟩
    obtain ⟨i, lt, rfl⟩ := List.getElem_of_mem hp
    exact ⟨i, List.mem_range.mpr lt, by rw [h i _ (List.getElem?_eq_getElem lt)]; exact e⟩
theorem takes_any (g : Int → Int → Bool) : Takes2 X "any" (fun a b y => y = .bool (g a b)) (fun ps => .bl (anyP g ps)) := by
  intro pins σ P ps H₁ gen s₅ Q fresh want
  obtain ⟨foot, writes, Gens, Item, At, ⟨W, a0, low⟩, items, behind⟩ := fresh
  let tr : Nat → Bool := fun i => (ps[i]?.map fun p => g p.1 p.2).getD false
  have ht : ∀ i p, ps[i]? = some p → tr i = g p.1 p.2 := fun i p e => by show (ps[i]?.map _).getD false = _; rw [e]; rfl
  refine call_any_walkS (W.self 0 _ _ _ a0 ⟨gen, foot, writes, Gens, ps.length, Item, At, tr, rfl, W, a0, fun i v s' Q' E' it q => ?_, fun s₆ mv => ?_⟩)
  · obtain ⟨p, e, rfl⟩ := items i v it
    rw [ht i p e] at q
    exact wpAny_truthy_bool q
  · obtain ⟨H₂, tabbed, J⟩ := behind s₆ mv
    refine ⟨.bl _, H₂, J, rfl, ?_⟩
    rw [any_is ps (fun p => g p.1 p.2) tr ht]
    exact want H₂ tabbed
/-- a whole number that the expression captures, as its cell has it -/
theorem captured {i : Nat} {y : Str} {n : Int} {P : Addr} (I : Inv X pins σ H s) (hN : X.N[i]? = some y) (hk : X.env.scope.names.lookup y = some .cell) (hv : σ[i]? = some (some (.int n))) (g : TabG H P) :
    ∃ c t, X.env.cells.lookup y = some c ∧ s.heap.IsCell c (some (.int n t)) ∧ c ≠ P := by
  obtain ⟨tb, hP, _⟩ := g
  obtain ⟨m, _, look⟩ := I.loc
  obtain ⟨u, ⟨t, rfl⟩, l⟩ := look i y _ hN hv (.inr (.inl hk))
  rcases l with ⟨z, _⟩ | ⟨_, c, e, o, ho, hd⟩
  · rw [show X.env.kindOf y = some .cell from hk] at z
    cases z
  · refine ⟨c, t, e, ⟨o, ho, hd⟩, fun z => ?_⟩
    rw [z, I.hok P _ hP] at ho
    rw [← Option.some.inj ho] at hd
    cases hd
/-- the names of the module and the built-in ones, where the expression runs -/
theorem names_in {P : Addr} {s₂ : Shared} (I : Inv X pins σ H s) (g : TabG H P) (gP : mainGlobals ≠ P) (kept : ∀ x o, x ≠ P → s.heap.get? x = some o → s₂.heap.get? x = some o) :
    s₂.heap.Ns mainGlobals X.mg ∧ ∃ mb, s₂.heap.Ns builtinsNs mb ∧ ∀ x : Str, x ≠ "__name__" → mb x = bootBuiltins x := by
  obtain ⟨tb, hP, _⟩ := g
  obtain ⟨mb, b1, b2⟩ := I.mod.blt
  have at_ : ∀ b m, b ≠ P → s.heap.Ns b m → s₂.heap.Ns b m := fun b m hb ⟨o, es, ep, ho, r⟩ => ⟨o, es, ep, kept b o hb ho, r⟩
  refine ⟨at_ _ _ gP (I.mod.glob.keeps I.bk), mb, at_ _ _ (fun z => ?_) (b1.keeps I.bk), b2⟩
  obtain ⟨o, es, ep, ho, hd, _⟩ := b1.keeps I.bk
  rw [z, I.hok P _ hP] at ho
  rw [← Option.some.inj ho] at hd
  cases hd
end
end GP

namespace TK
open PySem PySem.Spec PyProof.Rows L2 GP
def topS (i : Nat) : Stmt := PySem.Challenge.pw_tinrecall_k59_calls.main.body.getD i (.Pass ⟨0, 0, 0, 0⟩)

/-- the draws' state: its dict at d, its cells at c -/
structure StAt (H : Hp) (d c : Addr) (t : Int) : Prop where
  dict : H d = some (.dK [(.inr "cells", .ref c), (.inr "turn", .int t)])
  cells : ∃ cs : List Int, H c = some (.lst (cs.map V.int)) ∧ cs ≠ [] ∧ cs.length ≤ 63
  pos : 0 ≤ t
theorem StAt.ne {H : Hp} {d c : Addr} {t : Int} (h : StAt H d c t) : d ≠ c := by
  obtain ⟨cs, hc, _⟩ := h.cells
  exact ne_of h.dict hc (by intro z; cases z)
/-- all but the state is as it was -/
def Kp (d c : Addr) (H H' : Hp) : Prop := ∀ b o, b ≠ d → b ≠ c → H b = some o → H' b = some o
theorem Kp.refl (d c : Addr) (H : Hp) : Kp d c H H := fun _ _ _ _ h => h
theorem Kp.trans {d c : Addr} {H H1 H2 : Hp} (a : Kp d c H H1) (b : Kp d c H1 H2) : Kp d c H H2 := fun x o h1 h2 h => b x o h1 h2 (a x o h1 h2 h)

theorem ixN_of {n j : Nat} (h : j < n) : ixN n (j : Int) = some j := by
  unfold ixN
  rw [if_pos (Int.natCast_nonneg j), if_pos (by omega), Int.toNat_natCast]
def spTake : Sp := fun vs H Q _ => ∃ (d c : Addr) (t m : Int), vs = [.ref d, .int m] ∧ StAt H d c t ∧ t < 2 ^ 60 ∧ 0 < m ∧ m.natAbs < 2 ^ 250 ∧
  ∀ r H', 0 ≤ r → r < m → StAt H' d c (t + 1) → Kp d c H H' → Q (.int r) H'

abbrev sTake : Stmt := topS 11
theorem scTake : FnScope ["_law_state", "_law_many", "_law_turn", "_law_place", "_law_cell", "_law_digit", "_law_mixed"] ["_law_state", "_law_many"] (defScope sTake) := ⟨rfl, rfl, rfl, by decide +kernel, rfl, by decide +kernel, by decide +kernel⟩
section
variable {K : PySem.W.Frag} {mg : Str → Option Value} {P : Program} {w : World} {base : Heap}
theorem ok_take {f : Addr} {fd : FuncData} {k : Nat} (F : Fun K "_law_take" "_law_take" sTake f fd) (ml : mg "len" = none) (md : mg "divmod" = none) : FnOk P w K mg base CX0 (k + 1) f fd ["_law_state", "_law_many"] spTake := by
  refine F.ok scTake (fun vs H Q E h => ?_) (fun cdv A outer s H vs Q E hr h => ?_)
  · obtain ⟨d, c, t, m, rfl, _⟩ := h
    rfl
  · obtain ⟨d, c, t, m, rfl, hS, ht, hm, hm2, q⟩ := h
    refine ⟨_, pss_cons (ps_set (i := 2) scTake.nd rfl (.inl rfl) (pe_op op_add (pe_dget (hu_of hr) (pv 0) pe_str (fun _ _ => rfl)) pe_int))
      (pss_cons (ps_dput (hu_of hr) (pv 0) pe_str (pv 2) rfl)
      (pss_cons (ps_set (i := 3) scTake.nd rfl (.inl rfl) (pe_op op_mod (pv 2) (pe_callB call_len_seq (by rfl) ml PySem.boot_len (pa_cons (pe_dget (hu_of hr) (pv 0) pe_str (fun _ _ => rfl)) pa_nil))))
      (pss_cons (ps_set (i := 4) scTake.nd rfl (.inl rfl) (pe_ix ix_list (pe_dget (hu_of hr) (pv 0) pe_str (fun _ _ => rfl)) (pv 3) (fun _ _ => rfl)))
      (pss_cons (ps_if (pt_cmpR op_ge (pv 4) (pe_op op_pow pe_int pe_int) (nomark _))
        (pss_cons (ps_asg (pe_callB call_divmodW (by rfl) md (by decide +kernel) (pa_cons (pv 4) (pa_cons (pv 1) pa_nil)))
            (pg_tup rfl (pgs_cons (pg_sub (pe_dget (hu_of hr) (pv 0) pe_str (fun _ _ => rfl)) (pv 3) set_list) (pgs_cons (pg_name (i := 5) scTake.nd rfl (.inl rfl)) pgs_nil))))
          (pss_one (ps_ret (pv 5)))) pss_nil)
      (pss_cons (ps_set (i := 6) scTake.nd rfl (.inl rfl) (pe_op op_mod (pe_op op_mul (pe_op op_add (pe_op op_add (pe_op op_mod (pv 4) pe_int) (pe_op op_mul (pe_op op_mul (pv 2) (pv 2)) pe_int)) pe_int) pe_int) pe_int))
      (pss_cons (ps_set (i := 6) scTake.nd rfl (.inl rfl) (pe_op op_mod (pe_op op_mul (pv 6) (pv 6)) pe_int))
      (pss_one (ps_ret (pe_op op_mod (pe_op op_fdiv (pe_op op_mod (pe_op op_mul (pe_op op_add (pv 6) (pe_op op_mul (pv 2) pe_int)) pe_int) pe_int) pe_int) (pv 1)))))))))), ?_⟩
    obtain ⟨hd, ⟨cs, hc, hne, hlen⟩, hpos⟩ := hS
    have ndc : d ≠ c := ne_of hd hc (by intro z; cases z)
    -- turn = state['turn'] + 1
    refine ⟨.ref d, rfl, d, .int t, rfl, DGet.k (k := Sum.inr "turn") hd, t, 1, rfl, rfl, ?_⟩
    -- state['turn'] = turn
    refine ⟨_, rfl, .ref d, rfl, d, _, rfl, DPut.k (k := Sum.inr "turn") hd (by show 2 < sizeLine; decide), ?_⟩
    have hput : putK [((.inr "cells" : Key), V.ref c), (.inr "turn", .int t)] (.inr "turn") (.int (t + 1)) = [(.inr "cells", .ref c), (.inr "turn", .int (t + 1))] := rfl
    rw [show (.int (t + 1) : V) = V.int (t + 1) from rfl] at *
    rw [hput]
    generalize hH1 : upd H d (.dK [((.inr "cells" : Key), V.ref c), (.inr "turn", .int (t + 1))]) = H1
    have hd1 : H1 d = some (.dK [(.inr "cells", .ref c), (.inr "turn", .int (t + 1))]) := by rw [← hH1]; exact upd_same
    have hc1 : H1 c = some (.lst (cs.map V.int)) := by rw [← hH1, upd_ne ndc.symm]; exact hc
    have k1 : Kp d c H H1 := fun b o h1 h2 e => by rw [← hH1, upd_ne h1]; exact e
    have hlp : 0 < cs.length := List.length_pos_iff.mpr hne
    -- place = turn % len(state['cells'])
    refine ⟨_, rfl, .ref d, rfl, d, .ref c, rfl, DGet.k (k := Sum.inr "cells") hd1, c, _, rfl, .inl (SqL.of hc1), _, _, rfl, rfl, (by show (0 : Int) < ((cs.map V.int).length : Int); rw [List.length_map]; omega), ?_⟩
    dsimp only
    rw [List.length_map]
    have hj0 : 0 ≤ (t + 1) % (cs.length : Int) := Int.emod_nonneg _ (by omega)
    have hj1 : (t + 1) % (cs.length : Int) < cs.length := Int.emod_lt_of_pos _ (by omega)
    obtain ⟨j, hj⟩ := Int.eq_ofNat_of_zero_le hj0
    have hjl : j < cs.length := by omega
    rw [hj]
    have gj : (cs.map V.int)[j]? = some (.int cs[j]) := by rw [List.getElem?_map, List.getElem?_eq_getElem hjl]; rfl
    -- cell = state['cells'][place]
    refine ⟨.ref d, rfl, d, .ref c, rfl, DGet.k (k := Sum.inr "cells") hd1, _, rfl, c, _, _, .int cs[j], rfl, rfl, SqL.of hc1, atI_nat gj, ?_⟩
    generalize cs[j] = x
    -- if cell >= 10 ** 18
    refine ⟨_, rfl, 10, 18, rfl, rfl, ⟨by decide, by decide, by decide⟩, _, _, rfl, rfl, _, rfl, ite2 (fun e => ?_) (fun e => ?_)⟩
    · have hdp : CDivP x m := ⟨hm, PyProof.noPylong_of_log2 (Nat.lt_trans (PySem.Flt.log2_lt_of (by decide) hm2) (by decide))⟩
      refine ⟨_, rfl, _, rfl, x, m, rfl, hdp, fun p hp => ?_⟩
      have npd : d ≠ p := ne_of_none hd1 hp
      have npc : c ≠ p := ne_of_none hc1 hp
      have hd2 : upd H1 p (.tup [.int (x / m), .int (x % m)]) d = some (.dK [(.inr "cells", .ref c), (.inr "turn", .int (t + 1))]) := by rw [upd_ne npd]; exact hd1
      have hc2 : upd H1 p (.tup [.int (x / m), .int (x % m)]) c = some (.lst (cs.map V.int)) := by rw [upd_ne npc]; exact hc1
      refine ⟨p, _, rfl, .inl (.inl upd_same), rfl, _, _, rfl, .ref d, rfl, d, .ref c, rfl, DGet.k (k := Sum.inr "cells") hd2, _, rfl, c, _, _, j, rfl, rfl, hc2, ixN_of (by rw [List.length_map]; exact hjl), _, _, rfl, rfl, ?_⟩
      refine ⟨_, rfl, ?_⟩
      refine q _ _ (Int.emod_nonneg _ (by omega)) (Int.emod_lt_of_pos _ hm) ⟨?_, ⟨cs.set j (x / m), ?_, ?_, ?_⟩, by omega⟩ ?_
      · rw [upd_ne ndc]; exact hd2
      · rw [upd_same, List.map_set]
      · intro z
        have z2 : (cs.set j (x / m)).length = 0 := by rw [z]; rfl
        rw [List.length_set] at z2
        omega
      · rw [List.length_set]; exact hlen
      · intro b o h1 h2 e
        rw [upd_ne h2, upd_ne (ne_of_none (k1 b o h1 h2 e) hp)]
        exact k1 b o h1 h2 e
    · have t1 : t + 1 < 2 ^ 61 := by omega
      -- mixed
      refine ⟨_, rfl, _, _, rfl, rfl, (show (0 : Int) < 2147483629 by decide), _, rfl, _, rfl, t + 1, t + 1, rfl, rfl, .inl ⟨by omega, by omega⟩, _, _, rfl, rfl, .inr ⟨by decide, by decide⟩, _, _, rfl, rfl, _, _, rfl, rfl, _, _, rfl, rfl, .inr ⟨by decide, by decide⟩, _, 2147483647, rfl, rfl, (show (0 : Int) < 2147483647 by decide), ?_⟩
      dsimp only
      generalize hy : ((x % 2147483629 + (t + 1) * (t + 1) * 7919 + 11) * 48271) = y
      have y0 : 0 ≤ y % 2147483647 := Int.emod_nonneg _ (by decide)
      have y1 : y % 2147483647 < 2147483647 := Int.emod_lt_of_pos _ (by decide)
      refine ⟨_, rfl, _, rfl, y % 2147483647, y % 2147483647, rfl, rfl, .inl ⟨by omega, by omega⟩, _, 2147483587, rfl, rfl, (show (0 : Int) < 2147483587 by decide), ?_⟩
      refine ⟨_, rfl, _, rfl, t + 1, 104729, rfl, rfl, .inr ⟨by decide, by decide⟩, _, _, rfl, rfl, _, _, rfl, rfl, .inr ⟨by decide, by decide⟩, _, 2147483629, rfl, rfl, (show (0 : Int) < 2147483629 by decide), _, 64, rfl, rfl, ⟨by decide, by decide⟩, _, rfl, _, m, rfl, rfl, hm, ?_⟩
      exact q _ _ (Int.emod_nonneg _ (by omega)) (Int.emod_lt_of_pos _ hm) ⟨hd1, ⟨cs, hc1, hne, hlen⟩, by omega⟩ k1
end

abbrev sBegin : Stmt := topS 10
theorem scBegin : FnScope ["_law_script", "_law_cells"] ["_law_script"] (defScope sBegin) := ⟨rfl, rfl, rfl, by decide +kernel, rfl, by decide +kernel, by decide +kernel⟩
theorem same_upd {H : Hp} {p : Addr} {o : HO} (h : H p = none) : Same H (upd H p o) := fun b x e => by
  rw [upd_ne (ne_of_none e h)]
  exact e
theorem cut_front (xs : List V) (m : Nat) : cutV xs none (some (m : Int)) = xs.take m := by
  unfold cutV
  rw [HT.sIx_none, HT.sIx_nat]
  show List.take (min m xs.length - 0) (xs.drop 0) = xs.take m
  rw [Nat.sub_zero, List.drop_zero]
  by_cases h : m ≤ xs.length
  · rw [Nat.min_eq_left h]
  · rw [Nat.min_eq_right (by omega), List.take_length, List.take_of_length_le (by omega)]
theorem dp_ints {K : PySem.W.Frag} {H : Hp} : ∀ ns : List Int, DpAll K H (ns.map V.int) (ns.map PyData.int)
  | [] => .nil
  | n :: r => .cons (.int n) (dp_ints r)
theorem lay_ints : ∀ ns : List Int, PyData.canLayAll0 (ns.map PyData.int) = true
  | [] => by simp only [List.map_nil, PyData.canLayAll0]
  | n :: r => by
    rw [List.map_cons, PyData.canLayAll0, lay_ints r]
    simp [PyData.canLay0]
theorem depth_ints : ∀ ns : List Int, PyData.depthAll (ns.map PyData.int) = 0
  | [] => by simp only [List.map_nil, PyData.depthAll]
  | n :: r => by
    rw [List.map_cons, PyData.depthAll, depth_ints r]
    simp [PyData.depth]
theorem shaped_ints (ns : List Int) : SeqAt.shaped (PyData.list (ns.map PyData.int)) = true := by
  unfold SeqAt.shaped
  rw [PyData.canLay0, lay_ints, PyData.depth, depth_ints]
  rfl
theorem eqv_nil (n : Int) (r : List Int) : PyData.eqv (PyData.list ((n :: r).map PyData.int)) (PyData.list []) = false := by
  simp [PyData.eqv, PyData.eqvAll]
theorem eqv_nil0 : PyData.eqv (PyData.list (([] : List Int).map PyData.int)) (PyData.list []) = true := by
  simp [PyData.eqv, PyData.eqvAll]
def spBegin (K : PySem.W.Frag) : Sp := fun vs H Q _ => ∃ (a : Addr) (ns : List Int), vs = [.ref a] ∧ SqL K H a (ns.map V.int) ∧ ns.length ≤ 63 ∧
  ∀ d c H', Same H H' → H d = none → H c = none → StAt H' d c 0 → Q (.ref d) H'
section
variable {K : PySem.W.Frag} {mg : Str → Option Value} {P : Program} {w : World} {base : Heap}
theorem ok_begin {f : Addr} {fd : FuncData} {k : Nat} (F : Fun K "_law_begin" "_law_begin" sBegin f fd) (ml : mg "list" = none) : FnOk P w K mg base CX0 (k + 1) f fd ["_law_script"] (spBegin K) := by
  refine F.ok scBegin (fun vs H Q E h => ?_) (fun cdv A outer s H vs Q E hr h => ?_)
  · obtain ⟨a, ns, rfl, _⟩ := h
    rfl
  · obtain ⟨a, ns, rfl, hS, hlen, q⟩ := h
    refine ⟨_, pss_cons (ps_set (i := 1) scBegin.nd rfl (.inl rfl) (pe_callTy call_list_of (by rfl) ml (by decide +kernel) (pa_cons (pe_slice sl_list (pv 0) po_none (po_some pe_int)) pa_nil)))
      (pss_cons (ps_if (pt_cmpR (op_eqD hr.units) (pv 1) (pe_lst pa_nil) (nomark _)) (pss_one (ps_set (i := 1) scBegin.nd rfl (.inl rfl) (pe_lst (pa_cons pe_int pa_nil)))) pss_nil)
      (pss_one (ps_ret (pe_disp (pps_cons pe_str (pv 1) (pps_cons pe_str pe_int pps_nil)) (by rfl) (by rfl) (fun z => by cases z) (by decide))))), ?_⟩
    -- the end: a dict of what stands at the cells' place
    have fin : ∀ (H1 : Hp) (c : Addr) (cs : List Int) (y : Option V), Same H H1 → H c = none → H1 c = some (.lst (cs.map V.int)) → cs ≠ [] → cs.length ≤ 63 →
        (tRet (tDisp [(tC (.str "cells"), tVar 1), (tC (.str "turn"), tC (.int 0))])) { nx := fun _ H' => Q .non H', rt := Q } [some (.ref a), some (.ref c)] H1 := by
      intro H1 c cs y s1 nc ec hne hl
      refine fun d nd => ⟨_, rfl, upd_same, [(.inr "cells", .ref c), (.inr "turn", .int 0)], rfl, (by show 2 ≤ 15; decide), ?_⟩
      have ndc : c ≠ d := ne_of_none ec nd
      refine q d c _ (fun b o e => ?_) (s1.free nd) nc ⟨?_, ⟨cs, ?_, hne, hl⟩, by decide⟩
      · have nb : b ≠ d := ne_of_none (s1 b o e) nd
        rw [upd_ne nb, upd_ne nb]
        exact s1 b o e
      · exact upd_same
      · rw [upd_ne ndc, upd_ne ndc]
        exact ec
    refine ⟨.ref a, rfl, 63, rfl, a, ns.map V.int, rfl, hS, fun p np => ?_⟩
    have s1 : Same H (upd H p (.lst (cutV (ns.map V.int) none (some 63)))) := same_upd np
    refine ⟨p, _, rfl, .inl (SqL.of upd_same), fun l nl => ?_⟩
    have s2 := s1.trans (same_upd (o := .lst (cutV (ns.map V.int) none (some 63))) nl)
    have ecut : cutV (ns.map V.int) none (some 63) = ns.map V.int := by
      have e := cut_front (ns.map V.int) 63
      have e2 : cutV (ns.map V.int) none (some 63) = (ns.map V.int).take 63 := e
      rw [e2, List.take_of_length_le (by rw [List.length_map]; exact hlen)]
    have el : upd (upd H p (.lst (cutV (ns.map V.int) none (some 63)))) l (.lst (cutV (ns.map V.int) none (some 63))) l = some (.lst (ns.map V.int)) := by
      rw [upd_same, ecut]
    revert s2 el
    generalize upd (upd H p (.lst (cutV (ns.map V.int) none (some 63)))) l (.lst (cutV (ns.map V.int) none (some 63))) = H2
    intro s2 el
    have nlH : H l = none := s1.free nl
    -- if cells == []
    refine ⟨.ref l, rfl, Nat.zero_le _, fun z nz => ?_⟩
    have s3 := s2.trans (same_upd (o := .lst []) nz)
    have nlz : l ≠ z := ne_of_none el nz
    have el3 : upd H2 z (.lst []) l = some (.lst (ns.map V.int)) := by rw [upd_ne nlz]; exact el
    refine ⟨.list (ns.map PyData.int), .list [], .lst (SqL.of el3) (dp_ints ns), .lst (SqL.of upd_same) .nil, shaped_ints ns, shaped_ints [], ?_⟩
    cases ns with
    | nil =>
      refine ⟨true, by rw [eqv_nil0], iteT ?_⟩
      refine ⟨(by show 1 ≤ sizeLine; decide), fun c nc => ?_⟩
      exact fin _ c [_] none (s3.trans (same_upd nc)) (s3.free nc) upd_same (by simp) (by decide)
    | cons n r =>
      refine ⟨false, by rw [eqv_nil], iteF ?_⟩
      exact fin _ l (n :: r) none s3 nlH el3 (by simp) hlen
end

/-- a def of the text that keeps a promise, as its callers see it -/
def Cal (P : Program) (w : World) (K : PySem.W.Frag) (mg : Str → Option Value) (base : Heap) (k : Nat) (x : Str) (ps : List Str) (sp : Sp) : Prop :=
  ∃ f fd, FnOk P w K mg base CX0 k f fd ps sp ∧ mg x = some (.ref f) ∧ PySem.W.keepIn K (.ref f) = true ∧ Binds K fd ps []
theorem pe_own {X : Cx} {k : Nat} {x : Str} {ps : List Str} {sp : Sp} {e : Expr} {es : List Expr} {t : TA} {p pos : Pos} (C : Cal X.prog X.w X.K X.mg X.base k x ps sp) (hr : Room k X.A) (hg : Gl X x) (ha : PA X (e :: es) t)
    (dbg : (x == ("__debug__" : Str)) = false := by decide) (one : starEach (e :: es) X.env = (false, eval e X.env) :: starEach es X.env := by rfl) (star : (backTo pos (starEach es X.env)).any (·.1) = false := by rfl) :
    PE X (.Call (.Name x p) (e :: es) [] pos) (tCall sp [] E0 t) := by
  obtain ⟨f, fd, F, hm, hk, hb⟩ := C
  exact pe_call F hr hg hm hk hb .nil pass0 ha dbg one star
theorem StAt.same {H H' : Hp} {d c : Addr} {t : Int} (h : StAt H d c t) (s : Same H H') : StAt H' d c t :=
  ⟨s _ _ h.dict, let ⟨cs, e, r⟩ := h.cells; ⟨cs, s _ _ e, r⟩, h.pos⟩
theorem Kp.same {H H' : Hp} (d c : Addr) (s : Same H H') : Kp d c H H' := fun b o _ _ e => s b o e
/-- what is made behind the state stays -/
theorem Kp.at {H H' : Hp} {d c a : Addr} {t : Int} {o : HO} (k : Kp d c H H') (S : StAt H d c t) (e : H a = some o) (h1 : ∀ kvs, o ≠ .dK kvs) (h2 : ∀ ns : List Int, o ≠ .lst (ns.map V.int)) : H' a = some o := by
  obtain ⟨cs, ec, _⟩ := S.cells
  refine k a o (fun z => ?_) (fun z => ?_) e
  · rw [z, S.dict] at e
    exact h1 _ (Option.some.inj e).symm
  · rw [z, ec] at e
    exact h2 _ (Option.some.inj e).symm
theorem StAt.upd {H : Hp} {d c l : Addr} {t : Int} {o : HO} (S : StAt H d c t) (h1 : l ≠ d) (h2 : l ≠ c) : StAt (L2.upd H l o) d c t := by
  refine ⟨by rw [upd_ne h1.symm]; exact S.dict, ?_, S.pos⟩
  obtain ⟨cs, ec, r⟩ := S.cells
  exact ⟨cs, by rw [upd_ne h2.symm]; exact ec, r⟩

theorem _root_.GP.Prs.same {H H' : Hp} {vs : List V} {ps : List (Int × Int)} (h : Prs H vs ps) (s : Same H H') : Prs H' vs ps :=
  ⟨h.1, fun i p e => let ⟨a, e1, e2⟩ := h.2 i p e; ⟨a, e1, s _ _ e2⟩⟩
theorem _root_.GP.Prs.kp {H H' : Hp} {d c : Addr} {t : Int} {vs : List V} {ps : List (Int × Int)} (h : Prs H vs ps) (S : StAt H d c t) (k : Kp d c H H') : Prs H' vs ps :=
  ⟨h.1, fun i p e => let ⟨a, e1, e2⟩ := h.2 i p e; ⟨a, e1, k.at S e2 (fun _ z => nomatch z) (fun _ z => nomatch z)⟩⟩
theorem _root_.GP.Prs.upd_lst {H : Hp} {l : Addr} {xs : List V} {o : HO} {vs : List V} {ps : List (Int × Int)} (h : Prs H vs ps) (hl : H l = some (.lst xs)) : Prs (upd H l o) vs ps :=
  ⟨h.1, fun i p e => let ⟨a, e1, e2⟩ := h.2 i p e; ⟨a, e1, by rw [upd_ne (ne_of e2 hl (fun z => nomatch z))]; exact e2⟩⟩
theorem _root_.GP.Prs.nil {H : Hp} : Prs H [] [] := ⟨rfl, fun i p e => by simp at e⟩
theorem _root_.GP.Prs.snoc {H : Hp} {a : Addr} {x y : Int} {vs : List V} {ps : List (Int × Int)} (h : Prs H vs ps) (e : H a = some (.tup [.int x, .int y])) : Prs H (vs ++ [.ref a]) (ps ++ [(x, y)]) := by
  refine ⟨by simp [h.1], fun i p ep => ?_⟩
  by_cases hi : i < ps.length
  · rw [List.getElem?_append_left hi] at ep
    obtain ⟨b, e1, e2⟩ := h.2 i p ep
    exact ⟨b, by rw [List.getElem?_append_left (by rw [h.1]; exact hi)]; exact e1, e2⟩
  · rw [List.getElem?_append_right (by omega)] at ep
    have hz : i - ps.length = 0 := by
      cases hq : i - ps.length with
      | zero => rfl
      | succ n => rw [hq] at ep; simp at ep
    rw [hz] at ep
    have ep' : (x, y) = p := by simpa using ep
    subst ep'
    refine ⟨a, ?_, e⟩
    rw [List.getElem?_append_right (by rw [h.1]; omega), h.1, hz]
    rfl
/-- rising stretches with gaps, from lo on -/
def Ris : Int → List (Int × Int) → Prop
  | _, [] => True
  | lo, p :: r => lo ≤ p.1 ∧ p.1 ≤ p.2 ∧ Ris (p.2 + 2) r
theorem Ris.snoc : ∀ {lo : Int} {ps : List (Int × Int)} {a b : Int}, Ris lo ps → lo ≤ a → (∀ p ∈ ps, p.2 + 2 ≤ a) → a ≤ b → Ris lo (ps ++ [(a, b)])
  | lo, [], a, b, _, h1, _, h3 => ⟨h1, h3, True.intro⟩
  | lo, p :: r, a, b, h, h1, h2, h3 => ⟨h.1, h.2.1, Ris.snoc h.2.2 (h2 p (List.mem_cons_self ..)) (fun q hq => h2 q (List.mem_cons_of_mem _ hq)) h3⟩
theorem pick2 {x y r : Int} (Pv : Int → Prop) (h0 : 0 ≤ r) (h1 : r < 2) (hx : Pv x) (hy : Pv y) : ∃ v, Pv v ∧ atI [V.int x, V.int y] r = some (.int v) := by
  have : r = 0 ∨ r = 1 := by omega
  rcases this with rfl | rfl
  · exact ⟨x, hx, rfl⟩
  · exact ⟨y, hy, rfl⟩
theorem pick3 {x y z r : Int} (Pv : Int → Prop) (h0 : 0 ≤ r) (h1 : r < 3) (hx : Pv x) (hy : Pv y) (hz : Pv z) : ∃ v, Pv v ∧ atI [V.int x, V.int y, V.int z] r = some (.int v) := by
  have : r = 0 ∨ r = 1 ∨ r = 2 := by omega
  rcases this with rfl | rfl | rfl
  · exact ⟨x, hx, rfl⟩
  · exact ⟨y, hy, rfl⟩
  · exact ⟨z, hz, rfl⟩
/-- a new object stands through the state's change -/
theorem Kp.new {H H' : Hp} {d c l : Addr} {t : Int} {o : HO} (k : Kp d c (upd H l o) H') (S : StAt H d c t) (n : H l = none) : H' l = some o := by
  obtain ⟨cs, ec, _⟩ := S.cells
  exact k l o (ne_of_none S.dict n).symm (ne_of_none ec n).symm upd_same
theorem drop_at {α : Type} {l : List α} {i : Nat} {x : α} (h : l[i]? = some x) : l.drop i = x :: l.drop (i + 1) := by
  obtain ⟨lt, e⟩ := List.getElem?_eq_some_iff.mp h
  rw [← e]
  exact List.drop_eq_getElem_cons lt
theorem prs_at {H : Hp} {vs : List V} {ps : List (Int × Int)} {i : Nat} {x : V} (h : Prs H vs ps) (e : vs[i]? = some x) : ∃ (p : Int × Int) (a : Addr), ps[i]? = some p ∧ x = .ref a ∧ H a = some (.tup [.int p.1, .int p.2]) := by
  obtain ⟨hi, _⟩ := List.getElem?_eq_some_iff.mp e
  have hi2 : i < ps.length := by rw [← h.1]; exact hi
  obtain ⟨a, e1, e2⟩ := h.2 i ps[i] (List.getElem?_eq_getElem hi2)
  rw [e] at e1
  exact ⟨ps[i], a, List.getElem?_eq_getElem hi2, Option.some.inj e1, e2⟩

theorem sumP_append (g : Int → Int → Int) (ps qs : List (Int × Int)) : sumP g (ps ++ qs) = sumP g ps + sumP g qs := by
  unfold sumP
  rw [List.map_append, List.sum_append]
def inB (n a b : Int) : Bool := decide (a ≤ n) && decide (n ≤ b)
theorem Ris.le : ∀ {lo : Int} {ps : List (Int × Int)}, Ris lo ps → ∀ p ∈ ps, lo ≤ p.1 ∧ p.1 ≤ p.2
  | _, [], _, _, hp => nomatch hp
  | lo, q :: r, h, p, hp => by
    rcases List.mem_cons.mp hp with e | e'
    · rw [e]; exact ⟨h.1, h.2.1⟩
    · have := Ris.le h.2.2 p e'
      have := h.2.1
      have := h.1
      omega

/-! ### walks over a list or a tuple -/
def Sq (K : PySem.W.Frag) (H : Hp) (a : Addr) (xs : List V) : Prop := SqL K H a xs ∨ SqT K H a xs
def iSeq (K : PySem.W.Frag) (tl : TE) : TI := fun σ H R => tl σ H fun x H1 => ∃ a, x = .ref a ∧ (((∃ xs, SqL K H1 a xs) ∧ R (Itl K a) H1) ∨ ((∃ xs, SqT K H1 a xs) ∧ R (Itt K a) H1))
/-- the iterator that was just laid is no one's -/
theorem lone {X : Cx} {pins : List (Addr × Obj)} {σ : L2.St} {H : Hp} {s : Shared} (I : Inv X pins σ H s) : ∀ b ∈ [s.heap.objs.size], FpOk X pins H b := fun b hb => by
  rw [List.mem_singleton.mp hb]
  exact I.fpOk (H' := H) (Nat.le_refl _) (I.hok.fresh (Nat.le_refl _))
theorem pi_seq {X : Cx} {tg l : Expr} {tl : TE} (walked : PE X l tl) : PI X tg l (iSeq X.K tl) := by
  constructor
  intro pins s σ H R I h
  refine thn (walked.run pins s σ H _ I h) fun u s1 had => ?_
  obtain ⟨_, H1, J, rel, a, rfl, had⟩ := had
  cases rel
  have laid : ∀ o, Inv X pins σ H1 { s1 with heap := s1.heap.push o } := fun o => J.kept (t' := s1.toks) fun _ _ e => Heap.get?_push_of_some _ e
  rcases had with ⟨⟨xs, hq⟩, q⟩ | ⟨⟨xs, hq⟩, q⟩
  · obtain ⟨its, _, isL, _⟩ := J.list hq
    exact wpAny_pyIter_list isL.isList ⟨_, _, _, _, H1, rfl, laid _, turn_list a _, ⟨_, Heap.get?_push_size _ rfl, rfl, rfl⟩, lone J, q⟩
  · obtain ⟨its, _, isT, _⟩ := J.tuple hq
    exact wpAny_pyIter_tuple (items := its.toArray) isT ⟨_, _, _, _, H1, rfl, laid _, turn_tuple a _, ⟨_, Heap.get?_push_size _ rfl, rfl, rfl⟩, lone J, q⟩
/-- the walked thing stands as it stood -/
def SqTo (K : PySem.W.Frag) (H H' : Hp) (a : Addr) (xs : List V) : Prop := (SqL K H a xs → SqL K H' a xs) ∧ (SqT K H a xs → SqT K H' a xs)
theorem SqTo.refl {K : PySem.W.Frag} {H : Hp} {a : Addr} {xs : List V} : SqTo K H H a xs := ⟨fun h => h, fun h => h⟩
theorem same_t {K : PySem.W.Frag} {H H' : Hp} {a : Addr} {xs : List V} (s : Same H H') (h : SqT K H a xs) : SqT K H' a xs :=
  h.elim (fun r => .inl (r.elim (fun e => .inl (s a _ e)) fun ⟨o, e⟩ => .inr ⟨o, s a _ e⟩)) .inr
theorem SqTo.same {K : PySem.W.Frag} {H H' : Hp} {a : Addr} {xs : List V} (s : Same H H') : SqTo K H H' a xs := ⟨s.seq, same_t s⟩
theorem Sq.same {K : PySem.W.Frag} {H H' : Hp} {a : Addr} {xs : List V} (h : Sq K H a xs) (s : Same H H') : Sq K H' a xs := h.elim (fun h => .inl (s.seq h)) fun h => .inr (same_t s h)
theorem Sq.list {K : PySem.W.Frag} {H : Hp} {a : Addr} {xs : List V} (h : H a = some (.lst xs)) : Sq K H a xs := .inl (SqL.of h)
theorem Sq.tup {K : PySem.W.Frag} {H : Hp} {a : Addr} {xs : List V} (h : H a = some (.tup xs)) : Sq K H a xs := .inr (.inl (.inl h))
abbrev ForR (J : It) (g : TG) (tb : TS) (D : Ends) (σ : L2.St) (H1 : Hp) : Prop := ∃ W : Nat → Nat → L2.St → Hp → Prop, (∃ m, W 0 m σ H1) ∧ ∀ i m σ H, W i m σ H →
  (J.stop i H ∧ D.nx σ H) ∨ (J.go i H ∧ ∃ N : L2.St → Hp → Prop, (∀ σ' H', N σ' H' → ∃ m', m' < m ∧ W (i + 1) m' σ' H') ∧ ∀ x H', J.yld i H x H' → g x σ H' fun σ2 H2 => tb { D with nx := N, ct := N, bk := D.nx } σ2 H2)
theorem for_seq {K : PySem.W.Frag} {a : Addr} {xs : List V} {g : TG} {tb : TS} {D : Ends} {σ : L2.St} {H1 : Hp} (hq : Sq K H1 a xs) (Pv : Nat → L2.St → Hp → Prop) (h0 : Pv 0 σ H1)
    (hl : ∀ i σ H', i ≤ xs.length → Pv i σ H' → SqTo K H1 H' a xs)
    (turn : ∀ i x σ H, xs[i]? = some x → Pv i σ H → g x σ H fun σ2 H2 => tb { D with nx := Pv (i + 1), ct := Pv (i + 1), bk := D.nx } σ2 H2) (fin : ∀ σ H, Pv xs.length σ H → D.nx σ H) :
    ((∃ xs, SqL K H1 a xs) ∧ ForR (Itl K a) g tb D σ H1) ∨ ((∃ xs, SqT K H1 a xs) ∧ ForR (Itt K a) g tb D σ H1) := by
  rcases hq with h | h
  · exact .inl ⟨⟨xs, h⟩, for_list (xs := xs) Pv h0 (fun i σ H' hi p => (hl i σ H' hi p).1 h) turn fin⟩
  · exact .inr ⟨⟨xs, h⟩, for_tup (xs := xs) Pv h0 (fun i σ H' hi p => (hl i σ H' hi p).2 h) turn fin⟩

/-! ### pairs as data -/
def pairD (p : Int × Int) : PyData := .tuple [.int p.1, .int p.2]
theorem dp_prs {K : PySem.W.Frag} {H : Hp} : ∀ {us : List V} {ps : List (Int × Int)}, Prs H us ps → DpAll K H us (ps.map pairD)
  | [], [], _ => .nil
  | [], _ :: _, h => nomatch h.1
  | _ :: _, [], h => nomatch h.1
  | u :: us, p :: ps, h => by
    obtain ⟨a, e1, e2⟩ := h.2 0 p rfl
    have eu : u = .ref a := Option.some.inj e1
    subst eu
    refine .cons (.tup (.inl (.inl e2)) (.cons (.int _) (.cons (.int _) .nil))) (dp_prs ⟨Nat.succ.inj h.1, fun i q e => ?_⟩)
    obtain ⟨b, f1, f2⟩ := h.2 (i + 1) q e
    exact ⟨b, f1, f2⟩
theorem lay_prs : ∀ ps : List (Int × Int), PyData.canLayAll0 (ps.map pairD) = true
  | [] => by simp only [List.map_nil, PyData.canLayAll0]
  | p :: r => by
    rw [List.map_cons, PyData.canLayAll0, lay_prs r]
    simp [pairD, PyData.canLay0, PyData.canLayAll0]
theorem depth_prs : ∀ ps : List (Int × Int), PyData.depthAll (ps.map pairD) ≤ 1
  | [] => by simp only [List.map_nil, PyData.depthAll]; omega
  | p :: r => by
    rw [List.map_cons, PyData.depthAll]  -- a pair, then the rest
    have := depth_prs r
    simp [pairD, PyData.depth, PyData.depthAll]
    omega
theorem shaped_prs (ps : List (Int × Int)) : SeqAt.shaped (PyData.list (ps.map pairD)) = true := by
  unfold SeqAt.shaped
  rw [PyData.canLay0, lay_prs, PyData.depth, Bool.true_and]
  exact decide_eq_true (by have := depth_prs ps; omega)
theorem eqv_prs (ps : List (Int × Int)) : PyData.eqv (PyData.list (ps.map pairD)) (PyData.list (ps.map pairD)) = true := SeqAt.eqv_refl _ (by rw [PyData.canLay0]; exact lay_prs ps)
theorem tabG_tabbed {Pt Pu : Addr} {H H2 : Hp} (g : GxR.TabG H Pu) (x : GxR.Tabbed Pt H H2) : GxR.TabG H2 Pu := by
  by_cases e : Pu = Pt
  · rw [e]; exact x.1
  · obtain ⟨ps, h, r⟩ := g
    exact ⟨ps, by rw [x.2 _ e]; exact h, r⟩

theorem Kp.free {H H' : Hp} {d c l : Addr} {t' : Int} (k : Kp d c H H') (S' : StAt H' d c t') (n : H' l = none) : H l = none := by
  cases e : H l with
  | none => rfl
  | some o =>
    obtain ⟨cs1, ec1, _⟩ := S'.cells
    have z := k l o (ne_of_none S'.dict n).symm (ne_of_none ec1 n).symm e
    rw [n] at z
    cases z
theorem StAt.off {H : Hp} {d c l : Addr} {t : Int} (S : StAt H d c t) (n : H l = none) : l ≠ d ∧ l ≠ c := by
  obtain ⟨cs1, ec1, _⟩ := S.cells
  exact ⟨(ne_of_none S.dict n).symm, (ne_of_none ec1 n).symm⟩
/-- no whole number among these: so it's not the draws' cells -/
def NoInt (xs : List V) : Prop := ∀ x ∈ xs, ∀ i, x ≠ .int i
theorem Kp.lst {H H' : Hp} {d c a : Addr} {t : Int} {xs : List V} (k : Kp d c H H') (S : StAt H d c t) (e : H a = some (.lst xs)) (h : NoInt xs) : H' a = some (.lst xs) := by
  obtain ⟨cs, ec, hne, _⟩ := S.cells
  refine k a _ (fun z => ?_) (fun z => ?_) e
  · rw [z, S.dict] at e
    cases e
  · rw [z, ec] at e
    have e' : cs.map V.int = xs := HO.lst.inj (Option.some.inj e)
    cases cs with
    | nil => exact hne rfl
    | cons n r => exact h (.int n) (e' ▸ List.mem_cons_self ..) n rfl
theorem Kp.tup {H H' : Hp} {d c a : Addr} {t : Int} {xs : List V} (k : Kp d c H H') (S : StAt H d c t) (e : H a = some (.tup xs)) : H' a = some (.tup xs) := k.at S e (fun _ z => nomatch z) (fun _ z => nomatch z)
theorem noInt_strs (xs : List Str) : NoInt (xs.map V.str) := fun x hx i e => by
  obtain ⟨y, _, rfl⟩ := List.mem_map.mp hx
  cases e
theorem noInt_prs {H : Hp} {us : List V} {ps : List (Int × Int)} (h : Prs H us ps) : NoInt us := fun x hx i e => by
  obtain ⟨j, hj, e1⟩ := List.getElem_of_mem hx
  obtain ⟨p, a, _, rfl, _⟩ := prs_at h (by rw [List.getElem?_eq_getElem hj, e1])
  cases e

/-- a text of one sign -/
def sgS (c : Nat) : Str := ⟨#[c]⟩
def sgn (c : Nat) : V := .str (sgS c)
def spNames : Sp := fun vs H Q _ => ∃ (d c : Addr) (t m : Int), vs = [.ref d, .int m] ∧ StAt H d c t ∧ t + 100 < 2 ^ 60 ∧ 0 ≤ m ∧ m ≤ 20 ∧
  ∀ (l : Addr) (xs : List Str) (t' : Int) H', H l = none → H' l = some (.lst (xs.map V.str)) → (∀ x ∈ xs, PyData.strOk x = true) → (xs.length : Int) = m → xs.Nodup → t ≤ t' → t' ≤ t + 20 → StAt H' d c t' → Kp d c H H' → Q (.ref l) H'
theorem join_small {cs : List Nat} (h : cs.length ≤ 10) : ((cs.map sgS).map (·.length)).sum + (cs.map sgS).length * ("" : Str).length ≤ 16777216 := by
  have e : ((cs.map sgS).map (·.length)).sum = cs.length := by
    induction cs with
    | nil => rfl
    | cons c r ih =>
      rw [List.map_cons, List.map_cons, List.sum_cons, ih (by rw [List.length_cons] at h; omega), List.length_cons]
      show 1 + r.length = r.length + 1
      omega
  rw [e, show ("" : Str).length = 0 from rfl, Nat.mul_zero]
  omega
theorem joinL_ones : ∀ cs : List Nat, TL.joinL [] (cs.map fun c => [c]) = cs
  | [] => rfl
  | [_] => rfl
  | c :: c2 :: r => by
    have ih := joinL_ones (c2 :: r)
    show [c] ++ ([] ++ TL.joinL [] ((c2 :: r).map fun c => [c])) = _
    rw [ih]
    rfl
theorem join_ok {cs : List Nat} (h : ∀ c ∈ cs, c < 1114112) : PyData.strOk (Txt.join "" (cs.map sgS)) = true := by
  have e : Txt.join "" (cs.map sgS) = SX.S cs := by
    have z := SX.join_S [] (cs.map fun c => [c])
    rw [joinL_ones, List.map_map] at z
    exact z
  rw [e]
  show (Array.all _ _) = true
  rw [Array.all_eq_true']
  intro c hc
  exact decide_eq_true (h c (by simpa using hc))
/-- words that are unlike at one sign -/
def Spelt (abc : Str) (N fi sv : Int) (js : Nat) (xs : List Str) : Prop := ∀ (k : Nat) x, xs[k]? = some x → ∃ (cs : List Nat) (ch : Nat), x = SX.S cs ∧ cs[js]? = some ch ∧ atI abc.cps.toList ((fi + sv * (k : Int)) % N) = some ch
theorem join_eq (cs : List Nat) : Txt.join "" (cs.map sgS) = SX.S cs := by
  have z := SX.join_S [] (cs.map fun c => [c])
  rw [joinL_ones, List.map_map] at z
  exact z
theorem Spelt.snoc {abc : Str} {N fi sv : Int} {js i : Nat} {xs : List Str} {cs : List Nat} {ch : Nat} (h : Spelt abc N fi sv js xs) (hl : xs.length = i) (e1 : cs[js]? = some ch) (e2 : atI abc.cps.toList ((fi + sv * (i : Int)) % N) = some ch) : Spelt abc N fi sv js (xs ++ [Txt.join "" (cs.map sgS)]) := fun k x e => by
  by_cases hk : k < xs.length
  · rw [List.getElem?_append_left hk] at e
    exact h k x e
  · rw [List.getElem?_append_right (by omega)] at e
    have hz : k - xs.length = 0 := by
      cases hq : k - xs.length with
      | zero => rfl
      | succ n => rw [hq] at e; cases e
    rw [hz] at e
    cases e
    have hki : k = i := by omega
    subst hki
    exact ⟨cs, ch, join_eq cs, e1, e2⟩
theorem Spelt.nodup {abc : Str} {N fi sv : Int} {js : Nat} {xs : List Str} (h : Spelt abc N fi sv js xs) (hN : 0 < N) (hl : (abc.cps.toList.length : Int) = N) (hn : abc.cps.toList.Nodup) (far : ∀ k k' : Nat, k < xs.length → k' < xs.length → (fi + sv * (k : Int)) % N = (fi + sv * (k' : Int)) % N → k = k') : xs.Nodup := by
  refine List.pairwise_iff_getElem.mpr fun i j hi hj hij ex => ?_
  obtain ⟨cs1, c1, e1, f1, g1⟩ := h i xs[i] (List.getElem?_eq_getElem hi)
  obtain ⟨cs2, c2, e2, f2, g2⟩ := h j xs[j] (List.getElem?_eq_getElem hj)
  rw [e1, e2] at ex
  have ec : cs1 = cs2 := SX.S_inj ex
  rw [ec, f2] at f1
  have ecc : c2 = c1 := Option.some.inj f1
  rw [← ecc] at g1
  obtain ⟨a, ha⟩ := Int.eq_ofNat_of_zero_le (Int.emod_nonneg (fi + sv * (i : Int)) (show N ≠ 0 by omega))
  obtain ⟨b, hb⟩ := Int.eq_ofNat_of_zero_le (Int.emod_nonneg (fi + sv * (j : Int)) (show N ≠ 0 by omega))
  have la := Int.emod_lt_of_pos (fi + sv * (i : Int)) hN
  have lb := Int.emod_lt_of_pos (fi + sv * (j : Int)) hN
  rw [ha] at g1 la
  rw [hb] at g2 lb
  have a1 : a < abc.cps.toList.length := by omega
  have b1 : b < abc.cps.toList.length := by omega
  have g1' : abc.cps.toList[a]? = some c2 := by
    have z := atI_nat (List.getElem?_eq_getElem a1)
    rw [z] at g1
    rw [List.getElem?_eq_getElem a1]
    exact g1
  have g2' : abc.cps.toList[b]? = some c2 := by
    have z := atI_nat (List.getElem?_eq_getElem b1)
    rw [z] at g2
    rw [List.getElem?_eq_getElem b1]
    exact g2
  have eab : a = b := (List.getElem?_inj a1 hn).mp (g1'.trans g2'.symm)
  have := far i j (by omega) hj (by rw [ha, hb, eab])
  omega
/-! ### _law_names -/

theorem snoc_cases {α : Type} (l : List α) : l = [] ∨ ∃ l' x, l = l' ++ [x] := by
  rcases List.eq_nil_or_concat l with h | ⟨l', x, h⟩
  · exact .inl h
  · exact .inr ⟨l', x, by rw [h]; simp⟩
theorem _root_.GP.Prs.last {H : Hp} {us : List V} {ps : List (Int × Int)} {p : Int × Int} (h : Prs H us (ps ++ [p])) : ∃ us' T, us = us' ++ [.ref T] ∧ H T = some (.tup [.int p.1, .int p.2]) ∧ Prs H us' ps := by
  have hl := h.1
  rw [List.length_append] at hl
  rcases snoc_cases us with e | ⟨us', x, e⟩
  · rw [e] at hl
    simp at hl
  · subst e
    rw [List.length_append] at hl
    have hl' : us'.length = ps.length := Nat.add_right_cancel hl
    obtain ⟨T, e1, e2⟩ := h.2 ps.length p (by rw [List.getElem?_append_right (Nat.le_refl _), Nat.sub_self]; rfl)
    rw [List.getElem?_append_right (by omega), hl', Nat.sub_self] at e1
    refine ⟨us', T, by rw [Option.some.inj e1], e2, hl', fun i q eq => ?_⟩
    have hi : i < ps.length := (List.getElem?_eq_some_iff.mp eq).1
    obtain ⟨b, f1, f2⟩ := h.2 i q (by rw [List.getElem?_append_left hi]; exact eq)
    rw [List.getElem?_append_left (by omega)] at f1
    exact ⟨b, f1, f2⟩
theorem eqv_pr_nil (ps : List (Int × Int)) : PyData.eqv (PyData.list (ps.map pairD)) (PyData.list []) = ps.isEmpty := by
  cases ps with
  | nil => simp [PyData.eqv, PyData.eqvAll]
  | cons p r => simp [PyData.eqv, PyData.eqvAll]
def rIxS (K : PySem.W.Frag) : R2 := fun x y H Q => ∃ p xs i v, x = .ref p ∧ y = .int i ∧ Sq K H p xs ∧ atI xs i = some v ∧ Q v H
theorem ix_seq {X : Cx} : IxR X (rIxS X.K) := by
  intro value slice pins s σ H x y v u Q I rx ry h hs
  obtain ⟨p, xs, i, z, e1, e2, hq, he, q⟩ := h
  rcases hq with hq | hq
  · exact ix_list value slice pins s σ H x y v u Q I rx ry ⟨p, xs, i, z, e1, e2, hq, he, q⟩ hs
  · exact ix_tup value slice pins s σ H x y v u Q I rx ry ⟨p, xs, i, z, e1, e2, hq, he, q⟩ hs

/-! ### the table of the def that holds the generator expression -/
theorem tab_at {Pt : Addr} {H H2 : Hp} {b : Addr} {o : HO} (g : GxR.TabG H Pt) (t : GxR.Tabbed Pt H H2) (e : H b = some o) (h : ∀ q, o ≠ .tbl q) : H2 b = some o := by
  obtain ⟨ps, hP, _⟩ := g
  rw [t.2 b (ne_of e hP (h ps))]
  exact e
theorem StAt.tab {Pt : Addr} {H H2 : Hp} {d c : Addr} {t : Int} (S : StAt H d c t) (g : GxR.TabG H Pt) (x : GxR.Tabbed Pt H H2) : StAt H2 d c t :=
  ⟨tab_at g x S.dict (fun _ z => nomatch z), let ⟨cs, e, r⟩ := S.cells; ⟨cs, tab_at g x e (fun _ z => nomatch z), r⟩, S.pos⟩
theorem _root_.GP.Prs.tab {Pt : Addr} {H H2 : Hp} {vs : List V} {ps : List (Int × Int)} (h : Prs H vs ps) (g : GxR.TabG H Pt) (x : GxR.Tabbed Pt H H2) : Prs H2 vs ps :=
  ⟨h.1, fun i p e => let ⟨a, e1, e2⟩ := h.2 i p e; ⟨a, e1, tab_at g x e2 (fun _ z => nomatch z)⟩⟩
theorem tabG_same {Pt : Addr} {H H' : Hp} (g : GxR.TabG H Pt) (s : Same H H') : GxR.TabG H' Pt := let ⟨ps, e, r⟩ := g; ⟨ps, s _ _ e, r⟩
theorem tabG_kp {Pt : Addr} {H H' : Hp} {d c : Addr} {t : Int} (g : GxR.TabG H Pt) (S : StAt H d c t) (k : Kp d c H H') : GxR.TabG H' Pt := let ⟨ps, e, r⟩ := g; ⟨ps, k.at S e (fun _ z => nomatch z) (fun _ z => nomatch z), r⟩
theorem tabG_upd {Pt : Addr} {H : Hp} {l : Addr} {o u : HO} (g : GxR.TabG H Pt) (e : H l = some o) (h : ∀ q, o ≠ .tbl q) : GxR.TabG (upd H l u) Pt := let ⟨ps, eP, r⟩ := g; ⟨ps, by rw [upd_ne (ne_of e eP (h ps)).symm]; exact eP, r⟩
theorem tabbed_free {Pt : Addr} {H H2 : Hp} {p : Addr} (g : GxR.TabG H Pt) (x : GxR.Tabbed Pt H H2) (h : H2 p = none) : H p = none := by
  obtain ⟨ps, e, _⟩ := x.1
  rw [← x.2 p (fun z => by rw [z, e] at h; cases h)]
  exact h

/-- a walk over what stood before a list was begun -/
theorem for_seqS {K : PySem.W.Frag} {a : Addr} {xs : List V} {g : TG} {tb : TS} {D : Ends} {σ : L2.St} {H0 H1 : Hp} (hq : Sq K H0 a xs) (s1 : Same H0 H1) (Pv : Nat → L2.St → Hp → Prop) (h0 : Pv 0 σ H1)
    (hl : ∀ i σ H', Pv i σ H' → Same H0 H')
    (turn : ∀ i x σ H, xs[i]? = some x → Pv i σ H → g x σ H fun σ2 H2 => tb { D with nx := Pv (i + 1), ct := Pv (i + 1), bk := D.nx } σ2 H2) (fin : ∀ σ H, Pv xs.length σ H → D.nx σ H) :
    ((∃ xs, SqL K H1 a xs) ∧ ForR (Itl K a) g tb D σ H1) ∨ ((∃ xs, SqT K H1 a xs) ∧ ForR (Itt K a) g tb D σ H1) := by
  rcases hq with h | h
  · exact .inl ⟨⟨xs, s1.seq h⟩, for_list (xs := xs) Pv h0 (fun i σ H' _ p => (hl i σ H' p).seq h) turn fin⟩
  · exact .inr ⟨⟨xs, same_t s1 h⟩, for_tup (xs := xs) Pv h0 (fun i σ H' _ p => same_t (hl i σ H' p) h) turn fin⟩

/-! ### zip of a list and a tuple -/
def ItzM (K : PySem.W.Frag) (a b : Addr) : It :=
  ⟨fun i H => ∃ (xs ys : List V) (x y : V), SqL K H a xs ∧ SqT K H b ys ∧ xs[i]? = some x ∧ ys[i]? = some y,
    fun i H v H' => ∃ T x y, v = .ref T ∧ H T = none ∧ H' = upd H T (.tup [x, y]) ∧ (∀ xs, SqL K H a xs → xs[i]? = some x) ∧ ∀ ys, SqT K H b ys → ys[i]? = some y,
    fun i H => ∃ xs ys : List V, SqL K H a xs ∧ SqT K H b ys ∧ i ≤ xs.length ∧ i ≤ ys.length ∧ (i = xs.length ∨ i = ys.length)⟩
theorem turn_zipM {P : Program} {w : World} {K : PySem.W.Frag} {elts : List Expr} {kk : Nat} {tpos : Pos} {a b z TI TO i1 i2 : Addr} (D : ZipSep2 z TI TO i1 i2 [i1, a] [i2, b]) (n1 : a ≠ i1) (n2 : b ≠ i2) :
    Turn P w K (.Tuple elts kk tpos) (ItzM K a b) [z, TI, TO, i1, i2] z (fun i h => IsZip h z TI TO .none ∧ IsTupOf2 h TI (.ref i1) (.ref i2) ∧ (∃ x y, IsTupOf2 h TO x y) ∧ h.IsListIter i1 a i ∧ h.IsTupleIter i2 b i) where
  mem := by simp
  obj := fun i h st c hc => by
    obtain ⟨hz, hTI, ⟨x, y, hTO⟩, ⟨o1, e1, _, d1⟩, ⟨o2, e2, _, d2⟩⟩ := st
    have e' : c = z ∨ c = TI ∨ c = TO ∨ c = i1 ∨ c = i2 := by simpa using hc
    rcases e' with q | q | q | q | q
    · rw [q]; exact ⟨_, hz, fun v q => nomatch q⟩
    · rw [q]; exact ⟨_, hTI, fun v q => nomatch q⟩
    · rw [q]; exact ⟨_, hTO, fun v q => nomatch q⟩
    · rw [q]; exact ⟨o1, e1, fun v q => by rw [d1] at q; cases q⟩
    · rw [q]; exact ⟨o2, e2, fun v q => by rw [d2] at q; cases q⟩
  keep := fun i h h' st k => by
    obtain ⟨hz, hTI, ⟨x, y, hTO⟩, h1, h2⟩ := st
    exact ⟨k z (by simp) _ hz, k TI (by simp) _ hTI, ⟨x, y, k TO (by simp) _ hTO⟩, h1.at fun o q => k i1 (by simp) o q, h2.at fun o q => k i2 (by simp) o q⟩
  item := by
    intro X hP hw hK hc i pins s σ H E I hf st hg
    subst hP hw hK
    obtain ⟨hz, hTI, ⟨x0, y0, hTO⟩, h1, h2⟩ := st
    obtain ⟨xs, ys, x, y, hqx, hqy, hx, hy⟩ := hg
    obtain ⟨its, rv, p, _⟩ := I.list hqx
    obtain ⟨its2, rv2, p2, _⟩ := I.tuple hqy
    obtain ⟨u, hu, ru⟩ := rv.get hx
    obtain ⟨u2, hu2, ru2⟩ := rv2.get hy
    have hui : its.toArray[i]? = some u := by simpa using hu
    have hui2 : its2.toArray[i]? = some u2 := by simpa using hu2
    have hzl : z < s.heap.objs.size := Heap.lt_size hz
    have D1 := Draws.list (prog := X.prog) (w := X.w) (A := X.A.in1) (I.ok.hd hc) i1 a n1 its.toArray
    have D2 := Draws.tuple (prog := X.prog) (w := X.w) (A := X.A.in1) (I.ok.hd hc) i2 b n2 its2.toArray
    refine wpAny_pyNext_zipD2_item D D1 D2 hz hTI hTO ⟨h1, p.isList⟩ ⟨h2, p2⟩ (Array.getElem?_eq_some_iff.mp hui).1 (Array.getElem?_eq_some_iff.mp hui2).1 fun v1 v2 h' tk e1 e2 z' TO' h1' h2' hT hsz hk => ?_
    have ev1 : u = v1 := Option.some.inj (hui.symm.trans e1)
    have ev2 : u2 = v2 := Option.some.inj (hui2.symm.trans e2)
    subst ev1 ev2
    refine ⟨_, rfl, wpAny_letOwnedTupleGo_zip (s := { s with heap := h', toks := tk }) z' fun h'' z'' sb => ?_⟩
    have hT2 : h''.get? s.heap.objs.size = some { cls := .type "tuple", data := .seq #[u, u2] } := (sb.2 _ (Nat.ne_of_gt hzl)).trans hT
    have new : ObjOk X.prog X.w (upd H s.heap.objs.size (.tup [x, y])) h'' s.heap.objs.size (.tup [x, y]) :=
      ⟨by show 2 ≤ sizeLine; decide, [u, u2], .cons ru (.cons ru2 .nil), ⟨_, hT2, rfl, _, rfl⟩⟩
    have I1 : Inv X pins σ (upd H s.heap.objs.size (.tup [x, y])) { s with heap := h'', toks := tk } :=
      I.turnedNew (t' := tk) (ch := [z, TI, TO, i1, i2]) (fun c o hb q => (sb.2 c (fun q' => hb (by simp [q']))).trans (hk c o (fun q' => hb (by simp [q'])) (fun q' => hb (by simp [q'])) (fun q' => hb (by simp [q'])) (fun q' => hb (by simp [q'])) q)) hf (Nat.le_refl _) new
    refine ⟨.ref s.heap.objs.size, _, I1, rfl, ⟨_, x, y, rfl, I.hok.fresh (Nat.le_refl _), rfl, fun l hl => by rw [I.list_inj hl hqx]; exact hx, fun l hl => by rw [I.tuple_inj hl hqy]; exact hy⟩, ⟨z'', ?_, ⟨u, u2, ?_⟩, ?_, ?_⟩, fun c hcm => ?_⟩
    · exact (sb.2 _ D.TIz).trans (hk _ _ D.TIz D.TITO D.TIi1 D.TIi2 hTI)
    · exact (sb.2 _ D.TOz).trans TO'
    · exact h1'.1.at fun o q => (sb.2 _ D.zi1.symm).trans q
    · exact h2'.1.at fun o q => (sb.2 _ D.zi2.symm).trans q
    · have hlt : c < s.heap.objs.size := by
        have e' : c = z ∨ c = TI ∨ c = TO ∨ c = i1 ∨ c = i2 := by simpa using hcm
        rcases e' with q | q | q | q | q
        · rw [q]; exact hzl
        · rw [q]; exact Heap.lt_size hTI
        · rw [q]; exact Heap.lt_size hTO
        · rw [q]; obtain ⟨_, e1, _⟩ := h1; exact Heap.lt_size e1
        · rw [q]; obtain ⟨_, e2, _⟩ := h2; exact Heap.lt_size e2
      rw [upd_ne (Nat.ne_of_lt hlt)]
      exact (hf c hcm).1
  done := by
    intro X hP hw hK hc i pins s σ H E I hf st hg
    subst hP hw hK
    obtain ⟨hz, hTI, ⟨x0, y0, hTO⟩, h1, h2⟩ := st
    obtain ⟨xs, ys, hqx, hqy, g1, g2, hend⟩ := hg
    obtain ⟨its, rv, p, _⟩ := I.list hqx
    obtain ⟨its2, rv2, p2, _⟩ := I.tuple hqy
    have l1 : its.toArray.size = xs.length := by rw [List.size_toArray, rv.length]
    have l2 : its2.toArray.size = ys.length := by rw [List.size_toArray, rv2.length]
    have D1 := Draws.list (prog := X.prog) (w := X.w) (A := X.A.in1) (I.ok.hd hc) i1 a n1 its.toArray
    have D2 := Draws.tuple (prog := X.prog) (w := X.w) (A := X.A.in1) (I.ok.hd hc) i2 b n2 its2.toArray
    exact wpAny_pyNext_zipD2_end D D1 D2 hz hTI hTO ⟨h1, p.isList⟩ ⟨h2, p2⟩ (by omega) (by omega) (by omega) fun h' tk hk => ⟨rfl, I.turnedL (t' := tk) (ch := [z, TI, TO, i1, i2]) (fun c o hb q =>
      hk c o (fun q' => hb (by simp [q'])) (fun q' => hb (by simp [q'])) (fun q' => hb (by simp [q'])) (fun q' => hb (by simp [q'])) q) hf⟩
  self := fun A i s Q E st h => wpAny_pyIter_zip st.1 h
def iZipM (K : PySem.W.Frag) (ta : TA) : TI := fun σ H R => ta σ H fun vs H1 => ∃ a b xs ys, vs = [.ref a, .ref b] ∧ ((SqL K H1 a xs ∧ SqL K H1 b ys ∧ R (Itz K a b) H1) ∨ (SqL K H1 a xs ∧ SqT K H1 b ys ∧ R (ItzM K a b) H1))
theorem pi_zipM {X : Cx} {e e2 : Expr} {ta : TA} {p pos tpos : Pos} {elts : List Expr} {kk : Nat} (hg : Gl X "zip") (hm : X.mg "zip" = none) (ha : PA X [e, e2] ta)
    (hs : starEach [e, e2] X.env = (false, eval e X.env) :: starEach [e2] X.env := by rfl) (hpl : (backTo pos (starEach [e2] X.env)).any (·.1) = false := by rfl) :
    PI X (.Tuple elts kk tpos) (.Call (.Name "zip" p) [e, e2] [] pos) (iZipM X.K ta) := by
  refine ⟨fun pins s σ H R I h => ?_⟩
  refine Call_ (ld_blt I hg hm PyProof.Rows.boot_zip (PyProof.Rows.callWith_type1 (thn (ha.run pos pins s σ H _ I h) fun us s1 ⟨vs, H1, I1, r1, q1⟩ => ?_) hs hpl))
  obtain ⟨a, b, xs, ys, ex, q1⟩ := q1
  subst ex
  cases r1 with
  | cons r rr =>
    cases rr with
    | cons r' rr =>
      cases rr
      cases r
      cases r'
      have fresh5 : ∀ c, c ∈ [s1.heap.objs.size + 4, s1.heap.objs.size + 2, s1.heap.objs.size + 3, s1.heap.objs.size, s1.heap.objs.size + 1] → FpOk X pins H1 c := fun c hcm => by
        have e' : c = s1.heap.objs.size + 4 ∨ c = s1.heap.objs.size + 2 ∨ c = s1.heap.objs.size + 3 ∨ c = s1.heap.objs.size ∨ c = s1.heap.objs.size + 1 := by simpa using hcm
        have hle : s1.heap.objs.size ≤ c := by
          rcases e' with z | z | z | z | z
          · rw [z]; exact Nat.le_add_right _ _
          · rw [z]; exact Nat.le_add_right _ _
          · rw [z]; exact Nat.le_add_right _ _
          · rw [z]; exact Nat.le_refl _
          · rw [z]; exact Nat.le_add_right _ _
        exact I1.fpOk hle (I1.hok.fresh hle)
      rcases q1 with ⟨hqx, hqy, q⟩ | ⟨hqx, hqy, q⟩
      · obtain ⟨its, rv, p1, _⟩ := I1.list hqx
        obtain ⟨its2, rv2, p2, _⟩ := I1.list hqy
        refine call_zip_2 p1.isList p2.isList fun h' hz hTI hTO h1 h2 hsz hk => wpAny_pyIter_zip hz ?_
        have I2 : Inv X pins σ H1 { s1 with heap := h' } := I1.kept (t' := s1.toks) hk
        exact ⟨s1.heap.objs.size + 4, [s1.heap.objs.size + 4, s1.heap.objs.size + 2, s1.heap.objs.size + 3, s1.heap.objs.size, s1.heap.objs.size + 1], _, _, H1, rfl, I2, turn_zip (PySem.W.ktu_apart s1.heap.objs.size a b p1.lt p2.lt), ⟨hz, hTI, ⟨_, _, hTO⟩, h1, h2⟩, fresh5, q⟩
      · obtain ⟨its, rv, p1, _⟩ := I1.list hqx
        obtain ⟨its2, rv2, p2, _⟩ := I1.tuple hqy
        have la : a < s1.heap.objs.size := p1.lt
        have lb : b < s1.heap.objs.size := let ⟨_, ho, _⟩ := id p2; Heap.lt_size ho
        refine zip_begins2 (begins_list a its.toArray) (begins_tuple b its2.toArray) p1.isList p2 fun h' hz hTI hTO h1 h2 hsz hk => wpAny_pyIter_zip hz ?_
        have I2 : Inv X pins σ H1 { s1 with heap := h' } := I1.kept (t' := s1.toks) hk
        exact ⟨s1.heap.objs.size + 4, [s1.heap.objs.size + 4, s1.heap.objs.size + 2, s1.heap.objs.size + 3, s1.heap.objs.size, s1.heap.objs.size + 1], _, _, H1, rfl, I2, turn_zipM (zip_sep2 (N := s1.heap.objs.size) (fun c hc => by rw [List.mem_singleton.mp hc]; exact la) (fun c hc => by rw [List.mem_singleton.mp hc]; exact lb)) (Nat.ne_of_lt la) (Nat.ne_of_lt (Nat.lt_succ_of_lt lb)), ⟨hz, hTI, ⟨_, _, hTO⟩, ⟨_, h1, rfl, rfl⟩, ⟨_, h2, rfl, rfl⟩⟩, fresh5, q⟩
theorem walk_zipM {K : PySem.W.Frag} {a b : Addr} {xs ys : List V} (hl : xs.length = ys.length) : Walk (ItzM K a b) xs.length (fun H => SqL K H a xs ∧ SqT K H b ys) (YPair (fun i => xs[i]?) (fun i => ys[i]?)) where
  goes := fun i _ hi q => ⟨xs, ys, xs[i], ys[i]'(hl ▸ hi), q.1, q.2, List.getElem?_eq_getElem hi, List.getElem?_eq_getElem (hl ▸ hi)⟩
  stops := fun _ q => ⟨xs, ys, q.1, q.2, Nat.le_refl _, Nat.le_of_eq hl, .inl rfl⟩
  yields := fun i H v H' _ q ⟨T, x, y, h1, h2, h3, h4, h5⟩ => ⟨T, x, y, h1, h2, h3, h4 xs q.1, h5 ys q.2⟩
/-- a loop over zip of a list and a list or tuple of one length -/
theorem for_zipM {K : PySem.W.Frag} {a b : Addr} {xs ys : List V} {g : TG} {tb : TS} {D : Ends} {σ : L2.St} {H0 H1 : Hp} (ha : SqL K H0 a xs) (hb : Sq K H0 b ys) (hl : xs.length = ys.length) (s1 : Same H0 H1) (Pv : Nat → L2.St → Hp → Prop) (h0 : Pv 0 σ H1) (hs : ∀ i σ H', Pv i σ H' → Same H0 H')
    (turn : ∀ i x y T σ H, xs[i]? = some x → ys[i]? = some y → Pv i σ H → H T = none → g (.ref T) σ (upd H T (.tup [x, y])) fun σ2 H2 => tb { D with nx := Pv (i + 1), ct := Pv (i + 1), bk := D.nx } σ2 H2) (fin : ∀ σ H, Pv xs.length σ H → D.nx σ H) :
    ((SqL K H1 a xs ∧ SqL K H1 b ys ∧ ForR (Itz K a b) g tb D σ H1) ∨ (SqL K H1 a xs ∧ SqT K H1 b ys ∧ ForR (ItzM K a b) g tb D σ H1)) := by
  have tn : ∀ i v σ H H', i < xs.length → Pv i σ H → YPair (fun i => xs[i]?) (fun i => ys[i]?) i H v H' → g v σ H' fun σ2 H2 => tb { D with nx := Pv (i + 1), ct := Pv (i + 1), bk := D.nx } σ2 H2 := by
    rintro i v σ H H' _ hp ⟨T, x, y, rfl, nT, rfl, e1, e2⟩
    exact turn i x y T σ H e1 e2 hp nT
  rcases hb with h | h
  · exact .inl ⟨s1.seq ha, s1.seq h, for_it (walk_zip (by omega)) Pv h0 (fun i σ H' _ p => ⟨(hs i σ H' p).seq ha, (hs i σ H' p).seq h⟩) tn fin⟩
  · exact .inr ⟨s1.seq ha, same_t s1 h, for_it (walk_zipM hl) Pv h0 (fun i σ H' _ p => ⟨(hs i σ H' p).seq ha, same_t (hs i σ H' p) h⟩) tn fin⟩

/-! ### zip of three: a list, a list or a tuple, a list -/
def Itz3L (K : PySem.W.Frag) (a b c3 : Addr) : It :=
  ⟨fun i H => ∃ (xs ys zs : List V) (x y z : V), SqL K H a xs ∧ SqL K H b ys ∧ SqL K H c3 zs ∧ xs[i]? = some x ∧ ys[i]? = some y ∧ zs[i]? = some z,
    fun i H v H' => ∃ T x y z, v = .ref T ∧ H T = none ∧ H' = upd H T (.tup [x, y, z]) ∧ (∀ xs, SqL K H a xs → xs[i]? = some x) ∧ (∀ ys, SqL K H b ys → ys[i]? = some y) ∧ ∀ zs, SqL K H c3 zs → zs[i]? = some z,
    fun i H => ∃ xs ys zs : List V, SqL K H a xs ∧ SqL K H b ys ∧ SqL K H c3 zs ∧ i = xs.length ∧ i = ys.length ∧ i = zs.length⟩
theorem turn_zip3L {P : Program} {w : World} {K : PySem.W.Frag} {elts : List Expr} {kk : Nat} {tpos : Pos} {a b c3 z TI TO i1 i2 i3 : Addr} (D : ZipSep3 z TI TO i1 i2 i3 [i1, a] [i2, b] [i3, c3]) (n1 : a ≠ i1) (n2 : b ≠ i2) (n3 : c3 ≠ i3) :
    Turn P w K (.Tuple elts kk tpos) (Itz3L K a b c3) [z, TI, TO, i1, i2, i3] z (fun i h => IsZip h z TI TO .none ∧ IsTupOf3 h TI (.ref i1) (.ref i2) (.ref i3) ∧ (∃ x y u, IsTupOf3 h TO x y u) ∧ h.IsListIter i1 a i ∧ h.IsListIter i2 b i ∧ h.IsListIter i3 c3 i) where
  mem := by simp
  obj := fun i h st c hc => by
    obtain ⟨hz, hTI, ⟨x, y, u, hTO⟩, ⟨o1, e1, _, d1⟩, ⟨o2, e2, _, d2⟩, ⟨o3, e3, _, d3⟩⟩ := st
    have which : c = z ∨ c = TI ∨ c = TO ∨ c = i1 ∨ c = i2 ∨ c = i3 := by simpa using hc
    rcases which with q | q | q | q | q | q
    · rw [q]; exact ⟨_, hz, fun v q => nomatch q⟩
    · rw [q]; exact ⟨_, hTI, fun v q => nomatch q⟩
    · rw [q]; exact ⟨_, hTO, fun v q => nomatch q⟩
    · rw [q]; exact ⟨o1, e1, fun v q => by rw [d1] at q; cases q⟩
    · rw [q]; exact ⟨o2, e2, fun v q => by rw [d2] at q; cases q⟩
    · rw [q]; exact ⟨o3, e3, fun v q => by rw [d3] at q; cases q⟩
  keep := fun i h h' st k => by
    obtain ⟨hz, hTI, ⟨x, y, u, hTO⟩, h1, h2, h3⟩ := st
    exact ⟨k z (by simp) _ hz, k TI (by simp) _ hTI, ⟨x, y, u, k TO (by simp) _ hTO⟩, h1.at fun o q => k i1 (by simp) o q, h2.at fun o q => k i2 (by simp) o q, h3.at fun o q => k i3 (by simp) o q⟩
  item := by
    intro X hP hw hK hc i pins s σ H E I hf st hg
    subst hP hw hK
    obtain ⟨hz, hTI, ⟨x0, y0, u0, hTO⟩, h1, h2, h3⟩ := st
    obtain ⟨xs, ys, zs, x, y, v3, hqx, hqy, hqz, hx, hy, hv⟩ := hg
    obtain ⟨its, rv, p, _⟩ := I.list hqx
    obtain ⟨its2, rv2, p2, _⟩ := I.list hqy
    obtain ⟨its3, rv3, p3, _⟩ := I.list hqz
    obtain ⟨u, hu, ru⟩ := rv.get hx
    obtain ⟨u2, hu2, ru2⟩ := rv2.get hy
    obtain ⟨u3, hu3, ru3⟩ := rv3.get hv
    have hui : its.toArray[i]? = some u := by simpa using hu
    have hui2 : its2.toArray[i]? = some u2 := by simpa using hu2
    have hui3 : its3.toArray[i]? = some u3 := by simpa using hu3
    have hzl : z < s.heap.objs.size := Heap.lt_size hz
    have D1 := Draws.list (prog := X.prog) (w := X.w) (A := X.A.in1) (I.ok.hd hc) i1 a n1 its.toArray
    have D2 := Draws.list (prog := X.prog) (w := X.w) (A := X.A.in1) (I.ok.hd hc) i2 b n2 its2.toArray
    have D3 := Draws.list (prog := X.prog) (w := X.w) (A := X.A.in1) (I.ok.hd hc) i3 c3 n3 its3.toArray
    refine wpAny_pyNext_zipD3_item D D1 D2 D3 hz hTI hTO ⟨h1, p.isList⟩ ⟨h2, p2.isList⟩ ⟨h3, p3.isList⟩ (Array.getElem?_eq_some_iff.mp hui).1 (Array.getElem?_eq_some_iff.mp hui2).1 (Array.getElem?_eq_some_iff.mp hui3).1 fun v1 v2 v4 h' tk e1 e2 e3 z' TO' h1' h2' h3' hT hsz hk => ?_
    have ev1 : u = v1 := Option.some.inj (hui.symm.trans e1)
    have ev2 : u2 = v2 := Option.some.inj (hui2.symm.trans e2)
    have ev3 : u3 = v4 := Option.some.inj (hui3.symm.trans e3)
    subst ev1 ev2 ev3
    refine ⟨_, rfl, wpAny_letOwnedTupleGo_zip (s := { s with heap := h', toks := tk }) z' fun h'' z'' sb => ?_⟩
    have hT2 : h''.get? s.heap.objs.size = some { cls := .type "tuple", data := .seq #[u, u2, u3] } := (sb.2 _ (Nat.ne_of_gt hzl)).trans hT
    have new : ObjOk X.prog X.w (upd H s.heap.objs.size (.tup [x, y, v3])) h'' s.heap.objs.size (.tup [x, y, v3]) :=
      ⟨by show 3 ≤ sizeLine; decide, [u, u2, u3], .cons ru (.cons ru2 (.cons ru3 .nil)), ⟨_, hT2, rfl, _, rfl⟩⟩
    have past : ∀ c o, c ∉ [z, TI, TO, i1, i2, i3] → s.heap.get? c = some o → h''.get? c = some o := fun c o hb q => (sb.2 c (fun q' => hb (by simp [q']))).trans (hk c o (fun q' => hb (by simp [q'])) (fun q' => hb (by simp [q'])) (fun q' => hb (by simp [q'])) (fun q' => hb (by simp [q'])) (fun q' => hb (by simp [q'])) q)
    have I1 : Inv X pins σ (upd H s.heap.objs.size (.tup [x, y, v3])) { s with heap := h'', toks := tk } := I.turnedNew (t' := tk) (ch := [z, TI, TO, i1, i2, i3]) past hf (Nat.le_refl _) new
    refine ⟨.ref s.heap.objs.size, _, I1, rfl, ⟨_, x, y, v3, rfl, I.hok.fresh (Nat.le_refl _), rfl, fun l hl => by rw [I.list_inj hl hqx]; exact hx, fun l hl => by rw [I.list_inj hl hqy]; exact hy, fun l hl => by rw [I.list_inj hl hqz]; exact hv⟩, ⟨z'', ?_, ⟨u, u2, u3, ?_⟩, ?_, ?_, ?_⟩, fun c hcm => ?_⟩
    · exact (sb.2 _ D.TIz).trans (hk _ _ D.TIz D.TITO D.TIi1 D.TIi2 D.TIi3 hTI)
    · exact (sb.2 _ D.TOz).trans TO'
    · exact h1'.1.at fun o q => (sb.2 _ D.zi1.symm).trans q
    · exact h2'.1.at fun o q => (sb.2 _ D.zi2.symm).trans q
    · exact h3'.1.at fun o q => (sb.2 _ D.zi3.symm).trans q
    · have hlt : c < s.heap.objs.size := by
        have which : c = z ∨ c = TI ∨ c = TO ∨ c = i1 ∨ c = i2 ∨ c = i3 := by simpa using hcm
        rcases which with q | q | q | q | q | q
        · rw [q]; exact hzl
        · rw [q]; exact Heap.lt_size hTI
        · rw [q]; exact Heap.lt_size hTO
        · rw [q]; obtain ⟨_, e1, _⟩ := h1; exact Heap.lt_size e1
        · rw [q]; obtain ⟨_, e2, _⟩ := h2; exact Heap.lt_size e2
        · rw [q]; obtain ⟨_, e3, _⟩ := h3; exact Heap.lt_size e3
      rw [upd_ne (Nat.ne_of_lt hlt)]
      exact (hf c hcm).1
  done := by
    intro X hP hw hK hc i pins s σ H E I hf st hg
    subst hP hw hK
    obtain ⟨hz, hTI, ⟨x0, y0, u0, hTO⟩, h1, h2, h3⟩ := st
    obtain ⟨xs, ys, zs, hqx, hqy, hqz, g1, g2, g3⟩ := hg
    obtain ⟨its, rv, p, _⟩ := I.list hqx
    obtain ⟨its2, rv2, p2, _⟩ := I.list hqy
    obtain ⟨its3, rv3, p3, _⟩ := I.list hqz
    have l1 : its.toArray.size = xs.length := by rw [List.size_toArray, rv.length]
    have l2 : its2.toArray.size = ys.length := by rw [List.size_toArray, rv2.length]
    have l3 : its3.toArray.size = zs.length := by rw [List.size_toArray, rv3.length]
    have D1 := Draws.list (prog := X.prog) (w := X.w) (A := X.A.in1) (I.ok.hd hc) i1 a n1 its.toArray
    have D2 := Draws.list (prog := X.prog) (w := X.w) (A := X.A.in1) (I.ok.hd hc) i2 b n2 its2.toArray
    have D3 := Draws.list (prog := X.prog) (w := X.w) (A := X.A.in1) (I.ok.hd hc) i3 c3 n3 its3.toArray
    exact wpAny_pyNext_zipD3_end D D1 D2 D3 hz hTI hTO ⟨h1, p.isList⟩ ⟨h2, p2.isList⟩ ⟨h3, p3.isList⟩ (by omega) (by omega) (by omega) (by omega) fun h' tk hk => ⟨rfl, I.turnedL (t' := tk) (ch := [z, TI, TO, i1, i2, i3]) (fun c o hb q =>
      hk c o (fun q' => hb (by simp [q'])) (fun q' => hb (by simp [q'])) (fun q' => hb (by simp [q'])) (fun q' => hb (by simp [q'])) (fun q' => hb (by simp [q'])) q) hf⟩
  self := fun A i s Q E st h => wpAny_pyIter_zip st.1 h
def Itz3T (K : PySem.W.Frag) (a b c3 : Addr) : It :=
  ⟨fun i H => ∃ (xs ys zs : List V) (x y z : V), SqL K H a xs ∧ SqT K H b ys ∧ SqL K H c3 zs ∧ xs[i]? = some x ∧ ys[i]? = some y ∧ zs[i]? = some z,
    fun i H v H' => ∃ T x y z, v = .ref T ∧ H T = none ∧ H' = upd H T (.tup [x, y, z]) ∧ (∀ xs, SqL K H a xs → xs[i]? = some x) ∧ (∀ ys, SqT K H b ys → ys[i]? = some y) ∧ ∀ zs, SqL K H c3 zs → zs[i]? = some z,
    fun i H => ∃ xs ys zs : List V, SqL K H a xs ∧ SqT K H b ys ∧ SqL K H c3 zs ∧ i = xs.length ∧ i = ys.length ∧ i = zs.length⟩
theorem turn_zip3T {P : Program} {w : World} {K : PySem.W.Frag} {elts : List Expr} {kk : Nat} {tpos : Pos} {a b c3 z TI TO i1 i2 i3 : Addr} (D : ZipSep3 z TI TO i1 i2 i3 [i1, a] [i2, b] [i3, c3]) (n1 : a ≠ i1) (n2 : b ≠ i2) (n3 : c3 ≠ i3) :
    Turn P w K (.Tuple elts kk tpos) (Itz3T K a b c3) [z, TI, TO, i1, i2, i3] z (fun i h => IsZip h z TI TO .none ∧ IsTupOf3 h TI (.ref i1) (.ref i2) (.ref i3) ∧ (∃ x y u, IsTupOf3 h TO x y u) ∧ h.IsListIter i1 a i ∧ h.IsTupleIter i2 b i ∧ h.IsListIter i3 c3 i) where
  mem := by simp
  obj := fun i h st c hc => by
    obtain ⟨hz, hTI, ⟨x, y, u, hTO⟩, ⟨o1, e1, _, d1⟩, ⟨o2, e2, _, d2⟩, ⟨o3, e3, _, d3⟩⟩ := st
    have which : c = z ∨ c = TI ∨ c = TO ∨ c = i1 ∨ c = i2 ∨ c = i3 := by simpa using hc
    rcases which with q | q | q | q | q | q
    · rw [q]; exact ⟨_, hz, fun v q => nomatch q⟩
    · rw [q]; exact ⟨_, hTI, fun v q => nomatch q⟩
    · rw [q]; exact ⟨_, hTO, fun v q => nomatch q⟩
    · rw [q]; exact ⟨o1, e1, fun v q => by rw [d1] at q; cases q⟩
    · rw [q]; exact ⟨o2, e2, fun v q => by rw [d2] at q; cases q⟩
    · rw [q]; exact ⟨o3, e3, fun v q => by rw [d3] at q; cases q⟩
  keep := fun i h h' st k => by
    obtain ⟨hz, hTI, ⟨x, y, u, hTO⟩, h1, h2, h3⟩ := st
    exact ⟨k z (by simp) _ hz, k TI (by simp) _ hTI, ⟨x, y, u, k TO (by simp) _ hTO⟩, h1.at fun o q => k i1 (by simp) o q, h2.at fun o q => k i2 (by simp) o q, h3.at fun o q => k i3 (by simp) o q⟩
  item := by
    intro X hP hw hK hc i pins s σ H E I hf st hg
    subst hP hw hK
    obtain ⟨hz, hTI, ⟨x0, y0, u0, hTO⟩, h1, h2, h3⟩ := st
    obtain ⟨xs, ys, zs, x, y, v3, hqx, hqy, hqz, hx, hy, hv⟩ := hg
    obtain ⟨its, rv, p, _⟩ := I.list hqx
    obtain ⟨its2, rv2, p2, _⟩ := I.tuple hqy
    obtain ⟨its3, rv3, p3, _⟩ := I.list hqz
    obtain ⟨u, hu, ru⟩ := rv.get hx
    obtain ⟨u2, hu2, ru2⟩ := rv2.get hy
    obtain ⟨u3, hu3, ru3⟩ := rv3.get hv
    have hui : its.toArray[i]? = some u := by simpa using hu
    have hui2 : its2.toArray[i]? = some u2 := by simpa using hu2
    have hui3 : its3.toArray[i]? = some u3 := by simpa using hu3
    have hzl : z < s.heap.objs.size := Heap.lt_size hz
    have D1 := Draws.list (prog := X.prog) (w := X.w) (A := X.A.in1) (I.ok.hd hc) i1 a n1 its.toArray
    have D2 := Draws.tuple (prog := X.prog) (w := X.w) (A := X.A.in1) (I.ok.hd hc) i2 b n2 its2.toArray
    have D3 := Draws.list (prog := X.prog) (w := X.w) (A := X.A.in1) (I.ok.hd hc) i3 c3 n3 its3.toArray
    refine wpAny_pyNext_zipD3_item D D1 D2 D3 hz hTI hTO ⟨h1, p.isList⟩ ⟨h2, p2⟩ ⟨h3, p3.isList⟩ (Array.getElem?_eq_some_iff.mp hui).1 (Array.getElem?_eq_some_iff.mp hui2).1 (Array.getElem?_eq_some_iff.mp hui3).1 fun v1 v2 v4 h' tk e1 e2 e3 z' TO' h1' h2' h3' hT hsz hk => ?_
    have ev1 : u = v1 := Option.some.inj (hui.symm.trans e1)
    have ev2 : u2 = v2 := Option.some.inj (hui2.symm.trans e2)
    have ev3 : u3 = v4 := Option.some.inj (hui3.symm.trans e3)
    subst ev1 ev2 ev3
    refine ⟨_, rfl, wpAny_letOwnedTupleGo_zip (s := { s with heap := h', toks := tk }) z' fun h'' z'' sb => ?_⟩
    have hT2 : h''.get? s.heap.objs.size = some { cls := .type "tuple", data := .seq #[u, u2, u3] } := (sb.2 _ (Nat.ne_of_gt hzl)).trans hT
    have new : ObjOk X.prog X.w (upd H s.heap.objs.size (.tup [x, y, v3])) h'' s.heap.objs.size (.tup [x, y, v3]) :=
      ⟨by show 3 ≤ sizeLine; decide, [u, u2, u3], .cons ru (.cons ru2 (.cons ru3 .nil)), ⟨_, hT2, rfl, _, rfl⟩⟩
    have past : ∀ c o, c ∉ [z, TI, TO, i1, i2, i3] → s.heap.get? c = some o → h''.get? c = some o := fun c o hb q => (sb.2 c (fun q' => hb (by simp [q']))).trans (hk c o (fun q' => hb (by simp [q'])) (fun q' => hb (by simp [q'])) (fun q' => hb (by simp [q'])) (fun q' => hb (by simp [q'])) (fun q' => hb (by simp [q'])) q)
    have I1 : Inv X pins σ (upd H s.heap.objs.size (.tup [x, y, v3])) { s with heap := h'', toks := tk } := I.turnedNew (t' := tk) (ch := [z, TI, TO, i1, i2, i3]) past hf (Nat.le_refl _) new
    refine ⟨.ref s.heap.objs.size, _, I1, rfl, ⟨_, x, y, v3, rfl, I.hok.fresh (Nat.le_refl _), rfl, fun l hl => by rw [I.list_inj hl hqx]; exact hx, fun l hl => by rw [I.tuple_inj hl hqy]; exact hy, fun l hl => by rw [I.list_inj hl hqz]; exact hv⟩, ⟨z'', ?_, ⟨u, u2, u3, ?_⟩, ?_, ?_, ?_⟩, fun c hcm => ?_⟩
    · exact (sb.2 _ D.TIz).trans (hk _ _ D.TIz D.TITO D.TIi1 D.TIi2 D.TIi3 hTI)
    · exact (sb.2 _ D.TOz).trans TO'
    · exact h1'.1.at fun o q => (sb.2 _ D.zi1.symm).trans q
    · exact h2'.1.at fun o q => (sb.2 _ D.zi2.symm).trans q
    · exact h3'.1.at fun o q => (sb.2 _ D.zi3.symm).trans q
    · have hlt : c < s.heap.objs.size := by
        have which : c = z ∨ c = TI ∨ c = TO ∨ c = i1 ∨ c = i2 ∨ c = i3 := by simpa using hcm
        rcases which with q | q | q | q | q | q
        · rw [q]; exact hzl
        · rw [q]; exact Heap.lt_size hTI
        · rw [q]; exact Heap.lt_size hTO
        · rw [q]; obtain ⟨_, e1, _⟩ := h1; exact Heap.lt_size e1
        · rw [q]; obtain ⟨_, e2, _⟩ := h2; exact Heap.lt_size e2
        · rw [q]; obtain ⟨_, e3, _⟩ := h3; exact Heap.lt_size e3
      rw [upd_ne (Nat.ne_of_lt hlt)]
      exact (hf c hcm).1
  done := by
    intro X hP hw hK hc i pins s σ H E I hf st hg
    subst hP hw hK
    obtain ⟨hz, hTI, ⟨x0, y0, u0, hTO⟩, h1, h2, h3⟩ := st
    obtain ⟨xs, ys, zs, hqx, hqy, hqz, g1, g2, g3⟩ := hg
    obtain ⟨its, rv, p, _⟩ := I.list hqx
    obtain ⟨its2, rv2, p2, _⟩ := I.tuple hqy
    obtain ⟨its3, rv3, p3, _⟩ := I.list hqz
    have l1 : its.toArray.size = xs.length := by rw [List.size_toArray, rv.length]
    have l2 : its2.toArray.size = ys.length := by rw [List.size_toArray, rv2.length]
    have l3 : its3.toArray.size = zs.length := by rw [List.size_toArray, rv3.length]
    have D1 := Draws.list (prog := X.prog) (w := X.w) (A := X.A.in1) (I.ok.hd hc) i1 a n1 its.toArray
    have D2 := Draws.tuple (prog := X.prog) (w := X.w) (A := X.A.in1) (I.ok.hd hc) i2 b n2 its2.toArray
    have D3 := Draws.list (prog := X.prog) (w := X.w) (A := X.A.in1) (I.ok.hd hc) i3 c3 n3 its3.toArray
    exact wpAny_pyNext_zipD3_end D D1 D2 D3 hz hTI hTO ⟨h1, p.isList⟩ ⟨h2, p2⟩ ⟨h3, p3.isList⟩ (by omega) (by omega) (by omega) (by omega) fun h' tk hk => ⟨rfl, I.turnedL (t' := tk) (ch := [z, TI, TO, i1, i2, i3]) (fun c o hb q =>
      hk c o (fun q' => hb (by simp [q'])) (fun q' => hb (by simp [q'])) (fun q' => hb (by simp [q'])) (fun q' => hb (by simp [q'])) (fun q' => hb (by simp [q'])) q) hf⟩
  self := fun A i s Q E st h => wpAny_pyIter_zip st.1 h
def iZip3 (K : PySem.W.Frag) (ta : TA) : TI := fun σ H R => ta σ H fun vs H1 => ∃ a b c3 xs ys zs, vs = [.ref a, .ref b, .ref c3] ∧ ((SqL K H1 a xs ∧ SqL K H1 b ys ∧ SqL K H1 c3 zs ∧ R (Itz3L K a b c3) H1) ∨ (SqL K H1 a xs ∧ SqT K H1 b ys ∧ SqL K H1 c3 zs ∧ R (Itz3T K a b c3) H1))
theorem pi_zip3 {X : Cx} {e e2 e3 : Expr} {ta : TA} {p pos tpos : Pos} {elts : List Expr} {kk : Nat} (hg : Gl X "zip") (hm : X.mg "zip" = none) (ha : PA X [e, e2, e3] ta)
    (hs : starEach [e, e2, e3] X.env = (false, eval e X.env) :: starEach [e2, e3] X.env := by rfl) (hpl : (backTo pos (starEach [e2, e3] X.env)).any (·.1) = false := by rfl) :
    PI X (.Tuple elts kk tpos) (.Call (.Name "zip" p) [e, e2, e3] [] pos) (iZip3 X.K ta) := by
  refine ⟨fun pins s σ H R I h => ?_⟩
  refine Call_ (ld_blt I hg hm PyProof.Rows.boot_zip (PyProof.Rows.callWith_type1 (thn (ha.run pos pins s σ H _ I h) fun us s1 ⟨vs, H1, I1, r1, q1⟩ => ?_) hs hpl))
  obtain ⟨a, b, c3, xs, ys, zs, ex, q1⟩ := q1
  subst ex
  cases r1 with
  | cons r rr =>
    cases rr with
    | cons r' rr =>
     cases rr with
     | cons r'' rr =>
      cases rr
      cases r
      cases r'
      cases r''
      have fresh6 : ∀ c, c ∈ [s1.heap.objs.size + 5, s1.heap.objs.size + 3, s1.heap.objs.size + 4, s1.heap.objs.size, s1.heap.objs.size + 1, s1.heap.objs.size + 2] → FpOk X pins H1 c := fun c hcm => by
        have which : c = s1.heap.objs.size + 5 ∨ c = s1.heap.objs.size + 3 ∨ c = s1.heap.objs.size + 4 ∨ c = s1.heap.objs.size ∨ c = s1.heap.objs.size + 1 ∨ c = s1.heap.objs.size + 2 := by simpa using hcm
        have hle : s1.heap.objs.size ≤ c := by
          rcases which with z | z | z | z | z | z
          · rw [z]; exact Nat.le_add_right _ _
          · rw [z]; exact Nat.le_add_right _ _
          · rw [z]; exact Nat.le_add_right _ _
          · rw [z]; exact Nat.le_refl _
          · rw [z]; exact Nat.le_add_right _ _
          · rw [z]; exact Nat.le_add_right _ _
        exact I1.fpOk hle (I1.hok.fresh hle)
      rcases q1 with ⟨hqx, hqy, hqz, q⟩ | ⟨hqx, hqy, hqz, q⟩
      · obtain ⟨its, rv, p1, _⟩ := I1.list hqx
        obtain ⟨its2, rv2, p2, _⟩ := I1.list hqy
        obtain ⟨its3, rv3, p3, _⟩ := I1.list hqz
        have la : a < s1.heap.objs.size := p1.lt
        have lb : b < s1.heap.objs.size := let ⟨_, ho, _⟩ := id p2.isList; Heap.lt_size ho
        have lc : c3 < s1.heap.objs.size := p3.lt
        refine zip_begins3 (begins_list a its.toArray) (begins_list b its2.toArray) (begins_list c3 its3.toArray) p1.isList p2.isList p3.isList fun h' hz hTI hTO h1 h2 h3 hsz hk => wpAny_pyIter_zip hz ?_
        have I2 : Inv X pins σ H1 { s1 with heap := h' } := I1.kept (t' := s1.toks) hk
        exact ⟨s1.heap.objs.size + 5, [s1.heap.objs.size + 5, s1.heap.objs.size + 3, s1.heap.objs.size + 4, s1.heap.objs.size, s1.heap.objs.size + 1, s1.heap.objs.size + 2], _, _, H1, rfl, I2, turn_zip3L (zip_sep3 (N := s1.heap.objs.size) (fun c hc => by rw [List.mem_singleton.mp hc]; exact la) (fun c hc => by rw [List.mem_singleton.mp hc]; exact lb) (fun c hc => by rw [List.mem_singleton.mp hc]; exact lc)) (Nat.ne_of_lt la) (Nat.ne_of_lt (Nat.lt_succ_of_lt lb)) (Nat.ne_of_lt (Nat.lt_succ_of_lt (Nat.lt_succ_of_lt lc))), ⟨hz, hTI, ⟨_, _, _, hTO⟩, ⟨_, h1, rfl, rfl⟩, ⟨_, h2, rfl, rfl⟩, ⟨_, h3, rfl, rfl⟩⟩, fresh6, q⟩
      · obtain ⟨its, rv, p1, _⟩ := I1.list hqx
        obtain ⟨its2, rv2, p2, _⟩ := I1.tuple hqy
        obtain ⟨its3, rv3, p3, _⟩ := I1.list hqz
        have la : a < s1.heap.objs.size := p1.lt
        have lb : b < s1.heap.objs.size := let ⟨_, ho, _⟩ := id p2; Heap.lt_size ho
        have lc : c3 < s1.heap.objs.size := p3.lt
        refine zip_begins3 (begins_list a its.toArray) (begins_tuple b its2.toArray) (begins_list c3 its3.toArray) p1.isList p2 p3.isList fun h' hz hTI hTO h1 h2 h3 hsz hk => wpAny_pyIter_zip hz ?_
        have I2 : Inv X pins σ H1 { s1 with heap := h' } := I1.kept (t' := s1.toks) hk
        exact ⟨s1.heap.objs.size + 5, [s1.heap.objs.size + 5, s1.heap.objs.size + 3, s1.heap.objs.size + 4, s1.heap.objs.size, s1.heap.objs.size + 1, s1.heap.objs.size + 2], _, _, H1, rfl, I2, turn_zip3T (zip_sep3 (N := s1.heap.objs.size) (fun c hc => by rw [List.mem_singleton.mp hc]; exact la) (fun c hc => by rw [List.mem_singleton.mp hc]; exact lb) (fun c hc => by rw [List.mem_singleton.mp hc]; exact lc)) (Nat.ne_of_lt la) (Nat.ne_of_lt (Nat.lt_succ_of_lt lb)) (Nat.ne_of_lt (Nat.lt_succ_of_lt (Nat.lt_succ_of_lt lc))), ⟨hz, hTI, ⟨_, _, _, hTO⟩, ⟨_, h1, rfl, rfl⟩, ⟨_, h2, rfl, rfl⟩, ⟨_, h3, rfl, rfl⟩⟩, fresh6, q⟩
def Y3 (xs ys zs : List V) : Nat → Hp → V → Hp → Prop := fun i H v H' => ∃ T x y z, v = .ref T ∧ H T = none ∧ H' = upd H T (.tup [x, y, z]) ∧ xs[i]? = some x ∧ ys[i]? = some y ∧ zs[i]? = some z
theorem walk_zip3L {K : PySem.W.Frag} {a b c3 : Addr} {xs ys zs : List V} (h1 : ys.length = xs.length) (h2 : zs.length = xs.length) : Walk (Itz3L K a b c3) xs.length (fun H => SqL K H a xs ∧ SqL K H b ys ∧ SqL K H c3 zs) (Y3 xs ys zs) where
  goes := fun i _ hi q => ⟨xs, ys, zs, xs[i], ys[i]'(h1 ▸ hi), zs[i]'(h2 ▸ hi), q.1, q.2.1, q.2.2, List.getElem?_eq_getElem hi, List.getElem?_eq_getElem (h1 ▸ hi), List.getElem?_eq_getElem (h2 ▸ hi)⟩
  stops := fun _ q => ⟨xs, ys, zs, q.1, q.2.1, q.2.2, rfl, h1.symm, h2.symm⟩
  yields := fun i H v H' _ q ⟨T, x, y, z, g1, g2, g3, g4, g5, g6⟩ => ⟨T, x, y, z, g1, g2, g3, g4 xs q.1, g5 ys q.2.1, g6 zs q.2.2⟩
theorem walk_zip3T {K : PySem.W.Frag} {a b c3 : Addr} {xs ys zs : List V} (h1 : ys.length = xs.length) (h2 : zs.length = xs.length) : Walk (Itz3T K a b c3) xs.length (fun H => SqL K H a xs ∧ SqT K H b ys ∧ SqL K H c3 zs) (Y3 xs ys zs) where
  goes := fun i _ hi q => ⟨xs, ys, zs, xs[i], ys[i]'(h1 ▸ hi), zs[i]'(h2 ▸ hi), q.1, q.2.1, q.2.2, List.getElem?_eq_getElem hi, List.getElem?_eq_getElem (h1 ▸ hi), List.getElem?_eq_getElem (h2 ▸ hi)⟩
  stops := fun _ q => ⟨xs, ys, zs, q.1, q.2.1, q.2.2, rfl, h1.symm, h2.symm⟩
  yields := fun i H v H' _ q ⟨T, x, y, z, g1, g2, g3, g4, g5, g6⟩ => ⟨T, x, y, z, g1, g2, g3, g4 xs q.1, g5 ys q.2.1, g6 zs q.2.2⟩

abbrev LcR (J : It) (g : TG) (tt : TT) (te : TE) (vs : List Nat) (σ : L2.St) (D : Addr) (Qd : Addr → Hp → Prop) (H1 : Hp) : Prop := ∃ W : Nat → Nat → Hp → Prop, (∃ m, W 0 m (upd H1 D (.lst []))) ∧ ∀ i m H, W i m H →
  (J.stop i H ∧ Qd D H) ∨ (J.go i H ∧ ∃ Nx : Hp → Prop, (∀ H', Nx H' → ∃ m', m' < m ∧ W (i + 1) m' H') ∧ ∀ x H', J.yld i H x H' → g x (wipe σ vs) H' fun σ2 H2 => wipe σ2 vs = wipe σ vs ∧ tt σ2 H2 fun b H3 => if b = true then
    te σ2 H3 fun y H4 => ∃ acc, H4 D = some (.lst acc) ∧ acc.length < sizeLine ∧ Nx (upd H4 D (.lst (acc ++ [y]))) else Nx H3)
theorem lc_seq {K : PySem.W.Frag} {a : Addr} {xs : List V} {g : TG} {tt : TT} {te : TE} {vs : List Nat} {σ : L2.St} {H1 : Hp} {Qd : Addr → Hp → Prop} (hq : Sq K H1 a xs) (Pv : Addr → Nat → Hp → Prop) (h0 : ∀ D, H1 D = none → Pv D 0 (upd H1 D (.lst [])))
    (still : ∀ D i H', H1 D = none → Pv D i H' → SqTo K H1 H' a xs)
    (turn : ∀ D i x H', H1 D = none → xs[i]? = some x → Pv D i H' → g x (wipe σ vs) H' fun σ2 H2 => wipe σ2 vs = wipe σ vs ∧ tt σ2 H2 fun b H3 =>
      if b = true then te σ2 H3 fun y H4 => ∃ acc, H4 D = some (.lst acc) ∧ acc.length < sizeLine ∧ Pv D (i + 1) (upd H4 D (.lst (acc ++ [y]))) else Pv D (i + 1) H3) (fin : ∀ D H', H1 D = none → Pv D xs.length H' → Qd D H') :
    ((∃ xs, SqL K H1 a xs) ∧ ∀ D, H1 D = none → LcR (Itl K a) g tt te vs σ D Qd H1) ∨ ((∃ xs, SqT K H1 a xs) ∧ ∀ D, H1 D = none → LcR (Itt K a) g tt te vs σ D Qd H1) := by
  rcases hq with h | h
  · exact .inl ⟨⟨xs, h⟩, fun D nD => lc_list (xs := xs) (Pv D) (h0 D nD) (fun i H' _ p => (still D i H' nD p).1 h) (fun i x H' e p => turn D i x H' nD e p) (fun H' p => fin D H' nD p)⟩
  · exact .inr ⟨⟨xs, h⟩, fun D nD => lc_tup (xs := xs) (Pv D) (h0 D nD) (fun i H' _ p => (still D i H' nD p).2 h) (fun i x H' e p => turn D i x H' nD e p) (fun H' p => fin D H' nD p)⟩

/-! ### sets by stretches: the mathematics -/
theorem inB_iff {n a b : Int} : inB n a b = true ↔ a ≤ n ∧ n ≤ b := by
  unfold inB
  rw [Bool.and_eq_true, decide_eq_true_eq (p := a ≤ n), decide_eq_true_eq]
theorem anyP_iff {n : Int} {ps : List (Int × Int)} : anyP (inB n) ps = true ↔ ∃ p ∈ ps, p.1 ≤ n ∧ n ≤ p.2 := by
  unfold anyP
  rw [List.any_eq_true]
  constructor
  · rintro ⟨p, hp, e⟩
    exact ⟨p, hp, inB_iff.mp e⟩
  · rintro ⟨p, hp, e⟩
    exact ⟨p, hp, inB_iff.mpr e⟩
/-- the same numbers -/
def Alike (ps qs : List (Int × Int)) : Prop := ∀ n : Int, (∃ p ∈ ps, p.1 ≤ n ∧ n ≤ p.2) ↔ ∃ p ∈ qs, p.1 ≤ n ∧ n ≤ p.2
theorem Alike.any {ps qs : List (Int × Int)} (h : Alike ps qs) (n : Int) : anyP (inB n) ps = anyP (inB n) qs := by
  rw [Bool.eq_iff_iff, anyP_iff, anyP_iff]
  exact h n
theorem Alike.symm {ps qs : List (Int × Int)} (h : Alike ps qs) : Alike qs ps := fun n => (h n).symm
theorem Alike.trans {ps qs rs : List (Int × Int)} (h : Alike ps qs) (h' : Alike qs rs) : Alike ps rs := fun n => (h n).trans (h' n)
theorem Alike.of_mem {ps qs : List (Int × Int)} (h : ∀ p, p ∈ ps ↔ p ∈ qs) : Alike ps qs := fun n => ⟨fun ⟨p, hp, e⟩ => ⟨p, (h p).mp hp, e⟩, fun ⟨p, hp, e⟩ => ⟨p, (h p).mpr hp, e⟩⟩
/-- of each set of numbers there is just one list -/
theorem ris_one : ∀ {rs rs' : List (Int × Int)} {lo lo' : Int}, Ris lo rs → Ris lo' rs' → Alike rs rs' → rs = rs'
  | [], [], _, _, _, _, _ => by rfl
  | [], q :: r, _, _, _, h', e => by
    obtain ⟨p, hp, _⟩ := (e q.1).mpr ⟨q, List.mem_cons_self .., Int.le_refl _, h'.2.1⟩
    exact nomatch hp
  | q :: r, [], _, _, h, _, e => by
    obtain ⟨p, hp, _⟩ := (e q.1).mp ⟨q, List.mem_cons_self .., Int.le_refl _, h.2.1⟩
    exact nomatch hp
  | (a, b) :: r, (a', b') :: r', lo, lo', h, h', e => by
    have hb : a ≤ b := h.2.1
    have hb' : a' ≤ b' := h'.2.1
    have tl : ∀ p ∈ r, b + 2 ≤ p.1 ∧ p.1 ≤ p.2 := Ris.le h.2.2
    have tl' : ∀ p ∈ r', b' + 2 ≤ p.1 ∧ p.1 ≤ p.2 := Ris.le h'.2.2
    have m1 : a' ≤ a := by
      obtain ⟨p, hp, e1, e2⟩ := (e a).mp ⟨(a, b), List.mem_cons_self .., Int.le_refl _, hb⟩
      rcases List.mem_cons.mp hp with z | z
      · rw [z] at e1; exact e1
      · have := tl' p z; omega
    have m2 : a ≤ a' := by
      obtain ⟨p, hp, e1, e2⟩ := (e a').mpr ⟨(a', b'), List.mem_cons_self .., Int.le_refl _, hb'⟩
      rcases List.mem_cons.mp hp with z | z
      · rw [z] at e1; exact e1
      · have := tl p z; omega
    have ea : a = a' := by omega
    have n1 : ¬ b < b' := fun lt => by
      obtain ⟨p, hp, e1, e2⟩ := (e (b + 1)).mpr ⟨(a', b'), List.mem_cons_self .., by show a' ≤ b + 1; omega, by show b + 1 ≤ b'; omega⟩
      rcases List.mem_cons.mp hp with z | z
      · rw [z] at e2; have : b + 1 ≤ b := e2; omega
      · have := tl p z; omega
    have n2 : ¬ b' < b := fun lt => by
      obtain ⟨p, hp, e1, e2⟩ := (e (b' + 1)).mp ⟨(a, b), List.mem_cons_self .., by show a ≤ b' + 1; omega, by show b' + 1 ≤ b; omega⟩
      rcases List.mem_cons.mp hp with z | z
      · rw [z] at e2; have : b' + 1 ≤ b' := e2; omega
      · have := tl' p z; omega
    have eb : b = b' := by omega
    subst ea eb
    have er : Alike r r' := fun n => by
      constructor
      · rintro ⟨p, hp, e1, e2⟩
        obtain ⟨p', hp', f1, f2⟩ := (e n).mp ⟨p, List.mem_cons_of_mem _ hp, e1, e2⟩
        rcases List.mem_cons.mp hp' with z | z
        · rw [z] at f2
          have : n ≤ b := f2
          have := tl p hp
          omega
        · exact ⟨p', z, f1, f2⟩
      · rintro ⟨p, hp, e1, e2⟩
        obtain ⟨p', hp', f1, f2⟩ := (e n).mpr ⟨p, List.mem_cons_of_mem _ hp, e1, e2⟩
        rcases List.mem_cons.mp hp' with z | z
        · rw [z] at f2
          have : n ≤ b := f2
          have := tl' p hp
          omega
        · exact ⟨p', z, f1, f2⟩
    rw [ris_one h.2.2 h'.2.2 er]
theorem Ris.front : ∀ {lo : Int} {rs : List (Int × Int)} {q : Int × Int}, Ris lo (rs ++ [q]) → Ris lo rs ∧ (∀ r ∈ rs, r.2 + 2 ≤ q.1) ∧ lo ≤ q.1 ∧ q.1 ≤ q.2
  | lo, [], q, h => ⟨True.intro, (fun _ z => nomatch z), h.1, h.2.1⟩
  | lo, r :: rs, q, h => by
    obtain ⟨h1, h2, h3, h4⟩ := Ris.front h.2.2
    refine ⟨⟨h.1, h.2.1, h1⟩, fun x hx => ?_, by have := h.1; have := h.2.1; omega, h4⟩
    rcases List.mem_cons.mp hx with z | z
    · rw [z]; exact h3
    · exact h2 x z
/-- what is told of pairs: a set of just their numbers -/
structure SetLike (ps rs : List (Int × Int)) : Prop where
  ris : ∃ lo, Ris lo rs
  same : Alike rs ps
  len : rs.length ≤ ps.length
/-- between two turns: the pairs so far, rising by their firsts, and what is merged of them -/
structure Mrg (pre rs : List (Int × Int)) : Prop extends SetLike pre rs where
  firsts : ∀ r ∈ rs, ∃ p ∈ pre, p.1 = r.1
theorem alike_snoc {pre : List (Int × Int)} {rs rs' : List (Int × Int)} {p : Int × Int} (h : Alike rs pre) (e : ∀ n, (∃ q ∈ rs', q.1 ≤ n ∧ n ≤ q.2) ↔ (∃ q ∈ rs, q.1 ≤ n ∧ n ≤ q.2) ∨ (p.1 ≤ n ∧ n ≤ p.2)) : Alike rs' (pre ++ [p]) := fun n => by
  rw [e n, h n]
  constructor
  · rintro (⟨q, hq, z⟩ | z)
    · exact ⟨q, List.mem_append_left _ hq, z⟩
    · exact ⟨p, List.mem_append_right _ (List.mem_singleton.mpr rfl), z⟩
  · rintro ⟨q, hq, z⟩
    rcases List.mem_append.mp hq with y | y
    · exact .inl ⟨q, y, z⟩
    · rw [List.mem_singleton.mp y] at z
      exact .inr z
theorem Mrg.join {pre rs : List (Int × Int)} {a b : Int} {p : Int × Int} (m : Mrg pre (rs ++ [(a, b)])) (hp : p.1 ≤ p.2) (ord : ∀ q ∈ pre, q.1 ≤ p.1) (near : p.1 ≤ b + 1) : Mrg (pre ++ [p]) (rs ++ [(a, if p.2 > b then p.2 else b)]) := by
  obtain ⟨lo, hr⟩ := m.ris
  obtain ⟨h1, h2, h3, h4⟩ := Ris.front hr
  obtain ⟨q, hq, eq⟩ := m.firsts (a, b) (List.mem_append_right _ (List.mem_singleton.mpr rfl))
  have hap : a ≤ p.1 := by have := ord q hq; have : q.1 = a := eq; omega
  have hab : a ≤ b := h4
  have big : a ≤ (if p.2 > b then p.2 else b) := by split <;> omega
  refine ⟨⟨⟨lo, h1.snoc h3 h2 big⟩, alike_snoc m.same fun n => ?_, ?_⟩, fun r hr => ?_⟩
  · constructor
    · rintro ⟨q, hq, z⟩
      rcases List.mem_append.mp hq with y | y
      · exact .inl ⟨q, List.mem_append_left _ y, z⟩
      · rw [List.mem_singleton.mp y] at z
        have z1 : a ≤ n := z.1
        have z2 : n ≤ (if p.2 > b then p.2 else b) := z.2
        by_cases c : n ≤ b
        · exact .inl ⟨(a, b), List.mem_append_right _ (List.mem_singleton.mpr rfl), z1, c⟩
        · refine .inr ⟨by omega, ?_⟩
          split at z2 <;> omega
    · rintro (⟨q, hq, z⟩ | z)
      · rcases List.mem_append.mp hq with y | y
        · exact ⟨q, List.mem_append_left _ y, z⟩
        · rw [List.mem_singleton.mp y] at z
          refine ⟨_, List.mem_append_right _ (List.mem_singleton.mpr rfl), z.1, ?_⟩
          have z2 : n ≤ b := z.2
          show n ≤ (if p.2 > b then p.2 else b)
          split <;> omega
      · refine ⟨_, List.mem_append_right _ (List.mem_singleton.mpr rfl), by show a ≤ n; omega, ?_⟩
        show n ≤ (if p.2 > b then p.2 else b)
        split <;> omega
  · have := m.len
    rw [List.length_append, List.length_append] at *
    show rs.length + 1 ≤ pre.length + 1
    have : rs.length + 1 ≤ pre.length := this
    omega
  · rcases List.mem_append.mp hr with y | y
    · obtain ⟨q, hq, e⟩ := m.firsts r (List.mem_append_left _ y)
      exact ⟨q, List.mem_append_left _ hq, e⟩
    · rw [List.mem_singleton.mp y]
      exact ⟨q, List.mem_append_left _ hq, eq⟩
theorem Mrg.new {pre rs : List (Int × Int)} {p : Int × Int} (m : Mrg pre rs) (hp : p.1 ≤ p.2) (ord : ∀ q ∈ pre, q.1 ≤ p.1) (far : ∀ r ∈ rs, r.2 + 2 ≤ p.1) : Mrg (pre ++ [p]) (rs ++ [p]) := by
  obtain ⟨lo, hr⟩ := m.ris
  refine ⟨⟨?_, alike_snoc m.same fun n => ?_, by have := m.len; rw [List.length_append, List.length_append]; show rs.length + 1 ≤ pre.length + 1; omega⟩, fun r hr => ?_⟩
  · cases rs with
    | nil => exact ⟨p.1, Int.le_refl _, hp, True.intro⟩
    | cons q r =>
      refine ⟨lo, hr.snoc ?_ far hp⟩
      have := hr.le q (List.mem_cons_self ..)
      have := far q (List.mem_cons_self ..)
      omega
  · constructor
    · rintro ⟨q, hq, z⟩
      rcases List.mem_append.mp hq with y | y
      · exact .inl ⟨q, y, z⟩
      · rw [List.mem_singleton.mp y] at z; exact .inr z
    · rintro (⟨q, hq, z⟩ | z)
      · exact ⟨q, List.mem_append_left _ hq, z⟩
      · exact ⟨p, List.mem_append_right _ (List.mem_singleton.mpr rfl), z⟩
  · rcases List.mem_append.mp hr with y | y
    · obtain ⟨q, hq, e⟩ := m.firsts r y
      exact ⟨q, List.mem_append_left _ hq, e⟩
    · rw [List.mem_singleton.mp y]
      exact ⟨p, List.mem_append_right _ (List.mem_singleton.mpr rfl), rfl⟩
theorem Mrg.nil : Mrg [] [] := ⟨⟨⟨0, True.intro⟩, fun _ => Iff.rfl, Nat.le_refl _⟩, fun _ z => nomatch z⟩

/-! ### sets put together: the mathematics -/
def InS (ps : List (Int × Int)) (n : Int) : Prop := ∃ p ∈ ps, p.1 ≤ n ∧ n ≤ p.2
theorem inS_nil {n : Int} : ¬ InS [] n := fun ⟨_, h, _⟩ => nomatch h
theorem inS_cons {p : Int × Int} {r : List (Int × Int)} {n : Int} : InS (p :: r) n ↔ (p.1 ≤ n ∧ n ≤ p.2) ∨ InS r n := by
  constructor
  · rintro ⟨q, hq, e⟩
    rcases List.mem_cons.mp hq with z | z
    · rw [z] at e; exact .inl e
    · exact .inr ⟨q, z, e⟩
  · rintro (e | ⟨q, hq, e⟩)
    · exact ⟨p, List.mem_cons_self .., e⟩
    · exact ⟨q, List.mem_cons_of_mem _ hq, e⟩
theorem inS_append {ps qs : List (Int × Int)} {n : Int} : InS (ps ++ qs) n ↔ InS ps n ∨ InS qs n := by
  constructor
  · rintro ⟨q, hq, e⟩
    rcases List.mem_append.mp hq with z | z
    · exact .inl ⟨q, z, e⟩
    · exact .inr ⟨q, z, e⟩
  · rintro (⟨q, hq, e⟩ | ⟨q, hq, e⟩)
    · exact ⟨q, List.mem_append_left _ hq, e⟩
    · exact ⟨q, List.mem_append_right _ hq, e⟩
theorem Ris.low {lo n : Int} {ps : List (Int × Int)} (h : Ris lo ps) (e : InS ps n) : lo ≤ n := by
  obtain ⟨p, hp, e1, e2⟩ := e
  have := h.le p hp
  omega
theorem Ris.mono : ∀ {lo lo' : Int} {ps : List (Int × Int)}, Ris lo ps → lo' ≤ lo → Ris lo' ps
  | _, _, [], _, _ => True.intro
  | _, _, _ :: _, h, e => ⟨Int.le_trans e h.1, h.2⟩
def mxI (i j : Int) : Int := if j > i then j else i
def mnI (i j : Int) : Int := if j < i then j else i
theorem mxI_le {i j n : Int} : mxI i j ≤ n ↔ i ≤ n ∧ j ≤ n := by unfold mxI; split <;> omega
theorem le_mxI {i j n : Int} : n ≤ mxI i j ↔ n ≤ i ∨ n ≤ j := by unfold mxI; split <;> omega
theorem le_mnI {i j n : Int} : n ≤ mnI i j ↔ n ≤ i ∧ n ≤ j := by unfold mnI; split <;> omega
theorem mnI_le {i j n : Int} : mnI i j ≤ n ↔ i ≤ n ∨ j ≤ n := by unfold mnI; split <;> omega
/-- going through both at once -/
def bothF : List (Int × Int) → List (Int × Int) → List (Int × Int)
  | [], _ => []
  | _ :: _, [] => []
  | p :: r, q :: s => (if mxI p.1 q.1 ≤ mnI p.2 q.2 then [(mxI p.1 q.1, mnI p.2 q.2)] else []) ++ (if p.2 < q.2 then bothF r (q :: s) else bothF (p :: r) s)
termination_by ps qs => ps.length + qs.length
theorem bothF_nil (ps : List (Int × Int)) : bothF ps [] = [] := by cases ps <;> rw [bothF]
theorem bothF_ris : ∀ {ps qs : List (Int × Int)} {lo lo' k : Int}, Ris lo ps → Ris lo' qs → (k ≤ lo ∨ k ≤ lo') → Ris k (bothF ps qs)
  | [], _, _, _, _, _, _, _ => by rw [bothF]; exact True.intro
  | _ :: _, [], _, _, _, _, _, _ => by rw [bothF]; exact True.intro
  | p :: r, q :: s, lo, lo', k, h, h', hk => by
    rw [bothF]
    have h1 := h.1
    have h2 := h.2.1
    have h1' := h'.1
    have h2' := h'.2.1
    by_cases c : mxI p.1 q.1 ≤ mnI p.2 q.2
    · rw [if_pos c]
      refine ⟨?_, c, ?_⟩
      · show k ≤ mxI p.1 q.1
        rw [le_mxI]
        omega
      · by_cases d : p.2 < q.2
        · rw [if_pos d]
          refine bothF_ris h.2.2 h' (.inl ?_)
          show mnI p.2 q.2 + 2 ≤ p.2 + 2
          have : mnI p.2 q.2 ≤ p.2 := mnI_le.mpr (.inl (Int.le_refl _))
          omega
        · rw [if_neg d]
          refine bothF_ris h h'.2.2 (.inr ?_)
          show mnI p.2 q.2 + 2 ≤ q.2 + 2
          have : mnI p.2 q.2 ≤ q.2 := mnI_le.mpr (.inr (Int.le_refl _))
          omega
    · rw [if_neg c, List.nil_append]
      by_cases d : p.2 < q.2
      · rw [if_pos d]
        refine bothF_ris h.2.2 h' ?_
        omega
      · rw [if_neg d]
        refine bothF_ris h h'.2.2 ?_
        omega
termination_by ps qs => ps.length + qs.length
theorem bothF_in {n : Int} : ∀ {ps qs : List (Int × Int)} {lo lo' : Int}, Ris lo ps → Ris lo' qs → (InS (bothF ps qs) n ↔ InS ps n ∧ InS qs n)
  | [], _, _, _, _, _ => by rw [bothF]; exact ⟨fun h => absurd h inS_nil, fun h => h.1⟩
  | _ :: _, [], _, _, _, _ => by rw [bothF]; exact ⟨fun h => absurd h inS_nil, fun h => h.2⟩
  | p :: r, q :: s, lo, lo', h, h' => by
    rw [bothF, inS_append, inS_cons, inS_cons]
    have e1 : InS (if mxI p.1 q.1 ≤ mnI p.2 q.2 then [(mxI p.1 q.1, mnI p.2 q.2)] else []) n ↔ (p.1 ≤ n ∧ n ≤ p.2) ∧ (q.1 ≤ n ∧ n ≤ q.2) := by
      by_cases c : mxI p.1 q.1 ≤ mnI p.2 q.2
      · rw [if_pos c, inS_cons]
        show ((mxI p.1 q.1 ≤ n ∧ n ≤ mnI p.2 q.2) ∨ InS [] n) ↔ _
        rw [mxI_le, le_mnI]
        constructor
        · rintro (z | z)
          · omega
          · exact absurd z inS_nil
        · intro z
          exact .inl (by omega)
      · rw [if_neg c]
        constructor
        · exact fun z => absurd z inS_nil
        · intro z
          refine absurd (Int.le_trans (mxI_le.mpr ⟨z.1.1, z.2.1⟩) (le_mnI.mpr ⟨z.1.2, z.2.2⟩)) c
    rw [e1]
    by_cases d : p.2 < q.2
    · rw [if_pos d, bothF_in h.2.2 h', inS_cons]
      have no : InS s n → ¬ n ≤ p.2 := fun z => by
        have := h'.2.2.low z
        omega
      constructor
      · rintro (⟨z1, z2⟩ | ⟨z1, z2⟩)
        · exact ⟨.inl z1, .inl z2⟩
        · exact ⟨.inr z1, z2⟩
      · rintro ⟨z1 | z1, z2 | z2⟩
        · exact .inl ⟨z1, z2⟩
        · exact absurd z1.2 (no z2)
        · exact .inr ⟨z1, .inl z2⟩
        · exact .inr ⟨z1, .inr z2⟩
    · rw [if_neg d, bothF_in h h'.2.2, inS_cons]
      have no : InS r n → ¬ n ≤ q.2 := fun z => by
        have := h.2.2.low z
        omega
      constructor
      · rintro (⟨z1, z2⟩ | ⟨z1, z2⟩)
        · exact ⟨.inl z1, .inl z2⟩
        · exact ⟨z1, .inr z2⟩
      · rintro ⟨z1 | z1, z2 | z2⟩
        · exact .inl ⟨z1, z2⟩
        · exact .inr ⟨.inl z1, z2⟩
        · exact absurd z2.2 (no z1)
        · exact .inr ⟨.inr z1, z2⟩
termination_by ps qs => ps.length + qs.length
/-- what lies between the stretches of a set -/
def gapsF (e : Int) : Int → List (Int × Int) → List (Int × Int)
  | st, [] => [(st, e)]
  | st, p :: r => (st, mnI (p.1 - 1) e) :: gapsF e (mxI st (p.2 + 1)) r
theorem gapsF_length (e : Int) : ∀ (qs : List (Int × Int)) (st : Int), (gapsF e st qs).length = qs.length + 1
  | [], _ => rfl
  | _ :: r, _ => by rw [gapsF, List.length_cons, gapsF_length e r, List.length_cons]
theorem gapsF_in {e n : Int} : ∀ {qs : List (Int × Int)} {lo st : Int}, Ris lo qs → (InS (gapsF e st qs) n ↔ (st ≤ n ∧ n ≤ e) ∧ ¬ InS qs n)
  | [], _, st, _ => by
    rw [gapsF, inS_cons]
    constructor
    · rintro (z | z)
      · exact ⟨z, inS_nil⟩
      · exact absurd z inS_nil
    · exact fun z => .inl z.1
  | p :: r, lo, st, h => by
    rw [gapsF, inS_cons, gapsF_in h.2.2, inS_cons]
    show ((st ≤ n ∧ n ≤ mnI (p.1 - 1) e) ∨ (mxI st (p.2 + 1) ≤ n ∧ n ≤ e) ∧ ¬ InS r n) ↔ _
    rw [le_mnI, mxI_le]
    have h2 := h.2.1
    have no : n ≤ p.2 + 1 → ¬ InS r n := fun z y => by
      have := h.2.2.low y
      omega
    constructor
    · rintro (z | ⟨z, y⟩)
      · refine ⟨by omega, ?_⟩
        rintro (x | x)
        · omega
        · exact no (by omega) x
      · refine ⟨by omega, ?_⟩
        rintro (x | x)
        · omega
        · exact y x
    · rintro ⟨z, y⟩
      by_cases c : n < p.1
      · exact .inl (by omega)
      · refine .inr ⟨?_, fun x => y (.inr x)⟩
        have : ¬ (p.1 ≤ n ∧ n ≤ p.2) := fun x => y (.inl x)
        omega
/-- a set of just the numbers of which pr holds -/
structure Told (pr : Int → Prop) (rs : List (Int × Int)) : Prop where
  ris : ∃ lo, Ris lo rs
  same : ∀ n, InS rs n ↔ pr n
theorem Told.one {pr pr' : Int → Prop} {rs rs' : List (Int × Int)} (h : Told pr rs) (h' : Told pr' rs') (e : ∀ n, pr n ↔ pr' n) : rs = rs' := by
  obtain ⟨lo, r⟩ := h.ris
  obtain ⟨lo', r'⟩ := h'.ris
  exact ris_one r r' fun n => (h.same n).trans ((e n).trans (h'.same n).symm)
theorem Told.of {lo : Int} {rs : List (Int × Int)} (h : Ris lo rs) : Told (InS rs) rs := ⟨⟨lo, h⟩, fun _ => Iff.rfl⟩
theorem SetLike.told {ps rs : List (Int × Int)} (h : SetLike ps rs) : Told (InS ps) rs := ⟨h.ris, h.same⟩
theorem Told.cong {pr pr' : Int → Prop} {rs : List (Int × Int)} (h : Told pr rs) (e : ∀ n, pr n ↔ pr' n) : Told pr' rs := ⟨h.ris, fun n => (h.same n).trans (e n)⟩
theorem Told.nneg {pr : Int → Prop} {rs : List (Int × Int)} (h : Told pr rs) (hn : ∀ n, pr n → 0 ≤ n) : Ris 0 rs := by
  obtain ⟨lo, r⟩ := h.ris
  cases rs with
  | nil => exact True.intro
  | cons p q => exact ⟨hn _ ((h.same _).mp (inS_cons.mpr (.inl ⟨Int.le_refl _, r.2.1⟩))), r.2⟩

theorem cut_back (xs : List V) (m : Nat) : cutV xs (some (m : Int)) none = xs.drop m := by
  unfold cutV
  rw [HT.sIx_none, HT.sIx_nat]
  by_cases h : m ≤ xs.length
  · rw [Nat.min_eq_left h]
    exact List.take_of_length_le (by rw [List.length_drop]; exact Nat.le_refl _)
  · rw [Nat.min_eq_right (by omega), Nat.sub_self, List.take_zero, List.drop_eq_nil_of_le (by omega)]
theorem _root_.GP.Prs.append {H : Hp} {us ws : List V} {ps qs : List (Int × Int)} (h : Prs H us ps) (h' : Prs H ws qs) : Prs H (us ++ ws) (ps ++ qs) := by
  refine ⟨by rw [List.length_append, List.length_append, h.1, h'.1], fun i p e => ?_⟩
  by_cases hi : i < ps.length
  · rw [List.getElem?_append_left hi] at e
    rw [List.getElem?_append_left (by rw [h.1]; exact hi)]
    exact h.2 i p e
  · rw [List.getElem?_append_right (by omega)] at e
    rw [List.getElem?_append_right (by rw [h.1]; omega), h.1]
    exact h'.2 _ p e
theorem _root_.GP.Prs.take {H : Hp} {us : List V} {ps : List (Int × Int)} (h : Prs H us ps) (n : Nat) : Prs H (us.take n) (ps.take n) := by
  refine ⟨by rw [List.length_take, List.length_take, h.1], fun i p e => ?_⟩
  rw [List.getElem?_take] at e ⊢
  split at e
  · rename_i hi
    rw [if_pos hi]
    exact h.2 i p e
  · cases e
theorem _root_.GP.Prs.drop {H : Hp} {us : List V} {ps : List (Int × Int)} (h : Prs H us ps) (n : Nat) : Prs H (us.drop n) (ps.drop n) := by
  refine ⟨by rw [List.length_drop, List.length_drop, h.1], fun i p e => ?_⟩
  rw [List.getElem?_drop] at e ⊢
  exact h.2 _ p e
theorem _root_.GP.Prs.reverse {H : Hp} {us : List V} {ps : List (Int × Int)} (h : Prs H us ps) : Prs H us.reverse ps.reverse := by
  refine ⟨by rw [List.length_reverse, List.length_reverse, h.1], fun i p e => ?_⟩
  have hi : i < ps.length := by
    have z := (List.getElem?_eq_some_iff.mp e).1
    rwa [List.length_reverse] at z
  rw [List.getElem?_reverse hi] at e
  rw [List.getElem?_reverse (by rw [h.1]; exact hi), h.1]
  exact h.2 _ p e

/-! ### set_of -/
/-- the pair that a tracked tuple holds -/
def pairOf (H : Hp) : V → Int × Int
  | .ref t => (match H t with
    | some (.tup [.int i, .int j]) => (i, j)
    | _ => (0, 0))
  | _ => (0, 0)
theorem pairOf_at {H : Hp} {t : Addr} {p : Int × Int} (e : H t = some (.tup [.int p.1, .int p.2])) : pairOf H (.ref t) = p := by
  show (match H t with | some (.tup [.int i, .int j]) => (i, j) | _ => (0, 0)) = p
  rw [e]
abbrev sSetOf : Stmt := topS 1
theorem scSetOf : FnScope ["pairs", "merged", "first", "last", "low", "high", "pair"] ["pairs"] (defScope sSetOf) := ⟨rfl, rfl, rfl, by decide +kernel, rfl, by decide +kernel, by decide +kernel⟩
def spSetOf (K : PySem.W.Frag) : Sp := fun vs H Q _ => ∃ (a : Addr) (us : List V) (ps : List (Int × Int)), vs = [.ref a] ∧ Sq K H a us ∧ Prs H us ps ∧ ps.length ≤ 900 ∧
  ∀ (l : Addr) (ws : List V) (rs : List (Int × Int)) H', H l = none → H' l = some (.lst ws) → Prs H' ws rs → SetLike ps rs → Same H H' → Q (.ref l) H'
section
variable {K : PySem.W.Frag} {mg : Str → Option Value} {P : Program} {w : World} {base : Heap}
theorem ok_setof {f : Addr} {fd : FuncData} {k : Nat} (F : Fun K "set_of" "set_of" sSetOf f fd) (mso : mg "sorted" = none) (mx : mg "max" = none) : FnOk P w K mg base CX0 (k + 1) f fd ["pairs"] (spSetOf K) := by
  refine F.ok scSetOf (fun vs H Q E h => ?_) (fun cdv A outer s H vs Q E hr h => ?_)
  · obtain ⟨a, us, ps, rfl, _⟩ := h
    rfl
  · obtain ⟨a, us, ps, rfl, hq, hp, hz, q⟩ := h
    refine ⟨_, pss_cons (ps_set (i := 1) scSetOf.nd rfl (.inl rfl) (pe_lst pa_nil))
      (pss_cons (ps_for PassesOwn.never rfl (pi_list (pe_callB cr_sortedPO (by rfl) mso (by decide +kernel) (pa_cons (pe_lc (own := [("pair", 6)]) (g := gName 6) (tt := tTest (tOp (rI0 fun i j => .bl (decide (i ≤ j))) (tOp (rIxT K) (tVar 6) (tC (.int 0))) (tOp (rIxT K) (tVar 6) (tC (.int 1))))) rfl scSetOf.nd (pi_seq (pv 0))
          (blkOk_by (own := [("pair", 6)]) (N := ["pairs", "merged", "first", "last", "low", "high", "pair"]) (sc := defScope sSetOf) (by decide +kernel))
          (fun _ _ _ _ _ => pg_name (i := 6) scSetOf.nd rfl (.inl rfl)) (fun _ _ _ _ _ => pts_one (pt_cmpR op_le (pe_ix ix_tup (pv 6) pe_int (fun _ _ => rfl)) (pe_ix ix_tup (pv 6) pe_int (fun _ _ => rfl)) (nomark _))) (fun _ _ _ _ _ => pv 6)) pa_nil)))
        (pg_tup rfl (pgs_cons (pg_name (i := 2) scSetOf.nd rfl (.inl rfl)) (pgs_cons (pg_name (i := 3) scSetOf.nd rfl (.inl rfl)) pgs_nil)))
        (pss_one (ps_if (PW.pt (pw_and (pt_truth (pv 1) (by intro _; rfl)) (pw_and1 (pt_cmpR op_le (pv 2) (pe_op op_add (pe_ix ix_tup (pe_ix ix_list (pv 1) (pe_un un_neg pe_int) (fun _ _ => rfl)) pe_int (fun _ _ => rfl)) pe_int) (nomark _)))))
          (pss_cons (ps_asg (pe_ix ix_list (pv 1) (pe_un un_neg pe_int) (fun _ _ => rfl)) (pg_tup rfl (pgs_cons (pg_name (i := 4) scSetOf.nd rfl (.inl rfl)) (pgs_cons (pg_name (i := 5) scSetOf.nd rfl (.inl rfl)) pgs_nil))))
          (pss_one (ps_asg (pe_tup (pa_cons (pv 4) (pa_cons (pe_callB (call_max2 rfl) (by rfl) mx (by decide +kernel) (pa_cons (pv 5) (pa_cons (pv 3) pa_nil))) pa_nil))) (pg_sub (pv 1) (pe_un un_neg pe_int) set_list))))
          (pss_one (ps_expr (pe_bm PySem.F.plainAttrs_list PySem.F.slot_list_append PySem.F.type_list_append mt_append (pv 1) (pa_cons (pe_tup (pa_cons (pv 2) (pa_cons (pv 3) pa_nil))) pa_nil)))))))
      (pss_one (ps_ret (pv 1)))), ?_⟩
    -- merged = []
    refine ⟨Nat.zero_le _, fun mg' nm => ?_⟩
    have s1 := same_upd (o := .lst []) nm
    have em1 : upd H mg' (.lst []) mg' = some (.lst []) := upd_same
    revert s1 em1
    generalize upd H mg' (.lst []) = H1
    intro s1 em1
    -- [pair for pair in pairs if ..]
    refine ⟨.ref a, rfl, a, rfl, lc_seq (xs := us) (hq.same s1) (fun D i H' => Same H1 H' ∧ ∃ ys, H' D = some (.lst ys) ∧ Prs H' ys ((ps.take i).filter fun p => decide (p.1 ≤ p.2)) ∧ ys.length ≤ i) (fun D nD => ⟨same_upd nD, [], upd_same, Prs.nil, Nat.le_refl _⟩)
      (fun D i H' nD hP => SqTo.same hP.1) (fun D i x H' nD hx hP => ?_) (fun D H2 nD hP => ?_)⟩
    · obtain ⟨sm, ys, eD, hys, hyl⟩ := hP
      obtain ⟨p, T, ep, rfl, eT⟩ := prs_at hp hx
      have hi : i < us.length := (List.getElem?_eq_some_iff.mp hx).1
      rw [hp.1] at hi
      have eT' := sm _ _ (s1 _ _ eT)
      refine ⟨rfl, _, rfl, T, _, 0, .int p.1, rfl, rfl, .inl (.inl eT'), atI_nat (j := 0) rfl, _, rfl, T, _, 1, .int p.2, rfl, rfl, .inl (.inl eT'), atI_nat (j := 1) rfl, p.1, p.2, rfl, rfl, _, rfl, ?_⟩
      have etake : (ps.take (i + 1)).filter (fun p => decide (p.1 ≤ p.2)) = (ps.take i).filter (fun p => decide (p.1 ≤ p.2)) ++ (if p.1 ≤ p.2 then [p] else []) := by
        rw [List.take_add_one, ep, List.filter_append]
        by_cases c : p.1 ≤ p.2
        · rw [if_pos c]; simp [c]
        · rw [if_neg c]; simp [c]
      refine ite2 (fun c => ?_) (fun c => ?_)
      · have c' := of_decide_eq_true c
        refine ⟨_, rfl, ys, eD, small1000 (by omega), fun b o e => ?_, _, upd_same, ?_, by rw [List.length_append]; show ys.length + 1 ≤ i + 1; omega⟩
        · rw [upd_ne (ne_of_none e nD)]
          exact sm b o e
        · rw [etake, if_pos c']
          exact (hys.snoc eT').upd_lst eD
      · have c' : ¬ p.1 ≤ p.2 := fun z => c (decide_eq_true z)
        refine ⟨sm, ys, eD, ?_, by omega⟩
        rw [etake, if_neg c', List.append_nil]
        exact hys
    · -- sorted
      obtain ⟨sm, ys, eD, hys, hyl⟩ := hP
      rw [hp.1, List.take_length] at hys
      refine ⟨D, ys, pairOf H2, rfl, SqL.of eD, fun x hx => ?_, fun zs g srt stb ng => ?_⟩
      · obtain ⟨i, hi, e⟩ := List.getElem_of_mem hx
        obtain ⟨p, T, _, rfl, eT⟩ := prs_at hys (by rw [List.getElem?_eq_getElem hi, e])
        exact ⟨T, rfl, by rw [pairOf_at eT]; exact eT⟩
      have sg := same_upd (o := .lst zs) ng
      have eg : upd H2 g (.lst zs) g = some (.lst zs) := upd_same
      have s3 : Same H (upd H2 g (.lst zs)) := (s1.trans sm).trans sg
      have em3 := sg _ _ (sm _ _ em1)
      -- the pairs of zs
      have each : ∀ x ∈ zs, ∃ T, x = .ref T ∧ H2 T = some (.tup [.int (pairOf H2 x).1, .int (pairOf H2 x).2]) := fun x hx => by
        obtain ⟨i, hi, e⟩ := List.getElem_of_mem (stb.perm.mem_iff.mp hx)
        obtain ⟨p, T, _, rfl, eT⟩ := prs_at hys (by rw [List.getElem?_eq_getElem hi, e])
        exact ⟨T, rfl, by rw [pairOf_at eT]; exact eT⟩
      have hzs : Prs H2 zs (zs.map (pairOf H2)) := ⟨by rw [List.length_map], fun i p e => by
        rw [List.getElem?_map] at e
        cases h : zs[i]? with
        | none => rw [h] at e; cases e
        | some x =>
          rw [h] at e
          cases e
          obtain ⟨T, rfl, eT⟩ := each x (List.mem_of_getElem? h)
          exact ⟨T, rfl, eT⟩⟩
      have hmap : ys.map (pairOf H2) = ps.filter fun p => decide (p.1 ≤ p.2) := by
        refine List.ext_getElem? fun i => ?_
        rw [List.getElem?_map]
        cases h : ys[i]? with
        | none =>
          have : (ps.filter fun p => decide (p.1 ≤ p.2))[i]? = none := by
            rw [List.getElem?_eq_none_iff] at h ⊢
            rw [← hys.1]
            exact h
          rw [this]
          rfl
        | some x =>
          obtain ⟨p, T, ep, rfl, eT⟩ := prs_at hys h
          rw [ep]
          show some (pairOf H2 (.ref T)) = some p
          rw [pairOf_at eT]
      have hperm : (zs.map (pairOf H2)).Perm (ps.filter fun p => decide (p.1 ≤ p.2)) := hmap ▸ stb.perm.map (pairOf H2)
      have hle : ∀ p ∈ zs.map (pairOf H2), p.1 ≤ p.2 := fun p hp' => by
        have := hperm.mem_iff.mp hp'
        exact of_decide_eq_true (List.mem_filter.mp this).2
      have hord : (zs.map (pairOf H2)).Pairwise fun x y => x.1 ≤ y.1 := by
        rw [List.pairwise_map]
        refine srt.imp fun {x y} h => ?_
        have := SrtO.lexB_no.mp h
        omega
      have hzl : zs.length ≤ 900 := by
        rw [stb.perm.length_eq, hys.1]
        exact Nat.le_trans (List.length_filter_le _ _) hz
      revert hzs hperm hle hord
      generalize zs.map (pairOf H2) = qs
      intro hzs hperm hle hord
      have hzs3 := hzs.same sg
      revert eg s3 em3 hzs3
      generalize upd H2 g (.lst zs) = H3
      intro eg s3 em3 hzs3
      have ngH : H g = none := (s1.trans sm).free ng
      have nmg : mg' ≠ g := ne_of_none (sm _ _ em1) ng
      -- the merging
      refine ⟨g, rfl, ⟨_, SqL.of eg⟩, for_list (xs := zs) (fun i σ H4 => ∃ (ms : List V) (rs : List (Int × Int)) (y2 y3 y4 y5 y6 : Option V), σ = [some (.ref a), some (.ref mg'), y2, y3, y4, y5, y6] ∧ Same H H4 ∧ H4 g = some (.lst zs) ∧ Prs H4 zs qs ∧ H4 mg' = some (.lst ms) ∧ Prs H4 ms rs ∧ Mrg (qs.take i) rs)
        ⟨[], [], _, _, _, _, _, rfl, s3, eg, hzs3, em3, Prs.nil, Mrg.nil⟩ (fun i σ H4 _ hP => ?_) (fun i x σ H4 hx hP => ?_) (fun σ H4 hP => ?_)⟩
      · obtain ⟨_, _, _, _, _, _, _, rfl, _, e, _⟩ := hP
        exact SqL.of e
      · obtain ⟨ms, rs, y2, y3, y4, y5, y6, rfl, sm4, eg4, hz4, em4, hms, m⟩ := hP
        obtain ⟨p, T, ep, rfl, eT⟩ := prs_at hz4 hx
        have hi : i < qs.length := (List.getElem?_eq_some_iff.mp ep).1
        have hp12 : p.1 ≤ p.2 := hle p (List.mem_of_getElem? ep)
        have ord : ∀ q ∈ qs.take i, q.1 ≤ p.1 := fun q hq' => by
          obtain ⟨j, hj, e⟩ := List.getElem_of_mem hq'
          rw [List.length_take] at hj
          rw [List.getElem_take] at e
          obtain ⟨_, e2⟩ := List.getElem?_eq_some_iff.mp ep
          rw [← e, ← e2]
          exact List.pairwise_iff_getElem.mp hord j i (by omega) hi (by omega)
        have etake : qs.take (i + 1) = qs.take i ++ [p] := by rw [List.take_add_one, ep]; rfl
        have hmsl : ms.length ≤ 900 := by
          have := m.len
          rw [List.length_take] at this
          have := hzs.1
          rw [hms.1]
          omega
        refine ⟨T, _, rfl, .inl (.inl eT), rfl, _, _, rfl, _, _, rfl, rfl, ?_⟩
        -- what a new tuple and a change of merged leave
        have grow : ∀ (T2 : Addr) (p2 : Int × Int) (ms2 : List V) (rs2 : List (Int × Int)), H4 T2 = none → Prs (upd H4 T2 (.tup [.int p2.1, .int p2.2])) ms2 rs2 →
            Same H (upd (upd H4 T2 (.tup [.int p2.1, .int p2.2])) mg' (.lst ms2)) ∧ upd (upd H4 T2 (.tup [.int p2.1, .int p2.2])) mg' (.lst ms2) g = some (.lst zs) ∧ Prs (upd (upd H4 T2 (.tup [.int p2.1, .int p2.2])) mg' (.lst ms2)) zs qs ∧ upd (upd H4 T2 (.tup [.int p2.1, .int p2.2])) mg' (.lst ms2) mg' = some (.lst ms2) ∧ Prs (upd (upd H4 T2 (.tup [.int p2.1, .int p2.2])) mg' (.lst ms2)) ms2 rs2 := by
          intro T2 p2 ms2 rs2 n2 h2
          have st := same_upd (o := .tup [.int p2.1, .int p2.2]) n2
          have em5 := st _ _ em4
          refine ⟨fun b o e => ?_, ?_, (hz4.same st).upd_lst em5, upd_same, h2.upd_lst em5⟩
          · rw [upd_ne (ne_of_none e nm)]
            exact st _ _ (sm4 _ _ e)
          · rw [upd_ne nmg.symm]
            exact st _ _ eg4
        -- append
        have app : (∀ r ∈ rs, r.2 + 2 ≤ p.1) → (tDrop (tBM K "list" rAppend (tVar 1) (tCons (tTup (tCons (tVar 2) (tCons (tVar 3) tNil))) tNil))) { nx := fun σ H4 => ∃ (ms : List V) (rs : List (Int × Int)) (y2 y3 y4 y5 y6 : Option V), σ = [some (.ref a), some (.ref mg'), y2, y3, y4, y5, y6] ∧ Same H H4 ∧ H4 g = some (.lst zs) ∧ Prs H4 zs qs ∧ H4 mg' = some (.lst ms) ∧ Prs H4 ms rs ∧ Mrg (qs.take (i + 1)) rs, rt := fun _ _ => False } [some (.ref a), some (.ref mg'), some (.int p.1), some (.int p.2), y4, y5, y6] H4 := by
          intro far
          refine ⟨.ref mg', rfl, .inl ⟨rfl, _, SqL.of em4⟩, _, rfl, _, rfl, (by show 2 ≤ sizeLine; decide), fun T2 n2 => ?_⟩
          have st := same_upd (o := .tup [.int p.1, .int p.2]) n2
          refine ⟨mg', _, _, rfl, rfl, st _ _ em4, small1000 (by omega), ?_⟩
          obtain ⟨g1, g2, g3, g4, g5⟩ := grow T2 p (ms ++ [.ref T2]) (rs ++ [p]) n2 ((hms.same st).snoc upd_same)
          exact ⟨_, _, _, _, _, _, _, rfl, g1, g2, g3, g4, g5, by rw [etake]; exact m.new hp12 ord far⟩
        rcases snoc_cases rs with e0 | ⟨rs', ⟨lo, hi'⟩, e0⟩
        · have e1 : ms = [] := List.eq_nil_of_length_eq_zero (by rw [hms.1, e0]; rfl)
          have em0 : H4 mg' = some (.lst []) := by rw [em4, e1]
          refine ⟨.ref mg', rfl, false, .inl ⟨[], SqL.of em0, rfl⟩, iteF (iteF ?_)⟩
          exact app (by rw [e0]; exact fun _ z => nomatch z)
        · subst e0
          obtain ⟨ms', T0, rfl, eT0, hms'⟩ := hms.last
          refine ⟨.ref mg', rfl, true, .inl ⟨_, SqL.of em4, by simp⟩, iteT ?_⟩
          refine ⟨_, rfl, .ref mg', rfl, 1, rfl, mg', _, -1, .ref T0, rfl, rfl, SqL.of em4, atI_last _ _, T0, _, 1, .int hi', rfl, rfl, .inl (.inl eT0), atI_nat (j := 1) rfl, hi', 1, rfl, rfl, p.1, _, rfl, rfl, _, rfl, ite2 (fun c => ?_) (fun c => ?_)⟩
          · have c' := of_decide_eq_true c
            refine ⟨.ref mg', rfl, 1, rfl, mg', _, -1, .ref T0, rfl, rfl, SqL.of em4, atI_last _ _, T0, _, rfl, .inl (.inl eT0), rfl, _, _, rfl, _, _, rfl, rfl, ?_⟩
            refine ⟨_, rfl, _, rfl, _, rfl, hi', p.2, rfl, (by show 2 ≤ sizeLine; decide), fun T2 n2 => ?_⟩
            have st := same_upd (o := .tup [.int lo, .int (if p.2 > hi' then p.2 else hi')]) n2
            have ei : ixN (ms' ++ [V.ref T0]).length (-1) = some ms'.length := by
              unfold ixN
              rw [if_neg (by decide), List.length_append, if_pos (by show -((ms'.length + 1 : Nat) : Int) ≤ -1; omega)]
              show some ((-1 : Int) + ((ms'.length + 1 : Nat) : Int)).toNat = _
              congr 1
              omega
            refine ⟨.ref mg', rfl, 1, rfl, mg', _, -1, ms'.length, rfl, rfl, st _ _ em4, ei, ?_⟩
            have es : (ms' ++ [V.ref T0]).set ms'.length (.ref T2) = ms' ++ [.ref T2] := by simp
            rw [es]
            obtain ⟨g1, g2, g3, g4, g5⟩ := grow T2 (lo, if p.2 > hi' then p.2 else hi') (ms' ++ [.ref T2]) (rs' ++ [(lo, if p.2 > hi' then p.2 else hi')]) n2 ((hms'.same st).snoc upd_same)
            exact ⟨_, _, _, _, _, _, _, rfl, g1, g2, g3, g4, g5, by rw [etake]; exact m.join hp12 ord c'⟩
          · have c' : ¬ p.1 ≤ hi' + 1 := fun z => c (decide_eq_true z)
            refine app fun r hr' => ?_
            obtain ⟨lo', hR⟩ := m.ris
            obtain ⟨_, h2, _, h4⟩ := Ris.front hR
            have h4' : lo ≤ hi' := h4
            rcases List.mem_append.mp hr' with y | y
            · have : r.2 + 2 ≤ lo := h2 r y
              omega
            · rw [List.mem_singleton.mp y]
              show hi' + 2 ≤ p.1
              omega
      · obtain ⟨ms, rs, y2, y3, y4, y5, y6, rfl, sm4, eg4, hz4, em4, hms, m⟩ := hP
        rw [hzs.1, List.take_length] at m
        refine ⟨_, rfl, q mg' ms rs H4 nm em4 hms ⟨m.ris, m.same.trans fun n => ?_, Nat.le_trans m.len (Nat.le_trans (Nat.le_of_eq hperm.length_eq) (List.length_filter_le _ _))⟩ sm4⟩
        constructor
        · rintro ⟨r, hr', e⟩
          exact ⟨r, (List.mem_filter.mp (hperm.mem_iff.mp hr')).1, e⟩
        · rintro ⟨r, hr', e⟩
          exact ⟨r, hperm.mem_iff.mpr (List.mem_filter.mpr ⟨hr', decide_eq_true (by omega)⟩), e⟩
end

def RetS (H : Hp) (pr : Int → Prop) (m : Nat) (Q : V → Hp → Prop) : Prop := ∀ (l : Addr) (ws : List V) (rs : List (Int × Int)) H', H l = none → H' l = some (.lst ws) → Prs H' ws rs → Told pr rs → rs.length ≤ m → Same H H' → Q (.ref l) H'

/-! ### what stands where: pairs in a list or a tuple -/
def PrA (K : PySem.W.Frag) (H : Hp) (a : Addr) (ps : List (Int × Int)) : Prop := ∃ us, Sq K H a us ∧ Prs H us ps
def LsA (H : Hp) (a : Addr) (ps : List (Int × Int)) : Prop := ∃ us, H a = some (.lst us) ∧ Prs H us ps
theorem LsA.pr {K : PySem.W.Frag} {H : Hp} {a : Addr} {ps : List (Int × Int)} (h : LsA H a ps) : PrA K H a ps := let ⟨us, e, p⟩ := h; ⟨us, Sq.list e, p⟩
theorem LsA.same {H H' : Hp} {a : Addr} {ps : List (Int × Int)} (h : LsA H a ps) (s : Same H H') : LsA H' a ps := let ⟨us, e, p⟩ := h; ⟨us, s _ _ e, p.same s⟩
theorem PrA.same {K : PySem.W.Frag} {H H' : Hp} {a : Addr} {ps : List (Int × Int)} (h : PrA K H a ps) (s : Same H H') : PrA K H' a ps := let ⟨us, e, p⟩ := h; ⟨us, e.same s, p.same s⟩
theorem LsA.nil {H : Hp} {a : Addr} (e : H a = some (.lst [])) : LsA H a [] := ⟨[], e, Prs.nil⟩
theorem LsA.dp {K : PySem.W.Frag} {H : Hp} {a : Addr} {ps : List (Int × Int)} (h : LsA H a ps) : Dp K H (.ref a) (.list (ps.map pairD)) := let ⟨_, e, p⟩ := h; .lst (SqL.of e) (dp_prs p)
/-- a told set: a new list -/
def TellS (pr : Int → Prop) (m : Nat) (H : Hp) (Q : VK) : Prop := ∀ l rs H', H l = none → LsA H' l rs → Told pr rs → rs.length ≤ m → Same H H' → Q (.ref l) H'
/-! ### both_of -/
abbrev sBoth : Stmt := topS 2
theorem scBoth : FnScope ["one", "other", "shared", "at", "to", "first", "last"] ["one", "other"] (defScope sBoth) := ⟨rfl, rfl, rfl, by decide +kernel, rfl, by decide +kernel, by decide +kernel⟩
def spBoth (K : PySem.W.Frag) : Sp := fun vs H Q _ => ∃ (a b : Addr) (ps qs : List (Int × Int)), vs = [.ref a, .ref b] ∧ PrA K H a ps ∧ PrA K H b qs ∧ (∃ lo, Ris lo ps) ∧ (∃ lo, Ris lo qs) ∧ ps.length + qs.length ≤ 900 ∧ TellS (fun n => InS ps n ∧ InS qs n) (ps.length + qs.length) H Q
/-- between two turns -/
def BothW (H : Hp) (a b sh : Addr) (ps qs : List (Int × Int)) (m : Nat) (σ : L2.St) (H1 : Hp) : Prop := ∃ (i j : Nat) (ms : List V) (rs : List (Int × Int)) (y5 y6 : Option V), σ = [some (.ref a), some (.ref b), some (.ref sh), some (.int i), some (.int j), y5, y6] ∧ m = (ps.length - i) + (qs.length - j) ∧ i ≤ ps.length ∧ j ≤ qs.length ∧ Same H H1 ∧
  H1 sh = some (.lst ms) ∧ Prs H1 ms rs ∧ rs.length ≤ i + j ∧ rs ++ bothF (ps.drop i) (qs.drop j) = bothF ps qs
section
variable {K : PySem.W.Frag} {mg : Str → Option Value} {P : Program} {w : World} {base : Heap}
theorem ok_both {f : Addr} {fd : FuncData} {k : Nat} (F : Fun K "both_of" "both_of" sBoth f fd) (ml : mg "len" = none) (mx : mg "max" = none) (mn : mg "min" = none) : FnOk P w K mg base CX0 (k + 1) f fd ["one", "other"] (spBoth K) := by
  refine F.ok scBoth (fun vs H Q E h => ?_) (fun cdv A outer s H vs Q E hr h => ?_)
  · obtain ⟨a, b, ps, qs, rfl, _⟩ := h
    rfl
  · obtain ⟨a, b, ps, qs, rfl, ⟨us, ha, hps⟩, ⟨ws, hb, hqs⟩, ⟨lo, hr1⟩, ⟨lo', hr2⟩, hz, q⟩ := h
    refine ⟨_, pss_cons (ps_set (i := 2) scBoth.nd rfl (.inl rfl) (pe_lst pa_nil))
      (pss_cons (ps_set (i := 3) scBoth.nd rfl (.inl rfl) pe_int)
      (pss_cons (ps_set (i := 4) scBoth.nd rfl (.inl rfl) pe_int)
      (pss_cons (ps_while PassesOwn.never (PW.pt (pw_and (pt_cmpR op_lt (pv 3) (pe_callB call_len_seq (by rfl) ml PySem.boot_len (pa_cons (pv 0) pa_nil)) (nomark _)) (pw_and1 (pt_cmpR op_lt (pv 4) (pe_callB call_len_seq (by rfl) ml PySem.boot_len (pa_cons (pv 1) pa_nil)) (nomark _)))))
        (pss_cons (ps_set (i := 5) scBoth.nd rfl (.inl rfl) (pe_callB (call_max2 rfl) (by rfl) mx (by decide +kernel) (pa_cons (pe_ix ix_tup (pe_ix ix_seq (pv 0) (pv 3) (fun _ _ => rfl)) pe_int (fun _ _ => rfl)) (pa_cons (pe_ix ix_tup (pe_ix ix_seq (pv 1) (pv 4) (fun _ _ => rfl)) pe_int (fun _ _ => rfl)) pa_nil))))
        (pss_cons (ps_set (i := 6) scBoth.nd rfl (.inl rfl) (pe_callB (call_min2 rfl) (by rfl) mn (by decide +kernel) (pa_cons (pe_ix ix_tup (pe_ix ix_seq (pv 0) (pv 3) (fun _ _ => rfl)) pe_int (fun _ _ => rfl)) (pa_cons (pe_ix ix_tup (pe_ix ix_seq (pv 1) (pv 4) (fun _ _ => rfl)) pe_int (fun _ _ => rfl)) pa_nil))))
        (Evl.pss_cut (ps_if (pt_cmpR op_le (pv 5) (pv 6) (nomark _)) (pss_one (ps_expr (pe_bm PySem.F.plainAttrs_list PySem.F.slot_list_append PySem.F.type_list_append mt_append (pv 2) (pa_cons (pe_tup (pa_cons (pv 5) (pa_cons (pv 6) pa_nil))) pa_nil)))) pss_nil)
        (pss_one (ps_if (pt_cmpR op_lt (pe_ix ix_tup (pe_ix ix_seq (pv 0) (pv 3) (fun _ _ => rfl)) pe_int (fun _ _ => rfl)) (pe_ix ix_tup (pe_ix ix_seq (pv 1) (pv 4) (fun _ _ => rfl)) pe_int (fun _ _ => rfl)) (nomark _))
          (pss_one (ps_aug (i := 3) scBoth.nd rfl (.inl rfl) pe_int ip_add)) (pss_one (ps_aug (i := 4) scBoth.nd rfl (.inl rfl) pe_int ip_add))))))))
      (pss_one (ps_ret (pv 2)))))), ?_⟩
    refine ⟨Nat.zero_le _, fun sh nsh => ?_⟩
    have s0 := same_upd (o := .lst []) nsh
    have hl1 := hps.1
    have hl2 := hqs.1
    refine ⟨BothW H a b sh ps qs, ⟨_, 0, 0, [], [], none, none, rfl, rfl, Nat.zero_le _, Nat.zero_le _, s0, upd_same, Prs.nil, Nat.le_refl _, rfl⟩, fun m σ H1 hW => ?_⟩
    obtain ⟨i, j, ms, rs, y5, y6, rfl, rfl, hi, hj, sm, esh, hms, hrl, hbo⟩ := hW
    have ha1 := ha.same sm
    have hb1 := hb.same sm
    -- the end: nothing is left of one
    have fin : bothF (ps.drop i) (qs.drop j) = [] → Q (.ref sh) H1 := by
      intro e
      rw [e, List.append_nil] at hbo
      subst hbo
      exact q sh (bothF ps qs) H1 nsh ⟨ms, esh, hms⟩ ⟨⟨lo, bothF_ris hr1 hr2 (.inl (Int.le_refl _))⟩, fun n => bothF_in hr1 hr2⟩ (by omega) sm
    refine ⟨_, rfl, _, rfl, a, us, rfl, ha1, (i : Int), (us.length : Int), rfl, rfl, _, rfl, ite2 (fun c1 => ?_) (fun c1 => ?_)⟩
    · have c1' := of_decide_eq_true c1
      refine ⟨_, rfl, _, rfl, b, ws, rfl, hb1, (j : Int), (ws.length : Int), rfl, rfl, _, rfl, ite2 (fun c2 => ?_) (fun c2 => ?_)⟩
      · have c2' := of_decide_eq_true c2
        have hi' : i < ps.length := by omega
        have hj' : j < qs.length := by omega
        obtain ⟨T1, g1, e1⟩ := hps.2 i ps[i] (List.getElem?_eq_getElem hi')
        obtain ⟨T2, g2, e2⟩ := hqs.2 j qs[j] (List.getElem?_eq_getElem hj')
        have ed1 := drop_at (List.getElem?_eq_getElem hi')
        have ed2 := drop_at (List.getElem?_eq_getElem hj')
        revert e1 e2 ed1 ed2
        generalize ps[i] = p
        generalize qs[j] = r
        intro e1 e2 ed1 ed2
        have f1 := sm _ _ e1
        have f2 := sm _ _ e2
        rw [ed1, ed2, bothF] at hbo
        refine ⟨fun σ' H' => ∃ m', m' < (ps.length - i) + (qs.length - j) ∧ BothW H a b sh ps qs m' σ' H', fun σ' H' h => h, ?_⟩
        -- first, last
        refine ⟨_, rfl, _, rfl, a, us, i, .ref T1, rfl, rfl, ha1, atI_nat g1, T1, _, 0, .int p.1, rfl, rfl, .inl (.inl f1), atI_nat (j := 0) rfl, _, rfl, _, rfl, b, ws, j, .ref T2, rfl, rfl, hb1, atI_nat g2, T2, _, 0, .int r.1, rfl, rfl, .inl (.inl f2), atI_nat (j := 0) rfl, p.1, r.1, rfl, ?_⟩
        refine ⟨_, rfl, _, rfl, a, us, i, .ref T1, rfl, rfl, ha1, atI_nat g1, T1, _, 1, .int p.2, rfl, rfl, .inl (.inl f1), atI_nat (j := 1) rfl, _, rfl, _, rfl, b, ws, j, .ref T2, rfl, rfl, hb1, atI_nat g2, T2, _, 1, .int r.2, rfl, rfl, .inl (.inl f2), atI_nat (j := 1) rfl, p.2, r.2, rfl, ?_⟩
        refine ⟨fun σ' H2 => ∃ ms2 rs2, σ' = [some (.ref a), some (.ref b), some (.ref sh), some (.int i), some (.int j), some (.int (mxI p.1 r.1)), some (.int (mnI p.2 r.2))] ∧ Same H H2 ∧ H2 sh = some (.lst ms2) ∧ Prs H2 ms2 rs2 ∧ rs2.length ≤ i + j + 1 ∧
          rs2 ++ (if p.2 < r.2 then bothF (ps.drop (i + 1)) (r :: qs.drop (j + 1)) else bothF (p :: ps.drop (i + 1)) (qs.drop (j + 1))) = bothF ps qs, ?_, fun σ' H2 hM => ?_⟩
        · refine ⟨_, rfl, _, rfl, mxI p.1 r.1, mnI p.2 r.2, rfl, rfl, _, rfl, ite2 (fun c => ?_) (fun c => ?_)⟩
          · have c' := of_decide_eq_true c
            rw [if_pos c', ← List.append_assoc] at hbo
            refine ⟨_, rfl, .inl ⟨rfl, _, SqL.of esh⟩, _, rfl, _, rfl, (by show 2 ≤ sizeLine; decide), fun T nT => ?_⟩
            have sT := same_upd (o := .tup [.int (mxI p.1 r.1), .int (mnI p.2 r.2)]) nT
            refine ⟨sh, _, _, rfl, rfl, sT _ _ esh, small1000 (by have := hms.1; omega), ?_⟩
            refine ⟨_, _, rfl, fun b o e => ?_, upd_same, ((hms.same sT).snoc upd_same).upd_lst (sT _ _ esh), by rw [List.length_append]; exact Nat.add_le_add_right hrl 1, hbo⟩
            rw [upd_ne (ne_of_none e nsh)]
            exact sT _ _ (sm b o e)
          · have c' : ¬ mxI p.1 r.1 ≤ mnI p.2 r.2 := fun z => c (decide_eq_true z)
            rw [if_neg c', List.nil_append] at hbo
            exact ⟨ms, rs, rfl, sm, esh, hms, by omega, hbo⟩
        · obtain ⟨ms2, rs2, rfl, sm2, esh2, hms2, hl3, hb3⟩ := hM
          have ha2 := ha.same sm2
          have hb2 := hb.same sm2
          have f1' := sm2 _ _ e1
          have f2' := sm2 _ _ e2
          refine ⟨_, rfl, _, rfl, a, us, i, .ref T1, rfl, rfl, ha2, atI_nat g1, T1, _, 1, .int p.2, rfl, rfl, .inl (.inl f1'), atI_nat (j := 1) rfl, _, rfl, _, rfl, b, ws, j, .ref T2, rfl, rfl, hb2, atI_nat g2, T2, _, 1, .int r.2, rfl, rfl, .inl (.inl f2'), atI_nat (j := 1) rfl, p.2, r.2, rfl, rfl, _, rfl, ite2 (fun c => ?_) (fun c => ?_)⟩
          · have c' := of_decide_eq_true c
            rw [if_pos c', ← ed2] at hb3
            exact ⟨_, rfl, (i : Int), 1, rfl, rfl, _, by omega, i + 1, j, ms2, rs2, _, _, rfl, rfl, by omega, hj, sm2, esh2, hms2, by omega, hb3⟩
          · have c' : ¬ p.2 < r.2 := fun z => c (decide_eq_true z)
            rw [if_neg c', ← ed1] at hb3
            exact ⟨_, rfl, (j : Int), 1, rfl, rfl, _, by omega, i, j + 1, ms2, rs2, _, _, rfl, rfl, hi, by omega, sm2, esh2, hms2, by omega, hb3⟩
      · have c' : ¬ (j : Int) < ws.length := fun z => c2 (decide_eq_true z)
        refine ⟨_, rfl, fin ?_⟩
        rw [List.drop_eq_nil_of_le (by omega : qs.length ≤ j)]
        exact bothF_nil _
    · have c' : ¬ (i : Int) < us.length := fun z => c1 (decide_eq_true z)
      refine ⟨_, rfl, fin ?_⟩
      rw [List.drop_eq_nil_of_le (by omega : ps.length ≤ i), bothF]
end

/-! ### things as data, all of it tracked -/
inductive Dat (H : Hp) : V → PyData → Prop
  | non : Dat H .non .none
  | bl (b : Bool) : Dat H (.bl b) (.bool b)
  | int (i : Int) : Dat H (.int i) (.int i)
  | str (x : Str) : Dat H (.str x) (.str x)
  | lst {a : Addr} {xs : List V} {ds : List PyData} : H a = some (.lst xs) → xs.length = ds.length → (∀ (i : Nat) x d, xs[i]? = some x → ds[i]? = some d → Dat H x d) → Dat H (.ref a) (.list ds)
  | tup {a : Addr} {xs : List V} {ds : List PyData} : H a = some (.tup xs) → xs.length = ds.length → (∀ (i : Nat) x d, xs[i]? = some x → ds[i]? = some d → Dat H x d) → Dat H (.ref a) (.tuple ds)
theorem Dat.same {H H' : Hp} {v : V} {d : PyData} (h : Dat H v d) (s : Same H H') : Dat H' v d := by
  induction h with
  | non => exact .non
  | bl b => exact .bl b
  | int i => exact .int i
  | str x => exact .str x
  | lst e l _ ih => exact .lst (s _ _ e) l ih
  | tup e l _ ih => exact .tup (s _ _ e) l ih
/-- at most so deep, no longer than these lines -/
def Sm : Nat → PyData → Prop
  | _, .none => True
  | _, .bool _ => True
  | _, .int _ => True
  | _, .str _ => True
  | n + 1, .list ds => ds.length ≤ 900 ∧ ∀ d ∈ ds, Sm n d
  | n + 1, .tuple ds => ds.length ≤ 900 ∧ ∀ d ∈ ds, Sm n d
  | _, _ => False
/-- no list, no tuple -/
def Flat (d : PyData) : Prop := d = .none ∨ (∃ b, d = .bool b) ∨ (∃ i, d = .int i) ∨ ∃ x, d = .str x
theorem Sm.cases {n : Nat} {d : PyData} (h : Sm (n + 1) d) : Flat d ∨ (∃ ds, d = .list ds ∧ ds.length ≤ 900 ∧ ∀ d ∈ ds, Sm n d) ∨ ∃ ds, d = .tuple ds ∧ ds.length ≤ 900 ∧ ∀ d ∈ ds, Sm n d := by
  cases d <;> first | exact .inl (.inl rfl) | exact .inl (.inr (.inl ⟨_, rfl⟩)) | exact .inl (.inr (.inr (.inl ⟨_, rfl⟩))) | exact .inl (.inr (.inr (.inr ⟨_, rfl⟩))) | exact .inr (.inl ⟨_, rfl, h.1, h.2⟩) | exact .inr (.inr ⟨_, rfl, h.1, h.2⟩) | exact h.elim
theorem Sm.flat {d : PyData} (h : Sm 0 d) : Flat d := by
  cases d <;> first | exact .inl rfl | exact .inr (.inl ⟨_, rfl⟩) | exact .inr (.inr (.inl ⟨_, rfl⟩)) | exact .inr (.inr (.inr ⟨_, rfl⟩)) | exact h.elim
theorem walk_zipTs {K : PySem.W.Frag} {a b : Addr} {xs ys : List V} {n : Nat} (h1 : xs.length = n) (h2 : ys.length = n) : Walk (RZ.ItzT K a b) n (fun H => SqT K H a xs ∧ SqT K H b ys) (YPair (fun i => xs[i]?) (fun i => ys[i]?)) where
  goes := fun i _ lt q => ⟨xs, ys, _, _, q.1, q.2, List.getElem?_eq_getElem (h1.symm ▸ lt), List.getElem?_eq_getElem (h2.symm ▸ lt)⟩
  stops := fun _ q => ⟨xs, ys, q.1, q.2, .inl (Nat.le_of_eq h1)⟩
  yields := fun i _ _ _ _ q ⟨T, x, z, e1, e2, e3, e4, e5⟩ => ⟨T, x, z, e1, e2, e3, e4 xs q.1, e5 ys q.2⟩
theorem prs_dat {H : Hp} {us : List V} {ps : List (Int × Int)} (h : Prs H us ps) : ∀ (i : Nat) x d, us[i]? = some x → (ps.map pairD)[i]? = some d → Dat H x d := fun i x d e1 e2 => by
  obtain ⟨p, a, ep, rfl, ea⟩ := prs_at h e1
  rw [List.getElem?_map, ep] at e2
  have ed : pairD p = d := Option.some.inj e2
  rw [← ed]
  refine .tup ea rfl fun j y d f1 f2 => ?_
  have hj : j < 2 := (List.getElem?_eq_some_iff.mp f1).1
  have : j = 0 ∨ j = 1 := by omega
  rcases this with rfl | rfl
  · cases f1; cases f2; exact .int _
  · cases f1; cases f2; exact .int _
theorem sm_prs {ps : List (Int × Int)} (h : ps.length ≤ 900) : Sm 2 (.list (ps.map pairD)) := by
  refine ⟨by rw [List.length_map]; exact h, fun d hd => ?_⟩
  obtain ⟨p, _, rfl⟩ := List.mem_map.mp hd
  exact ⟨by show 2 ≤ 900; decide, fun d hd => by
    rcases List.mem_cons.mp hd with e | e
    · rw [e]; trivial
    · rw [List.mem_singleton.mp e]; trivial⟩
theorem ints_dat {H : Hp} {a : Addr} {ns : List Int} (e : H a = some (.lst (ns.map V.int))) : Dat H (.ref a) (.list (ns.map PyData.int)) := .lst e (by rw [List.length_map, List.length_map]) fun i x d e1 e2 => by
  rw [List.getElem?_map] at e1 e2
  cases h : ns[i]? with
  | none => rw [h] at e1; cases e1
  | some n =>
    rw [h] at e1 e2
    cases e1
    cases e2
    exact .int n
theorem sm_ints {ns : List Int} (h : ns.length ≤ 900) : Sm 1 (.list (ns.map PyData.int)) := by
  refine ⟨by rw [List.length_map]; exact h, fun d hd => ?_⟩
  obtain ⟨p, _, rfl⟩ := List.mem_map.mp hd
  trivial

mutual
/-- no truth among it -/
def NoBl : PyData → Prop
  | .bool _ => False
  | .list ds => NoBls ds
  | .tuple ds => NoBls ds
  | _ => True
def NoBls : List PyData → Prop
  | [] => True
  | d :: ds => NoBl d ∧ NoBls ds
end
theorem noBls_all : ∀ {ds : List PyData}, NoBls ds → ∀ d ∈ ds, NoBl d
  | [], _, _, h => nomatch h
  | e :: r, h, d, hd => by
    rw [NoBls] at h
    rcases List.mem_cons.mp hd with z | z
    · rw [z]; exact h.1
    · exact noBls_all h.2 d z
theorem noBls_of : ∀ {ds : List PyData}, (∀ d ∈ ds, NoBl d) → NoBls ds
  | [], _ => by rw [NoBls]; trivial
  | e :: r, h => by rw [NoBls]; exact ⟨h e (List.mem_cons_self ..), noBls_of fun d hd => h d (List.mem_cons_of_mem _ hd)⟩
abbrev sSame : Stmt := topS 12
theorem scSame : FnScope ["_law_found", "_law_due", "_law_one", "_law_other"] ["_law_found", "_law_due"] (defScope sSame) := ⟨rfl, rfl, rfl, by decide +kernel, rfl, by decide +kernel, by decide +kernel⟩
/-- alike: the same data twice (no truths among it) -/
def spSame (n : Nat) : Sp := fun vs H Q _ => ∃ (v u : V) (d : PyData), vs = [v, u] ∧ Dat H v d ∧ Dat H u d ∧ Sm n d ∧ NoBl d ∧ ∀ H', Same H H' → Q (.bl true) H'
theorem all_true (n : Nat) : (List.replicate n true).all id = true := by
  rw [List.all_eq_true]
  intro b hb
  exact (List.mem_replicate.mp hb).2
abbrev SameGoal (K : PySem.W.Frag) (mg : Str → Option Value) (P : Program) (w : World) (base : Heap) (f : Addr) (cdv : Value) (A : Around) (outer : List Env) (s : Shared) (H : Hp) (E : XK) (v u : V) (Q : VK) : Prop :=
  ∃ t, PSs (cxOf CX0 P w K mg base ["_law_found", "_law_due", "_law_one", "_law_other"] "_law_same" (defScope sSame) f cdv A outer s H E).nox (defBody sSame) t ∧ t { nx := fun _ H' => Q .non H', rt := Q } (start ["_law_found", "_law_due", "_law_one", "_law_other"] [v, u]) H
section
variable {K : PySem.W.Frag} {mg : Str → Option Value} {P : Program} {w : World} {base : Heap}
/-- of no list, no tuple -/
theorem same_flat {f : Addr} (mi : mg "isinstance" = none) (ml : mg "list" = none) (mt : mg "tuple" = none) (mb : mg "bool" = none) (ms : mg "str" = none) (mn : mg "int" = none) {cdv : Value} {A : Around} {outer : List Env} {s : Shared} {H : Hp} {v u : V} {d : PyData} {Q : VK} {E : XK}
    (h1 : Dat H v d) (h2 : Dat H u d) (hd : Flat d) (hb : NoBl d) (q : ∀ H', Same H H' → Q (.bl true) H') : SameGoal K mg P w base f cdv A outer s H E v u Q := by
  refine ⟨_, pss_cons (ps_if (pt_cmpR op_isN (pv 1) pe_non (nomark _)) (pss_one (ps_ret (pe_cmpR op_isN (pv 0) pe_non (nomark _)))) pss_nil)
      (pss_cons (ps_if (PW.pt (pw_or (pt_val (pe_callB call_isi (by rfl) mi (by decide +kernel) (pa_cons (pv 1) (pa_cons (pe_bltn (v := .ty "list") (by rfl) ml (by decide +kernel) rfl) pa_nil)))) (pw_or1 (pt_val (pe_callB call_isi (by rfl) mi (by decide +kernel) (pa_cons (pv 1) (pa_cons (pe_bltn (v := .ty "tuple") (by rfl) mt (by decide +kernel) rfl) pa_nil))))))) pss_never pss_nil)
      (pss_cons (ps_if (pt_val (pe_callB call_isi (by rfl) mi (by decide +kernel) (pa_cons (pv 1) (pa_cons (pe_bltn (v := .ty "str") (by rfl) ms (by decide +kernel) rfl) pa_nil)))) (pss_one (ps_ret (pe_and (pe_callB call_isi (by rfl) mi (by decide +kernel) (pa_cons (pv 0) (pa_cons (pe_bltn (v := .ty "str") (by rfl) ms (by decide +kernel) rfl) pa_nil))) (pe_one (pe_cmpR op_eq (pv 0) (pv 1) (nomark _)))))) pss_nil)
      (pss_one (ps_ret (pe_and (pe_callB call_isi (by rfl) mi (by decide +kernel) (pa_cons (pv 0) (pa_cons (pe_bltn (v := .ty "int") (by rfl) mn (by decide +kernel) rfl) pa_nil))) (pe_and (pe_not (pe_callB call_isi (by rfl) mi (by decide +kernel) (pa_cons (pv 0) (pa_cons (pe_bltn (v := .ty "bool") (by rfl) mb (by decide +kernel) rfl) pa_nil)))) (pe_one (pe_cmpR op_eq (pv 0) (pv 1) (nomark _))))))))), ?_⟩
  have deq : ∀ x : V, (decide (x = x)) = true := fun x => decide_eq_true rfl
  rcases hd with rfl | ⟨b, rfl⟩ | ⟨i, rfl⟩ | ⟨x, rfl⟩
  · cases h1
    cases h2
    refine ⟨_, rfl, rfl, _, rfl, iteT ?_⟩
    exact ⟨_, rfl, rfl, q _ (Same.refl H)⟩
  · rw [NoBl] at hb
    exact hb.elim
  · cases h1
    cases h2
    refine ⟨_, rfl, rfl, _, rfl, iteF ?_⟩
    refine ⟨_, rfl, _, _, .type "int", .type "list", false, rfl, .ty _, .base (.int i), kit_ty (by decide +kernel), _, rfl, iteF ?_⟩
    refine ⟨_, rfl, _, _, .type "int", .type "tuple", false, rfl, .ty _, .base (.int i), kit_ty (by decide +kernel), _, rfl, iteF ?_⟩
    refine ⟨_, rfl, _, _, .type "int", .type "str", false, rfl, .ty _, .base (.int i), kit_ty (by decide +kernel), _, rfl, iteF ?_⟩
    refine ⟨_, rfl, _, _, .type "int", .type "int", true, rfl, .ty _, .base (.int i), kit_ty (by decide +kernel), _, rfl, iteT ?_⟩
    refine ⟨_, rfl, _, _, .type "int", .type "bool", false, rfl, .ty _, .base (.int i), kit_ty (by decide +kernel), _, rfl, _, rfl, iteT ?_⟩
    refine ⟨_, rfl, _, rfl, rfl, ?_⟩
    rw [deq]
    exact q _ (Same.refl H)
  · cases h1
    cases h2
    refine ⟨_, rfl, rfl, _, rfl, iteF ?_⟩
    refine ⟨_, rfl, _, _, .type "str", .type "list", false, rfl, .ty _, .base (.str x), kit_ty (by decide +kernel), _, rfl, iteF ?_⟩
    refine ⟨_, rfl, _, _, .type "str", .type "tuple", false, rfl, .ty _, .base (.str x), kit_ty (by decide +kernel), _, rfl, iteF ?_⟩
    refine ⟨_, rfl, _, _, .type "str", .type "str", true, rfl, .ty _, .base (.str x), kit_ty (by decide +kernel), _, rfl, iteT ?_⟩
    refine ⟨_, rfl, _, _, .type "str", .type "str", true, rfl, .ty _, .base (.str x), kit_ty (by decide +kernel), _, rfl, iteT ?_⟩
    refine ⟨_, rfl, _, rfl, rfl, ?_⟩
    rw [deq]
    exact q _ (Same.refl H)
theorem ok_same0 {f : Addr} {fd : FuncData} {k : Nat} (F : Fun K "_law_same" "_law_same" sSame f fd) (mi : mg "isinstance" = none) (ml : mg "list" = none) (mt : mg "tuple" = none) (mb : mg "bool" = none) (ms : mg "str" = none) (mn : mg "int" = none) :
    FnOk P w K mg base CX0 (k + 1) f fd ["_law_found", "_law_due"] (spSame 0) := by
  refine F.ok scSame (fun vs H Q E h => ?_) (fun cdv A outer s H vs Q E hr h => ?_)
  · obtain ⟨v, u, d, rfl, _⟩ := h
    rfl
  · obtain ⟨v, u, d, rfl, h1, h2, hd, hb, q⟩ := h
    exact same_flat mi ml mt mb ms mn h1 h2 hd.flat hb q
theorem ok_sameS {f : Addr} {fd : FuncData} {n k : Nat} (F : Fun K "_law_same" "_law_same" sSame f fd) (C : Cal P w K mg base k "_law_same" ["_law_found", "_law_due"] (spSame n)) (mi : mg "isinstance" = none) (ml : mg "list" = none) (mt : mg "tuple" = none) (mb : mg "bool" = none) (ms : mg "str" = none) (mn : mg "int" = none) (me : mg "len" = none) (ma : mg "all" = none) (mz : mg "zip" = none) :
    FnOk P w K mg base CX0 (k + 1) f fd ["_law_found", "_law_due"] (spSame (n + 1)) := by
  refine F.ok scSame (fun vs H Q E h => ?_) (fun cdv A outer s H vs Q E hr h => ?_)
  · obtain ⟨v, u, d, rfl, _⟩ := h
    rfl
  · obtain ⟨v, u, d, rfl, h1, h2, hd, hb, q⟩ := h
    rcases hd.cases with hf | ⟨ds, rfl, hl, hall⟩ | ⟨ds, rfl, hl, hall⟩
    · exact same_flat mi ml mt mb ms mn h1 h2 hf hb q
    · refine ⟨_, pss_cons (ps_if (pt_cmpR op_isN (pv 1) pe_non (nomark _)) (pss_one (ps_ret (pe_cmpR op_isN (pv 0) pe_non (nomark _)))) pss_nil)
        (pss_cons (ps_if (PW.pt (pw_or (pt_val (pe_callB call_isi (by rfl) mi (by decide +kernel) (pa_cons (pv 1) (pa_cons (pe_bltn (v := .ty "list") (by rfl) ml (by decide +kernel) rfl) pa_nil)))) (pw_or1 (pt_val (pe_callB call_isi (by rfl) mi (by decide +kernel) (pa_cons (pv 1) (pa_cons (pe_bltn (v := .ty "tuple") (by rfl) mt (by decide +kernel) rfl) pa_nil)))))))
          (pss_cons (ps_if (pt_cmpR op_ne (pe_callB call_isi (by rfl) mi (by decide +kernel) (pa_cons (pv 0) (pa_cons (pe_bltn (v := .ty "list") (by rfl) ml (by decide +kernel) rfl) pa_nil))) (pe_callB call_isi (by rfl) mi (by decide +kernel) (pa_cons (pv 1) (pa_cons (pe_bltn (v := .ty "list") (by rfl) ml (by decide +kernel) rfl) pa_nil))) (nomark _)) (pss_one (ps_ret pe_bl)) pss_nil)
          (pss_cons (ps_if (PW.pt (pw_or (pt_cmpR op_ne (pe_callB call_isi (by rfl) mi (by decide +kernel) (pa_cons (pv 0) (pa_cons (pe_bltn (v := .ty "tuple") (by rfl) mt (by decide +kernel) rfl) pa_nil))) (pe_callB call_isi (by rfl) mi (by decide +kernel) (pa_cons (pv 1) (pa_cons (pe_bltn (v := .ty "tuple") (by rfl) mt (by decide +kernel) rfl) pa_nil))) (nomark _)) (pw_or1 (pt_cmpR op_ne (pe_callB call_len_seq (by rfl) me PySem.boot_len (pa_cons (pv 0) pa_nil)) (pe_callB call_len_seq (by rfl) me PySem.boot_len (pa_cons (pv 1) pa_nil)) (nomark _))))) (pss_one (ps_ret pe_bl)) pss_nil)
          (pss_one (ps_ret (pe_callB (cr_all rfl) (by rfl) ma (by decide +kernel) (pa_cons (pe_lc (own := [("_law_one", 2), ("_law_other", 3)]) (g := gTup K 2 (gCons (gName 2) (gCons (gName 3) gNil))) (tt := tYes) (te := tCall (spSame n) [] E0 (tCons (tVar 2) (tCons (tVar 3) tNil))) rfl scSame.nd (RZ.pi_zipA (by rfl) mz (pa_cons (pv 0) (pa_cons (pv 1) pa_nil)))
            (blkOk_by (own := [("_law_one", 2), ("_law_other", 3)]) (N := ["_law_found", "_law_due", "_law_one", "_law_other"]) (sc := defScope sSame) (by decide +kernel)) (fun _ _ _ _ _ => pg_tup rfl (pgs_cons (pg_name (i := 2) scSame.nd rfl (.inl rfl)) (pgs_cons (pg_name (i := 3) scSame.nd rfl (.inl rfl)) pgs_nil))) (fun _ _ _ _ _ => pts_nil)
            (fun _ _ _ _ _ => pe_own C hr (by rfl) (pa_cons (pv 2) (pa_cons (pv 3) pa_nil)))) pa_nil)))))) pss_nil) pss_never), ?_⟩
      cases h1 with | lst ea la da => ?_
      cases h2 with | lst eb lb db => ?_
      rename_i a xs b ys
      have deq : ∀ x : V, (decide (x = x)) = true := fun x => decide_eq_true rfl
      have hbl := noBls_all (by simpa only [NoBl] using hb)
      refine ⟨_, rfl, rfl, false, congrArg V.bl (decide_eq_false (fun z => nomatch z)), iteF ?_⟩
      refine ⟨_, rfl, _, _, .type "list", .type "list", true, rfl, .ty _, .base (.lst eb), kit_ty (by decide +kernel), _, rfl, iteT (iteT ?_)⟩
      refine ⟨_, rfl, _, _, .type "list", .type "list", true, rfl, .ty _, .base (.lst ea), kit_ty (by decide +kernel), _, rfl, _, _, .type "list", .type "list", true, rfl, .ty _, .base (.lst eb), kit_ty (by decide +kernel), rfl, false, congrArg V.bl (by rw [deq]; rfl), iteF ?_⟩
      refine ⟨_, rfl, _, _, .type "list", .type "tuple", false, rfl, .ty _, .base (.lst ea), kit_ty (by decide +kernel), _, rfl, _, _, .type "list", .type "tuple", false, rfl, .ty _, .base (.lst eb), kit_ty (by decide +kernel), rfl, false, congrArg V.bl (by rw [deq]; rfl), iteF ?_⟩
      refine ⟨_, rfl, a, xs, rfl, Sq.list ea, _, rfl, b, ys, rfl, Sq.list eb, rfl, false, congrArg V.bl (by rw [decide_eq_true (congrArg (fun n : Nat => V.int (n : Int)) (la.trans lb.symm))]; rfl), iteF ?_⟩
      refine ⟨_, rfl, _, rfl, a, b, xs, ys, rfl, .inl ⟨SqL.of ea, SqL.of eb, fun D nD => lc_it (walk_zip (K := K) (a := a) (b := b) (xs := xs) (ys := ys) (n := ds.length) (by rw [la, lb, Nat.min_self])) (fun j H' => Same H H' ∧ H' D = some (.lst ((List.replicate j true).map V.bl))) ⟨same_upd nD, upd_same⟩
        (fun j H' _ hP => ⟨SqL.of (hP.1 _ _ ea), SqL.of (hP.1 _ _ eb)⟩) (fun j x H' H'' hj hP hy => ?_) (fun H3 hP => ?_)⟩⟩
      · obtain ⟨sm', eD⟩ := hP
        obtain ⟨T, x1, x2, rfl, nT, rfl, f1, f2⟩ := hy
        have st := same_upd (o := .tup [x1, x2]) nT
        have hdj : ds[j]? = some ds[j] := List.getElem?_eq_getElem hj
        have S := sm'.trans st
        refine ⟨T, _, rfl, .inl (.inl upd_same), rfl, _, _, rfl, _, _, rfl, rfl, rfl, ?_⟩
        refine ⟨_, rfl, _, rfl, x1, x2, ds[j], rfl, (da j x1 _ f1 hdj).same S, (db j x2 _ f2 hdj).same S, hall _ (List.getElem_mem hj), hbl _ (List.getElem_mem hj), fun H4 s4 => ?_⟩
        refine ⟨_, s4 _ _ (st _ _ eD), small1000 (by rw [List.length_map, List.length_replicate]; omega), fun c o e => ?_, ?_⟩
        · rw [upd_ne (ne_of_none e nD)]
          exact s4 _ _ (st _ _ (sm' c o e))
        · rw [upd_same, List.replicate_succ', List.map_append]
          rfl
      · obtain ⟨sm', eD⟩ := hP
        refine ⟨D, List.replicate ds.length true, rfl, SqL.of eD, ?_⟩
        rw [all_true]
        exact q _ sm'
    · refine ⟨_, pss_cons (ps_if (pt_cmpR op_isN (pv 1) pe_non (nomark _)) (pss_one (ps_ret (pe_cmpR op_isN (pv 0) pe_non (nomark _)))) pss_nil)
        (pss_cons (ps_if (PW.pt (pw_or (pt_val (pe_callB call_isi (by rfl) mi (by decide +kernel) (pa_cons (pv 1) (pa_cons (pe_bltn (v := .ty "list") (by rfl) ml (by decide +kernel) rfl) pa_nil)))) (pw_or1 (pt_val (pe_callB call_isi (by rfl) mi (by decide +kernel) (pa_cons (pv 1) (pa_cons (pe_bltn (v := .ty "tuple") (by rfl) mt (by decide +kernel) rfl) pa_nil)))))))
          (pss_cons (ps_if (pt_cmpR op_ne (pe_callB call_isi (by rfl) mi (by decide +kernel) (pa_cons (pv 0) (pa_cons (pe_bltn (v := .ty "list") (by rfl) ml (by decide +kernel) rfl) pa_nil))) (pe_callB call_isi (by rfl) mi (by decide +kernel) (pa_cons (pv 1) (pa_cons (pe_bltn (v := .ty "list") (by rfl) ml (by decide +kernel) rfl) pa_nil))) (nomark _)) (pss_one (ps_ret pe_bl)) pss_nil)
          (pss_cons (ps_if (PW.pt (pw_or (pt_cmpR op_ne (pe_callB call_isi (by rfl) mi (by decide +kernel) (pa_cons (pv 0) (pa_cons (pe_bltn (v := .ty "tuple") (by rfl) mt (by decide +kernel) rfl) pa_nil))) (pe_callB call_isi (by rfl) mi (by decide +kernel) (pa_cons (pv 1) (pa_cons (pe_bltn (v := .ty "tuple") (by rfl) mt (by decide +kernel) rfl) pa_nil))) (nomark _)) (pw_or1 (pt_cmpR op_ne (pe_callB call_len_seq (by rfl) me PySem.boot_len (pa_cons (pv 0) pa_nil)) (pe_callB call_len_seq (by rfl) me PySem.boot_len (pa_cons (pv 1) pa_nil)) (nomark _))))) (pss_one (ps_ret pe_bl)) pss_nil)
          (pss_one (ps_ret (pe_callB (cr_all rfl) (by rfl) ma (by decide +kernel) (pa_cons (pe_lc (own := [("_law_one", 2), ("_law_other", 3)]) (g := gTup K 2 (gCons (gName 2) (gCons (gName 3) gNil))) (tt := tYes) (te := tCall (spSame n) [] E0 (tCons (tVar 2) (tCons (tVar 3) tNil))) rfl scSame.nd (RZ.pi_zipA (by rfl) mz (pa_cons (pv 0) (pa_cons (pv 1) pa_nil)))
            (blkOk_by (own := [("_law_one", 2), ("_law_other", 3)]) (N := ["_law_found", "_law_due", "_law_one", "_law_other"]) (sc := defScope sSame) (by decide +kernel)) (fun _ _ _ _ _ => pg_tup rfl (pgs_cons (pg_name (i := 2) scSame.nd rfl (.inl rfl)) (pgs_cons (pg_name (i := 3) scSame.nd rfl (.inl rfl)) pgs_nil))) (fun _ _ _ _ _ => pts_nil)
            (fun _ _ _ _ _ => pe_own C hr (by rfl) (pa_cons (pv 2) (pa_cons (pv 3) pa_nil)))) pa_nil)))))) pss_nil) pss_never), ?_⟩
      cases h1 with | tup ea la da => ?_
      cases h2 with | tup eb lb db => ?_
      rename_i a xs b ys
      have deq : ∀ x : V, (decide (x = x)) = true := fun x => decide_eq_true rfl
      have hbl := noBls_all (by simpa only [NoBl] using hb)
      refine ⟨_, rfl, rfl, false, congrArg V.bl (decide_eq_false (fun z => nomatch z)), iteF ?_⟩
      refine ⟨_, rfl, _, _, .type "tuple", .type "list", false, rfl, .ty _, .base (.tup eb), kit_ty (by decide +kernel), _, rfl, iteF ?_⟩
      refine ⟨_, rfl, _, _, .type "tuple", .type "tuple", true, rfl, .ty _, .base (.tup eb), kit_ty (by decide +kernel), _, rfl, iteT ?_⟩
      refine ⟨_, rfl, _, _, .type "tuple", .type "list", false, rfl, .ty _, .base (.tup ea), kit_ty (by decide +kernel), _, rfl, _, _, .type "tuple", .type "list", false, rfl, .ty _, .base (.tup eb), kit_ty (by decide +kernel), rfl, false, congrArg V.bl (by rw [deq]; rfl), iteF ?_⟩
      refine ⟨_, rfl, _, _, .type "tuple", .type "tuple", true, rfl, .ty _, .base (.tup ea), kit_ty (by decide +kernel), _, rfl, _, _, .type "tuple", .type "tuple", true, rfl, .ty _, .base (.tup eb), kit_ty (by decide +kernel), rfl, false, congrArg V.bl (by rw [deq]; rfl), iteF ?_⟩
      refine ⟨_, rfl, a, xs, rfl, Sq.tup ea, _, rfl, b, ys, rfl, Sq.tup eb, rfl, false, congrArg V.bl (by rw [decide_eq_true (congrArg (fun n : Nat => V.int (n : Int)) (la.trans lb.symm))]; rfl), iteF ?_⟩
      refine ⟨_, rfl, _, rfl, a, b, xs, ys, rfl, .inr ⟨.inl (.inl ea), .inl (.inl eb), fun D nD => lc_it (walk_zipTs (K := K) (a := a) (b := b) (xs := xs) (ys := ys) (n := ds.length) la lb) (fun j H' => Same H H' ∧ H' D = some (.lst ((List.replicate j true).map V.bl))) ⟨same_upd nD, upd_same⟩
        (fun j H' _ hP => ⟨.inl (.inl (hP.1 _ _ ea)), .inl (.inl (hP.1 _ _ eb))⟩) (fun j x H' H'' hj hP hy => ?_) (fun H3 hP => ?_)⟩⟩
      · obtain ⟨sm', eD⟩ := hP
        obtain ⟨T, x1, x2, rfl, nT, rfl, f1, f2⟩ := hy
        have st := same_upd (o := .tup [x1, x2]) nT
        have hdj : ds[j]? = some ds[j] := List.getElem?_eq_getElem hj
        have S := sm'.trans st
        refine ⟨T, _, rfl, .inl (.inl upd_same), rfl, _, _, rfl, _, _, rfl, rfl, rfl, ?_⟩
        refine ⟨_, rfl, _, rfl, x1, x2, ds[j], rfl, (da j x1 _ f1 hdj).same S, (db j x2 _ f2 hdj).same S, hall _ (List.getElem_mem hj), hbl _ (List.getElem_mem hj), fun H4 s4 => ?_⟩
        refine ⟨_, s4 _ _ (st _ _ eD), small1000 (by rw [List.length_map, List.length_replicate]; omega), fun c o e => ?_, ?_⟩
        · rw [upd_ne (ne_of_none e nD)]
          exact s4 _ _ (st _ _ (sm' c o e))
        · rw [upd_same, List.replicate_succ', List.map_append]
          rfl
      · obtain ⟨sm', eD⟩ := hP
        refine ⟨D, List.replicate ds.length true, rfl, SqL.of eD, ?_⟩
        rw [all_true]
        exact q _ sm'
end

/-! ## sum(.. for a, b, c in ..): a generator expression with three names, no test -/
namespace G3
open PySem PySem.Spec PyProof.Rows L2 GxR
/-- no item is left out -/
abbrev allOf : Nat → Bool := fun _ => true
section
variable {prog : Program} {w : World} {A : Around} {elt iter : Expr} {xa xb xc : Str} {pa pb pc pt pos : Pos} {kt : Nat} {sc : Scope}
abbrev gx (elt iter : Expr) (xa xb xc : Str) (pa pb pc pt : Pos) (kt : Nat) (sc : Scope) (pos : Pos) : Expr := .GeneratorExp elt [⟨.Tuple [.Name xa pa, .Name xb pb, .Name xc pc] kt pt, iter, [], 0⟩] sc pos
/-- what the element gives at the i-th triple, in any heap in which what stood at href still stands -/
def Elt3 (prog : Program) (w : World) (cenv : Env) (xa xb xc : Str) (elt : Expr) (foot writes : List Addr) (Hold : Nat → Array Value → Prop) (Gives : Nat → Value → Prop) (href : Heap) : Prop :=
  ∀ (A' : Around) (E' : Value → Shared → Prop) (i : Nat) (u v x : Value) (s2 : Shared) (m : Str → Option Value), A'.handled = none → Hold i #[u, v, x] → s2.heap.Ns cenv.locals m → m xa = some u → m xb = some v → m xc = some x →
    (∀ b ∈ foot, b ∉ writes → ∀ o, href.get? b = some o → s2.heap.get? b = some o) → wpAny (model prog w) A' (eval elt cenv) (fun y s3 => Gives i y ∧ Keeps s2 s3) E' s2
/-- the scope of the expression: three unlike locals -/
structure Env3 (cenv : Env) (xa xb xc : Str) (foot : List Addr) : Prop where
  ka : cenv.kindOf xa = some .local
  kb : cenv.kindOf xb = some .local
  kc : cenv.kindOf xc = some .local
  ab : xa ≠ xb
  ac : xa ≠ xc
  bc : xb ≠ xc
  plain : (cenv.scope.kind == .class || (cenv.scope.kind == .module && cenv.locals != cenv.globals)) = false
  sync : cenv.scope.isCoroutine = false
  out : cenv.locals ∉ foot
theorem loop3 {I : Addr} {foot writes : List Addr} {n : Nat} {Hold : Nat → Array Value → Prop} {At : Nat → Heap → Prop} {Mid : Nat → Addr → Heap → Prop} {cenv : Env} {Gives : Nat → Value → Prop} {href : Heap}
    (calm : A.handled = none) (W : ∀ A' : Around, A'.handled = none → WalksU prog w A' I foot writes n Hold At Mid) (three : ∀ i xs, Hold i xs → ∃ u v x, xs = #[u, v, x]) (N : Env3 cenv xa xb xc foot) (elts : Elt3 prog w cenv xa xb xc elt foot writes Hold Gives href) :
    ∀ (k i : Nat) (s0 s : Shared) (m : Str → Option Value), n - i = k → i ≤ n → At i s.heap → s.heap.Ns cenv.locals m → GenSince cenv.locals writes s0 s → (∀ b ∈ foot, b ∉ writes → ∀ o, href.get? b = some o → s.heap.get? b = some o) →
      Seg (model prog w) A (fun n s0 r s1 => r = .ok .next ∧ (n = 0 ∧ GenSince cenv.locals writes s0 s1)) (genProto cenv.locals foot writes allOf n Gives) (passing allOf n i).length s0
        (.compLoop (gx elt iter xa xb xc pa pb pc pt kt sc pos) 0 (.ref I) .none cenv) ((model prog w).den (.compLoop (gx elt iter xa xb xc pa pb pc pt kt sc pos) 0 (.ref I) .none cenv)) [] s := by
  have calm' : (A.over (.compLoop (gx elt iter xa xb xc pa pb pc pt kt sc pos) 0 (.ref I) .none cenv) []).handled = none := calm
  have lw : cenv.locals ∉ writes := fun z => N.out ((W A calm).sub _ z)
  intro k
  induction k with
  | zero =>
    intro i s0 s m hk hi at_ ns since still
    obtain rfl : i = n := by omega
    show Seg _ A _ _ _ s0 _ ((compTurn (gx elt iter xa xb xc pa pb pc pt kt sc pos) 0 (.ref I) .none cenv).onRaise (leaving cenv)) [] s
    rw [compTurn_gen, Sem.onRaise_eq_wrap]
    refine seg_bind_wrap (wpAny_standAt (seg_bind_wrap ((W _ calm').done s _ _ at_ fun h' tk kept => ?_)))
    exact seg_end (.ok .next) ⟨rfl, by rw [passing_end]; rfl, since.step fun b o _ hw e => kept b o hw e⟩
  | succ k ih =>
    intro i s0 s m hk hi at_ ns since still
    have lt : i < n := by omega
    show Seg _ A _ _ _ s0 _ ((compTurn (gx elt iter xa xb xc pa pb pc pt kt sc pos) 0 (.ref I) .none cenv).onRaise (leaving cenv)) [] s
    rw [compTurn_gen, Sem.onRaise_eq_wrap]
    refine seg_bind_wrap (wpAny_standAt (seg_bind_wrap ((W _ calm').item i s _ _ lt at_ fun T xs h1 tk1 hold isT mid k1 => ?_)))
    obtain ⟨u, v, x, rfl⟩ := three i xs hold
    refine seg_bind_wrap ((W _ calm').go _ _ _ i T _ _ _ mid fun h2 at2 k2 => ?_)
    have isT2 : h2.IsTuple T #[u, v, x] := let ⟨o, e, r⟩ := isT; ⟨o, k2 _ o ((W _ calm').apart i T _ mid) e, r⟩
    refine seg_bind_wrap (wpAny_assign_Tuple calm' isT2 rfl rfl fun h3 ext3 => ?_)
    have old3 : ∀ b o, h2.get? b = some o → h3.get? b = some o := fun b o e => ext3 b o (Nat.ne_of_lt (Heap.lt_size e)) e
    show wpAny _ _ (do holding [v, x] (assign (.Name xa pa) cenv u); do holding [x] (assign (.Name xb pb) cenv v); do holding [] (assign (.Name xc pc) cenv x); pure ()) _ _ _
    refine wpAny_bind (wpAny_holding (wpAny_assign_Name (wpAny_storeName_local N.ka (ns.at' fun o e => old3 _ o (k2 _ o lw (k1 _ o lw e))) (fun h4 ns4 sb4 => ?_) N.plain)))
    refine wpAny_bind (wpAny_holding (wpAny_assign_Name (wpAny_storeName_local N.kb ns4 (fun h5 ns5 sb5 => ?_) N.plain)))
    refine wpAny_bind (wpAny_holding (wpAny_assign_Name (wpAny_storeName_local N.kc ns5 (fun h6 ns6 sb6 => wpAny_pure ?_) N.plain)))
    have on : ∀ b o, b ≠ cenv.locals → h2.get? b = some o → h6.get? b = some o := fun b o hb e => sb6.extBut b o hb (sb5.extBut b o hb (sb4.extBut b o hb (old3 b o e)))
    have up : ∀ b o, b ≠ cenv.locals → b ∉ writes → s.heap.get? b = some o → h6.get? b = some o := fun b o hb hw e => on b o hb (k2 b o hw (k1 b o hw e))
    have no : ∀ b ∈ foot, b ≠ cenv.locals := fun b hb z => N.out (z ▸ hb)
    have at6 : At (i + 1) h6 := (W A calm).frame _ _ _ at2 fun b hb o e => on b o (no b hb) e
    have still6 : ∀ b ∈ foot, b ∉ writes → ∀ o, href.get? b = some o → h6.get? b = some o := fun b hb hw o e => up b o (no b hb) hw (still b hb hw o e)
    refine seg_bind_wrap ?_
    rw [List.forIn_nil]
    refine wpAny_pure ?_
    rw [passing_true lt rfl, List.length_cons]
    simp only [if_true]
    have out : ∀ y, yieldOut cenv y = yieldValue y := fun y => by simp only [yieldOut, N.sync, Bool.false_eq_true, if_false]
    simp only [out]
    rw [Sem.bind_eq_wrap', Sem.bind_eq_wrap', Sem.wrap_wrap, Sem.wrap_wrap]
    refine seg_wrap (wpAny_mono (elts _ _ i u v x _ _ calm' hold ns6 (by simp [N.ab, N.ac]) (by simp [N.bc]) (by simp) still6) (fun y s7 r => ?_) fun _ _ e => e)
    obtain ⟨gives, h7, tk7, rfl, k7⟩ := r
    refine seg_at (seg_yield rfl rfl rfl ⟨⟨i, passing_here lt rfl, gives⟩, since.step fun b o hb hw e => k7 b o (up b o hb hw e), fun s8 al => ?_⟩)
    exact seg_again rfl (ih (i + 1) s8 s8 _ (by omega) lt ((W A calm).frame _ _ _ at6 fun b hb o e => al b (List.mem_cons_of_mem _ hb) o (k7 b o e)) ((ns6.keeps k7).at' fun o e => al _ (List.mem_cons_self ..) o e) (GenSince.refl _ _ _)
      fun b hb hw o e => al b (List.mem_cons_of_mem _ hb) o (k7 b o (still6 b hb hw o e)))
theorem start3 {I : Addr} {foot writes : List Addr} {n : Nat} {Hold : Nat → Array Value → Prop} {At : Nat → Heap → Prop} {Mid : Nat → Addr → Heap → Prop} {cenv : Env} {Gives : Nat → Value → Prop} {href : Heap}
    (calm : A.handled = none) (W : ∀ A' : Around, A'.handled = none → WalksU prog w A' I foot writes n Hold At Mid) (three : ∀ i xs, Hold i xs → ∃ u v x, xs = #[u, v, x]) (N : Env3 cenv xa xb xc foot) (elts : Elt3 prog w cenv xa xb xc elt foot writes Hold Gives href)
    (s0 s : Shared) (m : Str → Option Value) (at_ : At 0 s.heap) (ns : s.heap.Ns cenv.locals m) (since : GenSince cenv.locals writes s0 s) (still : ∀ b ∈ foot, b ∉ writes → ∀ o, href.get? b = some o → s.heap.get? b = some o) :
    Seg (model prog w) A (fun n s0 r s1 => r = .ok .next ∧ (n = 0 ∧ GenSince cenv.locals writes s0 s1)) (genProto cenv.locals foot writes allOf n Gives) (passing allOf n 0).length s0
      (.compStart (gx elt iter xa xb xc pa pb pc pt kt sc pos) 0 (.ref I) .none cenv) ((model prog w).den (.compStart (gx elt iter xa xb xc pa pb pc pt kt sc pos) 0 (.ref I) .none cenv)) [] s := by
  have calm' : (A.over (.compStart (gx elt iter xa xb xc pa pb pc pt kt sc pos) 0 (.ref I) .none cenv) []).handled = none := calm
  have loop := loop3 (iter := iter) (pa := pa) (pb := pb) (pc := pc) (pt := pt) (kt := kt) (sc := sc) (pos := pos) calm W three N elts n 0 s0 s m (Nat.sub_zero _) (Nat.zero_le _) at_ ns since still
  show Seg _ A _ _ _ s0 _ ((compStart (gx elt iter xa xb xc pa pb pc pt kt sc pos) 0 (.ref I) .none cenv).onRaise (leaving cenv)) [] s
  unfold compStart
  rw [Sem.onRaise_eq_wrap]
  show Seg _ A _ _ _ s0 _ ((ask >>= _).wrap _ _ _ _) [] s
  refine seg_bind_wrap (wpAny_askSetting ?_)
  split
  · exact seg_again rfl loop
  · first
      | exact seg_bind_wrap (wpAny_rule (seg_bind_wrap (wpAny_standAt (seg_bind_wrap ((W _ calm').self 0 s _ _ at_ (seg_again rfl loop))))))
      | (refine seg_bind_wrap (wpAny_rule ?_); show Seg _ A _ _ _ s0 _ ((standAt iter.pos >>= _).wrap _ _ _ _) [] s; exact seg_bind_wrap (wpAny_standAt (seg_bind_wrap ((W _ calm').self 0 s _ _ at_ (seg_again rfl loop)))))
theorem fresh3 {I a : Addr} {g : Nat} {foot writes : List Addr} {n : Nat} {Hold : Nat → Array Value → Prop} {At : Nat → Heap → Prop} {Mid : Nat → Addr → Heap → Prop} {cenv : Env} {Gives : Nat → Value → Prop} {s : Shared} {m : Str → Option Value}
    (calm : A.handled = none) (W : ∀ A' : Around, A'.handled = none → WalksU prog w A' I foot writes n Hold At Mid) (three : ∀ i xs, Hold i xs → ∃ u v x, xs = #[u, v, x]) (N : Env3 cenv xa xb xc foot) (elts : Elt3 prog w cenv xa xb xc elt foot writes Hold Gives s.heap)
    (isG : s.heap.IsGen a g) (state : s.gens[g]? = some (.fresh (.compStart (gx elt iter xa xb xc pa pb pc pt kt sc pos) 0 (.ref I) .none cenv))) (at_ : At 0 s.heap) (ns : s.heap.Ns cenv.locals m) (quiet : s.heap.NoLimit) : GenAt prog w A a g cenv.locals foot writes allOf n Gives 0 s :=
  ⟨isG, quiet, _, state, fun s8 al => ⟨rfl, start3 (A := A.in1) calm W three N elts s8 s8 m ((W A calm).frame _ _ _ at_ fun b hb o e => al b (List.mem_cons_of_mem _ hb) o e) (ns.at' fun o e => al _ (List.mem_cons_self ..) o e) (GenSince.refl _ _ _) fun b hb _ o e => al b (List.mem_cons_of_mem _ hb) o e⟩⟩
end
end G3

namespace G3
open PySem PySem.Spec PyProof.Rows L2 GxR GP
/-- a part: its mark, its first tin, its last -/
abbrev Part := Str × Int × Int
/-- a part where it stands -/
def PtV (H : Hp) (v : V) (p : Part) : Prop := ∃ a, v = .ref a ∧ H a = some (.tup [.str p.1, .int p.2.1, .int p.2.2])
def Pts (H : Hp) (vs : List V) (ps : List Part) : Prop := vs.length = ps.length ∧ ∀ (i : Nat) v p, vs[i]? = some v → ps[i]? = some p → PtV H v p
/-- what the machine holds of a part -/
def Is3 (p : Part) (xs : Array Value) : Prop := ∃ t1 t2 t3, xs = #[.str p.1 t1, .int p.2.1 t2, .int p.2.2 t3]
section
variable {X : Cx} {s : Shared} {H : Hp} {σ : L2.St} {pins : List (Addr × Obj)}
theorem part_in {T : Addr} {p : Part} (I : Inv X pins σ H s) (e : H T = some (.tup [.str p.1, .int p.2.1, .int p.2.2])) : ∃ xs, s.heap.IsTuple T xs ∧ Is3 p xs := by
  obtain ⟨_, its, r, t⟩ := I.hok T _ e
  cases r with
  | cons q1 r =>
    cases r with
    | cons q2 r =>
      cases r with
      | cons q3 r =>
        cases r
        obtain ⟨t1, rfl⟩ := q1
        obtain ⟨t2, rfl⟩ := q2
        obtain ⟨t3, rfl⟩ := q3
        exact ⟨_, t, t1, t2, t3, rfl⟩
theorem parts_in {vs : List V} {ps : List Part} {its : List Value} (I : Inv X pins σ H s) (hp : Pts H vs ps) (r : Vals vs its) :
    ∃ (loc : Nat → Addr) (held : Nat → Array Value), ∀ j, j < ps.length → its[j]? = some (.ref (loc j)) ∧ s.heap.IsTuple (loc j) (held j) ∧ ∃ p, ps[j]? = some p ∧ Is3 p (held j) := by
  have one : ∀ j, ∃ (T : Addr) (xs : Array Value), j < ps.length → its[j]? = some (.ref T) ∧ s.heap.IsTuple T xs ∧ ∃ p, ps[j]? = some p ∧ Is3 p xs := fun j => by
    by_cases hj : j < ps.length
    · have hv : j < vs.length := by rw [hp.1]; exact hj
      obtain ⟨T, e1, e2⟩ := hp.2 j _ _ (List.getElem?_eq_getElem hv) (List.getElem?_eq_getElem hj)
      obtain ⟨u, eu, ru⟩ := r.get (List.getElem?_eq_getElem hv)
      rw [e1] at ru
      cases ru
      obtain ⟨xs, t, h3⟩ := part_in I e2
      exact ⟨T, xs, fun _ => ⟨eu, t, _, List.getElem?_eq_getElem hj, h3⟩⟩
    · exact ⟨0, #[], fun z => absurd z hj⟩
  exact ⟨fun j => (one j).choose, fun j => (one j).choose_spec.choose, fun j hj => (one j).choose_spec.choose_spec hj⟩
/-- a walk over the parts, begun at the new iterator that o is -/
def Begun3 (X : Cx) (s : Shared) (P : Addr) (ps : List Part) (o : Obj) : Prop :=
  ∃ (foot : List Addr) (Hold : Nat → Array Value → Prop) (At : Nat → Heap → Prop) (Mid : Nat → Addr → Heap → Prop),
    (∀ A' : Around, A'.handled = none → WalksU X.prog X.w A' s.heap.objs.size foot [s.heap.objs.size] ps.length (fun j xs => j < ps.length ∧ Hold j xs) At Mid) ∧
    (∀ j xs, j < ps.length → Hold j xs → ∃ p, ps[j]? = some p ∧ Is3 p xs) ∧ At 0 (s.heap.push o) ∧ ∀ b ∈ foot, b < s.heap.objs.size + 1 ∧ b ≠ P
theorem begin_parts {a P : Addr} {vs : List V} {ps : List Part} {tb : Array Value} {Q' : Value → Shared → Prop} (I : Inv X pins σ H s) (hS : SqL X.K H a vs ∨ SqT X.K H a vs) (hp : Pts H vs ps) (hP : H P = some (.tbl tb))
    (fin : ∀ o, Begun3 X s P ps o → Q' (.ref s.heap.objs.size) { s with heap := s.heap.push o }) : wpAny (model X.prog X.w) X.A (pyIter (.ref a)) Q' X.xe s := by
  have hPo : s.heap.get? P = some { cls := .none, data := .fields tb } := I.hok P _ hP
  have notP : ∀ (b : Addr) (o : Obj) (xs : Array Value) (n : Nat), s.heap.get? b = some o → o.data = .seq xs n → b ≠ P := fun b o xs n e d z => by
    subst z
    cases hPo.symm.trans e
    cases d
  have newP : s.heap.objs.size ≠ P := (Nat.ne_of_lt (Heap.lt_size hPo)).symm
  have mk : ∀ (its : List Value) (o : Obj) (At : Nat → Heap → Prop), Vals vs its → a < s.heap.objs.size → a ≠ P → At 0 (s.heap.push o) →
      (∀ A' : Around, A'.handled = none → Walks X.prog X.w A' s.heap.objs.size [s.heap.objs.size, a] [s.heap.objs.size] its.toArray.size (fun i v => its.toArray[i]? = some v) At) →
      (∀ (A' : Around) (es : List Expr) (k : Nat) (pos : Pos) (j : Nat) (T : Addr) (s' : Shared) (Q : Unit → Shared → Prop) (E : Value → Shared → Prop), At j s'.heap → Q () s' → wpAny (model X.prog X.w) A' (letOwnedTupleGo (.Tuple es k pos) (.ref s.heap.objs.size) (.ref T)) Q E s') →
      Begun3 X s P ps o := by
    intro its o At r ha haP a0 W go
    obtain ⟨loc, held, hl⟩ := parts_in I hp r
    have ln : its.toArray.size = ps.length := by rw [List.size_toArray, ← r.length, hp.1]
    have below : ∀ m, m < ps.length → loc m < s.heap.objs.size ∧ loc m ≠ P := fun m hm => by
      obtain ⟨_, ⟨ob, e, _, n, d⟩, _⟩ := hl m hm
      exact ⟨Heap.lt_size e, notP _ _ _ _ e d⟩
    refine ⟨_, _, _, _, fun A' hA => (asTuples (ln ▸ W A' hA) loc held (fun j v hj e => ?_) (fun j hj => Nat.ne_of_lt (below j hj).1) (fun es k pos j T s' Q E => go A' es k pos j T s' Q E)).bound, fun j xs hj e => ?_, ⟨a0, fun m hm => ?_⟩, fun b hb => ?_⟩
    · have e2 : its[j]? = some v := by simpa using e
      exact (Option.some.inj ((hl j hj).1.symm.trans e2)).symm
    · obtain ⟨_, _, p, e1, e2⟩ := hl j hj
      exact ⟨p, e1, (show xs = held j from e) ▸ e2⟩
    · obtain ⟨_, ⟨ob, e, rest⟩, _⟩ := hl m hm
      exact ⟨ob, Heap.get?_push_of_some _ e, rest⟩
    · rcases List.mem_append.mp hb with z | z
      · rcases List.mem_cons.mp z with e | e
        · rw [e]; exact ⟨Nat.lt_succ_self _, newP⟩
        · rw [List.mem_singleton.mp e]; exact ⟨Nat.lt_succ_of_lt ha, haP⟩
      · obtain ⟨m, hm, e⟩ := List.mem_map.mp z
        obtain ⟨h1, h2⟩ := below m (List.mem_range.mp hm)
        exact e ▸ ⟨Nat.lt_succ_of_lt h1, h2⟩
  rcases hS with hS | hS
  · obtain ⟨its, r, hl, _⟩ := I.list hS
    obtain ⟨o, e, c, n, d⟩ := hl.isList
    refine wpAny_pyIter_list hl.isList (fin _ (mk its _ _ r (Heap.lt_size e) (notP _ _ _ _ e d) ⟨⟨_, Heap.get?_push_size _ rfl, rfl, rfl⟩, ⟨o, Heap.get?_push_of_some _ e, c, n, d⟩⟩ (fun A' hA => Walks.list hA _ a (Nat.ne_of_lt (Heap.lt_size e)) its.toArray) ?_))
    exact fun A' es k pos j T s' Q E at_ q => wpAny_letOwnedTupleGo_listiter at_.1 q
  · obtain ⟨its, r, ⟨o, e, c, n, d⟩, _⟩ := I.tuple hS
    refine wpAny_pyIter_tuple (items := its.toArray) ⟨o, e, c, n, d⟩ (fin _ (mk its _ _ r (Heap.lt_size e) (notP _ _ _ _ e d) ⟨⟨_, Heap.get?_push_size _ rfl, rfl, rfl⟩, ⟨o, Heap.get?_push_of_some _ e, c, n, d⟩⟩ (fun A' hA => Walks.tuple hA _ a (Nat.ne_of_lt (Heap.lt_size e)) its.toArray) ?_))
    exact fun A' es k pos j T s' Q E at_ q => letGo_tupleiter at_.1 q
/-- what is asked of the expression's own scope -/
structure Own3 (env : Env) (sc : Scope) (xa xb xc : Str) : Prop where
  fn : sc.kind = .function
  sync : sc.isCoroutine = false
  dot : sc.names.lookup (".0" : Str) = some .local
  ka : sc.names.lookup xa = some .local
  kb : sc.names.lookup xb = some .local
  kc : sc.names.lookup xc = some .local
  ab : xa ≠ xb
  ac : xa ≠ xc
  bc : xb ≠ xc
  noCell : ∀ y ∈ sc.names, y.2 ≠ NameKind.cell
  free : ∀ y ∈ sc.names, y.2 = NameKind.free → ∃ c, env.cells.lookup y.1 = some c
/-- the element at a part, wherever the expression runs later -/
def EltAt3 (X : Cx) (s₁ : Shared) (P : Addr) (sc : Scope) (xa xb xc : Str) (elt : Expr) (Gives : Part → Value → Prop) : Prop :=
  ∀ (L : Addr) (code : Value) (A' : Around) (E' : Value → Shared → Prop) (p : Part) (t1 t2 t3 : Tok) (s₂ : Shared) (m : Str → Option Value), A'.handled = none →
    (∀ x o, x ≠ P → s₁.heap.get? x = some o → s₂.heap.get? x = some o) → s₂.heap.Ns L m → m xa = some (.str p.1 t1) → m xb = some (.int p.2.1 t2) → m xc = some (.int p.2.2 t3) →
    wpAny (model X.prog X.w) A' (eval elt (genEnv sc (cloFrom X.env.cells sc.names []) L code builtinsNs X.env)) (fun y s₃ => Gives p y ∧ Keeps s₂ s₃) E' s₂
/-- the generator at g before its first item -/
def Fresh3 (X : Cx) (pins : List (Addr × Obj)) (σ : L2.St) (H₁ : Hp) (P : Addr) (ps : List Part) (Gives : Part → Value → Prop) (g : Addr) (s₅ : Shared) : Prop :=
  ∃ (foot writes : List Addr) (Gens : Array GenState → Array GenState → Prop) (Item : Nat → Value → Prop) (At : Nat → Shared → Prop),
    (WalksS X.prog X.w X.A.in1 g foot writes Gens ps.length Item At ∧ At 0 s₅ ∧ ∀ b ∈ foot, b < s₅.heap.objs.size) ∧
    (∀ j v, Item j v → ∃ p, ps[j]? = some p ∧ Gives p v) ∧ ∀ s₆, Moved writes Gens s₅ s₆ → ∃ H₂, Tabbed P H₁ H₂ ∧ Inv X pins σ H₂ s₆
theorem made3 {c P : Addr} {elt iter : Expr} {xa xb xc : Str} {pa pb pc pt gpos : Pos} {kt : Nat} {sc : Scope} {te : TE} {k : Nat} {Q' : Value → Shared → Prop} {Want : List Part → Hp → Prop} {Gives : Part → Value → Prop}
    (room : Room k X.A) (TB : TabB X.base X.mg c P) (hcode : X.env.code = .ref c) (own : Own3 X.env sc xa xb xc) (walked : PE X iter te) (plain : ∀ v, genFold iter X.env v = pure v) (I : Inv X pins σ H s)
    (each : ∀ s₁ H₁, Inv X pins σ H₁ s₁ → TabG H₁ P → EltAt3 X s₁ P sc xa xb xc elt Gives)
    (h : te σ H fun v H₁ => ∃ (a : Addr) (vs : List V) (ps : List Part), v = .ref a ∧ (SqL X.K H₁ a vs ∨ SqT X.K H₁ a vs) ∧ Pts H₁ vs ps ∧ TabG H₁ P ∧ Want ps H₁)
    (fin : ∀ ps H₁ g s₅, Want ps H₁ → Fresh3 X pins σ H₁ P ps Gives g s₅ → Q' (.ref g) s₅) :
    wpAny (model X.prog X.w) X.A (eval (gx elt iter xa xb xc pa pb pc pt kt sc gpos) X.env) Q' X.xe s := by
  have deep : X.A.depth < recursionLimit := by have := room.dp; omega
  refine wpAny_GeneratorExp_make own.sync (closure_ok own.free) own.noCell own.dot own.fn deep (thn (walked.run pins s σ H _ I h) fun u s₁ had => ?_) plain
  obtain ⟨_, H₁, I₁, rel, a, vs, ps, rfl, hS, hp, ⟨tb, hP, ok⟩, want⟩ := had
  cases rel
  have tabAt : s₁.heap.get? P = some { cls := .none, data := .fields tb } := I₁.hok P _ hP
  refine begin_parts I₁ hS hp hP fun o beg => ?_
  obtain ⟨foot, Hold, At, Mid, W, holds, at0, low⟩ := beg
  have statics : cStatics < s₁.heap.objs.size ∧ cStatics ≠ P := by
    obtain ⟨_, ns, _⟩ := I₁.nolimit
    refine ⟨ns.lt, fun z => ?_⟩
    obtain ⟨ob, _, _, e, d, _⟩ := ns
    rw [z] at e
    cases tabAt.symm.trans e
    cases d
  have quiet : (s₁.heap.push o).NoLimit := I₁.nolimit.push o
  refine ⟨quiet, code_there hcode (TB.code.keeps fun b u e => Heap.get?_push_of_some _ (I₁.bk b u e)) (Heap.get?_push_of_some _ tabAt) ok fun code h₃ tk more ext le tab₃ ok₃ => ?_⟩
  rw [Heap.size_push] at le
  have stays : ∀ b u, b ≠ P → s₁.heap.get? b = some u → h₃.get? b = some u := fun b u hb e => ext b u hb (Heap.get?_push_of_some _ e)
  obtain ⟨bm, ob, f1, f2, f3, f4, f5, f6, f7, f8⟩ := TB.bm
  have globals : Heap.Ns h₃ X.env.globals X.mg := by
    rw [I₁.ok.glob]
    exact ((I₁.mod.glob.keeps I₁.bk).push o).extBut ext TB.gP
  refine wpAny_builtinsFor (m := X.mg) globals f1 f2 (stays bm ob f4 (I₁.bk bm ob f5)) f6 f7 f8 ?_
  have later : ∀ b u, s₁.heap.get? b = some u → b ∉ [h₃.objs.size, s₁.heap.objs.size] := fun b u e z => by
    have lt := Heap.lt_size e
    rcases List.mem_cons.mp z with z' | z'
    · exact Nat.lt_irrefl _ (Nat.lt_of_lt_of_le (z' ▸ lt) (Nat.le_of_succ_le le))
    · exact Nat.lt_irrefl _ (List.mem_singleton.mp z' ▸ lt)
  -- the frame of the expression is laid
  intro h' hn' hs'
  have size' : h'.objs.size = h₃.objs.size + 1 := by rw [hs'.1, Heap.size_push]
  have keep' : ∀ b u, h₃.get? b = some u → h'.get? b = some u := fun b u e => hs'.extBut b u (Nat.ne_of_lt (Heap.lt_size e)) (Heap.get?_push_of_some _ e)
  have quiet3 : h₃.NoLimit := quiet.extBut ext statics.2
  have inR : ∀ b ∈ foot, b ∈ List.range h₃.objs.size := fun b hb => List.mem_range.mpr (Nat.lt_of_lt_of_le (low b hb).1 le)
  have wr : ∀ b ∈ [s₁.heap.objs.size], b ∈ List.range h₃.objs.size := fun b hb => by rw [List.mem_singleton.mp hb]; exact List.mem_range.mpr le
  have cl : cStatics < h₃.objs.size := Nat.lt_of_lt_of_le statics.1 (Nat.le_of_succ_le le)
  have keep₅ : ∀ b u, h₃.get? b = some u → (h'.push { cls := .type "generator", data := .fields #[.int s₁.gens.size 0, .str "<genexpr>" (tk + 1), .str (X.env.qual ++ "<genexpr>") (tk + 1 + 1)] }).get? b = some u := fun b u e => Heap.get?_push_of_some _ (keep' b u e)
  let F : Nat → Value → Prop := fun i y => i < ps.length → ∃ p, ps[i]? = some p ∧ Gives p y
  have W₅ := WalksS.genexpQ (prog := X.prog) (w := X.w) (A := X.A.in4) room.hd h'.objs.size s₁.gens.size h₃.objs.size (List.range h₃.objs.size) [s₁.heap.objs.size] allOf ps.length F (by rw [size']; exact Nat.succ_ne_self _) (fun z => by have := List.mem_range.mp z; omega) wr deep (List.mem_range.mpr cl) (Nat.ne_of_lt cl) (fun z => Nat.ne_of_lt statics.1 (List.mem_singleton.mp z))
  rw [GxR.passing_true, List.length_range] at W₅
  have W' : ∀ A' : Around, A'.handled = none → WalksU X.prog X.w A' s₁.heap.objs.size (List.range h₃.objs.size) [s₁.heap.objs.size] ps.length (fun j xs => j < ps.length ∧ Hold j xs) At Mid := fun A' hA => (W A' hA).mono_fp inR
  have at5 : At 0 (h'.push { cls := .type "generator", data := .fields #[.int s₁.gens.size 0, .str "<genexpr>" (tk + 1), .str (X.env.qual ++ "<genexpr>") (tk + 1 + 1)] }) := (W X.A room.hd).frame _ _ _ at0 fun b hb u e => keep₅ b u (ext b u (low b hb).2 e)
  have N3 : Env3 (genEnv sc (cloFrom X.env.cells sc.names []) h₃.objs.size code builtinsNs X.env) xa xb xc (List.range h₃.objs.size) := ⟨own.ka, own.kb, own.kc, own.ab, own.ac, own.bc, by simp [genEnv, own.fn], own.sync, fun z => Nat.lt_irrefl _ (List.mem_range.mp z)⟩
  have E3 : Elt3 X.prog X.w (genEnv sc (cloFrom X.env.cells sc.names []) h₃.objs.size code builtinsNs X.env) xa xb xc elt (List.range h₃.objs.size) [s₁.heap.objs.size] (fun j xs => j < ps.length ∧ Hold j xs) F (h'.push { cls := .type "generator", data := .fields #[.int s₁.gens.size 0, .str "<genexpr>" (tk + 1), .str (X.env.qual ++ "<genexpr>") (tk + 1 + 1)] }) := by
    intro A' E' i u v x s₂ m calm hx ns ea eb ec still
    obtain ⟨p, ep, t1, t2, t3, e⟩ := holds i _ hx.1 hx.2
    obtain rfl : u = .str p.1 t1 := by have z := congrArg (·[0]?) e; simpa using z
    obtain rfl : v = .int p.2.1 t2 := by have z := congrArg (·[1]?) e; simpa using z
    obtain rfl : x = .int p.2.2 t3 := by have z := congrArg (·[2]?) e; simpa using z
    refine wpAny_mono (each s₁ H₁ I₁ ⟨tb, hP, ok⟩ _ code A' E' p t1 t2 t3 s₂ m calm (fun b o hb q => ?_) ns ea eb ec) (fun y s₃ r => ⟨fun _ => ⟨p, ep, r.1⟩, r.2⟩) fun _ _ q => q
    have q3 := stays b o hb q
    exact still b (List.mem_range.mpr (Heap.lt_size q3)) (fun z => later b o q (List.mem_cons_of_mem _ z)) o (keep₅ b o q3)
  refine fin ps H₁ h'.objs.size _ want ⟨_, _, _, _, _, ⟨W₅.in4_1, fresh3 (A := X.A.in4) (pa := pa) (pb := pb) (pc := pc) (pt := pt) (kt := kt) (sc := sc) (pos := gpos) (iter := iter) (m := fun y => if y = ".0" then some (.ref s₁.heap.objs.size) else none) room.hd W' (fun i xs hx => ?_) N3 E3 ⟨_, _, _, Heap.get?_push_size _ rfl, rfl, rfl, rfl⟩ (Array.getElem?_push_size ..) at5 (hn'.push _) (quiet3.keeps keep₅), fun b hb => ?_⟩, fun j v it => ?_, fun s₆ mv => ?_⟩
  · obtain ⟨p, _, t1, t2, t3, e⟩ := holds i xs hx.1 hx.2
    exact ⟨_, _, _, e⟩
  · show b < (h'.push _).objs.size
    rw [Heap.size_push, size']
    rcases List.mem_cons.mp hb with e | e
    · rw [e, size']; exact Nat.lt_succ_self _
    · rcases List.mem_cons.mp e with e' | e'
      · rw [e']; exact Nat.lt_succ_of_lt (Nat.lt_succ_self _)
      · exact Nat.lt_succ_of_lt (Nat.lt_succ_of_lt (List.mem_range.mp e'))
  · obtain ⟨i, ei, hg⟩ := it
    have lt : j < ps.length := by
      have z := (List.getElem?_eq_some_iff.mp ei).1
      rwa [List.length_range] at z
    rw [List.getElem?_range lt] at ei
    cases ei
    exact hg lt
  · have all : ∀ b u, b ≠ P → s₁.heap.get? b = some u → s₆.heap.get? b = some u := fun b u hb e => mv.heap b u (later b u e) (keep₅ b u (stays b u hb e))
    have tab₆ := mv.heap P _ (later P _ tabAt) (keep₅ P _ tab₃)
    have J := inv_tab (more := more) (d' := s₆.drawn) (t' := s₆.toks) I₁ hP all tab₆ (AllBare.movedS (I₁.bare.push rfl) mv)
    rw [sh_eta s₁ s₆ mv.os] at J
    exact ⟨_, ⟨⟨tb ++ more, upd_same, ok₃⟩, fun b hb => upd_ne hb⟩, J⟩
/-- the sum of g over the parts -/
def sum3 (g : Part → Int) (ps : List Part) : Int := (ps.map g).sum
theorem preSum3 (g : Part → Int) (ps : List Part) (val : Nat → Int) (h : ∀ i p, ps[i]? = some p → val i = g p) : ∀ n, n ≤ ps.length → preSum val n = sum3 g (ps.take n)
  | 0, _ => rfl
  | n + 1, hn => by
    have e : ps[n]? = some ps[n] := List.getElem?_eq_getElem hn
    show preSum val n + val n = _
    rw [preSum3 g ps val h n (by omega), h n _ e]
    unfold sum3
    rw [List.take_add_one, e, List.map_append, List.sum_append]
    show _ = _ + (g ps[n] + 0)
    rw [Int.add_zero]
def tSum3 (K : PySem.W.Frag) (P : Addr) (g : Part → Int) (te : TE) : TE := fun σ H Q => te σ H fun v H₁ => ∃ (a : Addr) (vs : List V) (ps : List Part), v = .ref a ∧ (SqL K H₁ a vs ∨ SqT K H₁ a vs) ∧ Pts H₁ vs ps ∧ TabG H₁ P ∧ ∀ H₂, Tabbed P H₁ H₂ → Q (.int (sum3 g ps)) H₂
theorem pe_sum3 {c P : Addr} {elt iter : Expr} {xa xb xc : Str} {pa pb pc pt p pos gpos : Pos} {kt : Nat} {sc : Scope} {g : Part → Int} {te : TE} {k : Nat}
    (room : Room k X.A) (glob : Gl X "sum") (free : X.mg "sum" = none) (TB : TabB X.base X.mg c P) (hcode : X.env.code = .ref c) (own : Own3 X.env sc xa xb xc) (walked : PE X iter te)
    (each : ∀ s₁, EltAt3 X s₁ P sc xa xb xc elt (fun p y => ∃ t, y = .int (g p) t)) (plain : ∀ v, genFold iter X.env v = pure v)
    (one : starEach [gx elt iter xa xb xc pa pb pc pt kt sc gpos] X.env = [(false, eval (gx elt iter xa xb xc pa pb pc pt kt sc gpos) X.env)] := by rfl) :
    PE X (.Call (.Name "sum" p) [gx elt iter xa xb xc pa pb pc pt kt sc gpos] [] pos) (tSum3 X.K P g te) := by
  constructor
  intro pins s σ H Q I h
  refine wpAny_Call_Name_kw (ld_blt I glob free (show bootBuiltins "sum" = some (.builtin "sum") by decide +kernel) (callWith_builtin1 ?_ one (by rfl)) (by decide) (by decide))
  rw [one]
  refine Calls.spliced_cons (made3 (Want := fun ps H₁ => ∀ H₂, Tabbed P H₁ H₂ → Q (.int (sum3 g ps)) H₂) (Gives := fun p y => ∃ t, y = .int (g p) t) room TB hcode own walked plain I (fun s₁ H₁ _ _ => each s₁) h fun ps H₁ gen s₅ want fresh => Calls.spliced_nil ?_)
  obtain ⟨foot, writes, Gens, Item, At, ⟨W, a0, low⟩, items, behind⟩ := fresh
  let val : Nat → Int := fun i => (ps[i]?.map g).getD 0
  have hv : ∀ i p, ps[i]? = some p → val i = g p := fun i p e => by show (ps[i]?.map _).getD 0 = _; rw [e]; rfl
  refine call_sum_walkAnyS (W.self 0 _ _ _ a0 ⟨gen, foot, writes, Gens, ps.length, Item, At, val, rfl, W, a0, low, fun i v it => ?_, fun s₆ t mv => ?_⟩)
  · obtain ⟨p, e, t, ev⟩ := items i v it
    exact ⟨t, by rw [hv i p e]; exact ev⟩
  · obtain ⟨H₂, tabbed, J⟩ := behind s₆ mv
    refine ⟨.int (preSum val ps.length), H₂, J, ⟨t, rfl⟩, ?_⟩
    rw [preSum3 g ps val hv ps.length (Nat.le_refl _), List.take_length]
    exact want H₂ tabbed
end
end G3

/-! ### parts and packings -/
open G3
theorem log_lt {i : Int} (h : i.natAbs < 2 ^ 400) : i.natAbs.log2 < 400 := PySem.Flt.log2_lt_of (by decide) h
def SqH (H : Hp) (a : Addr) (xs : List V) : Prop := H a = some (.lst xs) ∨ H a = some (.tup xs)
theorem SqH.sq {K : PySem.W.Frag} {H : Hp} {a : Addr} {xs : List V} (h : SqH H a xs) : Sq K H a xs := h.elim Sq.list Sq.tup
theorem SqH.same {H H' : Hp} {a : Addr} {xs : List V} (h : SqH H a xs) (s : Same H H') : SqH H' a xs := h.imp (s _ _) (s _ _)
theorem SqH.kp {H H' : Hp} {d c a : Addr} {t : Int} {xs : List V} (h : SqH H a xs) (S : StAt H d c t) (k : Kp d c H H') (n : NoInt xs) : SqH H' a xs := h.imp (fun e => k.lst S e n) (fun e => k.tup S e)
theorem SqH.tab {Pt : Addr} {H H2 : Hp} {a : Addr} {xs : List V} (h : SqH H a xs) (g : GxR.TabG H Pt) (x : GxR.Tabbed Pt H H2) : SqH H2 a xs := h.imp (fun e => tab_at g x e (fun _ z => nomatch z)) (fun e => tab_at g x e (fun _ z => nomatch z))
theorem getElem?_app {α β : Type} {xs ys : List α} {us ws : List β} (l : xs.length = us.length) {i : Nat} {x : α} {u : β} (e1 : (xs ++ ys)[i]? = some x) (e2 : (us ++ ws)[i]? = some u) : (xs[i]? = some x ∧ us[i]? = some u) ∨ (ys[i - xs.length]? = some x ∧ ws[i - xs.length]? = some u) := by
  by_cases hi : i < xs.length
  · rw [List.getElem?_append_left hi] at e1
    rw [List.getElem?_append_left (by omega)] at e2
    exact .inl ⟨e1, e2⟩
  · rw [List.getElem?_append_right (by omega)] at e1 e2
    rw [← l] at e2
    exact .inr ⟨e1, e2⟩
theorem Pts.mono {H H' : Hp} {vs : List V} {ps : List Part} (h : Pts H vs ps) (m : ∀ v p, p ∈ ps → PtV H v p → PtV H' v p) : Pts H' vs ps := ⟨h.1, fun i v p e1 e2 => m v p (List.mem_of_getElem? e2) (h.2 i v p e1 e2)⟩
theorem PtV.same {H H' : Hp} {v : V} {p : Part} (h : PtV H v p) (s : Same H H') : PtV H' v p := let ⟨a, e, r⟩ := h; ⟨a, e, s _ _ r⟩
theorem Pts.same {H H' : Hp} {vs : List V} {ps : List Part} (h : Pts H vs ps) (s : Same H H') : Pts H' vs ps := Pts.mono h fun _ _ _ q => PtV.same q s
theorem PtV.kp {H H' : Hp} {d c : Addr} {t : Int} {v : V} {p : Part} (h : PtV H v p) (S : StAt H d c t) (k : Kp d c H H') : PtV H' v p := let ⟨a, e, r⟩ := h; ⟨a, e, k.tup S r⟩
theorem Pts.kp {H H' : Hp} {d c : Addr} {t : Int} {vs : List V} {ps : List Part} (h : Pts H vs ps) (S : StAt H d c t) (k : Kp d c H H') : Pts H' vs ps := Pts.mono h fun _ _ _ q => PtV.kp q S k
theorem Pts.tab {Pt : Addr} {H H2 : Hp} {vs : List V} {ps : List Part} (h : Pts H vs ps) (g : GxR.TabG H Pt) (x : GxR.Tabbed Pt H H2) : Pts H2 vs ps := Pts.mono h fun _ _ _ ⟨a, e, r⟩ => ⟨a, e, tab_at g x r (fun _ z => nomatch z)⟩
theorem Pts.upd_lst {H : Hp} {l : Addr} {xs : List V} {o : HO} {vs : List V} {ps : List Part} (h : Pts H vs ps) (hl : H l = some (.lst xs)) : Pts (upd H l o) vs ps := Pts.mono h fun _ _ _ ⟨a, e, r⟩ => ⟨a, e, by rw [upd_ne (ne_of r hl (fun z => nomatch z))]; exact r⟩
theorem Pts.nil {H : Hp} : Pts H [] [] := ⟨rfl, fun _ _ _ e => nomatch e⟩
theorem Pts.app {H : Hp} {vs ws : List V} {ps qs : List Part} (h : Pts H vs ps) (h' : Pts H ws qs) : Pts H (vs ++ ws) (ps ++ qs) :=
  ⟨by rw [List.length_append, List.length_append, h.1, h'.1], fun i v p e1 e2 => (getElem?_app h.1 e1 e2).elim (fun z => h.2 i v p z.1 z.2) (fun z => h'.2 _ v p z.1 z.2)⟩
theorem Pts.one {H : Hp} {v : V} {p : Part} (h : PtV H v p) : Pts H [v] [p] := ⟨rfl, fun i u q e1 e2 => by
  have hi : i < 1 := (List.getElem?_eq_some_iff.mp e1).1
  obtain rfl : i = 0 := by omega
  cases e1
  cases e2
  exact h⟩
theorem Pts.at {H : Hp} {vs : List V} {ps : List Part} {i : Nat} {v : V} (h : Pts H vs ps) (e : vs[i]? = some v) : ∃ p, ps[i]? = some p ∧ PtV H v p := by
  have hi : i < ps.length := by rw [← h.1]; exact (List.getElem?_eq_some_iff.mp e).1
  exact ⟨_, List.getElem?_eq_getElem hi, h.2 i v _ e (List.getElem?_eq_getElem hi)⟩
theorem Pts.noInt {H : Hp} {vs : List V} {ps : List Part} (h : Pts H vs ps) : NoInt vs := fun x hx i e => by
  obtain ⟨j, hj, e1⟩ := List.getElem_of_mem hx
  obtain ⟨p, _, a, rfl, _⟩ := Pts.at h (by rw [List.getElem?_eq_getElem hj, e1])
  cases e
/-- where a packing stands -/
def PkA (H : Hp) (b : Addr) (nm : Str) (sz : Int) (ps : List Part) : Prop := ∃ a us, H b = some (.tup [.str nm, .int sz, .ref a]) ∧ SqH H a us ∧ Pts H us ps
theorem PkA.same {H H' : Hp} {b : Addr} {nm : Str} {sz : Int} {ps : List Part} (h : PkA H b nm sz ps) (s : Same H H') : PkA H' b nm sz ps := let ⟨a, us, e, h1, h2⟩ := h; ⟨a, us, s _ _ e, h1.same s, Pts.same h2 s⟩
theorem PkA.kp {H H' : Hp} {d c b : Addr} {t : Int} {nm : Str} {sz : Int} {ps : List Part} (h : PkA H b nm sz ps) (S : StAt H d c t) (k : Kp d c H H') : PkA H' b nm sz ps := let ⟨a, us, e, h1, h2⟩ := h; ⟨a, us, k.tup S e, h1.kp S k (Pts.noInt h2), Pts.kp h2 S k⟩
theorem PkA.tab {Pt : Addr} {H H2 : Hp} {b : Addr} {nm : Str} {sz : Int} {ps : List Part} (h : PkA H b nm sz ps) (g : GxR.TabG H Pt) (x : GxR.Tabbed Pt H H2) : PkA H2 b nm sz ps := let ⟨a, us, e, h1, h2⟩ := h; ⟨a, us, tab_at g x e (fun _ z => nomatch z), h1.tab g x, Pts.tab h2 g x⟩
def Okp (p : Part) : Prop := PyData.strOk p.1 = true ∧ 0 ≤ p.2.1 ∧ p.2.1 ≤ p.2.2 ∧ p.2.2 ≤ 10 ^ 40
def cntP (p : Part) : Int := p.2.2 - p.2.1 + 1
def cntF (ps : List Part) : Int := sum3 cntP ps
theorem cntF_snoc (ps : List Part) (p : Part) : cntF (ps ++ [p]) = cntF ps + cntP p := by
  unfold cntF sum3
  rw [List.map_append, List.sum_append]
  show _ + (cntP p + 0) = _
  rw [Int.add_zero]
theorem take_snoc {α : Type} {l : List α} {i : Nat} {x : α} (e : l[i]? = some x) : l.take (i + 1) = l.take i ++ [x] := by rw [List.take_add_one, e]; rfl
theorem cntF_cons (p : Part) (ps : List Part) : cntF (p :: ps) = cntP p + cntF ps := by unfold cntF sum3; rw [List.map_cons, List.sum_cons]
theorem cntF_bound : ∀ {ps : List Part}, (∀ p ∈ ps, Okp p) → 0 ≤ cntF ps ∧ cntF ps ≤ (10 ^ 40 + 1) * (ps.length : Int)
  | [], _ => ⟨Int.le_refl _, by show (0 : Int) ≤ _; simp⟩
  | p :: r, h => by
    obtain ⟨h1, h2⟩ := cntF_bound (ps := r) fun q hq => h q (List.mem_cons_of_mem _ hq)
    obtain ⟨_, g1, g2, g3⟩ := h p (List.mem_cons_self ..)
    rw [cntF_cons, List.length_cons]
    unfold cntP
    omega
/-- what a case has of a part whose first tin stands at this spot -/
def rowF (sz cs sp : Int) (p : Part) : Option Part :=
  let lo := if cs * sz - (sp - p.2.1) > p.2.1 then cs * sz - (sp - p.2.1) else p.2.1
  let hi := if cs * sz + sz - 1 - (sp - p.2.1) < p.2.2 then cs * sz + sz - 1 - (sp - p.2.1) else p.2.2
  if lo ≤ hi then some (p.1, lo, hi) else none
def rowsG (sz cs : Int) : Int → List Part → List Part
  | _, [] => []
  | sp, p :: r => (rowF sz cs sp p).toList ++ rowsG sz cs (sp + cntP p) r
theorem rowsG_snoc (sz cs : Int) : ∀ (sp : Int) (ps : List Part) (p : Part), rowsG sz cs sp (ps ++ [p]) = rowsG sz cs sp ps ++ (rowF sz cs (sp + cntF ps) p).toList
  | sp, [], p => by
    show (rowF sz cs sp p).toList ++ [] = [] ++ (rowF sz cs (sp + 0) p).toList
    rw [List.append_nil, Int.add_zero]
    rfl
  | sp, q :: r, p => by
    show (rowF sz cs sp q).toList ++ rowsG sz cs (sp + cntP q) (r ++ [p]) = _
    rw [rowsG_snoc sz cs (sp + cntP q) r p, cntF_cons, ← List.append_assoc, Int.add_assoc]
    rfl
theorem rowsG_len (sz cs : Int) : ∀ (sp : Int) (ps : List Part), (rowsG sz cs sp ps).length ≤ ps.length
  | sp, [] => Nat.le_refl _
  | sp, q :: r => by
    have := rowsG_len sz cs (sp + cntP q) r
    have h : (rowF sz cs sp q).toList.length ≤ 1 := by
      cases rowF sz cs sp q
      · exact Nat.zero_le _
      · exact Nat.le_refl _
    show ((rowF sz cs sp q).toList ++ rowsG sz cs (sp + cntP q) r).length ≤ r.length + 1
    rw [List.length_append]
    omega
def spotsF (ps : List Part) (i : Nat) : List Int := (List.range i).map fun j => cntF (ps.take j)
theorem spotsF_snoc (ps : List Part) (i : Nat) : spotsF ps (i + 1) = spotsF ps i ++ [cntF (ps.take i)] := by unfold spotsF; rw [List.range_succ, List.map_append]; rfl
/-! ### spots_of -/
abbrev sSpots : Stmt := topS 4
theorem scSpots : FnScope ["packing", "spots", "spot", "mark", "first", "last"] ["packing"] (defScope sSpots) := ⟨rfl, rfl, rfl, by decide +kernel, rfl, by decide +kernel, by decide +kernel⟩
def spSpots : Sp := fun vs H Q _ => ∃ (b : Addr) (nm : Str) (sz : Int) (ps : List Part), vs = [.ref b] ∧ PkA H b nm sz ps ∧ ps.length ≤ 900 ∧ ∀ l H', H l = none → H' l = some (.lst ((spotsF ps ps.length).map V.int)) → Same H H' → Q (.ref l) H'
/-- a loop over zip of a list and a list or tuple, that both stand still -/
theorem for_zipN {K : PySem.W.Frag} {a b : Addr} {xs ys : List V} {g : TG} {tb : TS} {D : Ends} {σ : L2.St} {H1 : Hp} (ha : H1 a = some (.lst xs)) (hb : SqH H1 b ys) (hl : xs.length = ys.length) (Pv : Nat → L2.St → Hp → Prop) (h0 : Pv 0 σ H1) (hs : ∀ i σ H', Pv i σ H' → (∀ {o}, H1 a = some o → H' a = some o) ∧ (∀ {o}, H1 b = some o → H' b = some o))
    (turn : ∀ i x y T σ H, xs[i]? = some x → ys[i]? = some y → Pv i σ H → H T = none → g (.ref T) σ (upd H T (.tup [x, y])) fun σ2 H2 => tb { D with nx := Pv (i + 1), ct := Pv (i + 1), bk := D.nx } σ2 H2) (fin : ∀ σ H, Pv xs.length σ H → D.nx σ H) :
    ((SqL K H1 a xs ∧ SqL K H1 b ys ∧ ForR (Itz K a b) g tb D σ H1) ∨ (SqL K H1 a xs ∧ SqT K H1 b ys ∧ ForR (ItzM K a b) g tb D σ H1)) := by
  have tn : ∀ i v σ H H', i < xs.length → Pv i σ H → YPair (fun i => xs[i]?) (fun i => ys[i]?) i H v H' → g v σ H' fun σ2 H2 => tb { D with nx := Pv (i + 1), ct := Pv (i + 1), bk := D.nx } σ2 H2 := by
    rintro i v σ H H' _ hp ⟨T, x, y, rfl, nT, rfl, e1, e2⟩
    exact turn i x y T σ H e1 e2 hp nT
  rcases hb with h | h
  · exact .inl ⟨SqL.of ha, SqL.of h, for_it (walk_zip (by omega)) Pv h0 (fun i σ H' _ p => ⟨SqL.of ((hs i σ H' p).1 ha), SqL.of ((hs i σ H' p).2 h)⟩) tn fin⟩
  · exact .inr ⟨SqL.of ha, .inl (.inl h), for_it (walk_zipM hl) Pv h0 (fun i σ H' _ p => ⟨SqL.of ((hs i σ H' p).1 ha), .inl (.inl ((hs i σ H' p).2 h))⟩) tn fin⟩
section
variable {K : PySem.W.Frag} {mg : Str → Option Value} {P : Program} {w : World} {base : Heap}
theorem ok_spots {f : Addr} {fd : FuncData} {k : Nat} (F : Fun K "spots_of" "spots_of" sSpots f fd) : FnOk P w K mg base CX0 (k + 1) f fd ["packing"] spSpots := by
  refine F.ok scSpots (fun vs H Q E h => ?_) (fun cdv A outer s H vs Q E hr h => ?_)
  · obtain ⟨b, nm, sz, ps, rfl, _⟩ := h
    rfl
  · obtain ⟨b, nm, sz, ps, rfl, ⟨a, us, eb, ha, hus⟩, hl, q⟩ := h
    refine ⟨_, pss_cons (ps_set (i := 1) scSpots.nd rfl (.inl rfl) (pe_lst pa_nil))
      (pss_cons (ps_set (i := 2) scSpots.nd rfl (.inl rfl) pe_int)
      (pss_cons (ps_for PassesOwn.never rfl (pi_seq (pe_ix ix_tup (pv 0) pe_int (fun _ _ => rfl))) (pg_tup rfl (pgs_cons (pg_name (i := 3) scSpots.nd rfl (.inl rfl)) (pgs_cons (pg_name (i := 4) scSpots.nd rfl (.inl rfl)) (pgs_cons (pg_name (i := 5) scSpots.nd rfl (.inl rfl)) pgs_nil))))
        (pss_cons (ps_expr (pe_bm PySem.F.plainAttrs_list PySem.F.slot_list_append PySem.F.type_list_append mt_append (pv 1) (pa_cons (pv 2) pa_nil)))
        (pss_one (ps_aug (i := 2) scSpots.nd rfl (.inl rfl) (pe_op op_add (pe_op op_sub (pv 5) (pv 4)) pe_int) ip_add))))
      (pss_one (ps_ret (pv 1))))), ?_⟩
    refine ⟨Nat.zero_le _, fun l nl => ?_⟩
    have s1 := same_upd (o := .lst []) nl
    refine ⟨_, rfl, b, _, 2, .ref a, rfl, rfl, .inl (.inl (s1 _ _ eb)), atI_nat (j := 2) rfl, a, rfl, for_seqS (xs := us) ha.sq s1 (fun i σ Hx => ∃ (y3 y4 y5 : Option V), σ = [some (.ref b), some (.ref l), some (.int (cntF (ps.take i))), y3, y4, y5] ∧ Same H Hx ∧ Hx l = some (.lst ((spotsF ps i).map V.int)))
      ⟨_, _, _, rfl, s1, upd_same⟩ (fun i σ Hx hP => ?_) (fun i x σ Hx hx hP => ?_) (fun σ Hx hP => ?_)⟩
    · obtain ⟨_, _, _, rfl, sx, _⟩ := hP
      exact sx
    · obtain ⟨y3, y4, y5, rfl, sx, el⟩ := hP
      obtain ⟨p, ep, g, rfl, eg⟩ := Pts.at (Pts.same hus sx) hx
      have hi : i < ps.length := (List.getElem?_eq_some_iff.mp ep).1
      refine ⟨g, _, rfl, .inl (.inl eg), rfl, _, _, rfl, _, _, rfl, _, _, rfl, rfl, ?_⟩
      refine ⟨_, rfl, .inl ⟨rfl, _, SqL.of el⟩, _, rfl, l, _, _, rfl, rfl, el, small1000 (by unfold spotsF; rw [List.length_map, List.length_map, List.length_range]; omega), ?_⟩
      refine ⟨_, rfl, _, rfl, _, rfl, p.2.2, p.2.1, rfl, rfl, _, _, rfl, rfl, _, _, rfl, rfl, some (.str p.1), some (.int p.2.1), some (.int p.2.2), ?_, fun c o e => ?_, ?_⟩
      · rw [take_snoc ep, cntF_snoc]
        rfl
      · rw [upd_ne (ne_of_none e nl)]
        exact sx c o e
      · rw [upd_same, spotsF_snoc, List.map_append]
        rfl
    · obtain ⟨y3, y4, y5, rfl, sx, el⟩ := hP
      rw [hus.1] at el
      exact ⟨_, rfl, q l Hx nl el sx⟩
end

open G3
/-! ### cases that have one of these tins -/
theorem div_iff {x sz cs : Int} (h : 1 ≤ sz) : x / sz = cs ↔ cs * sz ≤ x ∧ x ≤ cs * sz + sz - 1 := by
  constructor
  · rintro rfl
    have e := Int.mul_ediv_add_emod x sz
    have m0 := Int.emod_nonneg x (show sz ≠ 0 by omega)
    have m1 := Int.emod_lt_of_pos x (show 0 < sz by omega)
    rw [Int.mul_comm] at e
    omega
  · rintro ⟨h1, h2⟩
    have e : x = (x - cs * sz) + cs * sz := by omega
    rw [e, Int.add_mul_ediv_right _ _ (by omega), Int.ediv_eq_zero_of_lt (by omega) (by omega), Int.zero_add]
/-- of following numbers, the cases of all of them follow one another -/
theorem div_between {l h sz c : Int} (hs : 1 ≤ sz) (hl : l ≤ h) : (l / sz ≤ c ∧ c ≤ h / sz) ↔ ∃ x, l ≤ x ∧ x ≤ h ∧ x / sz = c := by
  have ⟨l1, l2⟩ := (div_iff (x := l) (cs := l / sz) hs).mp rfl
  have ⟨h1, h2⟩ := (div_iff (x := h) (cs := h / sz) hs).mp rfl
  constructor
  · rintro ⟨g1, g2⟩
    by_cases e : l / sz = c
    · exact ⟨l, Int.le_refl _, hl, e⟩
    · have m1 : (l / sz + 1) * sz ≤ c * sz := Int.mul_le_mul_of_nonneg_right (by omega) (by omega)
      have m2 : c * sz ≤ h / sz * sz := Int.mul_le_mul_of_nonneg_right g2 (by omega)
      rw [Int.add_mul] at m1
      exact ⟨c * sz, by omega, by omega, (div_iff hs).mpr ⟨by omega, by omega⟩⟩
  · rintro ⟨x, x1, x2, rfl⟩
    exact ⟨Int.ediv_le_ediv (by omega) x1, Int.ediv_le_ediv (by omega) x2⟩
abbrev Prs2 := List (Int × Int)
/-- chosen sets, one for each part -/
def ChA (H : Hp) (vs : List V) (css : List Prs2) : Prop := vs.length = css.length ∧ ∀ (i : Nat) v rs, vs[i]? = some v → css[i]? = some rs → ∃ a, v = .ref a ∧ LsA H a rs
theorem ChA.same {H H' : Hp} {vs : List V} {css : List Prs2} (h : ChA H vs css) (s : Same H H') : ChA H' vs css := ⟨h.1, fun i v rs e1 e2 => let ⟨a, e, l⟩ := h.2 i v rs e1 e2; ⟨a, e, l.same s⟩⟩
theorem ChA.nil {H : Hp} : ChA H [] [] := ⟨rfl, fun _ _ _ e => nomatch e⟩
theorem ChA.snoc {H : Hp} {vs : List V} {css : List Prs2} {a : Addr} {rs : Prs2} (h : ChA H vs css) (l : LsA H a rs) : ChA H (vs ++ [.ref a]) (css ++ [rs]) :=
  ⟨by rw [List.length_append, List.length_append, h.1]; rfl, fun i v qs e1 e2 => (getElem?_app h.1 e1 e2).elim (fun z => h.2 i v qs z.1 z.2) (fun z => by
    have hi : i - vs.length < 1 := (List.getElem?_eq_some_iff.mp z.1).1
    have e0 : i - vs.length = 0 := by omega
    rw [e0] at z
    obtain ⟨z1, z2⟩ := z
    cases z1
    cases z2
    exact ⟨a, rfl, l⟩)⟩
/-- the case of some chosen tin, of these parts -/
def TouchP (sz : Int) (ps : List Part) (css : List Prs2) (n : Nat) (c : Int) : Prop := ∃ (i : Nat) (p : Part) (rs : Prs2), i < n ∧ ps[i]? = some p ∧ css[i]? = some rs ∧ ∃ x, InS rs x ∧ (x + (cntF (ps.take i) - p.2.1)) / sz = c
def mapP (sz sh : Int) (p : Int × Int) : Int × Int := ((p.1 + sh) / sz, (p.2 + sh) / sz)
theorem inS_mapP {sz sh c : Int} {rs : Prs2} (hs : 1 ≤ sz) (hr : ∀ p ∈ rs, p.1 ≤ p.2) : InS (rs.map (mapP sz sh)) c ↔ ∃ x, InS rs x ∧ (x + sh) / sz = c := by
  constructor
  · rintro ⟨q, hq, h1, h2⟩
    obtain ⟨p, hp, rfl⟩ := List.mem_map.mp hq
    obtain ⟨y, y1, y2, y3⟩ := (div_between hs (show p.1 + sh ≤ p.2 + sh by have := hr p hp; omega)).mp ⟨h1, h2⟩
    refine ⟨y - sh, ⟨p, hp, by omega, by omega⟩, ?_⟩
    rw [show y - sh + sh = y by omega]
    exact y3
  · rintro ⟨x, ⟨p, hp, h1, h2⟩, e⟩
    have ⟨g1, g2⟩ := (div_between hs (show p.1 + sh ≤ p.2 + sh by omega)).mpr ⟨x + sh, by omega, by omega, e⟩
    exact ⟨mapP sz sh p, List.mem_map.mpr ⟨p, hp, rfl⟩, g1, g2⟩
abbrev sTouched : Stmt := topS 5
theorem scTouched : FnScope ["packing", "chosen", "size", "touched", "spot", "part", "some", "shift", "low", "high"] ["packing", "chosen"] (defScope sTouched) := ⟨rfl, rfl, rfl, by decide +kernel, rfl, by decide +kernel, by decide +kernel⟩
def spTouched : Sp := fun vs H Q _ => ∃ (b ch : Addr) (nm : Str) (sz : Int) (ps : List Part) (cv : List V) (css : List Prs2), vs = [.ref b, .ref ch] ∧ PkA H b nm sz ps ∧ H ch = some (.lst cv) ∧ ChA H cv css ∧ css.length = ps.length ∧ ps.length ≤ 12 ∧ (∀ rs ∈ css, rs.length ≤ 60 ∧ ∀ p ∈ rs, p.1 ≤ p.2) ∧ 1 ≤ sz ∧ sz ≤ 10 ^ 50 ∧ TellS (TouchP sz ps css ps.length) 720 H Q
theorem for_zip3 {K : PySem.W.Frag} {a b c3 : Addr} {xs ys zs : List V} {g : TG} {tb : TS} {D : Ends} {σ : L2.St} {H1 : Hp} (ha : H1 a = some (.lst xs)) (hb : SqH H1 b ys) (hc : H1 c3 = some (.lst zs)) (h1 : ys.length = xs.length) (h2 : zs.length = xs.length) (Pv : Nat → L2.St → Hp → Prop) (h0 : Pv 0 σ H1)
    (hs : ∀ i σ H', Pv i σ H' → (∀ {o}, H1 a = some o → H' a = some o) ∧ (∀ {o}, H1 b = some o → H' b = some o) ∧ (∀ {o}, H1 c3 = some o → H' c3 = some o))
    (turn : ∀ i x y z T σ H, xs[i]? = some x → ys[i]? = some y → zs[i]? = some z → Pv i σ H → H T = none → g (.ref T) σ (upd H T (.tup [x, y, z])) fun σ2 H2 => tb { D with nx := Pv (i + 1), ct := Pv (i + 1), bk := D.nx } σ2 H2) (fin : ∀ σ H, Pv xs.length σ H → D.nx σ H) :
    ((SqL K H1 a xs ∧ SqL K H1 b ys ∧ SqL K H1 c3 zs ∧ ForR (Itz3L K a b c3) g tb D σ H1) ∨ (SqL K H1 a xs ∧ SqT K H1 b ys ∧ SqL K H1 c3 zs ∧ ForR (Itz3T K a b c3) g tb D σ H1)) := by
  have tn : ∀ i v σ H H', i < xs.length → Pv i σ H → Y3 xs ys zs i H v H' → g v σ H' fun σ2 H2 => tb { D with nx := Pv (i + 1), ct := Pv (i + 1), bk := D.nx } σ2 H2 := by
    rintro i v σ H H' _ hp ⟨T, x, y, z, rfl, nT, rfl, e1, e2, e3⟩
    exact turn i x y z T σ H e1 e2 e3 hp nT
  rcases hb with h | h
  · exact .inl ⟨SqL.of ha, SqL.of h, SqL.of hc, for_it (walk_zip3L h1 h2) Pv h0 (fun i σ H' _ p => ⟨SqL.of ((hs i σ H' p).1 ha), SqL.of ((hs i σ H' p).2.1 h), SqL.of ((hs i σ H' p).2.2 hc)⟩) tn fin⟩
  · exact .inr ⟨SqL.of ha, .inl (.inl h), SqL.of hc, for_it (walk_zip3T h1 h2) Pv h0 (fun i σ H' _ p => ⟨SqL.of ((hs i σ H' p).1 ha), .inl (.inl ((hs i σ H' p).2.1 h)), SqL.of ((hs i σ H' p).2.2 hc)⟩) tn fin⟩
def TouW (H2 : Hp) (b ch l : Addr) (sz : Int) (ps : List Part) (css : List Prs2) (i : Nat) (σ : L2.St) (Hx : Hp) : Prop := ∃ (ws : List V) (qs : Prs2) (y4 y5 y6 y7 : Option V), σ = [some (.ref b), some (.ref ch), some (.int sz), some (.ref l), y4, y5, y6, y7, none, none] ∧ (∀ c o, c ≠ l → H2 c = some o → Hx c = some o) ∧ Hx l = some (.lst ws) ∧ Prs Hx ws qs ∧ qs.length ≤ 60 * i ∧ ∀ c, InS qs c ↔ TouchP sz ps css i c
theorem TouchP.succ {sz : Int} {ps : List Part} {css : List Prs2} {i : Nat} {c : Int} {p : Part} {rs : Prs2} (e1 : ps[i]? = some p) (e2 : css[i]? = some rs) : TouchP sz ps css (i + 1) c ↔ TouchP sz ps css i c ∨ ∃ x, InS rs x ∧ (x + (cntF (ps.take i) - p.2.1)) / sz = c := by
  constructor
  · rintro ⟨j, q, us, hj, f1, f2, h⟩
    by_cases e : j = i
    · subst e
      rw [e1] at f1
      rw [e2] at f2
      cases f1
      cases f2
      exact .inr h
    · exact .inl ⟨j, q, us, by omega, f1, f2, h⟩
  · rintro (⟨j, q, us, hj, h⟩ | h)
    · exact ⟨j, q, us, by omega, h⟩
    · exact ⟨i, p, rs, Nat.lt_succ_self i, e1, e2, h⟩
section
variable {K : PySem.W.Frag} {mg : Str → Option Value} {P : Program} {w : World} {base : Heap}
theorem ok_touched {f : Addr} {fd : FuncData} (F : Fun K "cases_touched" "cases_touched" sTouched f fd) (CS : Cal P w K mg base 1 "spots_of" ["packing"] spSpots) (CO : Cal P w K mg base 1 "set_of" ["pairs"] (spSetOf K)) (mz : mg "zip" = none) : FnOk P w K mg base CX0 2 f fd ["packing", "chosen"] spTouched := by
  refine F.ok scTouched (fun vs H Q E h => ?_) (fun cdv A outer s H vs Q E hr h => ?_)
  · obtain ⟨b, ch, nm, sz, ps, cv, css, rfl, _⟩ := h
    rfl
  · obtain ⟨b, ch, nm, sz, ps, cv, css, rfl, hb, hch, hcv, hcl, hpl, hok, h1, h2, q⟩ := h
    refine ⟨_, pss_cons (ps_set (i := 2) scTouched.nd rfl (.inr rfl) (pe_ix ix_tup (pv 0) pe_int (fun _ _ => rfl)))
      (pss_cons (ps_set (i := 3) scTouched.nd rfl (.inl rfl) (pe_lst pa_nil))
      (pss_cons (ps_for PassesOwn.never rfl (pi_zip3 (by rfl) mz (pa_cons (pe_own CS hr (by rfl) (pa_cons (pv 0) pa_nil)) (pa_cons (pe_ix ix_tup (pv 0) pe_int (fun _ _ => rfl)) (pa_cons (pv 1) pa_nil)))) (pg_tup rfl (pgs_cons (pg_name (i := 4) scTouched.nd rfl (.inl rfl)) (pgs_cons (pg_name (i := 5) scTouched.nd rfl (.inl rfl)) (pgs_cons (pg_name (i := 6) scTouched.nd rfl (.inl rfl)) pgs_nil))))
        (pss_cons (ps_set (i := 7) scTouched.nd rfl (.inr rfl) (pe_op op_sub (pv 4) (pe_ix ix_tup (pv 5) pe_int (fun _ _ => rfl))))
        (pss_one (ps_expr (pe_bm PySem.F.plainAttrs_list PySem.F.slot_list_extend PySem.F.type_list_extend mt_extend (pv 3) (pa_cons (pe_lc (own := [("low", 8), ("high", 9)]) (g := gTup K 2 (gCons (gName 8) (gCons (gName 9) gNil))) (tt := tYes) (te := tTup (tCons (tOp (rI CDivW fun i j => .int (i / j)) (tOp (rI0 fun i j => .int (i + j)) (tVar 8) (tVar 7)) (tVar 2)) (tCons (tOp (rI CDivW fun i j => .int (i / j)) (tOp (rI0 fun i j => .int (i + j)) (tVar 9) (tVar 7)) (tVar 2)) tNil))) rfl scTouched.nd (pi_list (pv 6))
            (blkOk_by (own := [("low", 8), ("high", 9)]) (N := ["packing", "chosen", "size", "touched", "spot", "part", "some", "shift", "low", "high"]) (sc := defScope sTouched) (by decide +kernel)) (fun _ _ _ _ _ => pg_tup rfl (pgs_cons (pg_name (i := 8) scTouched.nd rfl (.inl rfl)) (pgs_cons (pg_name (i := 9) scTouched.nd rfl (.inl rfl)) pgs_nil))) (fun _ _ _ _ _ => pts_nil) (fun _ _ _ _ _ => pe_tup (pa_cons (pe_op op_fdivW (pe_op op_add (pv 8) (pv 7)) (pv 2)) (pa_cons (pe_op op_fdivW (pe_op op_add (pv 9) (pv 7)) (pv 2)) pa_nil)))) pa_nil))))))
      (pss_one (ps_ret (pe_own CO hr (by rfl) (pa_cons (pv 3) pa_nil)))))), ?_⟩
    obtain ⟨a, us, eb, ha, hus⟩ := id hb
    refine ⟨_, rfl, b, _, 1, .int sz, rfl, rfl, .inl (.inl eb), atI_nat (j := 1) rfl, ?_⟩
    refine ⟨Nat.zero_le _, fun l nl => ?_⟩
    have s1 := same_upd (o := .lst []) nl
    refine ⟨_, rfl, b, nm, sz, ps, rfl, hb.same s1, by omega, fun sl H2 nsl esl s2 => ?_⟩
    have s12 := s1.trans s2
    have el2 := s2 _ _ (upd_same (H := H) (a := l) (o := .lst []))
    have nsl' : sl ≠ l := fun e => by rw [e, upd_same] at nsl; cases nsl
    have nal : a ≠ l := fun e => by
      subst e
      rcases ha with h | h
      · rw [nl] at h; cases h
      · rw [nl] at h; cases h
    have nchl : ch ≠ l := ne_of_none hch nl
    refine ⟨_, rfl, b, _, 2, .ref a, rfl, rfl, .inl (.inl (s12 _ _ eb)), atI_nat (j := 2) rfl, _, rfl, sl, a, ch, (spotsF ps ps.length).map V.int, us, cv, rfl, ?_⟩
    have hll : ((spotsF ps ps.length).map V.int).length = ps.length := by unfold spotsF; rw [List.length_map, List.length_map, List.length_range]
    refine for_zip3 (xs := (spotsF ps ps.length).map V.int) (ys := us) (zs := cv) esl (ha.same s12) (s12 _ _ hch) (by rw [hll]; exact hus.1) (by rw [hll, hcv.1, hcl]) (TouW H2 b ch l sz ps css)
      ⟨[], [], _, _, _, _, rfl, (fun _ _ _ e => e), el2, Prs.nil, by decide, fun c => ⟨fun z => (inS_nil z).elim, fun ⟨j, _, _, hj, _⟩ => absurd hj (Nat.not_lt_zero j)⟩⟩ (fun i σ H' hP => ?_) (fun i x y z T σ Hx hx hy hz hP nT => ?_) (fun σ Hx hP => ?_)
    · obtain ⟨_, _, _, _, _, _, rfl, kx, _⟩ := hP
      exact ⟨fun {o} e => kx _ _ nsl' e, fun {o} e => kx _ _ nal e, fun {o} e => kx _ _ nchl e⟩
    · obtain ⟨ws, qs, y4, y5, y6, y7, rfl, kx, el, hws, hql, hin⟩ := hP
      have hxs : Same H Hx := fun c o e => kx _ _ (ne_of_none e nl) (s12 _ _ e)
      have sT := same_upd (o := .tup [x, y, z]) nT
      obtain ⟨p, ep, g, rfl, eg⟩ := Pts.at (Pts.same hus hxs) hy
      have hi : i < ps.length := (List.getElem?_eq_some_iff.mp ep).1
      have ecs : css[i]? = some css[i] := List.getElem?_eq_getElem (by omega)
      obtain ⟨g3, rfl, zs, eg3, hzs⟩ := (hcv.same hxs).2 i z _ hz ecs
      obtain ⟨hrl, hrr⟩ := hok _ (List.mem_of_getElem? ecs)
      have exs : x = .int (cntF (ps.take i)) := by
        unfold spotsF at hx
        rw [List.getElem?_map, List.getElem?_map, List.getElem?_range hi] at hx
        exact (Option.some.inj hx).symm
      subst exs
      refine ⟨T, _, rfl, .inl (.inl upd_same), rfl, _, _, rfl, _, _, rfl, _, _, rfl, rfl, ?_⟩
      refine ⟨_, rfl, _, rfl, g, _, 1, .int p.2.1, rfl, rfl, .inl (.inl (sT _ _ eg)), atI_nat (j := 1) rfl, cntF (ps.take i), p.2.1, rfl, rfl, ?_⟩
      have elT := sT _ _ el
      have eg3T := sT _ _ eg3
      have hzsT := hzs.same sT
      refine ⟨_, rfl, .inl ⟨rfl, _, SqL.of elT⟩, _, rfl, g3, rfl, ⟨_, SqL.of eg3T⟩, fun D nD => lc_list (xs := zs) (fun j H' => Same (upd Hx T (.tup [.int (cntF (ps.take i)), .ref g, .ref g3])) H' ∧ ∃ vs : List V, H' D = some (.lst vs) ∧ Prs H' vs ((css[i].take j).map (mapP sz (cntF (ps.take i) - p.2.1)))) ⟨same_upd nD, [], upd_same, Prs.nil⟩ (fun j H' _ hP => SqL.of (hP.1 _ _ eg3T)) (fun j v H' hv hP => ?_) (fun H4 hP => ?_)⟩
      · obtain ⟨sm, vs, eD, hvs⟩ := hP
        obtain ⟨pr, a5, epr, rfl, ea5⟩ := prs_at (hzsT.same sm) hv
        have et : css[i].take (j + 1) = css[i].take j ++ [pr] := by rw [List.take_add_one, epr]; rfl
        have hvl : vs.length ≤ 60 := by
          rw [hvs.1, List.length_map, List.length_take]
          omega
        refine ⟨a5, _, rfl, .inl (.inl ea5), rfl, _, _, rfl, _, _, rfl, rfl, rfl, ?_⟩
        refine ⟨_, rfl, _, rfl, pr.1, cntF (ps.take i) - p.2.1, rfl, rfl, _, rfl, _, sz, rfl, rfl, ⟨by omega, Nat.lt_trans (log_lt (by omega)) (by decide)⟩, _, rfl, _, rfl, pr.2, cntF (ps.take i) - p.2.1, rfl, rfl, _, rfl, _, sz, rfl, rfl, ⟨by omega, Nat.lt_trans (log_lt (by omega)) (by decide)⟩, (by show 2 ≤ sizeLine; decide), fun t nt => ?_⟩
        have st := same_upd (o := .tup [.int ((pr.1 + (cntF (ps.take i) - p.2.1)) / sz), .int ((pr.2 + (cntF (ps.take i) - p.2.1)) / sz)]) nt
        have eDt := st _ _ eD
        refine ⟨_, eDt, small1000 (by omega), fun c o e => ?_, vs ++ [.ref t], upd_same, ?_⟩
        · rw [upd_ne (ne_of_none e nD)]
          exact st _ _ (sm c o e)
        · rw [et, List.map_append]
          exact Prs.upd_lst ((hvs.same st).snoc upd_same) eDt
      · obtain ⟨sm, vs, eD, hvs⟩ := hP
        rw [hzs.1, List.take_length] at hvs
        have hvl : vs.length ≤ 60 := by rw [hvs.1, List.length_map]; exact hrl
        have hwl := hws.1
        refine ⟨l, D, ws, vs, rfl, rfl, sm _ _ elT, eD, Nat.le_trans (show ws.length + vs.length ≤ 1000 by omega) (by decide), ws ++ vs, qs ++ css[i].map (mapP sz (cntF (ps.take i) - p.2.1)), _, _, _, _, rfl, fun c o hc e => ?_, upd_same, ?_, by rw [List.length_append, List.length_map]; omega, fun c => ?_⟩
        · rw [upd_ne hc]
          exact sm _ _ (sT _ _ (kx c o hc e))
        · exact Prs.upd_lst (Prs.append ((hws.same sT).same sm) hvs) (sm _ _ elT)
        · rw [inS_append, hin c, inS_mapP h1 hrr, TouchP.succ ep ecs]
    · obtain ⟨ws, qs, y4, y5, y6, y7, rfl, kx, el, hws, hql, hin⟩ := hP
      rw [hll] at hql hin
      have sx : Same H Hx := fun c o e => kx _ _ (ne_of_none e nl) (s12 _ _ e)
      refine ⟨_, rfl, l, ws, qs, rfl, Sq.list el, hws, by omega, fun l5 w5 rs5 H5 nl5 e5 hrs hset s5 => ?_⟩
      exact q l5 rs5 H5 (sx.free nl5) ⟨_, e5, hrs⟩ (hset.told.cong hin) (by have := hset.len; omega) (sx.trans s5)
end

open G3
/-! ### marked tins -/
/-- a set where it stands, as a list or a tuple -/
def SpA (H : Hp) (c : Addr) (rs : Prs2) : Prop := ∃ us, SqH H c us ∧ Prs H us rs
theorem SpA.same {H H' : Hp} {c : Addr} {rs : Prs2} (h : SpA H c rs) (s : Same H H') : SpA H' c rs := let ⟨us, e, p⟩ := h; ⟨us, e.same s, p.same s⟩
theorem SpA.pr {K : PySem.W.Frag} {H : Hp} {c : Addr} {rs : Prs2} (h : SpA H c rs) : PrA K H c rs := let ⟨us, e, p⟩ := h; ⟨us, e.sq, p⟩
theorem LsA.sp {H : Hp} {c : Addr} {rs : Prs2} (h : LsA H c rs) : SpA H c rs := let ⟨us, e, p⟩ := h; ⟨us, .inl e, p⟩
theorem putK_len (kvs : List (Key × V)) (k : Key) (v : V) : (putK kvs k v).length ≤ kvs.length + 1 := by
  unfold putK
  split
  · rw [List.length_map]; exact Nat.le_succ _
  · rw [List.length_append]; exact Nat.le_refl _
abbrev Rows := List (Str × Prs2)
/-- rows of marks with their sets -/
def RowsA (H : Hp) (vs : List V) (rows : Rows) : Prop := vs.length = rows.length ∧ ∀ (i : Nat) v r, vs[i]? = some v → rows[i]? = some r → ∃ a c, v = .ref a ∧ H a = some (.tup [.str r.1, .ref c]) ∧ SpA H c r.2
theorem RowsA.same {H H' : Hp} {vs : List V} {rows : Rows} (h : RowsA H vs rows) (s : Same H H') : RowsA H' vs rows := ⟨h.1, fun i v r e1 e2 => let ⟨a, c, e, f, g⟩ := h.2 i v r e1 e2; ⟨a, c, e, s _ _ f, g.same s⟩⟩
theorem RowsA.at {H : Hp} {vs : List V} {rows : Rows} {i : Nat} {v : V} (h : RowsA H vs rows) (e : vs[i]? = some v) : ∃ r a c, rows[i]? = some r ∧ v = .ref a ∧ H a = some (.tup [.str r.1, .ref c]) ∧ SpA H c r.2 := by
  have hi : i < rows.length := by rw [← h.1]; exact (List.getElem?_eq_some_iff.mp e).1
  obtain ⟨a, c, f⟩ := h.2 i v _ e (List.getElem?_eq_getElem hi)
  exact ⟨_, a, c, List.getElem?_eq_getElem hi, f⟩
def GoodR (rows : Rows) : Prop := (rows.map (·.1)).Nodup ∧ rows.length ≤ 12 ∧ ∀ r ∈ rows, Ris 0 r.2 ∧ r.2.length ≤ 30
/-- the tin x of the mark m is among them -/
def InM (rows : Rows) (m : Str) (x : Int) : Prop := ∃ rs, (m, rs) ∈ rows ∧ InS rs x
/-- the set of a mark -/
def setM (rows : Rows) (m : Str) : Prs2 := ((rows.find? fun r => decide (r.1 = m)).map (·.2)).getD []
theorem setM_in {rows : Rows} (h : (rows.map (·.1)).Nodup) (m : Str) (x : Int) : InS (setM rows m) x ↔ InM rows m x := by
  unfold setM InM
  cases e : rows.find? fun r => decide (r.1 = m) with
  | none =>
    refine ⟨fun z => (inS_nil z).elim, fun ⟨rs, hr, _⟩ => ?_⟩
    have := List.find?_eq_none.mp e _ hr
    exact absurd (decide_eq_true rfl) this
  | some r =>
    have hm : r.1 = m := of_decide_eq_true (List.find?_some (p := fun r : Str × Prs2 => decide (r.1 = m)) e)
    have hr := List.mem_of_find?_eq_some e
    refine ⟨fun z => ⟨r.2, hm ▸ hr, z⟩, fun ⟨rs, hrs, z⟩ => ?_⟩
    have eq : r = (m, rs) := by
      obtain ⟨i, hi, ei⟩ := List.getElem_of_mem hr
      obtain ⟨j, hj, ej⟩ := List.getElem_of_mem hrs
      have : i = j := (List.getElem_inj (h₀ := by rw [List.length_map]; exact hi) (h₁ := by rw [List.length_map]; exact hj) h).mp (by rw [List.getElem_map, List.getElem_map, ei, ej]; exact hm)
      subst this
      rw [← ei, ← ej]
    rw [eq]
    exact z
theorem setM_ok {rows : Rows} (g : GoodR rows) (m : Str) : Ris 0 (setM rows m) ∧ (setM rows m).length ≤ 30 := by
  unfold setM
  cases e : rows.find? fun r => decide (r.1 = m) with
  | none => exact ⟨True.intro, by decide⟩
  | some r => exact g.2.2 r (List.mem_of_find?_eq_some e)
/-- the dict of the first so many rows -/
def DicA (H : Hp) (kvs : List (Key × V)) (rows : Rows) (n : Nat) : Prop := (∀ i r, i < n → rows[i]? = some r → ∃ c, valV kvs (.inr r.1) = some (.ref c) ∧ SpA H c r.2) ∧ ∀ m, (∀ i r, i < n → rows[i]? = some r → r.1 ≠ m) → valV kvs (.inr m) = none
theorem DicA.same {H H' : Hp} {kvs : List (Key × V)} {rows : Rows} {n : Nat} (h : DicA H kvs rows n) (s : Same H H') : DicA H' kvs rows n := ⟨fun i r hi e => let ⟨c, f, g⟩ := h.1 i r hi e; ⟨c, f, g.same s⟩, h.2⟩
theorem SpA.upd_dK {H : Hp} {D c : Addr} {rs : Prs2} {ks : List (Key × V)} {o : HO} (h : SpA H c rs) (e : H D = some (.dK ks)) : SpA (upd H D o) c rs := by
  obtain ⟨us, h1, h2⟩ := h
  refine ⟨us, h1.imp (fun f => by rw [upd_ne (ne_of f e (fun z => nomatch z))]; exact f) (fun f => by rw [upd_ne (ne_of f e (fun z => nomatch z))]; exact f), h2.1, fun i p ep => ?_⟩
  obtain ⟨a, f1, f2⟩ := h2.2 i p ep
  exact ⟨a, f1, by rw [upd_ne (ne_of f2 e (fun z => nomatch z))]; exact f2⟩
theorem row_ne {rows : Rows} (nd : (rows.map (·.1)).Nodup) {i j : Nat} {r q : Str × Prs2} (e1 : rows[i]? = some r) (e2 : rows[j]? = some q) (h : i ≠ j) : r.1 ≠ q.1 := fun z => by
  obtain ⟨hi, ei⟩ := List.getElem?_eq_some_iff.mp e1
  obtain ⟨hj, ej⟩ := List.getElem?_eq_some_iff.mp e2
  exact h ((List.getElem_inj (h₀ := by rw [List.length_map]; exact hi) (h₁ := by rw [List.length_map]; exact hj) nd).mp (by rw [List.getElem_map, List.getElem_map, ei, ej]; exact z))
theorem DicA.put {H : Hp} {D : Addr} {kvs : List (Key × V)} {rows : Rows} {n : Nat} {r : Str × Prs2} {c : Addr} (h : DicA H kvs rows n) (nd : (rows.map (·.1)).Nodup) (er : rows[n]? = some r) (hD : H D = some (.dK kvs)) (hc : SpA H c r.2) : DicA (upd H D (.dK (putK kvs (.inr r.1) (.ref c)))) (putK kvs (.inr r.1) (.ref c)) rows (n + 1) := by
  refine ⟨fun i q hi e => ?_, fun m hm => ?_⟩
  · rw [valV_put]
    by_cases e0 : i = n
    · subst e0
      rw [er] at e
      cases e
      rw [if_pos rfl]
      exact ⟨c, rfl, hc.upd_dK hD⟩
    · have ne := row_ne nd e er e0
      rw [if_neg (fun z => ne (Sum.inr.inj z))]
      obtain ⟨c', f, g⟩ := h.1 i q (by omega) e
      exact ⟨c', f, g.upd_dK hD⟩
  · rw [valV_put, if_neg (fun z => hm n r (Nat.lt_succ_self n) er (Sum.inr.inj z).symm)]
    exact h.2 m fun i q hi e => hm i q (by omega) e
/-- what get tells: the set of the mark, or nothing -/
theorem DicA.get {H : Hp} {kvs : List (Key × V)} {rows : Rows} (h : DicA H kvs rows rows.length) (nd : (rows.map (·.1)).Nodup) (m : Str) {z : Addr} (hz : SpA H z []) : ∃ c, (valV kvs (.inr m)).getD (.ref z) = .ref c ∧ SpA H c (setM rows m) := by
  unfold setM
  cases e : rows.find? fun r => decide (r.1 = m) with
  | none =>
    refine ⟨z, ?_, hz⟩
    rw [h.2 m fun i r hi er e' => List.find?_eq_none.mp e r (List.mem_of_getElem? er) (decide_eq_true e')]
    rfl
  | some r =>
    have hm : r.1 = m := of_decide_eq_true (List.find?_some (p := fun r : Str × Prs2 => decide (r.1 = m)) e)
    obtain ⟨i, hi, ei⟩ := List.getElem_of_mem (List.mem_of_find?_eq_some e)
    obtain ⟨c, f, g⟩ := h.1 i r hi (by rw [List.getElem?_eq_getElem hi, ei])
    rw [← hm, f]
    exact ⟨c, rfl, g⟩
abbrev DcR (J : It) (g : TG) (tt : TT) (tk tv : TE) (vs : List Nat) (σ : L2.St) (D : Addr) (Qd : Hp → Prop) (H1 : Hp) : Prop := ∃ W : Nat → Nat → Hp → Prop, (∃ m, W 0 m (upd H1 D (.dK []))) ∧ ∀ i m H, W i m H →
  (J.stop i H ∧ Qd H) ∨ (J.go i H ∧ ∃ Nx : Hp → Prop, (∀ H', Nx H' → ∃ m', m' < m ∧ W (i + 1) m' H') ∧ ∀ x H', J.yld i H x H' → g x (wipe σ vs) H' fun σ2 H2 => wipe σ2 vs = wipe σ vs ∧ tt σ2 H2 fun b H3 =>
    if b = true then tk σ2 H3 fun y H4 => tv σ2 H4 fun z H5 => ∃ kvs k, y = kV k ∧ H5 D = some (.dK kvs) ∧ kvs.length < sizeLine ∧ Nx (upd H5 D (.dK (putK kvs k z))) else Nx H3)
/-- a dict comprehension over a list that stays -/
theorem dc_list {K : PySem.W.Frag} {a : Addr} {xs : List V} {g : TG} {tt : TT} {tk tv : TE} {vs : List Nat} {σ : L2.St} {H1 : Hp} {D : Addr} {Qd : Hp → Prop} (Pv : Nat → Hp → Prop) (h0 : Pv 0 (upd H1 D (.dK []))) (hl : ∀ i H, i ≤ xs.length → Pv i H → SqL K H a xs)
    (turn : ∀ i x H, xs[i]? = some x → Pv i H → g x (wipe σ vs) H fun σ2 H2 => wipe σ2 vs = wipe σ vs ∧ tt σ2 H2 fun b H3 =>
      if b = true then tk σ2 H3 fun y H4 => tv σ2 H4 fun z H5 => ∃ kvs k, y = kV k ∧ H5 D = some (.dK kvs) ∧ kvs.length < sizeLine ∧ Pv (i + 1) (upd H5 D (.dK (putK kvs k z))) else Pv (i + 1) H3) (fin : ∀ H, Pv xs.length H → Qd H) : DcR (Itl K a) g tt tk tv vs σ D Qd H1 := by
  refine ⟨fun i m H => m + i = xs.length ∧ Pv i H, ⟨xs.length, rfl, h0⟩, fun i m H ⟨e, p⟩ => ?_⟩
  have sq := hl i H (by omega) p
  rcases Nat.lt_or_ge i xs.length with lt | ge
  · exact .inr ⟨⟨xs, xs[i], sq, List.getElem?_eq_getElem lt⟩, Pv (i + 1), fun H' p' => ⟨m - 1, by omega, by omega, p'⟩, fun x H' ⟨e', y⟩ => by subst e'; exact turn i x _ (y xs sq) p⟩
  · obtain rfl : i = xs.length := by omega
    exact .inl ⟨⟨xs, sq, Nat.le_refl _⟩, fin H p⟩
theorem dc_seq {K : PySem.W.Frag} {a : Addr} {xs : List V} {g : TG} {tt : TT} {tk tv : TE} {vs : List Nat} {σ : L2.St} {H1 : Hp} {Qd : Addr → Hp → Prop} (hq : SqH H1 a xs) (Pv : Addr → Nat → Hp → Prop) (h0 : ∀ D, H1 D = none → Pv D 0 (upd H1 D (.dK []))) (still : ∀ D i H', H1 D = none → Pv D i H' → ∀ o, H1 a = some o → H' a = some o)
    (turn : ∀ D i x H, H1 D = none → xs[i]? = some x → Pv D i H → g x (wipe σ vs) H fun σ2 H2 => wipe σ2 vs = wipe σ vs ∧ tt σ2 H2 fun b H3 =>
      if b = true then tk σ2 H3 fun y H4 => tv σ2 H4 fun z H5 => ∃ kvs k, y = kV k ∧ H5 D = some (.dK kvs) ∧ kvs.length < sizeLine ∧ Pv D (i + 1) (upd H5 D (.dK (putK kvs k z))) else Pv D (i + 1) H3) (fin : ∀ D H, H1 D = none → Pv D xs.length H → Qd D H) :
    ((∃ xs, SqL K H1 a xs) ∧ ∀ D, H1 D = none → DcR (Itl K a) g tt tk tv vs σ D (Qd D) H1) ∨ ((∃ xs, SqT K H1 a xs) ∧ ∀ D, H1 D = none → DcR (Itt K a) g tt tk tv vs σ D (Qd D) H1) := by
  rcases hq with h | h
  · exact .inl ⟨⟨xs, SqL.of h⟩, fun D nD => dc_list (xs := xs) (Pv D) (h0 D nD) (fun i H' _ p => SqL.of (still D i H' nD p _ h)) (fun i x H' e p => turn D i x H' nD e p) (fun H' p => fin D H' nD p)⟩
  · exact .inr ⟨⟨xs, .inl (.inl h)⟩, fun D nD => dc_tup (xs := xs) (Pv D) (h0 D nD) (fun i H' _ p => .inl (.inl (still D i H' nD p _ h))) (fun i x H' e p => turn D i x H' nD e p) (fun H' p => fin D H' nD p)⟩
theorem ris_le : ∀ {lo : Int} {rs : Prs2}, Ris lo rs → ∀ p ∈ rs, p.1 ≤ p.2
  | _, [], _, _, h => nomatch h
  | _, q :: r, g, p, h => by
    rcases List.mem_cons.mp h with e | e
    · rw [e]; exact g.2.1
    · exact ris_le g.2.2 p e
theorem LsA.upd {H : Hp} {D a : Addr} {rs : Prs2} {xs : List V} {o : HO} (h : LsA H a rs) (n : a ≠ D) (e : H D = some (.lst xs)) : LsA (upd H D o) a rs := let ⟨us, f, p⟩ := h; ⟨us, by rw [upd_ne n]; exact f, p.upd_lst e⟩
/-- chosen as this holds -/
def Chosen (ps : List Part) (css : List Prs2) (pr : Str → Int → Prop) : Prop := ∀ (i : Nat) (p : Part) (rs : Prs2), ps[i]? = some p → css[i]? = some rs → Told (fun x => (p.2.1 ≤ x ∧ x ≤ p.2.2) ∧ pr p.1 x) rs
/-- what is chosen so far, in the list D -/
def ChW (H2 : Hp) (ps : List Part) (pr : Str → Int → Prop) (D : Addr) (j : Nat) (H' : Hp) : Prop := Same H2 H' ∧ ∃ (vs : List V) (css : List Prs2), H' D = some (.lst vs) ∧ ChA H' vs css ∧ (∀ v ∈ vs, v ≠ .ref D) ∧ css.length = j ∧ (∀ rs ∈ css, rs.length ≤ 60 ∧ ∀ p ∈ rs, p.1 ≤ p.2) ∧ Chosen ps css pr
theorem ChW.snoc {H2 H' H4 : Hp} {ps : List Part} {pr : Str → Int → Prop} {D l : Addr} {j : Nat} {p : Part} {rs : Prs2} (h : ChW H2 ps pr D j H') (nD : H2 D = none) (s : Same H' H4) (nl : H' l = none) (hl : LsA H4 l rs) (ep : ps[j]? = some p) (t : Told (fun x => (p.2.1 ≤ x ∧ x ≤ p.2.2) ∧ pr p.1 x) rs) (hz : rs.length ≤ 60) (hj : j ≤ 900) :
    ∃ acc, H4 D = some (.lst acc) ∧ acc.length < sizeLine ∧ ChW H2 ps pr D (j + 1) (upd H4 D (.lst (acc ++ [.ref l]))) := by
  obtain ⟨sm, vs, css, eD, hch, hne, hcl, hok, hcs⟩ := h
  have eD4 := s _ _ eD
  have nlD : l ≠ D := fun z => by rw [z, eD] at nl; cases nl
  have hvl : vs.length = j := by rw [hch.1, hcl]
  refine ⟨vs, eD4, small1000 (by omega), fun c o e => ?_, vs ++ [.ref l], css ++ [rs], upd_same, ?_, fun v hv => ?_, by rw [List.length_append, hcl]; rfl, fun qs hq => ?_, fun i q us e1 e2 => ?_⟩
  · rw [upd_ne (ne_of_none e nD)]
    exact s _ _ (sm c o e)
  · refine ChA.snoc ⟨hch.1, fun i v qs e1 e2 => ?_⟩ (hl.upd nlD eD4)
    obtain ⟨a, rfl, la⟩ := hch.2 i v qs e1 e2
    exact ⟨a, rfl, (la.same s).upd (fun z => hne _ (List.mem_of_getElem? e1) (by rw [z])) eD4⟩
  · rcases List.mem_append.mp hv with z | z
    · exact hne v z
    · rw [List.mem_singleton.mp z]
      exact fun e => nlD (V.ref.inj e)
  · rcases List.mem_append.mp hq with z | z
    · exact hok qs z
    · rw [List.mem_singleton.mp z]
      exact ⟨hz, let ⟨_, r⟩ := t.ris; ris_le r⟩
  · rcases Nat.lt_or_ge i css.length with lt | ge
    · rw [List.getElem?_append_left lt] at e2
      exact hcs i q us e1 e2
    · rw [List.getElem?_append_right ge] at e2
      have hi : i - css.length < 1 := (List.getElem?_eq_some_iff.mp e2).1
      have ei : i = j := by omega
      subst ei
      rw [hcl, Nat.sub_self] at e2
      rw [ep] at e1
      cases e1
      cases e2
      exact t
abbrev sWith : Stmt := topS 6
theorem scWith : FnScope ["packing", "marked", "sets", "chosen", "mark", "some", "first", "last"] ["packing", "marked"] (defScope sWith) := ⟨rfl, rfl, rfl, by decide +kernel, rfl, by decide +kernel, by decide +kernel⟩
/-- the case of a tin of which this holds -/
def WithP (sz : Int) (ps : List Part) (pr : Str → Int → Prop) (c : Int) : Prop := ∃ (i : Nat) (p : Part), ps[i]? = some p ∧ ∃ x, p.2.1 ≤ x ∧ x ≤ p.2.2 ∧ pr p.1 x ∧ (x + (cntF (ps.take i) - p.2.1)) / sz = c
theorem touch_with {sz : Int} {ps : List Part} {css : List Prs2} {pr : Str → Int → Prop} (h : Chosen ps css pr) (hl : css.length = ps.length) (c : Int) : TouchP sz ps css ps.length c ↔ WithP sz ps pr c := by
  constructor
  · rintro ⟨i, p, rs, hi, e1, e2, x, hx, e⟩
    have ⟨⟨a1, a2⟩, a3⟩ := ((h i p rs e1 e2).same x).mp hx
    exact ⟨i, p, e1, x, a1, a2, a3, e⟩
  · rintro ⟨i, p, e1, x, a1, a2, a3, e⟩
    have hi : i < ps.length := (List.getElem?_eq_some_iff.mp e1).1
    have e2 : css[i]? = some css[i] := List.getElem?_eq_getElem (by omega)
    exact ⟨i, p, _, hi, e1, e2, x, ((h i p _ e1 e2).same x).mpr ⟨⟨a1, a2⟩, a3⟩, e⟩
def spWith : Sp := fun vs H Q _ => ∃ (b a : Addr) (nm : Str) (sz : Int) (ps : List Part) (mv : List V) (rows : Rows), vs = [.ref b, .ref a] ∧ PkA H b nm sz ps ∧ SqH H a mv ∧ RowsA H mv rows ∧ GoodR rows ∧ ps.length ≤ 12 ∧ (∀ p ∈ ps, p.2.1 ≤ p.2.2) ∧ 1 ≤ sz ∧ sz ≤ 10 ^ 50 ∧ TellS (WithP sz ps (InM rows)) 720 H Q
section
variable {K : PySem.W.Frag} {mg : Str → Option Value} {P : Program} {w : World} {base : Heap}
theorem ok_with {f : Addr} {fd : FuncData} (F : Fun K "cases_with" "cases_with" sWith f fd) (CB : Cal P w K mg base 1 "both_of" ["one", "other"] (spBoth K)) (CT : Cal P w K mg base 2 "cases_touched" ["packing", "chosen"] spTouched) : FnOk P w K mg base CX0 3 f fd ["packing", "marked"] spWith := by
  refine F.ok scWith (fun vs H Q E h => ?_) (fun cdv A outer s H vs Q E hr h => ?_)
  · obtain ⟨b, a, nm, sz, ps, mv, rows, rfl, _⟩ := h
    rfl
  · obtain ⟨b, a, nm, sz, ps, mv, rows, rfl, hb, ha, hmv, hg, hpl, hle, h1, h2, q⟩ := h
    have hr1 := hr.mono (show 1 ≤ 2 by decide)
    refine ⟨_, pss_cons (ps_set (i := 2) scWith.nd rfl (.inr rfl) (pe_dc (own := [("mark", 4), ("some", 5)]) (g := gTup K 2 (gCons (gName 4) (gCons (gName 5) gNil))) (tt := tYes) (tk := tVar 4) (tv := tVar 5) rfl scWith.nd (pi_seq (pv 1))
            (blkOk_by (own := [("mark", 4), ("some", 5)]) (N := ["packing", "marked", "sets", "chosen", "mark", "some", "first", "last"]) (sc := defScope sWith) (by decide +kernel)) (fun _ _ _ _ _ => pg_tup rfl (pgs_cons (pg_name (i := 4) scWith.nd rfl (.inl rfl)) (pgs_cons (pg_name (i := 5) scWith.nd rfl (.inl rfl)) pgs_nil))) (fun _ _ _ _ _ => pts_nil) (fun _ _ _ _ _ => pv 4) (fun _ _ _ _ _ => pv 5)))
      (pss_cons (ps_setLc (i := 3) (own := [("mark", 4), ("first", 6), ("last", 7)]) (g := gTup K 3 (gCons (gName 4) (gCons (gName 6) (gCons (gName 7) gNil)))) (tt := tYes) (te := tCall (spBoth K) [] E0 (tCons (tLst (tCons (tTup (tCons (tVar 6) (tCons (tVar 7) tNil))) tNil)) (tCons (tDGet2 (tVar 2) (tVar 4) (tLst tNil)) tNil))) rfl scWith.nd rfl rfl rfl (pi_seq (pe_ix ix_tup (pv 0) pe_int (fun _ _ => rfl)))
            (blkOk_by (own := [("mark", 4), ("first", 6), ("last", 7)]) (N := ["packing", "marked", "sets", "chosen", "mark", "some", "first", "last"]) (sc := defScope sWith) (by decide +kernel)) (fun _ _ _ _ _ => pg_tup rfl (pgs_cons (pg_name (i := 4) scWith.nd rfl (.inl rfl)) (pgs_cons (pg_name (i := 6) scWith.nd rfl (.inl rfl)) (pgs_cons (pg_name (i := 7) scWith.nd rfl (.inl rfl)) pgs_nil)))) (fun _ _ _ _ _ => pts_nil) (fun _ _ _ _ _ => pe_own CB hr1 (by rfl) (pa_cons (pe_lst (pa_cons (pe_tup (pa_cons (pv 6) (pa_cons (pv 7) pa_nil))) pa_nil)) (pa_cons (pe_dget2 (Nat.lt_of_le_of_lt (Nat.add_le_add_left (show 1 ≤ 64 by decide) _) hr.units) (pv 2) (pv 4) (pe_lst pa_nil) ⟨rfl, rfl, rfl, rfl⟩) pa_nil))))
      (pss_one (ps_ret (pe_own CT hr (by rfl) (pa_cons (pv 0) (pa_cons (pv 3) pa_nil)))))), ?_⟩
    obtain ⟨a2, us, eb, ha2, hus⟩ := id hb
    refine ⟨_, rfl, a, rfl, dc_seq ha (fun D j H' => Same H H' ∧ ∃ kvs, H' D = some (.dK kvs) ∧ kvs.length ≤ j ∧ DicA H' kvs rows j) (fun D nD => ⟨same_upd nD, [], upd_same, Nat.le_refl _, (fun _ _ z => absurd z (Nat.not_lt_zero _)), fun _ _ => rfl⟩) (fun D i H' nD hP o e => hP.1 _ _ e) (fun D i x H' nD hx hP => ?_) (fun D H2 nD hP => ?_)⟩
    · obtain ⟨sm, kvs, eD, hkl, hdic⟩ := hP
      obtain ⟨r, g, c, er, rfl, eg, hc⟩ := (hmv.same sm).at hx
      have hi : i < rows.length := (List.getElem?_eq_some_iff.mp er).1
      have h12 := hg.2.1
      refine ⟨g, _, rfl, .inl (.inl eg), rfl, _, _, rfl, _, _, rfl, rfl, rfl, _, rfl, _, rfl, kvs, .inr r.1, rfl, eD, small1000 (by omega), fun b o e => ?_, _, upd_same, ?_, hdic.put hg.1 er eD hc⟩
      · rw [upd_ne (ne_of_none e nD)]
        exact sm b o e
      · have := putK_len kvs (.inr r.1) (.ref c)
        omega
    obtain ⟨s2, kvs, eD2, _, hdic⟩ := hP
    rw [hmv.1] at hdic
    -- chosen
    refine ⟨_, rfl, b, _, 2, .ref a2, rfl, rfl, .inl (.inl (s2 _ _ eb)), atI_nat (j := 2) rfl, a2, rfl, lc_seq (xs := us) (ha2.same s2).sq (ChW H2 ps (InM rows)) (fun D3 nD3 => ⟨same_upd nD3, [], [], upd_same, ChA.nil, (fun _ z => nomatch z), rfl, (fun _ z => nomatch z), (by intro i p rs e1 e2; cases e2)⟩) (fun D3 i H' nD3 hP => SqTo.same hP.1) (fun D3 i x H' nD3 hx hP => ?_) (fun D3 H3 nD3 hP => ?_)⟩
    · have sm := hP.1
      obtain ⟨p, ep, g, rfl, eg⟩ := Pts.at (Pts.same hus (s2.trans sm)) hx
      have hi : i < ps.length := (List.getElem?_eq_some_iff.mp ep).1
      have hple := hle p (List.mem_of_getElem? ep)
      refine ⟨g, _, rfl, .inl (.inl eg), rfl, _, _, rfl, _, _, rfl, _, _, rfl, rfl, rfl, ?_⟩
      refine ⟨_, rfl, _, rfl, (by show 2 ≤ sizeLine; decide), fun t nt => ⟨(by show 1 ≤ sizeLine; decide), fun l1 nl1 => ?_⟩⟩
      have st := same_upd (o := .tup [.int p.2.1, .int p.2.2]) nt
      have sl := same_upd (o := .lst [.ref t]) nl1
      have S1 := st.trans sl
      have et := sl _ _ (upd_same (H := H') (a := t) (o := .tup [.int p.2.1, .int p.2.2]))
      have el1 := upd_same (H := upd H' t (.tup [.int p.2.1, .int p.2.2])) (a := l1) (o := .lst [.ref t])
      have eD4 := S1 _ _ (sm _ _ eD2)
      have hd4 := (hdic.same sm).same S1
      refine ⟨_, rfl, D, rfl, .inl ⟨kvs, Rd.of eD4⟩, _, rfl, Nat.zero_le _, fun z nz => ?_⟩
      have sz' := same_upd (o := .lst []) nz
      obtain ⟨c, ec, hc⟩ := (hd4.same sz').get hg.1 p.1 (z := z) ⟨[], .inl upd_same, Prs.nil⟩
      refine ⟨valV kvs (.inr p.1), .inl ⟨kvs, .inr p.1, Rd.of (sz' _ _ eD4), rfl, rfl⟩, ?_⟩
      rw [ec]
      have hone : PrA K (upd (upd (upd H' t (.tup [.int p.2.1, .int p.2.2])) l1 (.lst [.ref t])) z (.lst [])) l1 [p.2] := ⟨_, Sq.list (sz' _ _ el1), rfl, fun i q e => by
        have hi0 : i < 1 := (List.getElem?_eq_some_iff.mp e).1
        obtain rfl : i = 0 := by omega
        cases e
        exact ⟨t, rfl, sz' _ _ et⟩⟩
      have ok := setM_ok hg p.1
      refine ⟨l1, c, [p.2], setM rows p.1, rfl, hone, hc.pr, ⟨p.2.1, Int.le_refl _, hple, True.intro⟩, ⟨0, ok.1⟩, (by show 1 + _ ≤ _; omega), fun l5 rs5 H5 nl5 hl5 told5 len5 s5 => ?_⟩
      have S5 := (S1.trans sz').trans s5
      refine ChW.snoc hP nD3 S5 ((S1.trans sz').free nl5) hl5 ep (told5.cong fun n => ?_) (Nat.le_trans len5 (by show 1 + _ ≤ _; omega)) (by omega)
      rw [setM_in hg.1]
      refine and_congr ⟨fun ⟨q, hq, e⟩ => ?_, fun e => ⟨p.2, List.mem_singleton.mpr rfl, e⟩⟩ Iff.rfl
      rw [List.mem_singleton.mp hq] at e
      exact e
    · obtain ⟨s3, vs, css, eD3, hch, _, hcl, hok, hcs⟩ := hP
      rw [hus.1] at hcl
      have S3 := s2.trans s3
      refine ⟨_, rfl, _, rfl, b, D3, nm, sz, ps, vs, css, rfl, hb.same S3, eD3, hch, hcl, hpl, hok, h1, h2, fun l rs H' nl hl told len s => ?_⟩
      exact q l rs H' (S3.free nl) hl (told.cong fun c => touch_with hcs hcl c) len (S3.trans s)
end

/-! ### defs that are called while nothing is being shown: str of lists within lists -/
/-- a def keeps its promise where nothing is being shown -/
structure FnG (P : Program) (w : World) (K : PySem.W.Frag) (mg : Str → Option Value) (base : Heap) (CX : CXT) (k : Nat) (f : Addr) (fd : FuncData) (ps : List Str) (sp : Sp) : Prop where
  len : ∀ (vs : List V) (H : Hp) (Q : VK) (E : XK), sp vs H Q E → vs.length = ps.length
  run : ∀ (A : Around) (outer : List Env) (s : Shared) (H : Hp) (args : Args) (us : List Value) (vs : List V) (Q : VK) (E : XK), A.guards = some [] → Room k A → Env0 P w K mg base A outer s H → BindsTo s fd args (ps.zip us) → Vals vs us → sp vs H Q E → codeAny (model P w) A (Code.call (Value.ref f) args) (CR CX outer P w H s Q E) s
section
variable {CX : CXT} {P : Program} {w : World} {K : PySem.W.Frag} {mg : Str → Option Value} {base : Heap} {k : Nat}
theorem FnG.of {f : Addr} {fd : FuncData} {ps : List Str} {sp : Sp} (F : FnOk P w K mg base CX k f fd ps sp) : FnG P w K mg base CX k f fd ps sp :=
  ⟨F.len, fun A outer s H args us vs Q E _ hr e0 hb r hsp => F.run A outer s H args us vs Q E hr e0 hb r hsp⟩
theorem fn_ofG {f : Addr} {name qual : Str} {params : Arguments} {body : List Stmt} {scope : Scope} {dV kV doc pm cdv ct oc : Value} {an od : Option Addr} {osl : Array (Option Value)} {N ps : List Str} {sp : Sp}
    (lk : List.lookup f K = some { cls := oc, dict := od, data := Data.func (PySem.W.fnOf name qual params body scope dV kV doc pm an cdv ct), slots := osl }) (hcd : PySem.W.codeIn K cdv qual = true) (S : FnScope N ps scope)
    (len : ∀ (vs : List V) (H : Hp) (Q : VK) (E : XK), sp vs H Q E → vs.length = ps.length)
    (hbody : ∀ (A : Around) (outer : List Env) (s : Shared) (H : Hp) (vs : List V) (Q : VK) (E : XK), A.guards = some [] → Room k (A.deeper (PyProof.Rows.envOfC qual scope s.heap.objs.size f cdv)) → sp vs H Q E →
      ∃ t, PSs (cxOf CX P w K mg base N qual scope f cdv A outer s H E) body t ∧ t { nx := fun _ H' => Q V.non H', rt := Q } (L2.start N vs) H) :
    FnG P w K mg base CX (k + 1) f (PySem.W.fnOf name qual params body scope dV kV doc pm an cdv ct) ps sp := by
  refine ⟨len, fun A outer s H args us vs Q E hgd hr e0 hb r hsp => ?_⟩
  have hl := len vs H Q E hsp
  have KX := PySem.W.Frag.In.keeps e0.mod.kin fun b o e => (e0.bs b o e).1
  have lim := Heap.NoLimit.keeps e0.mod.nolimit fun b o e => (e0.bs b o e).1
  refine codeAny_call_function (Room.depth hr) (KX f _ lk) rfl S.co S.gen rfl (PySem.W.codeRec_of KX hcd) (hb (model P w) A.in1 _ _ (wpAny_newFunctionEnv_cells S.kind (fun x hy => ?_) fun env he s1 x => ?_))
  · obtain ⟨n, v⟩ := x
    rcases S.par n (List.of_mem_zip hy).1 with q | q
    · exact .inl q
    · exact .inr ⟨q, PySem.W.cellsFrom_some scope.names _ [] (.inl q)⟩
  · subst he
    refine ⟨Heap.NoLimit.keeps lim x.toInCall.keep, codeAny_func ?_⟩
    obtain ⟨t, ht, hq⟩ := hbody A outer s H vs Q E hgd (Room.deeper hr _) hsp
    have I := inv_start (CX := CX) (E := E) S hr.hd e0 hl r x
    refine wpAny_mono (ht.run [] s1 (L2.start N vs) H _ I hq) (fun fl s' hs => ?_) (fun e s' hs => hs)
    cases fl with
    | ret u =>
      obtain ⟨v, σ', H', J, rv, q⟩ := hs
      exact ⟨v, H', J.os, J.bare, J.base, J.hok, rv, q⟩
    | next =>
      obtain ⟨σ', H', J, q⟩ := hs
      exact ⟨V.non, H', J.os, J.bare, J.base, J.hok, rfl, q⟩
    | _ =>
      obtain ⟨_, _, _, q⟩ := hs
      exact q.elim
theorem Fun_okG {x qual : Str} {st : Stmt} {f : Addr} {fd : FuncData} {N ps : List Str} {sp : Sp} (F : Fun K x qual st f fd) (S : FnScope N ps (defScope st))
    (len : ∀ (vs : List V) (H : Hp) (Q : VK) (E : XK), sp vs H Q E → vs.length = ps.length)
    (hbody : ∀ (cdv : Value) (A : Around) (outer : List Env) (s : Shared) (H : Hp) (vs : List V) (Q : VK) (E : XK), A.guards = some [] → Room k (A.deeper (PyProof.Rows.envOfC qual (defScope st) s.heap.objs.size f cdv)) → sp vs H Q E →
      ∃ t, PSs (cxOf CX0 P w K mg base N qual (defScope st) f cdv A outer s H E).nox (defBody st) t ∧ t { nx := fun _ H' => Q V.non H', rt := Q } (L2.start N vs) H) :
    FnG P w K mg base CX0 (k + 1) f fd ps sp := by
  obtain ⟨oc, od, kV, doc, pm, an, cdv, ct, osl, rfl, lk, hcd⟩ := F.ex
  refine fn_ofG lk hcd S len fun A outer s H vs Q E hg hr hsp => ?_
  obtain ⟨t, h, q⟩ := hbody cdv A outer s H vs Q E hg hr hsp
  exact ⟨t, PSs.nox h, q⟩
end
theorem run_fnG {X : Cx} {CX : CXT} {k : Nat} {f : Addr} {fd : FuncData} {ps : List Str} {sp : Sp} {dvs : List V} {ds : List Value} {E : XK} {pins : List (Addr × Obj)} {σ : L2.St} {H : Hp} {s : Shared} {Q : VK} {us : List Value} {vs : List V}
    (F : FnG X.prog X.w X.K X.mg X.base CX k f fd ps sp) (hgd : X.A.guards = some []) (hr : Room k X.A) (hb : Binds X.K fd ps ds) (hd : Vals dvs ds) (hx : Passes CX X E) (I : L2.Inv X pins σ H s) (r : Vals vs us) (h : sp (vs ++ dvs) H Q E) :
    wpAny (model X.prog X.w) X.A (call (Value.ref f) us) (EP X pins σ Q) X.xe s := by
  have r2 := Vals.append r hd
  have hl : (us ++ ds).length = ps.length := by rw [← Vals.length r2]; exact F.len _ _ _ _ h
  refine wpAny_call (codeAny_mono (F.run X.A X.stack s H _ _ _ Q E hgd hr (Inv.env0 I) (hb s us (Inv.kIn I) hl) r2 h) fun r s' hq => ?_)
  cases r with
  | error e => exact hx pins σ H s e s' I hq
  | ok fl =>
    cases fl with
    | ret u => exact Inv.after I hq
    | _ => exact hq.elim
/-- a def of the text that keeps a promise where nothing is being shown, as its callers see it -/
def CalG (P : Program) (w : World) (K : PySem.W.Frag) (mg : Str → Option Value) (base : Heap) (k : Nat) (x : Str) (ps : List Str) (sp : Sp) : Prop :=
  ∃ f fd, FnG P w K mg base CX0 k f fd ps sp ∧ mg x = some (.ref f) ∧ PySem.W.keepIn K (.ref f) = true ∧ Binds K fd ps []
theorem pe_ownG {X : Cx} {k : Nat} {x : Str} {ps : List Str} {sp : Sp} {e : Expr} {es : List Expr} {t : TA} {p pos : Pos} (C : CalG X.prog X.w X.K X.mg X.base k x ps sp) (hgd : X.A.guards = some []) (hr : Room k X.A) (hg : Gl X x) (ha : PA X (e :: es) t)
    (dbg : (x == ("__debug__" : Str)) = false := by decide) (one : starEach (e :: es) X.env = (false, eval e X.env) :: starEach es X.env := by rfl) (star : (backTo pos (starEach es X.env)).any (·.1) = false := by rfl) :
    PE X (.Call (.Name x p) (e :: es) [] pos) (tCall sp [] E0 t) := by
  obtain ⟨f, fd, F, hm, hk, hb⟩ := C
  refine ⟨fun pins s σ H Q I h => wpAny_Call_Name_kw (ld_glob I hg hm (PySem.W.callWith_K I.ok.mod.kin hk (thn (ha.run pos pins s σ H _ I h) fun us s1 z => ?_) one star) dbg)⟩
  obtain ⟨vs, H1, I1, r, q⟩ := z
  exact ⟨Inv.kIn I1, run_fnG F hgd hr hb .nil pass0 I1 r q⟩
/-- str of data -/
def rStrD (K : PySem.W.Frag) : List V → Hp → VK → Prop := fun xs H Q => ∃ (a : Addr) (d : PyData), xs = [.ref a] ∧ Dp K H (.ref a) d ∧ d.showable = true ∧ d.hasDict = false ∧ d.depth ≤ 8 ∧ d.shown.length ≤ sizeLine ∧ Q (.str d.shown) H
theorem cr_strD {X : Cx} (hg : X.A.guards = some []) (hu : X.A.units + 11 < cLine) : CallR X (.type "str") (rStrD X.K) := fun pins s σ H xs us Q I hv h => by
  obtain ⟨a, d, rfl, hd, h1, h2, h3, h4, q⟩ := h
  cases hv with
  | cons ru hn =>
    cases hn
    cases ru
    obtain ⟨as, hR⟩ := Dp.reads I d (.ref a) (.ref a) hd rfl
    exact str_of_reads hR h1 (fun z => by rw [h2] at z; cases z) hg (by omega) (fun b o e => e) (fun h' u tk keep => ⟨.str d.shown, H, I.kept keep, ⟨u, rfl⟩, q⟩) h4
/-! ### the end -/
theorem law_callG {P : Program} {w : World} {K : PySem.W.Frag} {mg mb : Str → Option Value} {CX : CXT} {k : Nat} {fa a : Addr} {fd : FuncData} {x : Str} {sp : Sp} {s₁ : Shared} {vs : List Value} {ns : List Int}
    (KX : K.In s₁.heap) (hns : s₁.heap.Ns mainGlobals mg) (hb : s₁.heap.Ns builtinsNs mb) (hbb : ∀ (x : Str), x ≠ Str.ofString "__name__" → mb x = bootBuiltins x) (hlim : s₁.heap.NoLimit) (hg : s₁.gens = #[])
    (ha : s₁.heap.get? a = some { cls := Value.type "list", data := Data.seq vs.toArray }) (hi : PyProof.Rows.IntsAre vs ns) (hl : ns.length ≤ sizeLine) (hr : Room k callerA)
    (F : ∀ (base : Heap), K.In base → base.Ns mainGlobals mg → FnG P w K mg base CX k fa fd [x] sp) (hbind : ∀ (s : Shared) (u : Value), BindsTo s fd { pos := [u] } [(x, u)])
    (hsp : ∀ (H : Hp), Only H → SqL K H a (List.map V.int ns) → sp [V.ref a] H (fun v _ => v = V.bl true) fun _ _ _ => False) (hCX : ∀ (H : Hp) (e : Value) (s' : Shared), CX [] H s₁ (fun _ _ _ => False) e s' → False) :
    codeAny (model P w) callerA (Code.call (Value.ref fa) { pos := [Value.ref a] }) (fun r s' => r = Except.ok (Flow.ret (Value.bool true)) ∧ OldK s₁.heap s'.heap ∧ s'.os = s₁.os ∧ PyProof.Rows.AllBare s'.gens) s₁ := by
  have rv := vals_ints hi
  have lenV := PyProof.Rows.IntsAre.length hi
  have core : ∀ H : Hp, Only H → SqL K H a (List.map V.int ns) → HOk P w H s₁.heap → (∀ b, H b ≠ none → b = a) → (H a ≠ none → List.lookup a K = none) →
      codeAny (model P w) callerA (Code.call (Value.ref fa) { pos := [Value.ref a] }) (fun r s' => r = Except.ok (Flow.ret (Value.bool true)) ∧ OldK s₁.heap s'.heap ∧ s'.os = s₁.os ∧ PyProof.Rows.AllBare s'.gens) s₁ := by
    intro H hO hS hok hA hK
    have isA : ∀ {b : Addr} {u : HO}, H b = some u → b = a := fun {b u} hh => hA b (by rw [hh]; exact fun z => nomatch z)
    have noA : ∀ {b : Addr} {o : Obj} {es ep}, s₁.heap.get? b = some o → o.data = Data.dict es ep → H b = none := by
      intro b o es ep e d
      cases hh : H b with
      | none => rfl
      | some u =>
        rw [isA hh, ha] at e
        rw [← Option.some.inj e] at d
        cases d
    have nsK : ∀ {b : Addr} {m : Str → Option Value}, s₁.heap.Ns b m → (hidT s₁.heap H).Ns b m := fun {b m} z => by
      obtain ⟨o, es, ep, e, d, r⟩ := z
      exact ⟨o, es, ep, hidT_get e (noA e d), d, r⟩
    have hKb : K.In (hidT s₁.heap H) := fun b o e => hidT_get (KX b o e) (by
      cases hh : H b with
      | none => rfl
      | some u =>
        rw [isA hh, hK (by rw [isA hh] at hh; rw [hh]; exact fun z => nomatch z)] at e
        cases e)
    have hM : L2.Mod K mg (hidT s₁.heap H) := ⟨hKb, nsK hns, ⟨mb, nsK hb, hbb⟩, let ⟨mc, h1, h2⟩ := hlim; ⟨mc, nsK h1, h2⟩⟩
    have e0 : Env0 P w K mg (hidT s₁.heap H) callerA [] s₁ H := ⟨rfl, hM, fun b o e => of_hidT e, Nat.le_of_eq (hidT_size ..), trivial, fun b hb => (nomatch hb), hok, .of_eq hg⟩
    refine codeAny_mono ((F _ hKb (nsK hns)).run callerA [] s₁ H ⟨[.ref a], []⟩ [.ref a] [.ref a] (fun v _ => v = .bl true) (fun _ _ _ => False) rfl hr e0 (hbind s₁ (.ref a)) (.cons rfl .nil) (hsp H hO hS)) fun r s' h => ?_
    cases r with
    | error e => exact (hCX H e s' h).elim
    | ok fl =>
      cases fl with
      | ret u =>
        obtain ⟨v, H', os, bare, un, hok', r', q⟩ := h
        subst q
        cases r'
        refine ⟨rfl, OldK.of_keep fun b o e => ?_, os, bare⟩
        cases hh : H b with
        | none => exact un.keep b o e hh (fun z => nomatch z) (fun z => nomatch z)
        | some u =>
          rcases hO b with z | ⟨ob, xs, z⟩
          · rw [z] at hh; cases hh
          · have z2 := un.frzs b ob (HO.lst xs) z
            have e1 := (hok b _ z).1
            have e2 := (hok' b _ z2).1
            rw [e] at e1
            rw [Option.some.inj e1]
            exact e2
      | _ => exact h.elim
  cases hk : List.lookup a K with
  | none =>
    have at_a : (fun b => if b = a then some (HO.frz { cls := Value.type "list", data := Data.seq vs.toArray } (HO.lst (List.map V.int ns))) else none : Hp) a = some (HO.frz { cls := Value.type "list", data := Data.seq vs.toArray } (HO.lst (List.map V.int ns))) := if_pos rfl
    refine core (fun b => if b = a then some (HO.frz { cls := Value.type "list", data := Data.seq vs.toArray } (HO.lst (List.map V.int ns))) else none) (fun b => ?_) (.inl (.inr ⟨_, at_a⟩)) (fun b u z => ?_) (fun b z => ?_) (fun _ => hk)
    · by_cases hb : b = a
      · exact .inr ⟨_, _, if_pos hb⟩
      · exact .inl (if_neg hb)
    · by_cases hb : b = a
      · have z' := Eq.trans (Eq.symm (if_pos hb)) z
        cases z'
        subst hb
        exact ⟨ha, by rw [List.length_map]; exact hl, vs, 0, rv, ha⟩
      · have z' := Eq.trans (Eq.symm (if_neg hb)) z
        cases z'
    · by_cases hb : b = a
      · exact hb
      · exact absurd (if_neg hb) z
  | some o =>
    have e := KX a o hk
    rw [ha] at e
    cases e
    exact core (fun _ => none) (fun _ => .inl rfl) (.inr ⟨_, vs.toArray, 0, hk, rfl, rfl, rfl, by rw [List.size_toArray, lenV]; exact hl, rv⟩) (fun b u z => nomatch z) (fun b z => absurd rfl z) (fun z => absurd rfl z)
def LawAtG (l : PySem.W.OpenLaw) (w : World) (K : PySem.W.Frag) (k : Nat) (mg : Str → Option Value) (fa : Addr) : Prop :=
  ∃ (fd : FuncData) (sp : Sp), (∀ (s : Shared) (u : Value), BindsTo s fd { pos := [u] } [("_law_script", u)]) ∧ (∀ (H : Hp) (a : Addr) (ns : List Int), ns.length ≤ 63 → SqL K H a (List.map V.int ns) → sp [V.ref a] H (fun v _ => v = V.bl true) fun _ _ _ => False) ∧
    ∀ (base : Heap), K.In base → base.Ns mainGlobals mg → FnG l.prog w K mg base CX0 k fa fd ["_law_script"] sp
theorem law_endG {l : PySem.W.OpenLaw} {k : Nat} {q : Program} {loose : List Str} {XP : (Str → Option Value) → Heap → Prop} {YP : World → Heap → Prop} {d : DefRec} {K : Params → PySem.W.Frag} (most : l.most = some 63) (plain : d.params.defaults = []) (room : Room k callerA)
    (part : ∀ w h, YP w h → (K w.params).In h) (made : ∀ (w : World) (mg : Str → Option Value) (f : Addr) (h : Heap), (K w.params).In h → h.Ns mainGlobals mg → mg d.name = some (.ref f) → LawAtG l w (K w.params) k mg f) : PySem.W.WalkO q loose XP YP l.row.toRowW d [] (fun f vs => PySem.call f vs) := by
  refine Att.attach_callB most plain ?_
  intro w _ s₁ mg _ f _ _ _ _ a vs ns ground said _ _ _ name script nums len size still
  have X := part w _ said
  obtain ⟨fd, sp, e4, e5, e6⟩ := made w mg f _ X ground.T.g name
  exact law_callG X ground.T.g ground.T.b ground.T.builtins ground.T.nolimit still script nums (Nat.le_trans len (by decide)) room e6 e4 (fun H z1 z2 => e5 H a ns len z2) fun _ _ _ z => z

/-! ### sorted of tuples that begin with keys (whole numbers, texts) -/
namespace SrtK
open PySem PyProof.Rows SrtO PySem.W
def kltB : L2.Key → L2.Key → Bool
  | .inl a, .inl b => decide (a < b)
  | .inl _, .inr _ => true
  | .inr _, .inl _ => false
  | .inr a, .inr b => decide (a.cps.toList < b.cps.toList)
theorem str_tot {a b : PySem.Str} (h1 : ¬ a.cps.toList < b.cps.toList) (h2 : ¬ b.cps.toList < a.cps.toList) : a = b := by
  have e : a.cps.toList = b.cps.toList := List.le_antisymm (List.not_lt.mp h2) (List.not_lt.mp h1)
  cases a
  cases b
  exact congrArg PySem.Str.mk (Array.toList_inj.mp e)
theorem kltB_irr (a : L2.Key) : kltB a a = false := by
  cases a with
  | inl a => exact decide_eq_false (Int.lt_irrefl a)
  | inr a => exact decide_eq_false (List.lt_irrefl a.cps.toList)
theorem kltB_asym {a b : L2.Key} (h : kltB a b = true) : kltB b a = false := by
  cases a with
  | inl a =>
    cases b with
    | inl b => exact decide_eq_false (by have := of_decide_eq_true h; omega)
    | inr b => rfl
  | inr a =>
    cases b with
    | inl b => cases h
    | inr b => exact decide_eq_false (fun z => List.lt_irrefl a.cps.toList (List.lt_trans (of_decide_eq_true h) z))
theorem kltB_tr {a b c : L2.Key} (h1 : kltB b a = false) (h2 : kltB c b = false) : kltB c a = false := by
  cases a with
  | inl a =>
    cases b with
    | inl b =>
      cases c with
      | inl c => exact decide_eq_false (by have := of_decide_eq_false h1; have := of_decide_eq_false h2; omega)
      | inr c => rfl
    | inr b =>
      cases c with
      | inl c => cases h2
      | inr c => rfl
  | inr a =>
    cases b with
    | inl b => cases h1
    | inr b =>
      cases c with
      | inl c => cases h2
      | inr c => exact decide_eq_false (List.not_lt.mpr (List.le_trans (List.not_lt.mp (of_decide_eq_false h1)) (List.not_lt.mp (of_decide_eq_false h2))))
theorem kltB_tot {a b : L2.Key} (h1 : kltB a b = false) (h2 : kltB b a = false) : a = b := by
  cases a with
  | inl a =>
    cases b with
    | inl b => exact congrArg Sum.inl (by have := of_decide_eq_false h1; have := of_decide_eq_false h2; omega)
    | inr b => cases h1
  | inr a =>
    cases b with
    | inl b => cases h2
    | inr b => exact congrArg Sum.inr (str_tot (of_decide_eq_false h1) (of_decide_eq_false h2))
def lexK : List L2.Key → List L2.Key → Bool
  | [], [] => false
  | [], _ :: _ => true
  | _ :: _, [] => false
  | a :: r, b :: s => if a = b then lexK r s else kltB a b
theorem lexK_irr : ∀ x : List L2.Key, lexK x x = false
  | [] => rfl
  | a :: r => by rw [lexK, if_pos rfl]; exact lexK_irr r
theorem lexK_asym : ∀ {x y : List L2.Key}, lexK x y = true → lexK y x = false
  | [], [], h => by cases h
  | [], _ :: _, _ => rfl
  | _ :: _, [], h => by cases h
  | a :: r, b :: s, h => by
    rw [lexK] at h ⊢
    by_cases e : a = b
    · rw [if_pos e] at h
      rw [if_pos e.symm]
      exact lexK_asym h
    · rw [if_neg e] at h
      rw [if_neg (fun z => e z.symm)]
      exact kltB_asym h
theorem lexK_tr : ∀ {x y z : List L2.Key}, lexK y x = false → lexK z y = false → lexK z x = false
  | [], [], [], _, _ => rfl
  | [], [], _ :: _, _, _ => rfl
  | [], _ :: _, [], _, h => by cases h
  | [], _ :: _, _ :: _, _, _ => rfl
  | _ :: _, [], _, h, _ => by cases h
  | _ :: _, _ :: _, [], _, h => by cases h
  | a :: x, b :: y, c :: z, h1, h2 => by
    rw [lexK] at h1 h2 ⊢
    by_cases e1 : b = a
    · subst e1
      rw [if_pos rfl] at h1
      by_cases e2 : c = b
      · subst e2
        rw [if_pos rfl] at h2 ⊢
        exact lexK_tr h1 h2
      · rw [if_neg e2] at h2 ⊢
        exact h2
    · rw [if_neg e1] at h1
      by_cases e2 : c = b
      · subst e2
        rw [if_neg e1]
        exact h1
      · rw [if_neg e2] at h2
        by_cases e3 : c = a
        · subst e3
          exact absurd (kltB_tot h1 h2) e1
        · rw [if_neg e3]
          exact kltB_tr h1 h2
theorem lexK_tot : ∀ {x y : List L2.Key}, lexK x y = false → lexK y x = false → x = y
  | [], [], _, _ => rfl
  | [], _ :: _, h, _ => by cases h
  | _ :: _, [], _, h => by cases h
  | a :: x, b :: y, h1, h2 => by
    rw [lexK] at h1 h2
    by_cases e : a = b
    · subst e
      rw [if_pos rfl] at h1 h2
      rw [lexK_tot h1 h2]
    · rw [if_neg e] at h1
      rw [if_neg (fun z => e z.symm)] at h2
      exact absurd (kltB_tot h1 h2) e
theorem swo_key {α : Type} (k : α → List L2.Key) : Swo fun x y => lexK (k x) (k y) := ⟨fun _ _ h => lexK_asym h, fun _ _ _ h1 h2 => lexK_tr h1 h2⟩
/-- of what kind: a whole number, or a text -/
def isI : L2.Key → Bool
  | .inl _ => true
  | .inr _ => false
def tyK (b : Bool) : Value := if b then .type "int" else .type "str"
/-- a tuple that begins with these keys -/
def Keyed (h : Heap) (v : Value) (ks : List L2.Key) : Prop := ∃ a o xs n us rest, v = .ref a ∧ h.get? a = some o ∧ o.cls = .type "tuple" ∧ o.data = .seq xs n ∧ xs.toList = us ++ rest ∧ L2.Vals (ks.map L2.kV) us
theorem Keyed.keeps {h h' : Heap} {v : Value} {ks : List L2.Key} (x : Keyed h v ks) (k : ∀ b o, h.get? b = some o → o.cls = .type "tuple" → h'.get? b = some o) : Keyed h' v ks := by
  obtain ⟨a, o, xs, n, us, rest, e, ho, hc, r⟩ := x
  exact ⟨a, o, xs, n, us, rest, e, k _ _ ho hc, hc, r⟩
section
variable {prog : Program} {w : World} {A : Around} {E : Value → Shared → Prop} {s : Shared} {b fin : Bool} {Q : Bool → Shared → Prop}
theorem oneLt_strs (c : Bool) {x y : PySem.Str} {t u : Tok} (h : Q (decide (x.cps.toList < y.cps.toList)) s) : wpAny (model prog w) A (oneLt' c (.str x t) (.str y u)) Q E s := by
  cases c with
  | true => exact oneLt_str h
  | false => exact kat_one _ _ (PyProof.Rows.lt_str h)
theorem kat_self : ∀ (xs : List Value) (i : Nat), Q fin s → KatLex prog w A b fin Q (xs.zip xs) i s
  | [], i, h => kat_nil h
  | x :: r, i, h => by
    rw [List.zip_cons_cons]
    exact kat_cons (SeqAt.EqAt.same x prog w _ _ (kat_yes (kat_self r (i + 1) h)))
theorem kat_keys : ∀ (ks ls : List L2.Key) (us ws rest rest' : List Value) (i : Nat), L2.Vals (ks.map L2.kV) us → L2.Vals (ls.map L2.kV) ws → ks.map isI = ls.map isI → ks ≠ ls → Q (lexK ks ls) s → KatLex prog w A b fin Q ((us ++ rest).zip (ws ++ rest')) i s
  | [], [], _, _, _, _, _, _, _, _, ne, _ => absurd rfl ne
  | [], _ :: _, _, _, _, _, _, _, _, e, _, _ => nomatch e
  | _ :: _, [], _, _, _, _, _, _, _, e, _, _ => nomatch e
  | k :: ks, l :: ls, us, ws, rest, rest', i, h1, h2, e, ne, hq => by
    cases h1 with
    | cons r1 v1 =>
      cases h2 with
      | cons r2 v2 =>
        rename_i u us' x ws'
        rw [List.cons_append, List.cons_append, List.zip_cons_cons]
        have e' : isI k = isI l ∧ ks.map isI = ls.map isI := ⟨(List.cons.inj e).1, (List.cons.inj e).2⟩
        have more : k = l → KatLex prog w A b fin Q ((us' ++ rest).zip (ws' ++ rest')) (i + 1) s := fun z => by
          subst z
          refine kat_keys ks ls us' ws' rest rest' (i + 1) v1 v2 e'.2 (fun y => ne (by rw [y])) ?_
          rw [lexK, if_pos rfl] at hq
          exact hq
        cases k with
        | inl x1 =>
          cases l with
          | inr _ => exact nomatch (show _ = _ from e'.1)
          | inl x2 =>
            obtain ⟨t1, rfl⟩ := r1
            obtain ⟨t2, rfl⟩ := r2
            refine kat_cons (SeqAt.EqAt.int_int x1 t1 x2 t2 prog w _ _ (kat_go (fun z => kat_yes (more ?_)) (fun z => kat_no (TS.oneLt_ints _ ?_))))
            · exact congrArg Sum.inl (by simpa using z)
            · have nz : ¬ x1 = x2 := by simpa using z
              rw [lexK, if_neg (fun y => nz (Sum.inl.inj y))] at hq
              exact hq
        | inr x1 =>
          cases l with
          | inl _ => exact nomatch (show _ = _ from e'.1)
          | inr x2 =>
            obtain ⟨t1, rfl⟩ := r1
            obtain ⟨t2, rfl⟩ := r2
            refine kat_cons (SeqAt.EqAt.str_str x1 t1 x2 t2 prog w _ _ (kat_go (fun z => kat_yes (more ?_)) (fun z => kat_no (oneLt_strs _ ?_))))
            · exact congrArg Sum.inr (by simpa using z)
            · have nz : ¬ x1 = x2 := by simpa using z
              rw [lexK, if_neg (fun y => nz (Sum.inr.inj y))] at hq
              exact hq
theorem key_cmp {vs : List Value} {k : Value → List L2.Key} {sh : List Bool} (hp : ∀ v ∈ vs, Keyed s.heap v (k v)) (hs : ∀ v ∈ vs, (k v).map isI = sh) (inj : ∀ v ∈ vs, ∀ u ∈ vs, k v = k u → v = u) : Cmp prog w A s (tuples' true) (fun p => p.1 ∈ vs) (lt2 fun v u => lexK (k v) (k u)) := by
  intro p q hm hm'
  obtain ⟨a, o, xs, n, us, rest, e, ho, hc, hd, hx, hv⟩ := hp _ hm
  obtain ⟨a', o', xs', n', us', rest', e', ho', hc', hd', hx', hv'⟩ := hp _ hm'
  show wpAny (model prog w) A (keyLt' (tuples' true) p.1 q.1) (fun r s' => s' = s ∧ r = lexK (k p.1) (k q.1)) (fun _ _ => False) s
  by_cases same : p.1 = q.1
  · rw [same, lexK_irr, e']
    refine kat_lt ho' hd' ho' hd' (kat_self _ 0 ⟨rfl, ?_⟩)
    exact decide_eq_false (Nat.lt_irrefl _)
  · have ne : k p.1 ≠ k q.1 := fun z => same (inj _ hm _ hm' z)
    have sh' : (k p.1).map isI = (k q.1).map isI := (hs _ hm).trans (hs _ hm').symm
    rw [e, e']
    rw [e] at hv ne sh'
    rw [e'] at hv' ne sh'
    refine kat_lt ho hd ho' hd' ?_
    rw [hx, hx']
    exact kat_keys _ _ us us' rest rest' 0 hv hv' sh' ne ⟨rfl, rfl⟩
theorem firsts_key {h : Heap} {sh : List Bool} {b : Bool} : ∀ {vs : List Value}, (∀ v ∈ vs, ∃ ks, Keyed h v ks ∧ ks.map isI = b :: sh) → ∃ fs : List Value, KatTups h vs fs ∧ fs.length = vs.length ∧ ∀ f ∈ fs, (b = true → ∃ x t, f = Value.int x t) ∧ (b = false → ∃ x t, f = Value.str x t)
  | [], _ => ⟨[], KatTups.nil, rfl, fun _ hm => by simp at hm⟩
  | v :: vs, hp => by
    obtain ⟨fs, h1, h2, h3⟩ := firsts_key (vs := vs) fun v' hm => hp v' (List.mem_cons_of_mem _ hm)
    obtain ⟨ks, ⟨a, o, xs, n, us, rest, e, ho, hc, hd, hx, hv⟩, hk⟩ := hp v (List.mem_cons_self ..)
    cases ks with
    | nil => cases hk
    | cons k ks =>
      cases hv with
      | cons r v' =>
        rename_i u us'
        subst e
        have hk0 : isI k = b := (List.cons.inj hk).1
        have hf : xs[0]? = some u := by
          rw [← Array.getElem?_toList, hx]
          rfl
        refine ⟨u :: fs, KatTups.cons ho hc hd hf h1, by rw [List.length_cons, List.length_cons, h2], fun f hm => ?_⟩
        rcases List.mem_cons.mp hm with rfl | hm
        · cases k with
          | inl x =>
            obtain ⟨t, rfl⟩ := r
            exact ⟨fun _ => ⟨x, t, rfl⟩, (fun z => nomatch (show _ = _ from hk0.trans z))⟩
          | inr x =>
            obtain ⟨t, rfl⟩ := r
            exact ⟨(fun z => nomatch (show _ = _ from hk0.trans z)), fun _ => ⟨x, t, rfl⟩⟩
        · exact h3 f hm
theorem key_sortable {a : Addr} {vs : List Value} {k : Value → List L2.Key} {b : Bool} {sh : List Bool} (h0 : 0 < vs.length) (hp : ∀ v ∈ vs, Keyed s.heap v (k v)) (hs : ∀ v ∈ vs, (k v).map isI = b :: sh) (inj : ∀ v ∈ vs, ∀ u ∈ vs, k v = k u → v = u) (ha : ∀ o, s.heap.get? a = some o → o.cls ≠ .type "tuple") : SortableO prog w A s a vs fun v u => lexK (k v) (k u) := by
  intro h' keep
  have hp' : ∀ v ∈ vs, Keyed h' v (k v) := fun v hm => (hp v hm).keeps fun b o e c => keep b o (fun z => by subst z; exact ha o e c) e
  obtain ⟨fs, h1, h2, h3⟩ := firsts_key (sh := sh) (b := b) fun v hm => ⟨_, hp' v hm, hs v hm⟩
  refine ⟨tuples' true, fun Q E hq => ?_, key_cmp hp' hs inj⟩
  cases b with
  | true =>
    refine kat_kind (T := .type "int") h1 (by omega) (fun f hm => ?_) (by rfl) ?_
    · obtain ⟨x, t, rfl⟩ := (h3 f hm).1 rfl
      exact Looks.now
    · have e : (Value.type "int" != Value.type "tuple") = true := by first | decide +kernel | rfl | decide
      rw [e]
      exact hq
  | false =>
    refine kat_kind (T := .type "str") h1 (by omega) (fun f hm => ?_) (by rfl) ?_
    · obtain ⟨x, t, rfl⟩ := (h3 f hm).2 rfl
      exact Looks.now
    · have e : (Value.type "str" != Value.type "tuple") = true := by first | decide +kernel | rfl | decide
      rw [e]
      exact hq
end
end SrtK
open SrtK in
/-- sorted(xs), xs a list of tuples that begin with keys of the same kinds, no two alike -/
def rSortedK (K : PySem.W.Frag) : List V → Hp → VK → Prop := fun vs H Q => ∃ (a : Addr) (xs : List V) (k : V → List L2.Key) (b : Bool) (sh : List Bool), vs = [V.ref a] ∧ SqL K H a xs ∧ (∀ x ∈ xs, (k x).map isI = b :: sh ∧ ∃ t rest, x = V.ref t ∧ H t = some (.tup ((k x).map kV ++ rest))) ∧ (∀ x ∈ xs, ∀ y ∈ xs, k x = k y → x = y) ∧
  ∀ ys p, SrtO.Srtd (fun x y => lexK (k x) (k y)) ys → SrtO.Stb (fun x y => lexK (k x) (k y)) ys xs → H p = none → Q (.ref p) (upd H p (.lst ys))
theorem vals_front {H : Hp} : ∀ {xs ys : List V} {us : List Value}, Vals (xs ++ ys) us → ∃ u1 u2, us = u1 ++ u2 ∧ Vals xs u1
  | [], ys, us, _ => ⟨[], us, rfl, .nil⟩
  | x :: xs, ys, us, h => by
    cases h with
    | cons r v =>
      obtain ⟨u1, u2, e, v1⟩ := vals_front (H := H) v
      exact ⟨_ :: u1, u2, by rw [e]; rfl, .cons r v1⟩
theorem cr_sortedK {X : Cx} : CallR X (.builtin "sorted") (rSortedK X.K) := by
  intro pins s σ H vs us Q I r h
  obtain ⟨a, xs, k, b, sh, rfl, hs, hx, inj, q⟩ := h
  obtain ⟨its, rv, hl, hz⟩ := I.list hs
  obtain ⟨u, rfl, ru⟩ := vals1 r
  obtain rfl : u = Value.ref a := ru
  obtain ⟨e1, e2⟩ := refs_back rv fun x m => by
    obtain ⟨_, t, _, e, _⟩ := hx x m
    exact ⟨t, e⟩
  have mem : ∀ v ∈ its, backV v ∈ xs := fun v hv => by rw [e1]; exact List.mem_map.mpr ⟨_, hv, rfl⟩
  have hp : ∀ v ∈ its, SrtK.Keyed s.heap v (k (backV v)) := fun v hv => by
    obtain ⟨t, rfl⟩ := e2 v hv
    obtain ⟨_, t', rest, e, ht⟩ := hx _ (mem _ hv)
    cases e
    obtain ⟨_, its2, r2, o, ho, hc, n, hd⟩ := I.hok _ _ ht
    obtain ⟨u1, u2, eu, v1⟩ := vals_front (H := H) r2
    exact ⟨t, o, its2.toArray, n, u1, u2, rfl, ho, hc, hd, eu, v1⟩
  refine SrtO.sorted_ord (SrtK.swo_key fun v => k (backV v)) hl.isList (by rw [← rv.length]; exact hz) (fun h2 h₁ a' ha kk => ?_) fun out o1 o2 => ?_
  · refine SrtK.key_sortable (s := { s with heap := h₁ }) (b := b) (sh := sh) (by omega) (fun v hm => (hp v hm).keeps fun b o e _ => (kk b o e).2) (fun v hv => (hx _ (mem v hv)).1) (fun v hv u hu e => ?_) fun o e => ?_
    · have z := inj _ (mem v hv) _ (mem u hu) e
      obtain ⟨t, rfl⟩ := e2 v hv
      obtain ⟨t', rfl⟩ := e2 u hu
      exact congrArg Value.ref (V.ref.inj z)
    · have e' : some o = some (seqObj "list" its.toArray 0) := e.symm.trans ha
      cases e'
      intro c
      exact absurd (Value.type.inj c) (by decide)
  · have h3 : ∀ u ∈ out, ∃ a, u = Value.ref a := fun u hu => e2 u (o2.perm.mem_iff.mp hu)
    obtain ⟨n, hn⟩ := sortedAll_at s.heap its out.toArray
    have hb : SrtO.Stb (fun x y => SrtK.lexK (k x) (k y)) (out.map backV) xs := by
      rw [e1]
      exact SrtO.Stb.map (SrtK.swo_key k) backV o2
    refine ⟨.ref _, upd H (s.heap.objs.size + 1) (.lst (out.map backV)), I.laid (t' := s.toks) (fun _ _ => sortedAll_old) (Nat.le_succ _) ⟨?_, out, n, vals_back h3, hn⟩, rfl, q _ _ (SrtO.srtd_map o1) hb (I.hok.fresh (Nat.le_succ _))⟩
    rw [hb.len]
    exact hz

/-! ### sorted(set(xs)) of a list of whole numbers, however many -/
section
variable {P : Program} {w : World} {A : Around} {E : Value → Shared → Prop} {s : Shared}
/-- a new, empty set's object -/
abbrev set0 (w : World) : Obj := { cls := .type "set", dict := none, data := .set #[] 0 (.fresh 0 0 (!w.params.followText "set-order")) }
set_option maxRecDepth 100000 in
set_option maxHeartbeats 3200000 in
theorem set_from_list {from_ : Addr} {vs : Array Value} (nums : List Int) {Qv : Value → Shared → Prop} (calm : A.handled = none) (isl : s.heap.IsList from_ vs) (isN : IntsAre vs.toList nums) (few : nums.length + 1 < scanBound)
    (end_ : ∀ (hp' : Heap) (tk c : Nat), SetR w hp' s.heap.objs.size (fun j => decide (j ∈ nums)) c → c ≤ nums.length → (∀ b o, s.heap.get? b = some o → hp'.get? b = some o) → Qv (.ref s.heap.objs.size) { s with heap := hp', toks := tk }) :
    wpAny (model P w) A (call (.type "set") [.ref from_]) Qv E s := by
  have size_is : vs.size = nums.length := by
    rw [← Array.length_toList]
    exact IntsAre.length isN
  obtain ⟨c0, tl0, mro0⟩ := F.called_set.mro
  have made0 := F.called_set.made
  have sub0 := F.called_set.sub
  refine wpAny_call (codeAny_of_tree ?_)
  show wpAny _ _ (callAny (.type "set") _) _ _ _
  refine wpAny_pure ⟨Code.quiet_builtin _ (by decide +kernel), codeAny_builtin F.entry_type_call ?_⟩ -- the type is called
  rw [Around.under_plain (weight_type_call_type "set" [.ref from_] []) rfl]
  have no_type := F.called_set.notType
  have can_make := F.called_set.canCreate
  have checked := F.typeCall_set_1 (.ref from_)
  repeat (any_goals (first | assumption | wp_step | fail))
  refine codeAny_mono (code_set_led1 (.ref from_) (E := E) (Q₁ := fun made st => made = .ref s.heap.objs.size ∧ st = { s with heap := s.heap.push (set0 w) }) ⟨rfl, rfl⟩) fun r1 st1 told => ?_
  cases r1 with
  | error e => exact told
  | ok fl =>
    cases fl with
    | ret made =>
      obtain ⟨rfl, rfl⟩ := told
      have here : (s.heap.push (set0 w)).get? s.heap.objs.size = some (set0 w) := Heap.get?_push_size _ rfl
      have isS : Shared.TypeIs { s with heap := s.heap.push (set0 w) } (.ref s.heap.objs.size) "set" := ⟨_, here, rfl⟩
      have look := F.called_set.init.lookup
      have bnd := F.called_set.init.bind (.ref s.heap.objs.size)
      repeat (any_goals (first | assumption | wp_step | fail))
      refine codeAny_mono (codeAny_call_builtin (R := wants (fun r st => r = .none ∧ ∃ hp' tk c, st = { s with heap := hp', toks := tk } ∧ SetR w hp' s.heap.objs.size (fun j => decide (j ∈ nums)) c ∧ c ≤ nums.length ∧ (∀ b o, s.heap.get? b = some o → hp'.get? b = some o)) E) F.called_set.init.plain F.entry_set_init (check_set_init_1 isS ?_)) fun r2 st2 told2 => ?_
      · obtain ⟨ol, got, clsl, nl, datal⟩ := isl
        obtain ⟨ocls, odict, odata, oslots⟩ := ol
        simp only at clsl datal
        subst clsl; subst datal
        have got' : (s.heap.push (set0 w)).get? from_ = some { cls := .type "list", dict := odict, data := .seq vs nl, slots := oslots } := Heap.get?_push_of_some _ got
        have sub1 := F.sub_list_set
        have sub2 := F.sub_list_frozenset
        have no_dict : (Value.type "list" == Value.type "dict") = false := by decide
        have isl1 : (s.heap.push (set0 w)).IsList from_ vs := ⟨_, got', rfl, nl, rfl⟩
        unfold Builtin.«set.__init__» noKeywords Builtin.Frozenset.updateFrom -- its init
        generalize keepP : pyIter = PI
        wp_walk
        subst keepP
        refine wpAny_pyIter_list isl1 (wpAny_bind (wpAny_runValue ?_))
        have lt0 : from_ < s.heap.objs.size := Heap.lt_size got
        have calm3 : A.in1.in1.in1.handled = none := by simp [calm]
        have ne1 : from_ ≠ (s.heap.push (set0 w)).objs.size := by
          rw [Heap.size_push]
          exact Nat.ne_of_lt (Nat.lt_succ_of_lt lt0)
        have apart : s.heap.objs.size ∉ [(s.heap.push (set0 w)).objs.size, from_] := by
          rw [Heap.size_push]
          simp only [List.mem_cons, List.mem_singleton, List.not_mem_nil, or_false, not_or] -- both
          exact ⟨Nat.ne_of_lt (Nat.lt_succ_self _), Nat.ne_of_gt lt0⟩
        have vals : ∀ (i : Nat) (v : Value), vs[i]? = some v → ∃ k t, nums[i]? = some k ∧ v = .int k t := fun i v at_ => by
          have lt : i < nums.length := by
            rw [← size_is]
            exact (Array.getElem?_eq_some_iff.mp at_).1
          obtain ⟨t, e⟩ := PyProof.Rows.IntsAre.int_at isN i v (by rw [Array.getElem?_toList]; exact at_)
          refine ⟨nums[i], t, List.getElem?_eq_getElem lt, ?_⟩
          rw [e, List.getD_eq_getElem?_getD, List.getElem?_eq_getElem lt]
          rfl
        refine set_update_ints ((Walks.list calm3 _ from_ ne1 vs).toS) s.heap.objs.size apart nums size_is few vals (vs.size - 0) 0 _ (by omega) (Nat.zero_le _) ⟨⟨_, Heap.get?_push_size _ rfl, rfl, rfl⟩, (isl1.push _)⟩ ⟨0, Nat.le_refl 0, setR_new_at (Heap.get?_push_of_some _ here)⟩ ?_
        intro st3 c3 moved le3 set3
        obtain ⟨hp3, g3, d3, tk3, os3⟩ := st3
        obtain rfl : g3 = s.gens := moved.gens
        obtain rfl : d3 = s.drawn := moved.drawn
        obtain rfl : os3 = s.os := moved.os
        show wpAny _ _ _ _ _ _
        refine wpAny_pure ?_
        show wpAny _ _ (ret Value.none) _ _ _
        rw [size_is] at le3
        refine wpAny_pure ⟨rfl, hp3, tk3, c3, rfl, set3, le3, fun b o e => ?_⟩
        have lt1 : b < s.heap.objs.size := Heap.lt_size e
        refine moved.heap b o (fun z => ?_) (Heap.get?_push_of_some _ (Heap.get?_push_of_some _ e))
        rcases List.mem_cons.mp z with z | z
        · exact absurd z (Nat.ne_of_lt lt1)
        · have z' := List.mem_singleton.mp z
          rw [Heap.size_push] at z'
          exact absurd z' (Nat.ne_of_lt (Nat.lt_succ_of_lt lt1))
      · cases r2 with
        | error e => exact told2
        | ok fl2 =>
          cases fl2 with
          | ret r =>
            obtain ⟨rfl, hp', tk, c', rfl, z1, z2, z3⟩ := told2
            repeat (any_goals (first | assumption | wp_step | fail))
            exact end_ _ _ _ z1 z2 z3
          | _ => exact told2.elim
    | _ => exact told.elim
/-- sorted of a set of whole numbers -/
theorem sorted_of_set {a : Addr} {S : Int → Bool} {n : Nat} {Qv : Value → Shared → Prop} (R : SetR w s.heap a S n) (calm : A.handled = none)
    (end_ : ∀ st p (out : Array Value) (c : Nat) (ns : List Int), (∀ b o, s.heap.get? b = some o → st.heap.get? b = some o) → st.gens = s.gens → st.os = s.os → s.heap.objs.size ≤ p → st.heap.get? p = some (seqObj "list" out c) → IntsAre out.toList ns → ns.Pairwise (· < ·) → (∀ k, k ∈ ns ↔ S k = true) → ns.length = n → Qv (.ref p) st) :
    wpAny (model P w) A (call (.builtin "sorted") [.ref a]) Qv E s := by
  obtain ⟨o, es, ep, t, ho, hex, hd, g, nd, hm, hb, hf, hn, hr, hl⟩ := R -- what a set's object is
  refine Calls.call_function_entry kind_sorted plain_sorted entry_sorted (args_sorted1 _) ?_ -- called
  unfold Builtin.«sorted»
  refine wpAny_bind (m := checkCount "sorted" 1 1 _) (wpAny_pure (wpAny_bind (collect_set (A := A.in1) calm ⟨o, ho, hex.1, hd⟩ hf hb hr hl fun s1 vs k1 hz g1 o1 pm => ?_)))
  have long : vs.length ≤ sizeLine := by
    rw [pm.length_eq, List.length_map, Array.length_toList]
    exact fits_of_scanBound hb
  have isI := ints_of vs fun v hv => by
    obtain ⟨e, he, q⟩ := List.mem_map.mp (pm.mem_iff.mp hv)
    obtain ⟨k, tk, h1, _⟩ := g e he
    exact ⟨k, tk, by rw [← q]; exact h1⟩
  have keys : (vs.map Builtin.Re.reRawOf).Perm (es.toList.map keyOf) := by
    have q := pm.map Builtin.Re.reRawOf
    rwa [List.map_map] at q
  refine wpAny_bind (wpAny_newList ?_ long)
  have new1 : (s1.heap.push (seqObj "list" vs.toArray 0)).get? s1.heap.objs.size = some (seqObj "list" vs.toArray 0) := Heap.get?_push_size _ rfl
  refine wpAny_bind (wpAny_holding (wpAny_call_entry slot_list_sort ⟨_, new1, rfl⟩ entry_list_sort (SrtO.list_sort_ord SrtO.swo_int new1 long (fun two => SrtO.ints_sortable isI two) fun out w1 w2 => ⟨_, rfl, ?_⟩) (args_list_sort _)))
  obtain ⟨i1, i2, i3⟩ := SrtO.ints_out isI w1 w2
  obtain ⟨c, hc⟩ := sortedHeap_at (vs := vs) (out := out.toArray) new1
  have pn := i2.trans keys
  refine wpAny_pure ⟨_, rfl, end_ _ s1.heap.objs.size out.toArray c _ (fun b u e => ?_) g1 o1 hz hc i1 (lt_of_le_nodup _ i3 (pn.nodup_iff.mpr nd)) (fun k => by rw [pn.mem_iff, ← hm k]) (by rw [pn.length_eq, List.length_map, Array.length_toList]; exact hn)⟩
  have q := k1 b u e
  have lt := Heap.lt_size q
  show (sortedHeap (s1.heap.push (seqObj "list" vs.toArray 0)) s1.heap.objs.size vs out.toArray).get? b = some u
  rw [sortedHeap_old (Nat.ne_of_lt lt) (by rw [size_push']; exact Nat.lt_succ_of_lt lt)]
  exact Heap.get?_push_of_some _ q
end
/-- sorted(set(xs)) -/
def tSortedSet (K : PySem.W.Frag) (ta : TE) : TE := fun σ H Q => ta σ H fun x H1 => ∃ (l : Addr) (ns : List Int), x = .ref l ∧ SqL K H1 l (ns.map V.int) ∧ ns.length ≤ 4000 ∧ ∀ (ms : List Int) (p : Addr), ms.Pairwise (· < ·) → (∀ k, k ∈ ms ↔ k ∈ ns) → H1 p = none → Q (.ref p) (upd H1 p (.lst (ms.map V.int)))
theorem pe_sortedSet {X : Cx} {a : Expr} {ta : TE} {p p2 q pos : Pos} (hg : Gl X "sorted") (hm : X.mg "sorted" = none) (hg2 : Gl X "set") (hm2 : X.mg "set" = none) (ha : PE X a ta) (hc : X.calm = true := by rfl)
    (na : starEach [a] X.env = (false, eval a X.env) :: starEach [] X.env := by rfl) : PE X (.Call (.Name "sorted" p) [.Call (.Name "set" p2) [a] [] q] [] pos) (tSortedSet X.K ta) := by
  refine ⟨fun pins s σ H Q I h => Call_ (ld_blt I hg hm boot_sorted ?_)⟩
  refine PyProof.Rows.callWith_builtin1 (PyProof.Rows.args_cons (Call_ (ld_blt I hg2 hm2 boot_set ?_)) rfl) rfl rfl
  refine PyProof.Rows.callWith_type1 (PyProof.Rows.args_cons (thn (ha.run pins s σ H _ I h) fun v s1 ⟨x, H1, I1, r1, q1⟩ => PyProof.Rows.args_nil ?_) na) na rfl -- set(..)
  obtain ⟨l, ns, rfl, sq, few, q1⟩ := q1
  cases r1
  obtain ⟨its, r, pl, hz⟩ := I1.list sq
  refine set_from_list ns (I1.ok.hd hc) pl.isList (by simpa using RZ.intsAre_vals r) (by unfold scanBound; omega) fun hp' tk c hS le kept => PyProof.Rows.args_nil ?_
  have I2 : Inv X pins σ H1 { s1 with heap := hp', toks := tk } := I1.kept kept
  refine sorted_of_set (s := { s1 with heap := hp', toks := tk }) hS (I1.ok.hd hc) fun st p out c' ms k g o hp hg' isI up mem cnt => ?_
  have len : (ms.map V.int).length ≤ sizeLine := by
    rw [List.length_map, sizeLine_eq]
    omega
  have new : H1 p = none := I2.hok.fresh hp
  have J : Inv X pins σ (upd H1 p (.lst (ms.map V.int))) { ({ s1 with heap := hp', toks := tk } : Shared) with heap := st.heap, gens := st.gens, drawn := st.drawn, toks := st.toks } :=
    I2.call (ch := []) (Un.laid k hp new) (I2.hok.laid k hp ⟨len, out.toList, c', vals_of_ints isI, hg'⟩) (by rw [g]; exact I2.bare) (fun _ z => nomatch z)
  have e : st = { s1 with heap := st.heap, gens := st.gens, drawn := st.drawn, toks := st.toks } := by
    cases st
    cases s1
    cases o
    rfl
  rw [e]
  exact ⟨.ref p, _, J, rfl, q1 ms p up (fun k => ⟨fun z => of_decide_eq_true ((mem k).mp z), fun z => (mem k).mpr (decide_eq_true z)⟩) new⟩

/-- an expression, then a word of what it gives: what follows is shown once -/
def tMid (te : TE) : TE := fun σ H Q => ∃ M : V → Hp → Prop, te σ H M ∧ ∀ v H', M v H' → Q v H'
theorem pe_mid {X : Cx} {e : Expr} {te : TE} (h : PE X e te) : PE X e (tMid te) := ⟨fun pins s σ H Q I ⟨M, h1, h2⟩ => thn (h.run pins s σ H M I h1) fun _ _ ⟨y, H1, I1, r, q⟩ => ⟨y, H1, I1, r, h2 _ _ q⟩⟩

/-! ### things as data; of the lists among them this holds -/
inductive DatN (N : Addr → Prop) (H : Hp) : V → PyData → Prop
  | non : DatN N H .non .none
  | bl (b : Bool) : DatN N H (.bl b) (.bool b)
  | int (i : Int) : DatN N H (.int i) (.int i)
  | str (x : Str) : DatN N H (.str x) (.str x)
  | lst {a : Addr} {xs : List V} {ds : List PyData} : N a → H a = some (.lst xs) → xs.length = ds.length → (∀ (i : Nat) x d, xs[i]? = some x → ds[i]? = some d → DatN N H x d) → DatN N H (.ref a) (.list ds)
  | tup {a : Addr} {xs : List V} {ds : List PyData} : H a = some (.tup xs) → xs.length = ds.length → (∀ (i : Nat) x d, xs[i]? = some x → ds[i]? = some d → DatN N H x d) → DatN N H (.ref a) (.tuple ds)
/-- tuples stay, and the lists of which this holds -/
structure Kps (N : Addr → Prop) (H H' : Hp) : Prop where
  tup : ∀ a xs, H a = some (.tup xs) → H' a = some (.tup xs)
  lst : ∀ a xs, N a → H a = some (.lst xs) → H' a = some (.lst xs)
theorem Kps.same {N : Addr → Prop} {H H' : Hp} (s : Same H H') : Kps N H H' := ⟨fun a xs e => s a _ e, fun a xs _ e => s a _ e⟩
theorem Kps.kp {N : Addr → Prop} {H H' : Hp} {d c : Addr} {t : Int} (k : Kp d c H H') (S : StAt H d c t) (hN : ∀ a, N a → a ≠ c) : Kps N H H' :=
  ⟨fun a xs e => k.tup S e, fun a xs n e => k a _ (fun z => by rw [z, S.dict] at e; cases e) (hN a n) e⟩
theorem Kps.upd {N : Addr → Prop} {H : Hp} {D : Addr} {ys : List V} {o : HO} (e : H D = some (.lst ys)) (hN : ∀ a, N a → a ≠ D) : Kps N H (upd H D o) :=
  ⟨fun a xs f => by rw [upd_ne (ne_of f e (fun z => nomatch z))]; exact f, fun a xs n f => by rw [upd_ne (hN a n)]; exact f⟩
theorem Kps.upd_dK {N : Addr → Prop} {H : Hp} {D : Addr} {ks : List (Key × V)} {o : HO} (e : H D = some (.dK ks)) : Kps N H (L2.upd H D o) :=
  ⟨fun a xs f => by rw [upd_ne (ne_of f e (fun z => nomatch z))]; exact f, fun a xs n f => by rw [upd_ne (ne_of f e (fun z => nomatch z))]; exact f⟩
theorem Kps.trans {N : Addr → Prop} {H H1 H2 : Hp} (a : Kps N H H1) (b : Kps N H1 H2) : Kps N H H2 := ⟨fun x xs e => b.tup x xs (a.tup x xs e), fun x xs n e => b.lst x xs n (a.lst x xs n e)⟩
theorem DatN.keep {N : Addr → Prop} {H H' : Hp} {v : V} {d : PyData} (h : DatN N H v d) (k : Kps N H H') : DatN N H' v d := by
  induction h with
  | non => exact .non
  | bl b => exact .bl b
  | int i => exact .int i
  | str x => exact .str x
  | lst n e l _ ih => exact .lst n (k.lst _ _ n e) l ih
  | tup e l _ ih => exact .tup (k.tup _ _ e) l ih
theorem DatN.same {N : Addr → Prop} {H H' : Hp} {v : V} {d : PyData} (h : DatN N H v d) (s : Same H H') : DatN N H' v d := h.keep (.same s)
theorem DatN.weak {N N' : Addr → Prop} {H : Hp} {v : V} {d : PyData} (h : DatN N H v d) (w : ∀ a xs, N a → H a = some (.lst xs) → N' a) : DatN N' H v d := by
  induction h with
  | non => exact .non
  | bl b => exact .bl b
  | int i => exact .int i
  | str x => exact .str x
  | lst n e l _ ih => exact .lst (w _ _ n e) e l ih
  | tup e l _ ih => exact .tup e l ih
theorem DatN.dat {N : Addr → Prop} {H : Hp} {v : V} {d : PyData} (h : DatN N H v d) : Dat H v d := by
  induction h with
  | non => exact .non
  | bl b => exact .bl b
  | int i => exact .int i
  | str x => exact .str x
  | lst n e l _ ih => exact .lst e l ih
  | tup e l _ ih => exact .tup e l ih
theorem dpAll_of {K : PySem.W.Frag} {H : Hp} : ∀ {xs : List V} {ds : List PyData}, xs.length = ds.length → (∀ (i : Nat) x d, xs[i]? = some x → ds[i]? = some d → Dp K H x d) → DpAll K H xs ds
  | [], [], _, _ => .nil
  | [], _ :: _, e, _ => nomatch e
  | _ :: _, [], e, _ => nomatch e
  | x :: xs, d :: ds, e, h => .cons (h 0 x d rfl rfl) (dpAll_of (Nat.succ.inj e) fun i y c e1 e2 => h (i + 1) y c e1 e2)
theorem DatN.dp {K : PySem.W.Frag} {N : Addr → Prop} {H : Hp} {v : V} {d : PyData} (h : DatN N H v d) : Dp K H v d := by
  induction h with
  | non => exact .non
  | bl b => exact .bl b
  | int i => exact .int i
  | str x => exact .str x
  | lst n e l _ ih => exact .lst (SqL.of e) (dpAll_of l ih)
  | tup e l _ ih => exact .tup (.inl (.inl e)) (dpAll_of l ih)
/-- things one by one as data -/
def EchN (N : Addr → Prop) (H : Hp) (xs : List V) (ds : List PyData) : Prop := xs.length = ds.length ∧ ∀ (i : Nat) x d, xs[i]? = some x → ds[i]? = some d → DatN N H x d
theorem EchN.keep {N : Addr → Prop} {H H' : Hp} {xs : List V} {ds : List PyData} (h : EchN N H xs ds) (k : Kps N H H') : EchN N H' xs ds := ⟨h.1, fun i x d e1 e2 => (h.2 i x d e1 e2).keep k⟩
theorem EchN.same {N : Addr → Prop} {H H' : Hp} {xs : List V} {ds : List PyData} (h : EchN N H xs ds) (s : Same H H') : EchN N H' xs ds := h.keep (.same s)
theorem EchN.weak {N N' : Addr → Prop} {H : Hp} {xs : List V} {ds : List PyData} (h : EchN N H xs ds) (w : ∀ a xs, N a → H a = some (.lst xs) → N' a) : EchN N' H xs ds := ⟨h.1, fun i x d e1 e2 => (h.2 i x d e1 e2).weak w⟩
theorem EchN.nil {N : Addr → Prop} {H : Hp} : EchN N H [] [] := ⟨rfl, fun _ _ _ e => nomatch e⟩
theorem EchN.cons {N : Addr → Prop} {H : Hp} {x : V} {d : PyData} {xs : List V} {ds : List PyData} (h : DatN N H x d) (hr : EchN N H xs ds) : EchN N H (x :: xs) (d :: ds) :=
  ⟨congrArg (· + 1) hr.1, fun i y e e1 e2 => by
    cases i with
    | zero => cases e1; cases e2; exact h
    | succ i => exact hr.2 i y e e1 e2⟩
theorem EchN.one {N : Addr → Prop} {H : Hp} {x : V} {d : PyData} (h : DatN N H x d) : EchN N H [x] [d] := .cons h .nil
theorem getElem?_two {α β : Type} {xs ys : List α} {us ws : List β} (l : xs.length = us.length) {i : Nat} {x : α} {u : β} (e1 : (xs ++ ys)[i]? = some x) (e2 : (us ++ ws)[i]? = some u) : (xs[i]? = some x ∧ us[i]? = some u) ∨ (ys[i - xs.length]? = some x ∧ ws[i - xs.length]? = some u) := by
  by_cases hi : i < xs.length
  · rw [List.getElem?_append_left hi] at e1
    rw [List.getElem?_append_left (by omega)] at e2
    exact .inl ⟨e1, e2⟩
  · rw [List.getElem?_append_right (by omega)] at e1 e2
    rw [← l] at e2
    exact .inr ⟨e1, e2⟩
theorem EchN.app {N : Addr → Prop} {H : Hp} {xs ys : List V} {ds es : List PyData} (h : EchN N H xs ds) (h' : EchN N H ys es) : EchN N H (xs ++ ys) (ds ++ es) :=
  ⟨by rw [List.length_append, List.length_append, h.1, h'.1], fun i v p e1 e2 => (getElem?_two h.1 e1 e2).elim (fun z => h.2 i v p z.1 z.2) (fun z => h'.2 _ v p z.1 z.2)⟩
theorem EchN.snoc {N : Addr → Prop} {H : Hp} {xs : List V} {ds : List PyData} {x : V} {d : PyData} (h : EchN N H xs ds) (h' : DatN N H x d) : EchN N H (xs ++ [x]) (ds ++ [d]) := h.app (.one h')
theorem EchN.at {N : Addr → Prop} {H : Hp} {xs : List V} {ds : List PyData} {i : Nat} {x : V} (h : EchN N H xs ds) (e : xs[i]? = some x) : ∃ d, ds[i]? = some d ∧ DatN N H x d := by
  have hi : i < ds.length := by rw [← h.1]; exact (List.getElem?_eq_some_iff.mp e).1
  exact ⟨_, List.getElem?_eq_getElem hi, h.2 i x _ e (List.getElem?_eq_getElem hi)⟩
theorem EchN.atM {α : Type} {N : Addr → Prop} {H : Hp} {xs : List V} {f : α → PyData} {ys : List α} {i : Nat} {x : V} (h : EchN N H xs (ys.map f)) (e : xs[i]? = some x) : ∃ y, ys[i]? = some y ∧ DatN N H x (f y) := by
  obtain ⟨d, e1, e2⟩ := h.at e
  rw [List.getElem?_map] at e1
  cases h : ys[i]? with
  | none => rw [h] at e1; cases e1
  | some y => rw [h] at e1; cases e1; exact ⟨y, rfl, e2⟩
theorem DatN.list {N : Addr → Prop} {H : Hp} {v : V} {ds : List PyData} (h : DatN N H v (.list ds)) : ∃ a xs, v = .ref a ∧ N a ∧ H a = some (.lst xs) ∧ EchN N H xs ds := by
  cases h with
  | lst n e l r => exact ⟨_, _, rfl, n, e, l, r⟩
theorem DatN.tuple {N : Addr → Prop} {H : Hp} {v : V} {ds : List PyData} (h : DatN N H v (.tuple ds)) : ∃ a xs, v = .ref a ∧ H a = some (.tup xs) ∧ EchN N H xs ds := by
  cases h with
  | tup e l r => exact ⟨_, _, rfl, e, l, r⟩
theorem EchN.lst {N : Addr → Prop} {H : Hp} {a : Addr} {xs : List V} {ds : List PyData} (h : EchN N H xs ds) (n : N a) (e : H a = some (.lst xs)) : DatN N H (.ref a) (.list ds) := .lst n e h.1 h.2
theorem EchN.tup {N : Addr → Prop} {H : Hp} {a : Addr} {xs : List V} {ds : List PyData} (h : EchN N H xs ds) (e : H a = some (.tup xs)) : DatN N H (.ref a) (.tuple ds) := .tup e h.1 h.2
theorem EchN.inv {N : Addr → Prop} {H : Hp} {xs : List V} {d : PyData} {ds : List PyData} (h : EchN N H xs (d :: ds)) : ∃ x xs', xs = x :: xs' ∧ DatN N H x d ∧ EchN N H xs' ds := by
  cases xs with
  | nil => exact nomatch h.1
  | cons x xs => exact ⟨x, xs, rfl, h.2 0 x d rfl rfl, Nat.succ.inj h.1, fun i y e e1 e2 => h.2 (i + 1) y e e1 e2⟩
theorem EchN.inv0 {N : Addr → Prop} {H : Hp} {xs : List V} (h : EchN N H xs []) : xs = [] := List.eq_nil_of_length_eq_zero h.1
theorem DatN.inv_int {N : Addr → Prop} {H : Hp} {v : V} {i : Int} (h : DatN N H v (.int i)) : v = .int i := by cases h; rfl
theorem DatN.inv_str {N : Addr → Prop} {H : Hp} {v : V} {x : Str} (h : DatN N H v (.str x)) : v = .str x := by cases h; rfl
theorem DatN.inv_non {N : Addr → Prop} {H : Hp} {v : V} (h : DatN N H v .none) : v = .non := by cases h; rfl
theorem DatN.inv_bl {N : Addr → Prop} {H : Hp} {v : V} {b : Bool} (h : DatN N H v (.bool b)) : v = .bl b := by cases h; rfl
theorem echN_ints {N : Addr → Prop} {H : Hp} (ns : List Int) : EchN N H (ns.map V.int) (ns.map PyData.int) := ⟨by rw [List.length_map, List.length_map], fun i x d e1 e2 => by
  rw [List.getElem?_map] at e1 e2
  cases h : ns[i]? with
  | none => rw [h] at e1; cases e1
  | some n =>
    rw [h] at e1 e2
    cases e1
    cases e2
    exact .int n⟩
theorem echN_strs {N : Addr → Prop} {H : Hp} (ns : List Str) : EchN N H (ns.map V.str) (ns.map PyData.str) := ⟨by rw [List.length_map, List.length_map], fun i x d e1 e2 => by
  rw [List.getElem?_map] at e1 e2
  cases h : ns[i]? with
  | none => rw [h] at e1; cases e1
  | some n =>
    rw [h] at e1 e2
    cases e1
    cases e2
    exact .str n⟩
theorem EchN.ints {N : Addr → Prop} {H : Hp} : ∀ {xs : List V} {ns : List Int}, EchN N H xs (ns.map PyData.int) → xs = ns.map V.int
  | _, [], h => h.inv0
  | _, n :: r, h => by
    obtain ⟨x, xs', rfl, h1, h2⟩ := EchN.inv h
    rw [h1.inv_int, EchN.ints h2]
    rfl
theorem EchN.strs {N : Addr → Prop} {H : Hp} : ∀ {xs : List V} {ns : List Str}, EchN N H xs (ns.map PyData.str) → xs = ns.map V.str
  | _, [], h => h.inv0
  | _, n :: r, h => by
    obtain ⟨x, xs', rfl, h1, h2⟩ := EchN.inv h
    rw [h1.inv_str, EchN.strs h2]
    rfl
/-- pairs of whole numbers -/
theorem _root_.GP.Prs.ech {N : Addr → Prop} {H : Hp} {us : List V} {ps : List (Int × Int)} (h : Prs H us ps) : EchN N H us (ps.map pairD) := ⟨by rw [List.length_map]; exact h.1, fun i x d e1 e2 => by
  obtain ⟨p, a, ep, rfl, ea⟩ := prs_at h e1
  rw [List.getElem?_map, ep] at e2
  cases e2
  exact EchN.tup (.cons (.int _) (.one (.int _))) ea⟩
theorem EchN.prs {N : Addr → Prop} {H : Hp} {us : List V} {ps : List (Int × Int)} (h : EchN N H us (ps.map pairD)) : Prs H us ps := ⟨by have := h.1; rwa [List.length_map] at this, fun i p ep => by
  have hi : i < us.length := by
    rw [h.1, List.length_map]
    exact (List.getElem?_eq_some_iff.mp ep).1
  obtain ⟨y, e1, e2⟩ := h.atM (List.getElem?_eq_getElem hi)
  rw [ep] at e1
  cases e1
  obtain ⟨a, xs, ev, ea, r⟩ := e2.tuple
  obtain ⟨x1, r1, rfl, d1, r2⟩ := r.inv
  obtain ⟨x2, r3, rfl, d2, r4⟩ := r2.inv
  rw [r4.inv0, d1.inv_int, d2.inv_int] at ea
  exact ⟨a, by rw [List.getElem?_eq_getElem hi, ev], ea⟩⟩
/-- new since then -/
abbrev NewIn (H : Hp) : Addr → Prop := fun a => H a = none
def setD (ps : List (Int × Int)) : PyData := .list (ps.map pairD)
/-! ### what can be shown -/
structure Shw (n w : Nat) (d : PyData) : Prop where
  sh : d.showable = true
  nd : d.hasDict = false
  dp : d.depth ≤ n
  ls : d.leavesShort 40 = true
  wt : d.weight ≤ w
theorem Shw.mono {n w n' w' : Nat} {d : PyData} (h : Shw n w d) (h1 : n ≤ n') (h2 : w ≤ w') : Shw n' w' d := ⟨h.sh, h.nd, Nat.le_trans h.dp h1, h.ls, Nat.le_trans h.wt h2⟩
theorem Shw.int {n : Nat} {i : Int} (h : i.natAbs < 10 ^ 39) : Shw n 131 (.int i) := by
  refine ⟨?_, by rw [PyData.hasDict], by rw [PyData.depth]; omega, ?_, ?_⟩
  · rw [PyData.showable]
    by_cases z : i.natAbs = 0
    · rw [z]; decide
    · exact decide_eq_true (Nat.lt_trans ((Nat.log2_lt (k := 130) z).mpr (Nat.lt_trans h (by decide))) (by decide))
  · rw [PyData.leavesShort]
    have e := int_text_length_le10 (k := 39) (by decide) h
    refine decide_eq_true ?_
    show (Str.ofString (toString i)).length ≤ 40
    rw [PySem.ofString_length]
    exact e
  · rw [PyData.weight]
    split
    · omega
    · by_cases z : i.natAbs = 0
      · rw [z]; decide
      · have : i.natAbs.log2 < 130 := (Nat.log2_lt z).mpr (Nat.lt_trans h (by decide))
        omega
theorem Shw.str {n w : Nat} {x : Str} (h : PyData.strOk x = true) (hl : x.length ≤ w) : Shw n w (.str x) := by
  refine ⟨by rw [PyData.showable], by rw [PyData.hasDict], by rw [PyData.depth]; omega, ?_, by rw [PyData.weight]; exact hl⟩
  rw [PyData.leavesShort, List.all_eq_true]
  intro c hc
  have h' : x.cps.all (· < 0x110000) = true := h
  rw [Array.all_eq_true'] at h'
  have := of_decide_eq_true (h' c (by simpa using hc))
  exact decide_eq_true (Nat.lt_trans this (by decide))
theorem Shw.none {n w : Nat} : Shw n w .none := ⟨by rw [PyData.showable], by rw [PyData.hasDict], by rw [PyData.depth]; omega, by rw [PyData.leavesShort], by rw [PyData.weight]; omega⟩
theorem Shw.bool {n w : Nat} {b : Bool} : Shw n w (.bool b) := ⟨by rw [PyData.showable], by rw [PyData.hasDict], by rw [PyData.depth]; omega, by rw [PyData.leavesShort], by rw [PyData.weight]; omega⟩
theorem shwAll : ∀ {n w : Nat} {ds : List PyData}, (∀ d ∈ ds, Shw n w d) → PyData.showableAll ds = true ∧ PyData.hasDictAll ds = false ∧ PyData.depthAll ds ≤ n ∧ PyData.leavesShortAll 40 ds = true ∧ PyData.weightAll ds ≤ ds.length * (w + 1)
  | n, w, [], _ => by simp [PyData.leavesShortAll, PyData.weightAll, PyData.showableAll, PyData.hasDictAll, PyData.depthAll]
  | n, w, d :: r, h => by
    obtain ⟨g1, g2, g3, g4, g5⟩ := shwAll (ds := r) fun q hq => h q (List.mem_cons_of_mem _ hq)
    obtain ⟨h1, h2, h3, h4, h5⟩ := h d (List.mem_cons_self ..)
    refine ⟨by rw [PyData.showableAll, h1, g1]; rfl, by rw [PyData.hasDictAll, h2, g2]; rfl, by rw [PyData.depthAll]; omega, by rw [PyData.leavesShortAll, h4, g4]; rfl, ?_⟩
    rw [PyData.weightAll, List.length_cons, Nat.succ_mul]
    omega
theorem Shw.list {n w m W : Nat} {ds : List PyData} (h : ∀ d ∈ ds, Shw n w d) (hl : ds.length ≤ m) (hW : m * (w + 1) ≤ W) : Shw (n + 1) W (.list ds) := by
  obtain ⟨g1, g2, g3, g4, g5⟩ := shwAll h
  have := Nat.mul_le_mul_right (w + 1) hl
  exact ⟨by rw [PyData.showable]; exact g1, by rw [PyData.hasDict]; exact g2, by rw [PyData.depth]; omega, by rw [PyData.leavesShort]; exact g4, by rw [PyData.weight]; omega⟩
theorem Shw.tuple {n w m W : Nat} {ds : List PyData} (h : ∀ d ∈ ds, Shw n w d) (hl : ds.length ≤ m) (hW : m * (w + 1) ≤ W) : Shw (n + 1) W (.tuple ds) := by
  obtain ⟨g1, g2, g3, g4, g5⟩ := shwAll h
  have := Nat.mul_le_mul_right (w + 1) hl
  exact ⟨by rw [PyData.showable]; exact g1, by rw [PyData.hasDict]; exact g2, by rw [PyData.depth]; omega, by rw [PyData.leavesShort]; exact g4, by rw [PyData.weight]; omega⟩
theorem Shw.listM {α : Type} {n w m W : Nat} {f : α → PyData} {ys : List α} (h : ∀ y ∈ ys, Shw n w (f y)) (hl : ys.length ≤ m) (hW : m * (w + 1) ≤ W) : Shw (n + 1) W (.list (ys.map f)) :=
  .list (fun d hd => by obtain ⟨y, hy, rfl⟩ := List.mem_map.mp hd; exact h y hy) (by rw [List.length_map]; exact hl) hW
theorem all2 {α : Type} {P : α → Prop} {x y : α} (h1 : P x) (h2 : P y) : ∀ z ∈ [x, y], P z := fun z hz => by
  rcases List.mem_cons.mp hz with e | e
  · rw [e]; exact h1
  · rw [List.mem_singleton.mp e]; exact h2
theorem all3 {α : Type} {P : α → Prop} {x y u : α} (h1 : P x) (h2 : P y) (h3 : P u) : ∀ z ∈ [x, y, u], P z := fun z hz => by
  rcases List.mem_cons.mp hz with e | e
  · rw [e]; exact h1
  · exact all2 h2 h3 z e
theorem Shw.shown {w : Nat} {d : PyData} (h : Shw 8 w d) (hw : w ≤ 390000) : d.showable = true ∧ d.hasDict = false ∧ d.depth ≤ 8 ∧ d.shown.length ≤ sizeLine :=
  ⟨h.sh, h.nd, h.dp, by
    have z := PyData.shown_le 40 (by decide) d h.ls
    have := h.wt
    exact Nat.le_trans z (Nat.le_trans (show (40 + 2) * d.weight + 40 ≤ 16380040 by omega) (by decide))⟩

/-! ### comprehensions, by what they make -/
/-- a thing's truth, as a test -/
def tTru (K : PySem.W.Frag) (te : TE) : TT := fun σ H Q => te σ H fun x H' => ∃ k, TruV K x H' k ∧ Q k H'
abbrev LcW (J : It) (g : TG) (tt : TT) (te : TE) (vs : List Nat) (σ : L2.St) (D : Addr) (Qd : Hp → Prop) (H1 : Hp) : Prop := ∃ W : Nat → Nat → Hp → Prop, (∃ m, W 0 m (upd H1 D (.lst []))) ∧ ∀ i m H, W i m H →
  (J.stop i H ∧ Qd H) ∨ (J.go i H ∧ ∃ Nx : Hp → Prop, (∀ H', Nx H' → ∃ m', m' < m ∧ W (i + 1) m' H') ∧ ∀ x H', J.yld i H x H' → g x (wipe σ vs) H' fun σ2 H2 => wipe σ2 vs = wipe σ vs ∧ tt σ2 H2 fun b H3 => if b = true then
    te σ2 H3 fun y H4 => ∃ acc, H4 D = some (.lst acc) ∧ acc.length < sizeLine ∧ Nx (upd H4 D (.lst (acc ++ [y]))) else Nx H3)
/-- each item makes something new, all else stays -/
theorem lc_new {J : It} {n : Nat} {G : Hp → Prop} {Y : Nat → Hp → V → Hp → Prop} (w : Walk J n G Y) {g : TG} {tt : TT} {te : TE} {vs : List Nat} {σ : L2.St} {H1 : Hp} {D : Addr} {Qd : Hp → Prop} (ds : List PyData) (nD : H1 D = none) (hn : ds.length = n) (hz : n ≤ 1000) (hG : ∀ H, Same H1 H → G H)
    (turn : ∀ i x d H H' (Kt : V → Hp → Prop) (Kn : Hp → Prop), ds[i]? = some d → Same H1 H → Y i H x H' → (∀ y H4, Same H H4 → DatN (NewIn H) H4 y d → Kt y H4) → g x (wipe σ vs) H' fun σ2 H2 => wipe σ2 vs = wipe σ vs ∧ tt σ2 H2 fun b H3 => if b = true then te σ2 H3 Kt else Kn H3)
    (fin : ∀ H, Same H1 H → DatN (NewIn H1) H (.ref D) (.list ds) → Qd H) : LcW J g tt te vs σ D Qd H1 := by
  refine lc_it w (fun j H => Same H1 H ∧ ∃ ws, H D = some (.lst ws) ∧ EchN (fun a => H1 a = none ∧ a ≠ D) H ws (ds.take j)) ⟨same_upd nD, [], upd_same, .nil⟩ (fun i H _ p => hG H p.1) (fun i x H H' hi hP hy => ?_) (fun H hP => ?_)
  · obtain ⟨sm, ws, eD, hws⟩ := hP
    have hd : ds[i]? = some ds[i] := List.getElem?_eq_getElem (by omega)
    refine turn i x _ H H' _ _ hd sm hy fun y H4 s4 hd4 => ?_
    have eD4 := s4 _ _ eD
    have hl : ws.length ≤ 1000 := by
      rw [hws.1, List.length_take]
      omega
    have hl' : ws.length < 1000 := by
      rw [hws.1, List.length_take]
      omega
    refine ⟨ws, eD4, Nat.lt_of_lt_of_le hl' (by decide), fun b o e => ?_, ws ++ [y], upd_same, ?_⟩
    · rw [upd_ne (ne_of_none e nD)]
      exact s4 _ _ (sm b o e)
    · rw [List.take_add_one, hd]
      have k : Kps (fun a => H1 a = none ∧ a ≠ D) H4 (upd H4 D (.lst (ws ++ [y]))) := .upd eD4 fun a z => z.2
      refine ((hws.same s4).keep k).snoc (DatN.keep (hd4.weak fun a xs (z : H a = none) e => ⟨sm.free z, fun q => ?_⟩) k)
      rw [q, eD] at z
      cases z
  · obtain ⟨sm, ws, eD, hws⟩ := hP
    rw [List.take_of_length_le (by omega)] at hws
    exact fin H sm ((hws.weak fun a _ z _ => z.1).lst nD eD)
/-- each item makes something new by draws -/
theorem lc_draw {α : Type} (f : α → PyData) (R : Nat → α → Prop) (T : Int) {J : It} {n : Nat} {G : Hp → Prop} {Y : Nat → Hp → V → Hp → Prop} (w : Walk J n G Y) {g : TG} {tt : TT} {te : TE} {vs : List Nat} {σ : L2.St} {H1 : Hp} {D d c : Addr} {t1 : Int} {Qd : Hp → Prop} (S1 : StAt H1 d c t1) (nD : H1 D = none) (hz : n ≤ 1000) (hG : ∀ H, Kp d c H1 H → G H)
    (turn : ∀ i x H H' t (Kt : V → Hp → Prop) (Kn : Hp → Prop), i < n → t1 ≤ t → t ≤ t1 + T * (i : Int) → StAt H d c t → Kp d c H1 H → Y i H x H' → (∀ z y t' H4, R i z → DatN (NewIn H) H4 y (f z) → t ≤ t' → t' ≤ t + T → StAt H4 d c t' → Kp d c H H4 → Kt y H4) →
      g x (wipe σ vs) H' fun σ2 H2 => wipe σ2 vs = wipe σ vs ∧ tt σ2 H2 fun b H3 => if b = true then te σ2 H3 Kt else Kn H3)
    (fin : ∀ (H : Hp) (t : Int) (zs : List α), zs.length = n → (∀ (i : Nat) z, zs[i]? = some z → R i z) → t1 ≤ t → t ≤ t1 + T * (n : Int) → StAt H d c t → Kp d c H1 H → DatN (NewIn H1) H (.ref D) (.list (zs.map f)) → Qd H) : LcW J g tt te vs σ D Qd H1 := by
  have off := S1.off nD
  refine lc_it w (fun j H => ∃ (t : Int) (ws : List V) (zs : List α), H D = some (.lst ws) ∧ EchN (fun a => H1 a = none ∧ a ≠ D) H ws (zs.map f) ∧ zs.length = j ∧ (∀ (i : Nat) z, zs[i]? = some z → R i z) ∧ t1 ≤ t ∧ t ≤ t1 + T * (j : Int) ∧ StAt H d c t ∧ Kp d c H1 H)
    ⟨t1, [], [], upd_same, .nil, rfl, (fun _ _ e => nomatch e), Int.le_refl _, by omega, S1.same (same_upd nD), Kp.same d c (same_upd nD)⟩ (fun i H _ hP => ?_) (fun i x H H' hi hP hy => ?_) (fun H hP => ?_)
  · obtain ⟨_, _, _, _, _, _, _, _, _, _, k⟩ := hP
    exact hG H k
  · obtain ⟨t, ws, zs, eD, hws, hzl, hR, t0, t2, hS, k⟩ := hP
    refine turn i x H H' t _ _ hi t0 t2 hS k hy fun z y t' H4 hz' hd4 u0 u1 hS4 k4 => ?_
    have eD4 := k4 _ _ off.1 off.2 eD
    have hwl : ws.length = i := by rw [hws.1, List.length_map, hzl]
    have kk : Kps (fun a => H1 a = none ∧ a ≠ D) H4 (upd H4 D (.lst (ws ++ [y]))) := .upd eD4 fun a z => z.2
    have k1 : Kps (fun a => H1 a = none ∧ a ≠ D) H H4 := .kp k4 hS fun a z q => by
      obtain ⟨cs, ec, _⟩ := S1.cells
      rw [q, ec] at z
      exact nomatch z.1
    refine ⟨ws, eD4, Nat.lt_of_lt_of_le (show ws.length < 1000 by omega) (by decide), t', ws ++ [y], zs ++ [z], upd_same, ?_, by rw [List.length_append, hzl]; rfl, fun j q e => ?_, by omega, ?_, hS4.upd off.1 off.2, fun b o b1 b2 e => ?_⟩
    · rw [List.map_append]
      refine ((hws.keep k1).keep kk).snoc (DatN.keep (hd4.weak fun a xs (z : H a = none) e => ⟨?_, fun q => ?_⟩) kk)
      · cases e1 : H1 a with
        | none => rfl
        | some o =>
          by_cases z1 : a = d
          · rw [z1, hS.dict] at z; cases z
          · by_cases z2 : a = c
            · obtain ⟨cs, ec, _⟩ := hS.cells
              rw [z2, ec] at z; cases z
            · have := k a o z1 z2 e1
              rw [this] at z
              cases z
      · rw [q, eD] at z
        cases z
    · by_cases hj : j < zs.length
      · rw [List.getElem?_append_left hj] at e
        exact hR j q e
      · rw [List.getElem?_append_right (by omega)] at e
        have hj0 : j - zs.length < 1 := (List.getElem?_eq_some_iff.mp e).1
        have ej : j = i := by omega
        subst ej
        rw [hzl, Nat.sub_self] at e
        cases e
        exact hz'
    · have : T * ((i + 1 : Nat) : Int) = T * (i : Int) + T := by
        rw [Int.natCast_add, Int.mul_add]
        omega
      omega
    · rw [upd_ne (ne_of_none e nD)]
      exact k4 b o b1 b2 (k b o b1 b2 e)
  · obtain ⟨t, ws, zs, eD, hws, hzl, hR, t0, t2, hS, k⟩ := hP
    exact fin H t zs hzl hR t0 t2 hS k ((hws.weak fun a _ z _ => z.1).lst nD eD)
/-- those items of which this holds -/
theorem lc_keep {K : PySem.W.Frag} {a : Addr} {xs : List V} (pb : V → Bool) {g : TG} {tt : TT} {te : TE} {vs : List Nat} {σ : L2.St} {H1 : Hp} {D : Addr} {Qd : Hp → Prop} (nD : H1 D = none) (ea : H1 a = some (.lst xs)) (hz : xs.length ≤ 1000)
    (turn : ∀ (i : Nat) (x : V) (H : Hp) (Kt : V → Hp → Prop) (Kn : Hp → Prop), xs[i]? = some x → Same H1 H → (∀ H4, Same H H4 → pb x = true → Kt x H4) → (∀ H4, Same H H4 → pb x = false → Kn H4) → g x (wipe σ vs) H fun σ2 H2 => wipe σ2 vs = wipe σ vs ∧ tt σ2 H2 fun b H3 => if b = true then te σ2 H3 Kt else Kn H3)
    (fin : ∀ H, Same H1 H → H D = some (.lst (xs.filter pb)) → Qd H) : LcW (Itl K a) g tt te vs σ D Qd H1 := by
  refine lc_it walk_list (fun j H => Same H1 H ∧ H D = some (.lst ((xs.take j).filter pb))) ⟨same_upd nD, upd_same⟩ (fun i H _ p => SqL.of (p.1 _ _ ea)) (fun i x H H' hi hP hy => ?_) (fun H hP => ?_)
  · obtain ⟨sm, eD⟩ := hP
    obtain ⟨rfl, hx⟩ := hy
    have et : (xs.take (i + 1)).filter pb = (xs.take i).filter pb ++ (if pb x = true then [x] else []) := by
      rw [List.take_add_one, hx, List.filter_append]
      by_cases c : pb x = true
      · rw [if_pos c]
        show _ ++ List.filter pb [x] = _
        rw [List.filter_cons_of_pos c]
        rfl
      · rw [if_neg c]
        show _ ++ List.filter pb [x] = _
        rw [List.filter_cons_of_neg c]
        rfl
    have hl : ((xs.take i).filter pb).length ≤ i := Nat.le_trans (List.length_filter_le ..) (by rw [List.length_take]; omega)
    refine turn i x H' _ _ hx sm (fun H4 s4 c => ?_) (fun H4 s4 c => ?_)
    · refine ⟨_, s4 _ _ eD, Nat.lt_of_lt_of_le (show _ < 1000 by omega) (by decide), fun b o e => ?_, ?_⟩
      · rw [upd_ne (ne_of_none e nD)]
        exact s4 _ _ (sm b o e)
      · rw [upd_same, et, if_pos c]
    · refine ⟨sm.trans s4, ?_⟩
      rw [et, if_neg (by rw [c]; decide), List.append_nil]
      exact s4 _ _ eD
  · obtain ⟨sm, eD⟩ := hP
    rw [List.take_length] at eD
    exact fin H sm eD
theorem lc_new_seq {K : PySem.W.Frag} {a : Addr} {xs : List V} {g : TG} {tt : TT} {te : TE} {vs : List Nat} {σ : L2.St} {H1 : Hp} {Qd : Addr → Hp → Prop} (hq : SqH H1 a xs) (ds : List PyData) (hn : ds.length = xs.length) (hz : xs.length ≤ 1000)
    (turn : ∀ (i : Nat) (x : V) (d : PyData) (H : Hp) (Kt : V → Hp → Prop) (Kn : Hp → Prop), xs[i]? = some x → ds[i]? = some d → Same H1 H → (∀ y H4, Same H H4 → DatN (NewIn H) H4 y d → Kt y H4) → g x (wipe σ vs) H fun σ2 H2 => wipe σ2 vs = wipe σ vs ∧ tt σ2 H2 fun b H3 => if b = true then te σ2 H3 Kt else Kn H3)
    (fin : ∀ D H, H1 D = none → Same H1 H → DatN (NewIn H1) H (.ref D) (.list ds) → Qd D H) :
    ((∃ xs, SqL K H1 a xs) ∧ ∀ D, H1 D = none → LcR (Itl K a) g tt te vs σ D Qd H1) ∨ ((∃ xs, SqT K H1 a xs) ∧ ∀ D, H1 D = none → LcR (Itt K a) g tt te vs σ D Qd H1) := by
  rcases hq with h | h
  · exact .inl ⟨⟨xs, SqL.of h⟩, fun D nD => lc_new (walk_list (xs := xs)) ds nD hn hz (fun H s => SqL.of (s _ _ h)) (fun i x d H H' Kt Kn hd sm hy k => by obtain ⟨rfl, hx⟩ := hy; exact turn i x d H' Kt Kn hx hd sm k) (fun H s d => fin D H nD s d)⟩
  · exact .inr ⟨⟨xs, .inl (.inl h)⟩, fun D nD => lc_new (walk_tup (xs := xs)) ds nD hn hz (fun H s => .inl (.inl (s _ _ h))) (fun i x d H H' Kt Kn hd sm hy k => by obtain ⟨rfl, hx⟩ := hy; exact turn i x d H' Kt Kn hx hd sm k) (fun H s d => fin D H nD s d)⟩
theorem lc_new_list {K : PySem.W.Frag} {a : Addr} {xs : List V} {g : TG} {tt : TT} {te : TE} {vs : List Nat} {σ : L2.St} {H1 : Hp} {D : Addr} {Qd : Hp → Prop} (nD : H1 D = none) (hq : H1 a = some (.lst xs)) (ds : List PyData) (hn : ds.length = xs.length) (hz : xs.length ≤ 1000)
    (turn : ∀ (i : Nat) (x : V) (d : PyData) (H : Hp) (Kt : V → Hp → Prop) (Kn : Hp → Prop), xs[i]? = some x → ds[i]? = some d → Same H1 H → (∀ y H4, Same H H4 → DatN (NewIn H) H4 y d → Kt y H4) → g x (wipe σ vs) H fun σ2 H2 => wipe σ2 vs = wipe σ vs ∧ tt σ2 H2 fun b H3 => if b = true then te σ2 H3 Kt else Kn H3)
    (fin : ∀ H, Same H1 H → DatN (NewIn H1) H (.ref D) (.list ds) → Qd H) : LcW (Itl K a) g tt te vs σ D Qd H1 :=
  lc_new (walk_list (xs := xs)) ds nD hn hz (fun H s => SqL.of (s _ _ hq)) (fun i x d H H' Kt Kn hd sm hy k => by obtain ⟨rfl, hx⟩ := hy; exact turn i x d H' Kt Kn hx hd sm k) fin

open Classical in
/-- the one list of a set -/
noncomputable def canon (pr : Int → Prop) : List (Int × Int) := if h : ∃ rs, Told pr rs then Classical.choose h else []
theorem Told.canon {pr : Int → Prop} {rs : List (Int × Int)} (h : Told pr rs) : rs = canon pr := by
  unfold TK.canon
  rw [dif_pos ⟨rs, h⟩]
  exact h.one (Classical.choose_spec (p := fun rs => Told pr rs) ⟨rs, h⟩) fun _ => Iff.rfl
theorem canon_cong {pr pr' : Int → Prop} (h : ∀ n, pr n ↔ pr' n) : canon pr = canon pr' := by rw [show pr = pr' from funext fun n => propext (h n)]

open G3
/-! ### packings, rows of marks as data; call_of -/
abbrev Pk := Str × Int × List Part
def partD (p : Part) : PyData := .tuple [.str p.1, .int p.2.1, .int p.2.2]
def pkD (k : Pk) : PyData := .tuple [.str k.1, .int k.2.1, .list (k.2.2.map partD)]
def rowD (r : Str × Prs2) : PyData := .tuple [.str r.1, setD r.2]
theorem EchN.pts {N : Addr → Prop} {H : Hp} {us : List V} {ps : List Part} (h : EchN N H us (ps.map partD)) : Pts H us ps := ⟨by have := h.1; rwa [List.length_map] at this, fun i v p e1 e2 => by
  obtain ⟨y, f1, f2⟩ := h.atM e1
  rw [e2] at f1
  cases f1
  obtain ⟨a, xs, ev, ea, r⟩ := f2.tuple
  obtain ⟨x1, r1, rfl, d1, ra⟩ := r.inv
  obtain ⟨x2, r1, rfl, d2, rb⟩ := ra.inv
  obtain ⟨x3, r1, rfl, d3, rc⟩ := rb.inv
  obtain rfl := rc.inv0
  rw [d1.inv_str, d2.inv_int, d3.inv_int] at ea
  exact ⟨a, ev, ea⟩⟩
theorem DatN.pk {N : Addr → Prop} {H : Hp} {v : V} {k : Pk} (h : DatN N H v (pkD k)) : ∃ b a us, v = .ref b ∧ H b = some (.tup [.str k.1, .int k.2.1, .ref a]) ∧ N a ∧ H a = some (.lst us) ∧ EchN N H us (k.2.2.map partD) := by
  obtain ⟨b, xs, ev, eb, r⟩ := h.tuple
  obtain ⟨x1, r1, rfl, d1, ra⟩ := r.inv
  obtain ⟨x2, r1, rfl, d2, rb⟩ := ra.inv
  obtain ⟨x3, r1, rfl, d3, rc⟩ := rb.inv
  obtain ⟨a, us, rfl, na, ea, hu⟩ := d3.list
  obtain rfl := rc.inv0
  rw [d1.inv_str, d2.inv_int] at eb
  exact ⟨b, a, us, ev, eb, na, ea, hu⟩
theorem DatN.pkA {N : Addr → Prop} {H : Hp} {b : Addr} {k : Pk} (h : DatN N H (.ref b) (pkD k)) : PkA H b k.1 k.2.1 k.2.2 := by
  obtain ⟨b', a, us, e, eb, _, ea, hu⟩ := h.pk
  cases e
  exact ⟨a, us, eb, .inl ea, hu.pts⟩
theorem EchN.rows {N : Addr → Prop} {H : Hp} {us : List V} {rows : Rows} (h : EchN N H us (rows.map rowD)) : RowsA H us rows := ⟨by have := h.1; rwa [List.length_map] at this, fun i v p e1 e2 => by
  obtain ⟨y, f1, f2⟩ := h.atM e1
  rw [e2] at f1
  cases f1
  obtain ⟨a, xs, ev, ea, r⟩ := f2.tuple
  obtain ⟨x1, r1, rfl, d1, ra⟩ := r.inv
  obtain ⟨x2, r1, rfl, d2, rc⟩ := ra.inv
  obtain ⟨c, ws, rfl, _, ec, hw⟩ := d2.list
  obtain rfl := rc.inv0
  rw [d1.inv_str] at ea
  exact ⟨a, c, ev, ea, ws, .inl ec, hw.prs⟩⟩
def PkOk (k : Pk) : Prop := k.2.2.length ≤ 12 ∧ (∀ p ∈ k.2.2, p.2.1 ≤ p.2.2) ∧ 1 ≤ k.2.1 ∧ k.2.1 ≤ 10 ^ 50
noncomputable def allF (rows : Rows) (ks : List Pk) : Rows := ks.map fun k => (k.1, canon (WithP k.2.1 k.2.2 (InM rows)))
def keepR (rs : Rows) : Rows := rs.filter fun r => !r.2.isEmpty
abbrev ltR (x y : Str × Prs2) : Bool := SrtK.lexK [.inr x.1] [.inr y.1]
/-- in order, and just these -/
def SrtdR (rs of : Rows) : Prop := SrtO.Srtd ltR rs ∧ SrtO.Stb ltR rs of
theorem stb_symm {α : Type} {lt : α → α → Bool} {l m : List α} (h : SrtO.Stb lt l m) : SrtO.Stb lt m l := ⟨h.perm.symm, fun x => (h.cls x).symm⟩
theorem SrtdR.one {rs rs' of : Rows} (h : SrtdR rs of) (h' : SrtdR rs' of) : rs = rs' := SrtO.stb_uniq (SrtK.swo_key fun r : Str × Prs2 => [.inr r.1]) h.1 h'.1 (h.2.trans (stb_symm h'.2))
/-- the row that stands there -/
def rowOf (H : Hp) (v : V) : Str := match v with
  | .ref a => (match H a with
    | some (.tup (.str x :: _)) => x
    | _ => ⟨#[]⟩)
  | _ => ⟨#[]⟩
theorem rowOf_at {H : Hp} {a : Addr} {x : Str} {r : List V} (e : H a = some (.tup (.str x :: r))) : rowOf H (.ref a) = x := by
  unfold rowOf
  simp only [e]
/-- rows put in order: what is told of a list of them -/
theorem rows_sorted {N : Addr → Prop} {H : Hp} : ∀ {ys zs : List V} {rs : Rows}, EchN N H ys (rs.map rowD) → (rs.map (·.1)).Nodup → SrtO.Srtd (fun x y => SrtK.lexK [.inr (rowOf H x)] [.inr (rowOf H y)]) zs → SrtO.Stb (fun x y => SrtK.lexK [.inr (rowOf H x)] [.inr (rowOf H y)]) zs ys →
    ∃ rs', EchN N H zs (rs'.map rowD) ∧ SrtdR rs' rs := by
  intro ys zs rs hys nd srt stb
  -- each item by its name
  let find : Str → Str × Prs2 := fun x => (rs.find? fun r => decide (r.1 = x)).getD (x, [])
  have hfind : ∀ (i : Nat) r, rs[i]? = some r → find r.1 = r := fun i r e => by
    have hm := List.mem_of_getElem? e
    cases ef : rs.find? fun q => decide (q.1 = r.1) with
    | none => exact absurd (decide_eq_true rfl) (List.find?_eq_none.mp ef r hm)
    | some q =>
      have h1 : q.1 = r.1 := of_decide_eq_true (List.find?_some (p := fun q : Str × Prs2 => decide (q.1 = r.1)) ef)
      obtain ⟨j, hj, ej⟩ := List.getElem_of_mem (List.mem_of_find?_eq_some ef)
      have e2 : rs[j]? = some q := by rw [List.getElem?_eq_getElem hj, ej]
      by_cases ij : j = i
      · subst ij
        rw [e] at e2
        cases e2
        show (rs.find? fun q => decide (q.1 = r.1)).getD _ = r
        rw [ef]
        rfl
      · exact absurd h1 (row_ne nd e2 e ij)
  have at_ : ∀ (i : Nat) v, ys[i]? = some v → ∃ r, rs[i]? = some r ∧ DatN N H v (rowD r) ∧ find (rowOf H v) = r := fun i v e => by
    obtain ⟨r, er, hd⟩ := hys.atM e
    refine ⟨r, er, hd, ?_⟩
    obtain ⟨a, xs, rfl, ea, q⟩ := hd.tuple
    obtain ⟨x1, r1, rfl, d1, q⟩ := q.inv
    rw [d1.inv_str] at ea
    rw [rowOf_at ea]
    exact hfind i r er
  have emap : ys.map (fun v => find (rowOf H v)) = rs := by
    refine List.ext_getElem? fun i => ?_
    rw [List.getElem?_map]
    cases h : ys[i]? with
    | none =>
      have hl := hys.1
      rw [List.length_map] at hl
      have : rs[i]? = none := by
        rw [List.getElem?_eq_none_iff] at h ⊢
        omega
      rw [this]
      rfl
    | some v =>
      obtain ⟨r, er, _, ef⟩ := at_ i v h
      rw [er]
      exact congrArg some ef
  have name : ∀ v ∈ ys, (find (rowOf H v)).1 = rowOf H v := fun v hv => by
    obtain ⟨i, hi, e⟩ := List.getElem_of_mem hv
    obtain ⟨r, er, hd, ef⟩ := at_ i v (by rw [List.getElem?_eq_getElem hi, e])
    obtain ⟨a, xs, rfl, ea, q⟩ := hd.tuple
    obtain ⟨x1, r1, rfl, d1, q⟩ := q.inv
    rw [d1.inv_str] at ea
    rw [ef, rowOf_at ea]
  have mz : ∀ v ∈ zs, v ∈ ys := fun v hv => stb.perm.mem_iff.mp hv
  refine ⟨zs.map (fun v => find (rowOf H v)), ⟨by rw [List.length_map, List.length_map], fun i v d e1 e2 => ?_⟩, ?_, ?_⟩
  · rw [List.getElem?_map, List.getElem?_map, e1] at e2
    cases e2
    obtain ⟨j, hj, ej⟩ := List.getElem_of_mem (mz v (List.mem_of_getElem? e1))
    obtain ⟨r, _, hd, ef⟩ := at_ j v (by rw [List.getElem?_eq_getElem hj, ej])
    show DatN N H v (rowD (find (rowOf H v)))
    rw [ef]
    exact hd
  · refine List.pairwise_map.mpr (List.Pairwise.imp_of_mem (fun {x y} hx hy h => ?_) srt)
    show SrtK.lexK [.inr (find (rowOf H y)).1] [.inr (find (rowOf H x)).1] = false
    rw [name _ (mz _ hx), name _ (mz _ hy)]
    exact h
  · have e : ∀ (ws : List V), (∀ v ∈ ws, v ∈ ys) → ∀ x : Str × Prs2, (ws.map fun v => find (rowOf H v)).filter (SrtO.eqv ltR x) = (ws.filter fun v => SrtO.eqv ltR x (rowOf H v, [])).map fun v => find (rowOf H v) := fun ws hw x => by
      rw [List.filter_map]
      refine congrArg _ (List.filter_congr fun v hv => ?_)
      show SrtO.eqv ltR x (find (rowOf H v)) = SrtO.eqv ltR x (rowOf H v, [])
      unfold SrtO.eqv ltR
      rw [name v (hw v hv)]
    rw [← emap]
    refine ⟨stb.perm.map _, fun x => ?_⟩
    rw [e zs mz x, e ys (fun _ h => h) x]
    refine congrArg _ ?_
    -- the items of one name, in their order
    by_cases ex : ∃ v, v ∈ ys ∧ SrtO.eqv ltR x (rowOf H v, []) = true
    · obtain ⟨v, hv, hq⟩ := ex
      have same : ∀ u : V, SrtO.eqv ltR x (rowOf H u, []) = SrtO.eqv (fun x y => SrtK.lexK [.inr (rowOf H x)] [.inr (rowOf H y)]) v u := fun u => SrtO.eqv_trans (lt := ltR) (SrtK.swo_key fun r : Str × Prs2 => [.inr r.1]) (v := (rowOf H u, [])) hq
      rw [List.filter_congr (fun u _ => same u), List.filter_congr (fun u _ => same u)]
      exact stb.cls v
    · have no : ∀ ws : List V, (∀ v ∈ ws, v ∈ ys) → ws.filter (fun v => SrtO.eqv ltR x (rowOf H v, [])) = [] := fun ws hw => List.filter_eq_nil_iff.mpr fun v hv q => ex ⟨v, hw v hv, q⟩
      rw [no zs mz, no ys fun _ h => h]
/-- whether the set of a row has something -/
def hasSome (H : Hp) (v : V) : Bool := match v with
  | .ref a => (match H a with
    | some (.tup [_, .ref c]) => (match H c with
      | some (.lst ws) => !ws.isEmpty
      | _ => false)
    | _ => false)
  | _ => false
theorem hasSome_at {N : Addr → Prop} {H : Hp} {v : V} {r : Str × Prs2} (h : DatN N H v (rowD r)) : ∃ a c ws, v = .ref a ∧ H a = some (.tup [.str r.1, .ref c]) ∧ H c = some (.lst ws) ∧ hasSome H v = (!ws.isEmpty) ∧ (!ws.isEmpty) = (!r.2.isEmpty) := by
  obtain ⟨a, xs, rfl, ea, q⟩ := h.tuple
  obtain ⟨x1, r1, rfl, d1, qa⟩ := q.inv
  obtain ⟨x2, r1, rfl, d2, rc⟩ := qa.inv
  obtain ⟨c, ws, rfl, _, ec, hw⟩ := d2.list
  obtain rfl := rc.inv0
  rw [d1.inv_str] at ea
  refine ⟨a, c, ws, rfl, ea, ec, by unfold hasSome; simp only [ea, ec], ?_⟩
  have hl := hw.1
  rw [List.length_map] at hl
  cases ws with
  | nil =>
    have e : r.2 = [] := List.eq_nil_of_length_eq_zero hl.symm
    rw [e]
    rfl
  | cons x ws =>
    cases e : r.2 with
    | nil => rw [e] at hl; cases hl
    | cons p q => rfl
theorem EchN.filter {α : Type} {N : Addr → Prop} {H : Hp} {f : α → PyData} {pb : V → Bool} {p : α → Bool} : ∀ {xs : List V} {ys : List α}, EchN N H xs (ys.map f) → (∀ (i : Nat) x y, xs[i]? = some x → ys[i]? = some y → pb x = p y) → EchN N H (xs.filter pb) ((ys.filter p).map f)
  | [], [], _, _ => .nil
  | [], _ :: _, h, _ => nomatch h.1
  | _ :: _, [], h, _ => nomatch h.1
  | x :: xs, y :: ys, h, e => by
    obtain ⟨_, _, ex, h1, h2⟩ := h.inv
    cases ex
    have ih := EchN.filter (pb := pb) (p := p) h2 fun i x y e1 e2 => e (i + 1) x y e1 e2
    have e0 := e 0 x y rfl rfl
    by_cases c : pb x = true
    · rw [List.filter_cons_of_pos c, List.filter_cons_of_pos (by rw [← e0]; exact c), List.map_cons]
      exact .cons h1 ih
    · rw [List.filter_cons_of_neg c, List.filter_cons_of_neg (by rw [← e0]; exact c)]
      exact ih
abbrev sCallOf : Stmt := topS 8
theorem scCallOf : FnScope ["packings", "marked", "called", "packing", "pair"] ["packings", "marked"] (defScope sCallOf) := ⟨rfl, rfl, rfl, by decide +kernel, rfl, by decide +kernel, by decide +kernel⟩
def spCallOf : Sp := fun vs H Q _ => ∃ (a m : Addr) (us mv : List V) (ks : List Pk) (rows : Rows) (N : Addr → Prop), vs = [.ref a, .ref m] ∧ SqH H a us ∧ EchN N H us (ks.map pkD) ∧ SqH H m mv ∧ EchN N H mv (rows.map rowD) ∧ GoodR rows ∧ (∀ k ∈ ks, PkOk k) ∧ ks.length ≤ 12 ∧ (ks.map (·.1)).Nodup ∧
  ∀ l rs H', DatN (NewIn H) H' (.ref l) (.list (rs.map rowD)) → SrtdR rs (keepR (allF rows ks)) → rs.length ≤ 12 → Same H H' → Q (.ref l) H'
theorem SrtdR.mem {rs of : Rows} (h : SrtdR rs of) (r : Str × Prs2) : r ∈ rs ↔ r ∈ of := h.2.perm.mem_iff
section
variable {K : PySem.W.Frag} {mg : Str → Option Value} {P : Program} {w : World} {base : Heap}
theorem ok_CallOf {f : Addr} {fd : FuncData} (F : Fun K "call_of" "call_of" sCallOf f fd) (C_cases_with : Cal P w K mg base 3 "cases_with" ["packing", "marked"] spWith) (m_sorted : mg "sorted" = none) : FnOk P w K mg base CX0 4 f fd ["packings", "marked"] spCallOf := by
  refine F.ok scCallOf (fun vs H Q E h => ?_) (fun cdv A outer s H vs Q E hr h => ?_)
  · obtain ⟨a, m, us, mv, ks, rows, N, rfl, _⟩ := h
    rfl
  · obtain ⟨a, m, us, mv, ks, rows, N, rfl, ha, hus, hm, hmv, hg, hks, hkl, hnd, q⟩ := h
    refine ⟨_, pss_cons (ps_setLc (i := 2) (own := [("packing", 3)]) (g := (gName 3)) (tt := tYes) (te := (tTup (tCons (tOp (rIxT K) (tVar 3) (tC (.int 0))) (tCons (tCall spWith [] E0 (tCons (tVar 3) (tCons (tVar 1) tNil))) tNil)))) rfl scCallOf.nd rfl rfl (sw_true rfl rfl rfl (by decide +kernel)) (pi_seq (pv 0)) (blkOk_by (own := [("packing", 3)]) (N := ["packings", "marked", "called", "packing", "pair"]) (sc := defScope sCallOf) (by decide +kernel)) (fun _ _ _ _ _ => (pg_name (i := 3) scCallOf.nd rfl (.inl rfl))) (fun _ _ _ _ _ => pts_nil) (fun _ _ _ _ _ => (pe_tup (pa_cons (pe_ix ix_tup (pv 3) pe_int (fun _ _ => rfl)) (pa_cons (pe_own C_cases_with hr (by rfl) (pa_cons (pv 3) (pa_cons (pv 1) pa_nil))) pa_nil)))))
      (pss_one (ps_ret (pe_callB cr_sortedK (by rfl) m_sorted (by decide +kernel) (pa_cons (pe_lc (own := [("pair", 4)]) (g := (gName 4)) (tt := (tTru K (tOp (rIxT K) (tVar 4) (tC (.int 1))))) (te := (tVar 4)) rfl scCallOf.nd (pi_list (pv 2)) (blkOk_by (own := [("pair", 4)]) (N := ["packings", "marked", "called", "packing", "pair"]) (sc := defScope sCallOf) (by decide +kernel)) (fun _ _ _ _ _ => (pg_name (i := 4) scCallOf.nd rfl (.inl rfl))) (fun _ _ _ _ _ => (pts_one (pt_truth (pe_ix ix_tup (pv 4) pe_int (fun _ _ => rfl)) (by intro _; rfl)))) (fun _ _ _ _ _ => (pv 4))) pa_nil)))), ?_⟩
    have hal : (allF rows ks).length = us.length := by
      have := hus.1
      rw [List.length_map] at this
      unfold allF
      rw [List.length_map, this]
    have hul : us.length ≤ 12 := by
      have := hus.1
      rw [List.length_map] at this
      omega
    refine ⟨_, rfl, a, rfl, lc_new_seq ha ((allF rows ks).map rowD) (by rw [List.length_map, hal]) (by omega) (fun i x d H1 Kt Kn hx hd sm k => ?_) (fun D H1 nD s1 hD => ?_)⟩
    · obtain ⟨pk, epk, dpk⟩ := hus.atM hx
      obtain ⟨b, a2, us2, rfl, eb, _, ea2, hu2⟩ := (dpk.same sm).pk
      have hpk := hks pk (List.mem_of_getElem? epk)
      refine ⟨rfl, _, rfl, b, _, 0, .str pk.1, rfl, rfl, .inl (.inl eb), atI_nat (j := 0) rfl, ?_⟩
      refine ⟨_, rfl, _, rfl, b, m, pk.1, pk.2.1, pk.2.2, mv, rows, rfl, ⟨a2, us2, eb, .inl ea2, hu2.pts⟩, hm.same sm, (hmv.same sm).rows, hg, hpk.1, hpk.2.1, hpk.2.2.1, hpk.2.2.2, fun l rs H2 nl hl told len s2 => ?_⟩
      refine ⟨(by show 2 ≤ sizeLine; decide), fun T nT => ?_⟩
      have sT := same_upd (o := .tup [.str pk.1, .ref l]) nT
      have ed : d = rowD (pk.1, rs) := by
        unfold allF at hd
        rw [List.getElem?_map, List.getElem?_map, epk] at hd
        rw [told.canon]
        exact (Option.some.inj hd).symm
      obtain ⟨ws, el, hws⟩ := hl
      refine k _ _ (s2.trans sT) ?_
      rw [ed]
      exact EchN.tup (.cons (.str _) (.one (((hws.ech (N := NewIn H1)).same sT).lst nl (sT _ _ el)))) upd_same
    obtain ⟨_, ws, e, _, eD, hws⟩ := hD.list
    cases e
    have hwl : ws.length ≤ 12 := by
      have := hws.1
      rw [List.length_map] at this
      omega
    -- is a row's set there
    refine ⟨_, rfl, D, rfl, ⟨_, SqL.of eD⟩, fun D2 nD2 => lc_keep (hasSome H1) nD2 eD (by omega) (fun i x H2 Kt Kn hx s2 kt kn => ?_) (fun H2 s2 eD2 => ?_)⟩
    · obtain ⟨r, er, hd⟩ := hws.atM hx
      obtain ⟨a3, c3, ws3, rfl, ea3, ec3, eh, eh2⟩ := hasSome_at hd
      refine ⟨rfl, _, rfl, a3, _, 1, .ref c3, rfl, rfl, .inl (.inl (s2 _ _ ea3)), atI_nat (j := 1) rfl, _, .inl ⟨ws3, SqL.of (s2 _ _ ec3), rfl⟩, ite2 (fun c => ?_) (fun c => ?_)⟩
      · exact ⟨_, rfl, kt H2 (Same.refl _) (by rw [eh]; exact c)⟩
      · exact kn H2 (Same.refl _) (by rw [eh]; exact Bool.eq_false_iff.mpr c)
    have hf : EchN (NewIn H) H1 (ws.filter (hasSome H1)) ((keepR (allF rows ks)).map rowD) := hws.filter fun i x r e1 e2 => by
      obtain ⟨r', er, hd⟩ := hws.atM e1
      rw [e2] at er
      cases er
      obtain ⟨a3, c3, ws3, rfl, ea3, ec3, eh, eh2⟩ := hasSome_at hd
      rw [eh, eh2]
    have hf2 := hf.same s2
    have hnd2 : ((keepR (allF rows ks)).map (·.1)).Nodup := by
      have : ((allF rows ks).map (·.1)).Nodup := by
        unfold allF
        rw [List.map_map]
        exact hnd
      exact this.sublist (List.filter_sublist.map _)
    have one : ∀ x ∈ ws.filter (hasSome H1), ∃ r, r ∈ keepR (allF rows ks) ∧ DatN (NewIn H) H2 x (rowD r) := fun x hx => by
      obtain ⟨i, hi, e⟩ := List.getElem_of_mem hx
      obtain ⟨r, er, hd⟩ := hf2.atM (i := i) (x := x) (by rw [List.getElem?_eq_getElem hi, e])
      exact ⟨r, List.mem_of_getElem? er, hd⟩
    refine ⟨D2, _, fun v => [.inr (rowOf H2 v)], false, [], rfl, SqL.of eD2, fun x hx => ?_, fun x hx y hy e => ?_, fun zs p srt stb np => ?_⟩
    · obtain ⟨r, _, hd⟩ := one x hx
      obtain ⟨a3, c3, ws3, rfl, ea3, _⟩ := hasSome_at hd
      refine ⟨rfl, a3, [.ref c3], rfl, ?_⟩
      rw [ea3]
      show some (HO.tup [V.str r.1, .ref c3]) = some (HO.tup [V.str (rowOf H2 (.ref a3)), .ref c3])
      rw [rowOf_at ea3]
    · obtain ⟨i, hi, ei⟩ := List.getElem_of_mem hx
      obtain ⟨j, hj, ej⟩ := List.getElem_of_mem hy
      obtain ⟨r, er, hd⟩ := hf2.atM (i := i) (x := x) (by rw [List.getElem?_eq_getElem hi, ei])
      obtain ⟨r', er', hd'⟩ := hf2.atM (i := j) (x := y) (by rw [List.getElem?_eq_getElem hj, ej])
      obtain ⟨a3, c3, ws3, rfl, ea3, _⟩ := hasSome_at hd
      obtain ⟨a4, c4, ws4, rfl, ea4, _⟩ := hasSome_at hd'
      have en : rowOf H2 (.ref a3) = rowOf H2 (.ref a4) := Sum.inr.inj (List.cons.inj e).1
      rw [rowOf_at ea3, rowOf_at ea4] at en
      by_cases ij : i = j
      · subst ij
        rw [← ei, ← ej]
      · exact absurd en (row_ne hnd2 er er' ij)
    obtain ⟨rs', hzs, hsr⟩ := rows_sorted hf2 hnd2 srt stb
    have sp := same_upd (o := .lst zs) np
    refine q p rs' _ ((hzs.same sp).lst ((s1.trans s2).free np) upd_same) hsr ?_ ((s1.trans s2).trans sp)
    rw [hsr.2.len]
    refine Nat.le_trans (List.length_filter_le ..) ?_
    unfold allF
    rw [List.length_map]
    exact hkl
end

/-! ### numbers within their bounds; texts as lists of signs -/
theorem mulw {i j : Int} (hi : i.natAbs < 2 ^ 250) (hj : j.natAbs < 2 ^ 250) : CMulW i j := wide_mul hi hj (by decide) (by decide) (by decide)
theorem divw {i j : Int} (h : 0 < j) (hj : j.natAbs < 2 ^ 250) : CDivW i j := wide_div h hj (by decide) (by decide)
theorem S_of (z : Str) : z = SX.S z.cps.toList := (SX.S_tl z).symm
theorem S_cps (a : List Nat) : (SX.S a).cps.toList = a := by simp [SX.S]
theorem cutS_take (a : List Nat) (k : Nat) : cutS (SX.S a) none (some (k : Int)) = SX.S (a.take k) := by
  unfold cutS
  rw [HT.sIx_none, HT.sIx_nat, SX.S_len, S_cps, List.drop_zero, Nat.sub_zero]
  by_cases h : k ≤ a.length
  · rw [Nat.min_eq_left h]
  · rw [Nat.min_eq_right (by omega), List.take_of_length_le (Nat.le_refl _), List.take_of_length_le (by omega)]
theorem cutS_drop (a : List Nat) (k : Nat) : cutS (SX.S a) (some (k : Int)) none = SX.S (a.drop k) := by
  unfold cutS
  rw [HT.sIx_none, HT.sIx_nat, SX.S_len, S_cps]
  by_cases h : k ≤ a.length
  · rw [Nat.min_eq_left h, List.take_of_length_le (by rw [List.length_drop]; omega)]
  · rw [Nat.min_eq_right (by omega), List.drop_eq_nil_of_le (Nat.le_refl _), List.drop_eq_nil_of_le (by omega), List.take_nil]
theorem cutS_mid (a : List Nat) (i j : Nat) : cutS (SX.S a) (some (i : Int)) (some (j : Int)) = SX.S ((a.drop i).take (j - i)) := by
  unfold cutS
  rw [HT.sIx_nat, HT.sIx_nat, SX.S_len, S_cps]
  by_cases h : i ≤ a.length
  · rw [Nat.min_eq_left h]
    by_cases h2 : j ≤ a.length
    · rw [Nat.min_eq_left h2]
    · rw [Nat.min_eq_right (by omega), List.take_of_length_le (by rw [List.length_drop]; omega), List.take_of_length_le (by rw [List.length_drop]; omega)]
  · rw [Nat.min_eq_right (by omega : a.length ≤ i), List.drop_eq_nil_of_le (Nat.le_refl _), List.drop_eq_nil_of_le (by omega), List.take_nil, List.take_nil]
/-- the sign at a place within -/
theorem sign_at {a : List Nat} {j : Nat} (h : j < a.length) : atI (SX.S a).cps.toList (j : Int) = some a[j] := by
  rw [S_cps]
  exact atI_nat (List.getElem?_eq_getElem h)
theorem S_le {a : List Nat} (h : a.length ≤ 10000) : (SX.S a).length ≤ sizeLine := by rw [SX.S_len]; exact Nat.le_trans h (by decide)
theorem strOk_S {a : List Nat} (h : ∀ c ∈ a, c < 1114112) : PyData.strOk (SX.S a) = true := by
  show (Array.all _ _) = true
  rw [Array.all_eq_true']
  intro c hc
  exact decide_eq_true (h c (by simpa using hc))
theorem join_signs (cs : List Nat) : Txt.join "" (cs.map sgS) = SX.S cs := by
  have z := SX.join_S [] (cs.map fun c => [c])
  rw [joinL_ones, List.map_map] at z
  exact z
theorem join_fits {cs : List Nat} (h : cs.length ≤ 10000) : ((cs.map sgS).map (·.length)).sum + (cs.map sgS).length * ("" : Str).length ≤ 16777216 := by
  have e : ∀ cs : List Nat, ((cs.map sgS).map (·.length)).sum = cs.length := fun cs => by
    induction cs with
    | nil => rfl
    | cons c r ih =>
      rw [List.map_cons, List.map_cons, List.sum_cons, ih, List.length_cons]
      show 1 + r.length = r.length + 1
      omega
  rw [e, show ("" : Str).length = 0 from rfl, Nat.mul_zero]
  omega

/-! ### draws: great numbers, names, packings -/
abbrev sGreat : Stmt := topS 13
theorem scGreat : FnScope ["_law_state", "_law_found", "_law_turn"] ["_law_state"] (defScope sGreat) := ⟨rfl, rfl, rfl, by decide +kernel, rfl, by decide +kernel, by decide +kernel⟩
def spGreat : Sp := fun vs H Q _ => ∃ (d c : Addr) (t : Int), vs = [.ref d] ∧ StAt H d c t ∧ t + 10 < 2 ^ 60 ∧ ∀ r H', 0 ≤ r → r < 10 ^ 30 → StAt H' d c (t + 5) → Kp d c H H' → Q (.int r) H'
section
variable {K : PySem.W.Frag} {mg : Str → Option Value} {P : Program} {w : World} {base : Heap}
theorem ok_Great {f : Addr} {fd : FuncData} (F : Fun K "_law_great" "_law_great" sGreat f fd) (C__law_take : Cal P w K mg base 1 "_law_take" ["_law_state", "_law_many"] spTake) (m_range : mg "range" = none) : FnOk P w K mg base CX0 2 f fd ["_law_state"] spGreat := by
  refine F.ok scGreat (fun vs H Q E h => ?_) (fun cdv A outer s H vs Q E hr h => ?_)
  · obtain ⟨d, c, t, rfl, _⟩ := h
    rfl
  · obtain ⟨d, c, t, rfl, hS, ht, q⟩ := h
    refine ⟨_, pss_cons (ps_set (i := 1) scGreat.nd rfl (.inl rfl) (pe_own C__law_take hr (by rfl) (pa_cons (pv 0) (pa_cons pe_int pa_nil))))
      (pss_cons (ps_for PassesOwn.never rfl (pi_range1 rfl m_range (pa_cons pe_int pa_nil)) (pg_name (i := 2) scGreat.nd rfl (.inl rfl))
        (pss_one (ps_set (i := 1) scGreat.nd rfl (.inl rfl) (pe_op op_add (pe_op op_mulW (pv 1) (pe_op op_pow pe_int pe_int)) (pe_own C__law_take hr (by rfl) (pa_cons (pv 0) (pa_cons (pe_op op_pow pe_int pe_int) pa_nil)))))))
      (pss_one (ps_ret (pv 1)))), ?_⟩
    refine ⟨_, rfl, d, c, t, 100, rfl, hS, by omega, by decide, by decide, fun r1 H1 r10 r11 hS1 k1 => ?_⟩
    refine ⟨4, rfl, by decide, by decide, for_range (n := 4) (fun i σ Hx => ∃ (x : Int) (y : Option V), σ = [some (.ref d), some (.int x), y] ∧ 0 ≤ x ∧ x < 100 * 10 ^ (7 * i) ∧ StAt Hx d c (t + 1 + i) ∧ Kp d c H Hx) ⟨r1, _, rfl, r10, by omega, by simpa using hS1, k1⟩ (fun i σ Hx hi hP => ?_) (fun σ Hx hP => ?_)⟩
    · obtain ⟨x, y, rfl, x0, x1, hSx, kx⟩ := hP
      have hi4 : i = 0 ∨ i = 1 ∨ i = 2 ∨ i = 3 := by omega
      have x2 : x < 10 ^ 30 := by rcases hi4 with rfl | rfl | rfl | rfl <;> omega
      refine ⟨_, rfl, 10, 7, rfl, rfl, ⟨by decide, by decide, by decide⟩, x, 10 ^ 7, rfl, rfl, mulw (by omega) (by decide), _, rfl, 10, 7, rfl, rfl, ⟨by decide, by decide, by decide⟩, d, c, t + 1 + i, 10 ^ 7, rfl, hSx, by omega, by decide, by decide, fun r H2 r0 r1 hS2 k2 => ?_⟩
      refine ⟨x * 10 ^ 7, r, rfl, rfl, x * 10 ^ 7 + r, _, rfl, by omega, ?_, ?_, kx.trans k2⟩
      · rcases hi4 with rfl | rfl | rfl | rfl <;> omega
      · have e : t + 1 + ((i + 1 : Nat) : Int) = t + 1 + i + 1 := by omega
        rw [e]
        exact hS2
    · obtain ⟨x, y, rfl, x0, x1, hSx, kx⟩ := hP
      exact ⟨_, rfl, q x Hx x0 (by omega) (by simpa [Int.add_assoc] using hSx) kx⟩
end
abbrev sNames : Stmt := topS 14
theorem scNames : FnScope ["_law_state", "_law_many", "_law_letters", "_law_found", "_law_k", "_law_ahead", "_law_first"] ["_law_state", "_law_many"] (defScope sNames) := ⟨rfl, rfl, rfl, by decide +kernel, rfl, by decide +kernel, by decide +kernel⟩
/-- names: letters, no two alike -/
def NamesOk (xs : List Str) : Prop := xs.Nodup ∧ ∀ x ∈ xs, ∃ cs : List Nat, x = SX.S cs ∧ 1 ≤ cs.length ∧ cs.length ≤ 8 ∧ ∀ ch ∈ cs, 97 ≤ ch ∧ ch ≤ 122
def spNamesB : Sp := fun vs H Q _ => ∃ (d c : Addr) (t m : Int), vs = [.ref d, .int m] ∧ StAt H d c t ∧ t + 100 < 2 ^ 60 ∧ 0 ≤ m ∧ m ≤ 20 ∧
  ∀ (l : Addr) (xs : List Str) (t' : Int) H', H l = none → H' l = some (.lst (xs.map V.str)) → (xs.length : Int) = m → NamesOk xs → t ≤ t' → t' ≤ t + 30 → StAt H' d c t' → Kp d c H H' → Q (.ref l) H'
abbrev abcS : Str := "abcdefghijklmnopqrstuvwxyz"
theorem abc_at {r : Int} (h0 : 0 ≤ r) (h1 : r < 26) : atI abcS.cps.toList r = some (97 + r.toNat) := by
  obtain ⟨j, rfl⟩ := Int.eq_ofNat_of_zero_le h0
  have h : ∀ j : Nat, j < 26 → abcS.cps.toList[j]? = some (97 + j) := by decide +kernel
  rw [atI_nat (h j (by omega))]
  rfl
/-- each name is some letters and the letter of its turn -/
def Endings (fi : Int) (xs : List Str) : Prop := ∀ (k : Nat) x, xs[k]? = some x → ∃ cs : List Nat, x = SX.S (cs ++ [97 + ((fi + 7 * (k : Int)) % 26).toNat]) ∧ cs.length ≤ 7 ∧ ∀ ch ∈ cs, 97 ≤ ch ∧ ch ≤ 122
theorem Endings.ok {fi : Int} {xs : List Str} (h : Endings fi xs) (hl : xs.length ≤ 20) : NamesOk xs := by
  constructor
  · refine List.pairwise_iff_getElem.mpr fun i j hi hj hij ex => ?_
    obtain ⟨c1, e1, _⟩ := h i xs[i] (List.getElem?_eq_getElem hi)
    obtain ⟨c2, e2, _⟩ := h j xs[j] (List.getElem?_eq_getElem hj)
    rw [e1, e2] at ex
    have ec := SX.S_inj ex
    have el := (List.append_inj' ec rfl).2
    have e3 : 97 + ((fi + 7 * (i : Int)) % 26).toNat = 97 + ((fi + 7 * (j : Int)) % 26).toNat := (List.cons.inj el).1
    omega
  · intro x hx
    obtain ⟨k, hk, ek⟩ := List.getElem_of_mem hx
    obtain ⟨cs, e, hc, hs⟩ := h k x (by rw [List.getElem?_eq_getElem hk, ek])
    refine ⟨_, e, by rw [List.length_append]; exact Nat.le_add_left 1 _, by rw [List.length_append]; exact Nat.succ_le_succ hc, fun ch hch => ?_⟩
    rcases List.mem_append.mp hch with z | z
    · exact hs ch z
    · rw [List.mem_singleton.mp z]
      omega
section
variable {K : PySem.W.Frag} {mg : Str → Option Value} {P : Program} {w : World} {base : Heap}
theorem ok_Names {f : Addr} {fd : FuncData} (F : Fun K "_law_names" "_law_names" sNames f fd) (C__law_take : Cal P w K mg base 1 "_law_take" ["_law_state", "_law_many"] spTake) (m_range : mg "range" = none) (m_len : mg "len" = none) : FnOk P w K mg base CX0 2 f fd ["_law_state", "_law_many"] spNamesB := by
  refine F.ok scNames (fun vs H Q E h => ?_) (fun cdv A outer s H vs Q E hr h => ?_)
  · obtain ⟨d, c, t, m, rfl, _⟩ := h
    rfl
  · obtain ⟨d, c, t, m, rfl, hS, ht, m0, m1, q⟩ := h
    refine ⟨_, pss_cons (ps_asg (pe_tup (pa_cons pe_str (pa_cons (pe_lst pa_nil) pa_nil))) (pg_tup rfl (pgs_cons (pg_name (i := 2) scNames.nd rfl (.inr rfl)) (pgs_cons (pg_name (i := 3) scNames.nd rfl (.inl rfl)) pgs_nil))))
      (pss_cons (ps_set (i := 5) scNames.nd rfl (.inl rfl) (pe_join pe_str (pe_lc (own := [("_law_k", 4)]) (g := (gName 4)) (tt := tYes) (te := (tOp (L2.rIxS) (tVar 2) (tCall spTake [] E0 (tCons (tVar 0) (tCons (tC (.int 26)) tNil))))) rfl scNames.nd (pi_range1 rfl m_range (pa_cons (pe_own C__law_take hr (by rfl) (pa_cons (pv 0) (pa_cons pe_int pa_nil))) pa_nil)) (blkOk_by (own := [("_law_k", 4)]) (N := ["_law_state", "_law_many", "_law_letters", "_law_found", "_law_k", "_law_ahead", "_law_first"]) (sc := defScope sNames) (by decide +kernel)) (fun _ _ _ _ _ => (pg_name (i := 4) scNames.nd rfl (.inl rfl))) (fun _ _ _ _ _ => pts_nil) (fun _ _ _ _ _ => (pe_ix ix_str (pv 2) (pe_own C__law_take hr (by rfl) (pa_cons (pv 0) (pa_cons pe_int pa_nil))) (fun _ _ => rfl))))))
      (pss_cons (ps_set (i := 6) scNames.nd rfl (.inl rfl) (pe_own C__law_take hr (by rfl) (pa_cons (pv 0) (pa_cons pe_int pa_nil))))
      (pss_cons (ps_for PassesOwn.never rfl (pi_range1 rfl m_range (pa_cons (pv 1) pa_nil)) (pg_name (i := 4) scNames.nd rfl (.inl rfl))
        (pss_one (ps_expr (pe_bm PySem.F.plainAttrs_list PySem.F.slot_list_append PySem.F.type_list_append mt_append (pv 3) (pa_cons (pe_op op_add_str (pe_slice sl_str (pv 5) po_none (po_some (pe_own C__law_take hr (by rfl) (pa_cons (pv 0) (pa_cons (pe_op op_add (pe_callB call_len_str (by rfl) m_len PySem.boot_len (pa_cons (pv 5) pa_nil)) pe_int) pa_nil))))) (pe_ix ix_str (pv 2) (pe_op op_mod (pe_op op_add (pv 6) (pe_op op_mulW pe_int (pv 4))) pe_int) (fun _ _ => rfl))) pa_nil)))))
      (pss_one (ps_ret (pv 3)))))), ?_⟩
    refine ⟨Nat.zero_le _, fun l nl => ⟨(by show 2 ≤ sizeLine; decide), fun T nT => ?_⟩⟩
    have sl := same_upd (o := .lst []) nl
    have sT := same_upd (o := .tup [.str abcS, .ref l]) nT
    have s1 := sl.trans sT
    have el1 := sT _ _ (upd_same (H := H) (a := l) (o := .lst []))
    have eT1 : upd (upd H l (.lst [])) T (.tup [.str abcS, .ref l]) T = some (.tup [.str abcS, .ref l]) := upd_same
    revert s1 el1 eT1
    generalize upd (upd H l (.lst [])) T (.tup [.str abcS, .ref l]) = H1
    intro s1 el1 eT1
    refine ⟨T, _, rfl, .inl (.inl eT1), rfl, _, _, rfl, _, _, rfl, rfl, ?_⟩
    have hS1 := hS.same s1
    -- the letters ahead
    refine ⟨⟨_, rfl⟩, _, rfl, d, c, t, 8, rfl, hS1, by omega, by decide, by decide, fun r H2 r0 r1 hS2 k2 => ?_⟩
    have off1 := hS.off nl
    have el2 := k2 _ _ off1.1 off1.2 el1
    refine ⟨r, rfl, by omega, by omega, fun D nD => lc_draw (α := Nat) (fun ch => .str (sgS ch)) (fun _ ch => 97 ≤ ch ∧ ch ≤ 122) 1 (walk_range (lo := 0) (n := r.toNat)) hS2 nD (by omega) (fun _ _ => trivial) (fun i x Hx Hx' t' Kt Kn hi u0 u1 hSx kx hy k => ?_) (fun H3 t3 cs hcl hcs u0 u1 hS3 k3 hD => ?_)⟩
    · obtain ⟨rfl, rfl⟩ := hy
      refine ⟨rfl, _, rfl, _, rfl, d, c, t', 26, rfl, hSx, by omega, by decide, by decide, fun r2 H4 r20 r21 hS4 k4 => ?_⟩
      exact ⟨_, r2, _, rfl, rfl, (by show abcS.length ≤ sizeLine; decide +kernel), abc_at r20 r21, k _ _ _ H4 (by omega) (.str _) (by omega) (by omega) hS4 k4⟩
    obtain ⟨_, ws, e, _, eD, hws⟩ := hD.list
    cases e
    have ews : ws = (cs.map sgS).map V.str := (EchN.strs (ns := cs.map sgS) (by rw [List.map_map]; exact hws))
    subst ews
    have hcl8 : cs.length ≤ 7 := by omega
    have hcs' : ∀ ch ∈ cs, 97 ≤ ch ∧ ch ≤ 122 := fun ch hch => by
      obtain ⟨i, hi, e⟩ := List.getElem_of_mem hch
      exact hcs i ch (by rw [List.getElem?_eq_getElem hi, e])
    refine ⟨_, D, cs.map sgS, rfl, rfl, .inl (SqL.of eD), join_fits (by omega), ?_⟩
    rw [join_signs]
    have el3 := k3 _ _ off1.1 off1.2 el2
    have k13 := k2.trans k3
    -- the first letter
    refine ⟨_, rfl, d, c, t3, 26, rfl, hS3, by omega, by decide, by decide, fun fi H4 fi0 fi1 hS4 k4 => ?_⟩
    have el4 := k4 _ _ off1.1 off1.2 el3
    refine ⟨_, rfl, m, rfl, by omega, by omega, for_range (n := m.toNat) (fun i σ Hx => ∃ (t' : Int) (xs : List Str) (y4 : Option V), σ = [some (.ref d), some (.int m), some (.str abcS), some (.ref l), y4, some (.str (SX.S cs)), some (.int fi)] ∧ Hx l = some (.lst (xs.map V.str)) ∧ xs.length = i ∧ Endings fi xs ∧ t3 + 1 ≤ t' ∧ t' ≤ t3 + 1 + i ∧ StAt Hx d c t' ∧ Kp d c H Hx)
      ⟨t3 + 1, [], _, rfl, el4, rfl, (fun _ _ e => nomatch e), by omega, by omega, hS4, ((Kp.same d c s1).trans k13).trans k4⟩ (fun i σ Hx hi hP => ?_) (fun σ Hx hP => ?_)⟩
    · obtain ⟨t', xs, y4, rfl, el, hxl, hend, u0', u1', hSx, kx⟩ := hP
      refine ⟨_, rfl, .inl ⟨rfl, _, SqL.of el⟩, ?_⟩
      refine ⟨_, rfl, _, rfl, _, rfl, _, rfl, S_le (by omega), _, 1, rfl, rfl, d, c, t', (cs.length : Int) + 1, by rw [SX.S_len]; rfl, hSx, by omega, by omega, by omega, fun r5 H5 r50 r51 hS5 k5 => ?_⟩
      obtain ⟨j5, rfl⟩ := Int.eq_ofNat_of_zero_le r50
      have el5 := k5 _ _ off1.1 off1.2 el
      refine ⟨_, rfl, _, rfl, S_le (by omega), ?_⟩
      rw [cutS_take]
      have z0 : (0 : Int) + (i : Int) = (i : Int) := Int.zero_add _
      rw [z0]
      refine ⟨_, rfl, _, rfl, _, rfl, 7, (i : Int), rfl, rfl, mulw (by decide) (by omega), fi, _, rfl, rfl, _, 26, rfl, rfl, (show (0 : Int) < 26 by decide), _, _, _, rfl, rfl, (by show abcS.length ≤ sizeLine; decide +kernel), abc_at (Int.emod_nonneg _ (by decide)) (Int.emod_lt_of_pos _ (by decide)), ?_⟩
      have hct : (cs.take j5).length ≤ 7 := by rw [List.length_take]; omega
      refine ⟨_, _, rfl, rfl, ?_, ?_⟩
      · rw [SX.S_len]
        show (cs.take j5).length + 1 ≤ sizeLine
        exact Nat.le_trans (show _ ≤ 10 by omega) (by decide)
      have ecat : SX.S (cs.take j5) ++ (⟨#[97 + ((fi + 7 * (i : Int)) % 26).toNat]⟩ : Str) = SX.S (cs.take j5 ++ [97 + ((fi + 7 * (i : Int)) % 26).toNat]) := SX.S_cat _ _
      rw [ecat]
      refine ⟨l, _, _, rfl, rfl, el5, small1000 (by rw [List.length_map]; omega), ?_⟩
      refine ⟨t' + 1, xs ++ [SX.S (cs.take j5 ++ [97 + ((fi + 7 * (i : Int)) % 26).toNat])], _, rfl, by rw [upd_same, List.map_append]; rfl, by rw [List.length_append, hxl]; rfl, fun k x e => ?_, by omega, by omega, hS5.upd off1.1 off1.2, fun b o b1 b2 e => ?_⟩
      · by_cases hk : k < xs.length
        · rw [List.getElem?_append_left hk] at e
          exact hend k x e
        · rw [List.getElem?_append_right (by omega)] at e
          have hk1 : k - xs.length < 1 := (List.getElem?_eq_some_iff.mp e).1
          obtain rfl : k = i := by omega
          rw [hxl, Nat.sub_self] at e
          cases e
          exact ⟨_, rfl, hct, fun ch hch => hcs' ch (List.mem_of_mem_take hch)⟩
      · rw [upd_ne (ne_of_none e nl)]
        exact k5 b o b1 b2 (kx b o b1 b2 e)
    · obtain ⟨t', xs, y4, rfl, el, hxl, hend, u0', u1', hSx, kx⟩ := hP
      exact ⟨_, rfl, q l xs t' Hx nl el (by omega) (hend.ok (by omega)) (by omega) (by omega) hSx kx⟩
end

theorem nodup_len {α : Type} [DecidableEq α] : ∀ {l m : List α}, l.Nodup → (∀ x ∈ l, x ∈ m) → l.length ≤ m.length
  | [], _, _, _ => Nat.zero_le _
  | x :: r, m, nd, h => by
    have nx := (List.nodup_cons.mp nd).1
    have ih := nodup_len (m := m.erase x) (List.nodup_cons.mp nd).2 fun y hy => by
      have hne : y ≠ x := fun e => nx (e ▸ hy)
      exact (List.mem_erase_of_ne hne).mpr (h y (List.mem_cons_of_mem _ hy))
    have e := List.length_erase_of_mem (h x (List.mem_cons_self ..))
    have pos : 0 < m.length := List.length_pos_of_mem (h x (List.mem_cons_self ..))
    rw [List.length_cons]
    omega

/-! ### numbers as a set -/
abbrev sLSet : Stmt := topS 15
theorem scLSet : FnScope ["_law_numbers", "_law_found", "_law_number"] ["_law_numbers"] (defScope sLSet) := ⟨rfl, rfl, rfl, by decide +kernel, rfl, by decide +kernel, by decide +kernel⟩
def spLSetN : Sp := fun vs H Q _ => ∃ (a : Addr) (ns : List Int), vs = [.ref a] ∧ H a = some (.lst (ns.map V.int)) ∧ ns.length ≤ 900 ∧ TellS (fun n => n ∈ ns) ns.length H Q
def ppL (ns : List Int) : List (Int × Int) := ns.map fun n => (n, n)
theorem ppL_in {ns : List Int} {n : Int} : InS (ppL ns) n ↔ n ∈ ns := by
  constructor
  · rintro ⟨p, hp, e1, e2⟩
    obtain ⟨m, hm, rfl⟩ := List.mem_map.mp hp
    have e1' : m ≤ n := e1
    have e2' : n ≤ m := e2
    obtain rfl : n = m := by omega
    exact hm
  · exact fun h => ⟨(n, n), List.mem_map.mpr ⟨n, h, rfl⟩, Int.le_refl _, Int.le_refl _⟩
/-- between two turns -/
def LSetNW (H : Hp) (a m' g : Addr) (ms : List Int) (i : Nat) (σ : L2.St) (H4 : Hp) : Prop := ∃ (us : List V) (rs : List (Int × Int)) (y2 : Option V), σ = [some (.ref a), some (.ref m'), y2] ∧ Same H H4 ∧ H4 g = some (.lst (ms.map V.int)) ∧ H4 m' = some (.lst us) ∧ Prs H4 us rs ∧ Mrg (ppL (ms.take i)) rs
theorem set_last {ms' : List V} {T0 T2 : Addr} : ixN (ms' ++ [V.ref T0]).length (-1) = some ms'.length ∧ (ms' ++ [V.ref T0]).set ms'.length (.ref T2) = ms' ++ [.ref T2] := by
  constructor
  · unfold ixN
    rw [if_neg (by decide), List.length_append, if_pos (by show -((ms'.length + 1 : Nat) : Int) ≤ -1; omega)]
    show some ((-1 : Int) + ((ms'.length + 1 : Nat) : Int)).toNat = _
    congr 1
    omega
  · simp
section
variable {K : PySem.W.Frag} {mg : Str → Option Value} {P : Program} {w : World} {base : Heap}
theorem ok_LSet {f : Addr} {fd : FuncData} (F : Fun K "_law_set" "_law_set" sLSet f fd) (m_sorted : mg "sorted" = none) (m_set : mg "set" = none) : FnOk P w K mg base CX0 1 f fd ["_law_numbers"] spLSetN := by
  refine F.ok scLSet (fun vs H Q E h => ?_) (fun cdv A outer s H vs Q E hr h => ?_)
  · obtain ⟨a, ns, rfl, _⟩ := h
    rfl
  · obtain ⟨a, ns, rfl, ea, hz, q⟩ := h
    refine ⟨_, pss_cons (ps_set (i := 1) scLSet.nd rfl (.inl rfl) (pe_lst pa_nil))
      (pss_cons (ps_for PassesOwn.never rfl (pi_list (pe_sortedSet (by rfl) m_sorted (by rfl) m_set (pv 0))) (pg_name (i := 2) scLSet.nd rfl (.inl rfl))
        (pss_one (ps_if (PW.pt (pw_and (pt_cmpR (op_neD hr.units) (pv 1) (pe_lst pa_nil) (nomark _)) (pw_and1 (pt_cmpR op_eq (pe_op op_add (pe_ix ix_tup (pe_ix ix_list (pv 1) (pe_un un_neg pe_int) (fun _ _ => rfl)) pe_int (fun _ _ => rfl)) pe_int) (pv 2) (nomark _))))) (pss_one (ps_asg (pe_tup (pa_cons (pe_ix ix_tup (pe_ix ix_list (pv 1) (pe_un un_neg pe_int) (fun _ _ => rfl)) pe_int (fun _ _ => rfl)) (pa_cons (pv 2) pa_nil))) (pg_sub (pv 1) (pe_un un_neg pe_int) set_list)))
          (pss_one (ps_expr (pe_bm PySem.F.plainAttrs_list PySem.F.slot_list_append PySem.F.type_list_append mt_append (pv 1) (pa_cons (pe_tup (pa_cons (pv 2) (pa_cons (pv 2) pa_nil))) pa_nil)))))))
      (pss_one (ps_ret (pv 1)))), ?_⟩
    refine ⟨Nat.zero_le _, fun m' nm => ?_⟩
    have s1 := same_upd (o := .lst []) nm
    have em1 : upd H m' (.lst []) m' = some (.lst []) := upd_same
    revert s1 em1
    generalize upd H m' (.lst []) = H1
    intro s1 em1
    refine ⟨_, rfl, a, ns, rfl, SqL.of (s1 _ _ ea), by omega, fun ms g up mem ng => ?_⟩
    have sg := same_upd (o := .lst (ms.map V.int)) ng
    have s3 := s1.trans sg
    have nmg : m' ≠ g := ne_of_none em1 ng
    have hml : ms.length ≤ ns.length := nodup_len (up.imp fun {x y} (h : x < y) => by omega) fun k hk => (mem k).mp hk
    refine ⟨g, rfl, ⟨_, SqL.of upd_same⟩, for_list (xs := ms.map V.int) (LSetNW H a m' g ms) ⟨[], [], _, rfl, s3, upd_same, sg _ _ em1, Prs.nil, Mrg.nil⟩ (fun i σ H4 _ hP => ?_) (fun i x σ H4 hx hP => ?_) (fun σ H4 hP => ?_)⟩
    · obtain ⟨_, _, _, rfl, _, e, _⟩ := hP
      exact SqL.of e
    · obtain ⟨us, rs, y2, rfl, sm4, eg4, em4, hus, m⟩ := hP
      obtain ⟨n, en, rfl⟩ : ∃ n, ms[i]? = some n ∧ x = .int n := by
        rw [List.getElem?_map] at hx
        cases h : ms[i]? with
        | none => rw [h] at hx; cases hx
        | some n => rw [h] at hx; exact ⟨n, rfl, (Option.some.inj hx).symm⟩
      have hi : i < ms.length := (List.getElem?_eq_some_iff.mp en).1
      have et : ppL (ms.take (i + 1)) = ppL (ms.take i) ++ [(n, n)] := by
        unfold ppL
        rw [List.take_add_one, en, List.map_append]
        rfl
      have low : ∀ y ∈ ms.take i, y < n := fun y hy => by
        obtain ⟨j, hj, e⟩ := List.getElem_of_mem hy
        rw [List.length_take] at hj
        rw [List.getElem_take] at e
        obtain ⟨_, e2⟩ := List.getElem?_eq_some_iff.mp en
        rw [← e, ← e2]
        exact List.pairwise_iff_getElem.mp up j i (by omega) hi (by omega)
      have ord : ∀ p ∈ ppL (ms.take i), p.1 ≤ n := fun p hp => by
        obtain ⟨y, hy, rfl⟩ := List.mem_map.mp hp
        exact Int.le_of_lt (low y hy)
      have hul : us.length ≤ 900 := by
        have := m.len
        unfold ppL at this
        rw [List.length_map, List.length_take] at this
        rw [hus.1]
        omega
      refine ⟨_, rfl, Nat.zero_le _, fun z nz => ?_⟩
      have sz := same_upd (o := .lst []) nz
      refine ⟨_, _, .lst (SqL.of (sz _ _ em4)) (dp_prs (hus.same sz)), .lst (SqL.of upd_same) .nil, shaped_prs rs, shaped_ints [], ?_⟩
      rw [eqv_pr_nil]
      have sm5 := sm4.trans sz
      have eg5 := sz _ _ eg4
      have em5 := sz _ _ em4
      have hus5 := hus.same sz
      revert sm5 eg5 em5 hus5
      generalize upd H4 z (.lst []) = H5
      intro sm5 eg5 em5 hus5
      have grow : ∀ (T2 : Addr) (p2 : Int × Int) (us2 : List V) (rs2 : List (Int × Int)), H5 T2 = none → Prs (upd H5 T2 (.tup [.int p2.1, .int p2.2])) us2 rs2 → Mrg (ppL (ms.take (i + 1))) rs2 → LSetNW H a m' g ms (i + 1) [some (.ref a), some (.ref m'), some (.int n)] (upd (upd H5 T2 (.tup [.int p2.1, .int p2.2])) m' (.lst us2)) := by
        intro T2 p2 us2 rs2 n2 h2 m2
        have st := same_upd (o := .tup [.int p2.1, .int p2.2]) n2
        have em6 := st _ _ em5
        refine ⟨us2, rs2, _, rfl, fun b o e => ?_, ?_, upd_same, h2.upd_lst em6, m2⟩
        · rw [upd_ne (ne_of_none e nm)]
          exact st _ _ (sm5 _ _ e)
        · rw [upd_ne nmg.symm]
          exact st _ _ eg5
      have app : (∀ r ∈ rs, r.2 + 2 ≤ n) → (tDrop (tBM K "list" rAppend (tVar 1) (tCons (tTup (tCons (tVar 2) (tCons (tVar 2) tNil))) tNil))) { nx := LSetNW H a m' g ms (i + 1), rt := fun _ _ => False } [some (.ref a), some (.ref m'), some (.int n)] H5 := by
        intro far
        refine ⟨.ref m', rfl, .inl ⟨rfl, _, SqL.of em5⟩, _, rfl, _, rfl, (by show 2 ≤ sizeLine; decide), fun T2 n2 => ?_⟩
        have st := same_upd (o := .tup [.int n, .int n]) n2
        exact ⟨m', _, _, rfl, rfl, st _ _ em5, small1000 (by omega), grow T2 (n, n) (us ++ [.ref T2]) (rs ++ [(n, n)]) n2 ((hus5.same st).snoc upd_same) (by rw [et]; exact m.new (Int.le_refl _) ord far)⟩
      have below : ∀ r ∈ rs, r.2 < n := fun r hr => by
        obtain ⟨lo, hR⟩ := m.ris
        have h2 := (hR.le r hr).2
        have : InS (ppL (ms.take i)) r.2 := (m.same r.2).mp ⟨r, hr, h2, Int.le_refl _⟩
        exact low _ (ppL_in.mp this)
      rcases snoc_cases rs with e0 | ⟨rs', ⟨lo, hi'⟩, e0⟩
      · refine ⟨false, (by rw [e0]; rfl), iteF (iteF ?_)⟩
        exact app (by rw [e0]; exact fun _ z => nomatch z)
      · subst e0
        obtain ⟨us', T0, rfl, eT0, hus'⟩ := hus5.last
        have hb : hi' < n := below (lo, hi') (List.mem_append_right _ (List.mem_singleton.mpr rfl))
        refine ⟨true, (by simp), iteT ?_⟩
        refine ⟨.ref m', rfl, 1, rfl, m', _, -1, .ref T0, rfl, rfl, SqL.of em5, atI_last _ _, T0, _, 1, .int hi', rfl, rfl, .inl (.inl eT0), atI_nat (j := 1) rfl, hi', 1, rfl, rfl, _, rfl, rfl, _, rfl, ite2 (fun c => ?_) (fun c => ?_)⟩
        · have c' : hi' + 1 = n := V.int.inj (of_decide_eq_true c)
          refine ⟨_, rfl, 1, rfl, m', _, -1, .ref T0, rfl, rfl, SqL.of em5, atI_last _ _, T0, _, 0, .int lo, rfl, rfl, .inl (.inl eT0), atI_nat (j := 0) rfl, _, rfl, (by show 2 ≤ sizeLine; decide), fun T2 n2 => ?_⟩
          have st := same_upd (o := .tup [.int lo, .int n]) n2
          refine ⟨.ref m', rfl, 1, rfl, m', _, -1, us'.length, rfl, rfl, st _ _ em5, (set_last (T2 := T2)).1, ?_⟩
          rw [set_last.2]
          have mj := m.join (p := (n, n)) (Int.le_refl _) ord (show n ≤ hi' + 1 by omega)
          rw [if_pos (show n > hi' from hb), ← et] at mj
          exact grow T2 (lo, n) (us' ++ [.ref T2]) (rs' ++ [(lo, n)]) n2 ((hus'.same st).snoc upd_same) mj
        · have c' : ¬ hi' + 1 = n := fun z => c (decide_eq_true (congrArg V.int z))
          refine app fun r hr' => ?_
          obtain ⟨lo', hR⟩ := m.ris
          obtain ⟨_, h2, _, h4⟩ := Ris.front hR
          have h4' : lo ≤ hi' := h4
          rcases List.mem_append.mp hr' with y | y
          · have : r.2 + 2 ≤ lo := h2 r y
            omega
          · rw [List.mem_singleton.mp y]
            show hi' + 2 ≤ n
            omega
    · obtain ⟨us, rs, y2, rfl, sm4, eg4, em4, hus, m⟩ := hP
      rw [List.length_map, List.take_length] at m
      refine ⟨_, rfl, q m' rs H4 nm ⟨us, em4, hus⟩ ⟨m.ris, fun n => ?_⟩ ?_ sm4⟩
      · exact (m.same n).trans (ppL_in.trans (mem n))
      · have := m.len
        unfold ppL at this
        rw [List.length_map] at this
        omega
end

open G3
/-! ### the law's packings -/
theorem str_at {ns : List Str} {i : Nat} {x : V} (hx : (ns.map V.str)[i]? = some x) : ∃ n, ns[i]? = some n ∧ x = .str n := by
  rw [List.getElem?_map] at hx
  cases h : ns[i]? with
  | none => rw [h] at hx; cases hx
  | some n => rw [h] at hx; exact ⟨n, rfl, (Option.some.inj hx).symm⟩
/-- one of a list of texts -/
theorem pickS {ms : List Str} {r : Int} (h0 : 0 ≤ r) (h1 : r < ms.length) : ∃ x, x ∈ ms ∧ atI (ms.map V.str) r = some (.str x) := by
  obtain ⟨j, rfl⟩ := Int.eq_ofNat_of_zero_le h0
  have hj : j < ms.length := by omega
  exact ⟨ms[j], List.getElem_mem hj, atI_nat (by rw [List.getElem?_map, List.getElem?_eq_getElem hj]; rfl)⟩
def PartS (ms : List Str) (p : Part) : Prop := p.1 ∈ ms ∧ 0 ≤ p.2.1 ∧ p.2.1 ≤ p.2.2 ∧ p.2.2 ≤ 20
def PkS (ms : List Str) (k : Pk) : Prop := (∀ p ∈ k.2.2, PartS ms p) ∧ k.2.2.length ≤ 12 ∧ 1 ≤ k.2.1 ∧ k.2.1 ≤ 60
abbrev sLPack : Stmt := topS 16
theorem scLPack : FnScope ["_law_state", "_law_name", "_law_marks", "_law_parts", "_law_turn", "_law_first"] ["_law_state", "_law_name", "_law_marks"] (defScope sLPack) := ⟨rfl, rfl, rfl, by decide +kernel, rfl, by decide +kernel, by decide +kernel⟩
def spLPack : Sp := fun vs H Q _ => ∃ (d c a : Addr) (t : Int) (nm : Str) (ms : List Str), vs = [.ref d, .str nm, .ref a] ∧ StAt H d c t ∧ t + 100 < 2 ^ 60 ∧ H a = some (.lst (ms.map V.str)) ∧ 1 ≤ ms.length ∧ ms.length ≤ 100 ∧
  ∀ v (k : Pk) t' H', DatN (NewIn H) H' v (pkD k) → k.1 = nm → PkS ms k → t ≤ t' → t' ≤ t + 50 → StAt H' d c t' → Kp d c H H' → Q v H'
section
variable {K : PySem.W.Frag} {mg : Str → Option Value} {P : Program} {w : World} {base : Heap}
theorem ok_LPack {f : Addr} {fd : FuncData} (F : Fun K "_law_packing" "_law_packing" sLPack f fd) (C__law_take : Cal P w K mg base 1 "_law_take" ["_law_state", "_law_many"] spTake) (m_range : mg "range" = none) (m_len : mg "len" = none) : FnOk P w K mg base CX0 2 f fd ["_law_state", "_law_name", "_law_marks"] spLPack := by
  refine F.ok scLPack (fun vs H Q E h => ?_) (fun cdv A outer s H vs Q E hr h => ?_)
  · obtain ⟨d, c, a, t, nm, ms, rfl, _⟩ := h
    rfl
  · obtain ⟨d, c, a, t, nm, ms, rfl, hS, ht, ea, hm1, hm2, q⟩ := h
    refine ⟨_, pss_cons (ps_set (i := 3) scLPack.nd rfl (.inl rfl) (pe_lst pa_nil))
      (pss_cons (ps_for PassesOwn.never rfl (pi_range1 rfl m_range (pa_cons (pe_mid (pe_ifExp (pt_cmpR op_eq (pe_own C__law_take hr (by rfl) (pa_cons (pv 0) (pa_cons pe_int pa_nil))) pe_int (nomark _)) pe_int (pe_own C__law_take hr (by rfl) (pa_cons (pv 0) (pa_cons pe_int pa_nil))))) pa_nil)) (pg_name (i := 4) scLPack.nd rfl (.inl rfl))
        (pss_cons (ps_set (i := 5) scLPack.nd rfl (.inl rfl) (pe_own C__law_take hr (by rfl) (pa_cons (pv 0) (pa_cons pe_int pa_nil))))
        (pss_one (ps_expr (pe_bm PySem.F.plainAttrs_list PySem.F.slot_list_append PySem.F.type_list_append mt_append (pv 3) (pa_cons (pe_tup (pa_cons (pe_ix ix_list (pv 2) (pe_own C__law_take hr (by rfl) (pa_cons (pv 0) (pa_cons (pe_callB call_len_seq (by rfl) m_len PySem.boot_len (pa_cons (pv 2) pa_nil)) pa_nil))) (fun _ _ => rfl)) (pa_cons (pv 5) (pa_cons (pe_op op_add (pv 5) (pe_own C__law_take hr (by rfl) (pa_cons (pv 0) (pa_cons pe_int pa_nil)))) pa_nil)))) pa_nil))))))
      (pss_one (ps_ret (pe_tup (pa_cons (pv 1) (pa_cons (pe_op op_add pe_int (pe_own C__law_take hr (by rfl) (pa_cons (pv 0) (pa_cons (pe_ix ix_list (pe_lst (pa_cons pe_int (pa_cons pe_int (pa_cons pe_int pa_nil)))) (pe_own C__law_take hr (by rfl) (pa_cons (pv 0) (pa_cons pe_int pa_nil))) (fun _ _ => rfl)) pa_nil)))) (pa_cons (pv 3) pa_nil))))))), ?_⟩
    have offa : a ≠ d ∧ a ≠ c := by
      obtain ⟨cs, ec, hne, _⟩ := hS.cells
      refine ⟨(ne_of ea hS.dict (fun z => nomatch z)), fun z => ?_⟩
      rw [z, ec] at ea
      have e : cs.map V.int = ms.map V.str := HO.lst.inj (Option.some.inj ea)
      cases cs with
      | nil => exact hne rfl
      | cons n r =>
        cases ms with
        | nil => cases e
        | cons x y => cases e
    refine ⟨Nat.zero_le _, fun l nl => ?_⟩
    have sl := same_upd (o := .lst []) nl
    have el1 := upd_same (H := H) (a := l) (o := .lst [])
    have hS1 := hS.same sl
    have ea1 := sl _ _ ea
    have off := hS.off nl
    revert sl el1 hS1 ea1
    generalize upd H l (.lst []) = H1
    intro sl el1 hS1 ea1
    -- how many parts
    refine ⟨fun v H' => ∃ n t' : Int, v = .int n ∧ 0 ≤ n ∧ n ≤ 12 ∧ t ≤ t' ∧ t' ≤ t + 2 ∧ StAt H' d c t' ∧ Kp d c H1 H', ?_, fun v H2 hM => ?_⟩
    · refine ⟨_, rfl, d, c, t, 6, rfl, hS1, by omega, by decide, by decide, fun r H2 r0 r1 hS2 k2 => ⟨rfl, _, rfl, ite2 (fun e => ?_) (fun e => ?_)⟩⟩
      · exact ⟨12, t + 1, rfl, by decide, by decide, by omega, by omega, hS2, k2⟩
      · exact ⟨_, rfl, d, c, t + 1, 5, rfl, hS2, by omega, by decide, by decide, fun r' H3 r0' r1' hS3 k3 => ⟨r', t + 1 + 1, rfl, r0', by omega, by omega, by omega, hS3, k2.trans k3⟩⟩
    obtain ⟨n, t2, rfl, n0, n1, t20, t21, hS2, k2⟩ := hM
    refine ⟨n, rfl, by omega, by omega, for_range (n := n.toNat) (fun i σ Hx => ∃ (t' : Int) (us : List V) (ps : List Part) (y4 y5 : Option V), σ = [some (.ref d), some (.str nm), some (.ref a), some (.ref l), y4, y5] ∧ Hx l = some (.lst us) ∧ EchN (fun b => H b = none ∧ b ≠ l) Hx us (ps.map partD) ∧ ps.length = i ∧ (∀ p ∈ ps, PartS ms p) ∧ t2 ≤ t' ∧ t' ≤ t2 + 3 * (i : Int) ∧ StAt Hx d c t' ∧ Kp d c H Hx)
      ⟨t2, [], [], _, _, rfl, k2 _ _ off.1 off.2 el1, .nil, rfl, (fun _ z => nomatch z), by omega, by omega, hS2, (Kp.same d c sl).trans k2⟩ (fun i σ Hx hi hP => ?_) (fun σ Hx hP => ?_)⟩
    · obtain ⟨t', us, ps, y4, y5, rfl, el, hus, hpl, hps, u0, u1, hSx, kx⟩ := hP
      refine ⟨_, rfl, d, c, t', 12, rfl, hSx, by omega, by decide, by decide, fun fi H3 fi0 fi1 hS3 k3 => ?_⟩
      have el3 := k3 _ _ off.1 off.2 el
      refine ⟨_, rfl, .inl ⟨rfl, _, SqL.of el3⟩, ?_⟩
      have ea3 := (kx.trans k3) _ _ offa.1 offa.2 ea
      refine ⟨_, rfl, _, rfl, _, rfl, a, _, rfl, .inl (SqL.of ea3), d, c, t' + 1, (ms.length : Int), by rw [List.length_map]; rfl, hS3, by omega, by omega, by omega, fun r4 H4 r40 r41 hS4 k4 => ?_⟩
      have ea4 := k4 _ _ offa.1 offa.2 ea3
      obtain ⟨mk, hmk, hat⟩ := pickS r40 r41
      refine ⟨a, _, r4, .str mk, rfl, rfl, SqL.of ea4, hat, _, rfl, _, rfl, _, rfl, d, c, t' + 1 + 1, 10, rfl, hS4, by omega, by decide, by decide, fun r5 H5 r50 r51 hS5 k5 => ⟨fi, r5, rfl, rfl, (by show 3 ≤ sizeLine; decide), fun T nT => ?_⟩⟩
      have el5 := k5 _ _ off.1 off.2 (k4 _ _ off.1 off.2 el3)
      have sT := same_upd (o := .tup [.str mk, .int fi, .int (fi + r5)]) nT
      have kk : Kp d c Hx H5 := (k3.trans k4).trans k5
      have hc : ∀ b, (H b = none ∧ b ≠ l) → b ≠ c := fun b z q => by
        obtain ⟨cs, ec, _⟩ := hS.cells
        rw [q, ec] at z
        exact nomatch z.1
      have k1 : Kps (fun b => H b = none ∧ b ≠ l) Hx (upd H5 T (.tup [.str mk, .int fi, .int (fi + r5)])) := (Kps.kp kk hSx hc).trans (.same sT)
      have hnew : DatN (fun b => H b = none ∧ b ≠ l) (upd H5 T (.tup [.str mk, .int fi, .int (fi + r5)])) (.ref T) (partD (mk, fi, fi + r5)) := EchN.tup (.cons (.str _) (.cons (.int _) (.one (.int _)))) upd_same
      have elT := sT _ _ el5
      have hul : us.length = i := by rw [hus.1, List.length_map, hpl]
      refine ⟨l, us, .ref T, rfl, rfl, elT, small1000 (by omega), ?_⟩
      have k6 : Kps (fun b => H b = none ∧ b ≠ l) (upd H5 T (.tup [.str mk, .int fi, .int (fi + r5)])) (upd (upd H5 T (.tup [.str mk, .int fi, .int (fi + r5)])) l (.lst (us ++ [.ref T]))) := .upd elT fun b z => z.2
      refine ⟨t' + 1 + 1 + 1, us ++ [.ref T], ps ++ [(mk, fi, fi + r5)], _, _, rfl, upd_same, by rw [List.map_append]; exact ((hus.keep k1).keep k6).snoc (hnew.keep k6), by rw [List.length_append, hpl]; rfl, fun p hp => ?_, by omega, by omega, (hS5.same sT).upd off.1 off.2, fun b o b1 b2 e => ?_⟩
      · rcases List.mem_append.mp hp with z | z
        · exact hps p z
        · rw [List.mem_singleton.mp z]
          exact ⟨hmk, fi0, by show fi ≤ fi + r5; omega, by show fi + r5 ≤ 20; omega⟩
      · rw [upd_ne (ne_of_none e nl)]
        exact sT _ _ (kk b o b1 b2 (kx b o b1 b2 e))
    · obtain ⟨t', us, ps, y4, y5, rfl, el, hus, hpl, hps, u0, u1, hSx, kx⟩ := hP
      refine ⟨_, rfl, _, rfl, (by show 3 ≤ sizeLine; decide), fun z nz => ?_⟩
      have sz := same_upd (o := .lst [.int 3, .int 12, .int 60]) nz
      have offz := hSx.off nz
      refine ⟨_, rfl, d, c, t', 3, rfl, hSx.same sz, by omega, by decide, by decide, fun r6 H6 r60 r61 hS6 k6 => ?_⟩
      obtain ⟨mm, ⟨mm0, mm1⟩, hat⟩ := pick3 (x := 3) (y := 12) (z := 60) (fun v => 1 ≤ v ∧ v ≤ 60) r60 r61 (by decide) (by decide) (by decide)
      refine ⟨z, _, r6, .int mm, rfl, rfl, SqL.of (k6 _ _ offz.1 offz.2 upd_same), hat, d, c, t' + 1, mm, rfl, hS6, by omega, by omega, by omega, fun r7 H7 r70 r71 hS7 k7 => ⟨1, r7, rfl, rfl, _, rfl, (by show 3 ≤ sizeLine; decide), fun T nT => ?_⟩⟩
      have sT := same_upd (o := .tup [.str nm, .int (1 + r7), .ref l]) nT
      have kk : Kp d c Hx H7 := ((Kp.same d c sz).trans k6).trans k7
      have hc : ∀ b, (H b = none ∧ b ≠ l) → b ≠ c := fun b z q => by
        obtain ⟨cs, ec, _⟩ := hS.cells
        rw [q, ec] at z
        exact nomatch z.1
      have k1 : Kps (fun b => H b = none ∧ b ≠ l) Hx (upd H7 T (.tup [.str nm, .int (1 + r7), .ref l])) := (Kps.kp kk hSx hc).trans (.same sT)
      have hus7 : EchN (NewIn H) (upd H7 T (.tup [.str nm, .int (1 + r7), .ref l])) us (ps.map partD) := (hus.keep k1).weak fun b _ z _ => z.1
      refine q (.ref T) (nm, 1 + r7, ps) (t' + 1 + 1) _ (EchN.tup (.cons (.str _) (.cons (.int _) (.one (hus7.lst nl (sT _ _ (kk _ _ off.1 off.2 el)))))) upd_same) rfl ⟨hps, by show ps.length ≤ 12; omega, by show 1 ≤ 1 + r7; omega, by show 1 + r7 ≤ 60; omega⟩ (by omega) (by omega) (hS7.same sT) ((kx.trans kk).trans (Kp.same d c sT))
end
abbrev sWide : Stmt := topS 18
theorem scWide : FnScope ["_law_some", "_law_much", "_law_first", "_law_last"] ["_law_some", "_law_much"] (defScope sWide) := ⟨rfl, rfl, rfl, by decide +kernel, rfl, by decide +kernel, by decide +kernel⟩
def wideP (m : Int) (p : Int × Int) : Int × Int := (p.1 * m, p.2 * m + m - 1)
def spWide : Sp := fun vs H Q _ => ∃ (a : Addr) (ps : List (Int × Int)) (m : Int), vs = [.ref a, .int m] ∧ LsA H a ps ∧ ps.length ≤ 900 ∧ (∀ p ∈ ps, 0 ≤ p.1 ∧ p.1 ≤ 10 ^ 30 ∧ 0 ≤ p.2 ∧ p.2 ≤ 10 ^ 30) ∧ 0 ≤ m ∧ m ≤ 10 ^ 31 ∧ ∀ v H', DatN (NewIn H) H' v (setD (ps.map (wideP m))) → Same H H' → Q v H'
section
variable {K : PySem.W.Frag} {mg : Str → Option Value} {P : Program} {w : World} {base : Heap}
theorem ok_Wide {f : Addr} {fd : FuncData} (F : Fun K "_law_wide" "_law_wide" sWide f fd) : FnOk P w K mg base CX0 1 f fd ["_law_some", "_law_much"] spWide := by
  refine F.ok scWide (fun vs H Q E h => ?_) (fun cdv A outer s H vs Q E hr h => ?_)
  · obtain ⟨a, ps, m, rfl, _⟩ := h
    rfl
  · obtain ⟨a, ps, m, rfl, ⟨us, ea, hus⟩, hl, hb, m0, m1, q⟩ := h
    refine ⟨_, pss_one (ps_ret (pe_lc (own := [("_law_first", 2), ("_law_last", 3)]) (g := (gTup K 2 (gCons (gName 2) (gCons (gName 3) gNil)))) (tt := tYes) (te := (tTup (tCons (tOp (rI CMulW fun i j => .int (i * j)) (tVar 2) (tVar 1)) (tCons (tOp (rI0 fun i j => .int (i - j)) (tOp (rI0 fun i j => .int (i + j)) (tOp (rI CMulW fun i j => .int (i * j)) (tVar 3) (tVar 1)) (tVar 1)) (tC (.int 1))) tNil)))) rfl scWide.nd (pi_list (pv 0)) (blkOk_by (own := [("_law_first", 2), ("_law_last", 3)]) (N := ["_law_some", "_law_much", "_law_first", "_law_last"]) (sc := defScope sWide) (by decide +kernel)) (fun _ _ _ _ _ => (pg_tup rfl (pgs_cons (pg_name (i := 2) scWide.nd rfl (.inl rfl)) (pgs_cons (pg_name (i := 3) scWide.nd rfl (.inl rfl)) pgs_nil)))) (fun _ _ _ _ _ => pts_nil) (fun _ _ _ _ _ => (pe_tup (pa_cons (pe_op op_mulW (pv 2) (pv 1)) (pa_cons (pe_op op_sub (pe_op op_add (pe_op op_mulW (pv 3) (pv 1)) (pv 1)) pe_int) pa_nil)))))), ?_⟩
    refine ⟨_, rfl, a, rfl, ⟨_, SqL.of ea⟩, fun D nD => lc_new_list nD ea ((ps.map (wideP m)).map pairD) (by rw [List.length_map, List.length_map]; exact hus.1.symm) (by rw [hus.1]; omega) (fun i x dd Hx Kt Kn hx hd sm k => ?_) (fun H1 s1 hD => q _ H1 hD s1)⟩
    obtain ⟨p, T, ep, rfl, eT⟩ := prs_at (hus.same sm) hx
    obtain ⟨b1, b2, b3, b4⟩ := hb p (List.mem_of_getElem? ep)
    refine ⟨T, _, rfl, .inl (.inl eT), rfl, _, _, rfl, _, _, rfl, rfl, rfl, ?_⟩
    refine ⟨_, rfl, _, rfl, p.1, m, rfl, rfl, mulw (by omega) (by omega), _, rfl, _, rfl, p.2, m, rfl, rfl, mulw (by omega) (by omega), _, rfl, _, m, rfl, rfl, _, 1, rfl, rfl, (by show 2 ≤ sizeLine; decide), fun T2 n2 => ?_⟩
    have ed : dd = pairD (wideP m p) := by
      rw [List.getElem?_map, List.getElem?_map, ep] at hd
      exact (Option.some.inj hd).symm
    subst ed
    exact k _ _ (same_upd n2) (EchN.tup (.cons (.int _) (.one (.int _))) upd_same)
end

theorem inV_ints {n : Int} {ns : List Int} : inV (.int n) (ns.map V.int) = decide (n ∈ ns) := by
  rw [Bool.eq_iff_iff, decide_eq_true_eq]
  unfold inV
  rw [List.any_eq_true]
  constructor
  · rintro ⟨x, hx, e⟩
    obtain ⟨m, hm, rfl⟩ := List.mem_map.mp hx
    have e' : (m == n) = true := e
    rw [← beq_iff_eq.mp e']
    exact hm
  · exact fun h => ⟨.int n, List.mem_map.mpr ⟨n, h, rfl⟩, by show (n == n) = true; exact beq_self_eq_true n⟩
theorem flat_ints (ns : List Int) : (ns.map V.int).all flatV = true := by
  rw [List.all_eq_true]
  intro x hx
  obtain ⟨m, _, rfl⟩ := List.mem_map.mp hx
  rfl

open G3
/-! ### the law's cases -/
/-- the numbers of a mark -/
def numsM (mk : List (Str × List Int)) (m : Str) : List Int := ((mk.find? fun r => decide (r.1 = m)).map (·.2)).getD []
/-- a dict of lists of numbers -/
def DicI (N : Addr → Prop) (H : Hp) (kvs : List (Key × V)) (mk : List (Str × List Int)) : Prop := ∀ m, (m ∈ mk.map (·.1) → ∃ c, valV kvs (.inr m) = some (.ref c) ∧ N c ∧ H c = some (.lst ((numsM mk m).map V.int))) ∧ (m ∉ mk.map (·.1) → valV kvs (.inr m) = none)
theorem DicI.keep {N : Addr → Prop} {H H' : Hp} {kvs : List (Key × V)} {mk : List (Str × List Int)} (h : DicI N H kvs mk) (k : Kps N H H') : DicI N H' kvs mk := fun m => ⟨fun z => let ⟨c, e, n, f⟩ := (h m).1 z; ⟨c, e, n, k.lst _ _ n f⟩, (h m).2⟩
theorem numsM_none {mk : List (Str × List Int)} {m : Str} (h : m ∉ mk.map (·.1)) : numsM mk m = [] := by
  unfold numsM
  cases e : mk.find? fun r => decide (r.1 = m) with
  | none => rfl
  | some r =>
    have h1 : r.1 = m := of_decide_eq_true (List.find?_some (p := fun r : Str × List Int => decide (r.1 = m)) e)
    exact absurd (List.mem_map.mpr ⟨r, List.mem_of_find?_eq_some e, h1⟩) h
def WithI (sz : Int) (ps : List Part) (pr : Str → Int → Prop) (i : Nat) (c : Int) : Prop := ∃ (k : Nat) (p : Part), k < i ∧ ps[k]? = some p ∧ ∃ x, p.2.1 ≤ x ∧ x ≤ p.2.2 ∧ pr p.1 x ∧ (x + (cntF (ps.take k) - p.2.1)) / sz = c
theorem withI_all {sz : Int} {ps : List Part} {pr : Str → Int → Prop} {c : Int} : WithI sz ps pr ps.length c ↔ WithP sz ps pr c := by
  constructor
  · rintro ⟨k, p, _, e, h⟩
    exact ⟨k, p, e, h⟩
  · rintro ⟨k, p, e, h⟩
    exact ⟨k, p, (List.getElem?_eq_some_iff.mp e).1, e, h⟩
/-- so many tins of the next part, too -/
def WithJ (sz : Int) (ps : List Part) (pr : Str → Int → Prop) (i : Nat) (p : Part) (j : Int) (c : Int) : Prop := WithI sz ps pr i c ∨ ∃ x, p.2.1 ≤ x ∧ x < p.2.1 + j ∧ pr p.1 x ∧ (x + (cntF (ps.take i) - p.2.1)) / sz = c
theorem withJ_end {sz : Int} {ps : List Part} {pr : Str → Int → Prop} {i : Nat} {p : Part} {c : Int} (e : ps[i]? = some p) : WithJ sz ps pr i p (p.2.2 - p.2.1 + 1) c ↔ WithI sz ps pr (i + 1) c := by
  constructor
  · rintro (⟨k, q, hk, h⟩ | ⟨x, x1, x2, x3, x4⟩)
    · exact ⟨k, q, by omega, h⟩
    · exact ⟨i, p, Nat.lt_succ_self i, e, x, x1, by omega, x3, x4⟩
  · rintro ⟨k, q, hk, eq, x, x1, x2, x3, x4⟩
    by_cases ki : k = i
    · subst ki
      rw [e] at eq
      cases eq
      exact .inr ⟨x, x1, by omega, x3, x4⟩
    · exact .inl ⟨k, q, by omega, eq, x, x1, x2, x3, x4⟩
abbrev sLCases : Stmt := topS 17
theorem scLCases : FnScope ["_law_packing_here", "_law_marked", "_law_place", "_law_found", "_law_mark", "_law_first", "_law_last", "_law_tin"] ["_law_packing_here", "_law_marked"] (defScope sLCases) := ⟨rfl, rfl, rfl, by decide +kernel, rfl, by decide +kernel, by decide +kernel⟩
def spLCases : Sp := fun vs H Q _ => ∃ (b D : Addr) (k : Pk) (kvs : List (Key × V)) (mk : List (Str × List Int)) (N N' : Addr → Prop), vs = [.ref b, .ref D] ∧ DatN N H (.ref b) (pkD k) ∧ H D = some (.dK kvs) ∧ DicI N' H kvs mk ∧ (∀ p ∈ k.2.2, 0 ≤ p.2.1 ∧ p.2.1 ≤ p.2.2 ∧ p.2.2 ≤ 20) ∧ k.2.2.length ≤ 12 ∧ 1 ≤ k.2.1 ∧ k.2.1 ≤ 60 ∧
  TellS (WithP k.2.1 k.2.2 fun m x => x ∈ numsM mk m) 300 H Q
section
variable {K : PySem.W.Frag} {mg : Str → Option Value} {P : Program} {w : World} {base : Heap}
theorem ok_LCases {f : Addr} {fd : FuncData} (F : Fun K "_law_cases" "_law_cases" sLCases f fd) (C__law_set : Cal P w K mg base 1 "_law_set" ["_law_numbers"] spLSetN) (m_range : mg "range" = none) (m_int : mg "int" = none) : FnOk P w K mg base CX0 2 f fd ["_law_packing_here", "_law_marked"] spLCases := by
  refine F.ok scLCases (fun vs H Q E h => ?_) (fun cdv A outer s H vs Q E hr h => ?_)
  · obtain ⟨b, D, k, kvs, mk, N, N', rfl, _⟩ := h
    rfl
  · obtain ⟨b, D, k, kvs, mk, N, N', rfl, hb, eD, hdic, hps, hpl, h1, h2, q⟩ := h
    refine ⟨_, pss_cons (ps_par rfl scLCases.nd (i := 2) (j := 3) rfl rfl (by decide) rfl rfl (pa_cons pe_int (pa_cons (pe_lst pa_nil) pa_nil)) (by rfl))
      (pss_cons (ps_for PassesOwn.never rfl (pi_list (pe_ix ix_tup (pv 0) pe_int (fun _ _ => rfl))) (pg_tup rfl (pgs_cons (pg_name (i := 4) scLCases.nd rfl (.inl rfl)) (pgs_cons (pg_name (i := 5) scLCases.nd rfl (.inl rfl)) (pgs_cons (pg_name (i := 6) scLCases.nd rfl (.inl rfl)) pgs_nil))))
        (pss_one (ps_for PassesOwn.never rfl (pi_range2 rfl m_range (pa_cons (pv 5) (pa_cons (pe_op op_add (pv 6) pe_int) pa_nil))) (pg_name (i := 7) scLCases.nd rfl (.inl rfl))
          (pss_cons (ps_expr (pe_bm PySem.F.plainAttrs_list PySem.F.slot_list_extend PySem.F.type_list_extend mt_extend (pv 3) (pa_cons (pe_op op_rep (pe_lst (pa_cons (pe_op op_fdivW (pv 2) (pe_ix ix_tup (pv 0) pe_int (fun _ _ => rfl))) pa_nil)) (pe_callTy call_int1 (by rfl) m_int (by decide +kernel) (pa_cons (pe_cmpR op_in_seq (pv 7) (pe_dget2 (hu_of hr) (pv 1) (pv 4) (pe_lst pa_nil) ⟨rfl, rfl, rfl, rfl⟩) (by rfl)) pa_nil))) pa_nil)))
          (pss_one (ps_set (i := 2) scLCases.nd rfl (.inl rfl) (pe_op op_add (pv 2) pe_int)))))))
      (pss_one (ps_ret (pe_own C__law_set hr (by rfl) (pa_cons (pv 3) pa_nil))))), ?_⟩
    obtain ⟨b', a, us, eb', eb, _, ea, hus⟩ := hb.pk
    cases eb'
    refine ⟨Nat.zero_le _, fun l nl => ?_⟩
    have sl := same_upd (o := .lst []) nl
    have el1 := upd_same (H := H) (a := l) (o := .lst [])
    refine ⟨_, _, rfl, ?_⟩
    revert sl el1
    generalize upd H l (.lst []) = H1
    intro sl el1
    have hpts := hus.pts
    refine ⟨_, rfl, b, _, 2, .ref a, rfl, rfl, .inl (.inl (sl _ _ eb)), atI_nat (j := 2) rfl, a, rfl, ⟨_, SqL.of (sl _ _ ea)⟩, for_list (xs := us) (fun i σ Hx => ∃ (ns : List Int) (y4 y5 y6 y7 : Option V), σ = [some (.ref b), some (.ref D), some (.int (cntF (k.2.2.take i))), some (.ref l), y4, y5, y6, y7] ∧ Same H Hx ∧ Hx l = some (.lst (ns.map V.int)) ∧ ns.length ≤ 21 * i ∧ ∀ c, c ∈ ns ↔ WithI k.2.1 k.2.2 (fun m x => x ∈ numsM mk m) i c)
      ⟨[], _, _, _, _, rfl, sl, el1, by decide, fun c => ⟨(fun z => nomatch z), fun ⟨_, _, z, _⟩ => absurd z (Nat.not_lt_zero _)⟩⟩ (fun i σ Hx _ hP => ?_) (fun i x σ Hx hx hP => ?_) (fun σ Hx hP => ?_)⟩
    · obtain ⟨_, _, _, _, _, rfl, sx, _⟩ := hP
      exact SqL.of (sx _ _ ea)
    · obtain ⟨ns, y4, y5, y6, y7, rfl, sx, el, hnl, hmem⟩ := hP
      obtain ⟨p, ep, g, rfl, eg⟩ := Pts.at (Pts.same hpts sx) hx
      obtain ⟨p0, p1, p2⟩ := hps p (List.mem_of_getElem? ep)
      refine ⟨g, _, rfl, .inl (.inl eg), rfl, _, _, rfl, _, _, rfl, _, _, rfl, rfl, ?_⟩
      refine ⟨_, rfl, _, rfl, p.2.2, 1, rfl, rfl, p.2.1, p.2.2 + 1, rfl, ⟨by omega, by omega, by omega, by omega⟩, for_range (n := (p.2.2 + 1 - p.2.1).toNat) (fun j σ Hy => ∃ (ns : List Int) (y7 : Option V), σ = [some (.ref b), some (.ref D), some (.int (cntF (k.2.2.take i) + j)), some (.ref l), some (.str p.1), some (.int p.2.1), some (.int p.2.2), y7] ∧ Same H Hy ∧ Hy l = some (.lst (ns.map V.int)) ∧ ns.length ≤ 21 * i + j ∧ ∀ c, c ∈ ns ↔ WithJ k.2.1 k.2.2 (fun m x => x ∈ numsM mk m) i p (j : Int) c)
        ⟨ns, _, by rw [show cntF (k.2.2.take i) + ((0 : Nat) : Int) = cntF (k.2.2.take i) by omega]; rfl, sx, el, by omega, fun c => (hmem c).trans ⟨.inl, fun z => z.elim id fun ⟨x, x1, x2, _⟩ => by omega⟩⟩ (fun j σ Hy hj hP2 => ?_) (fun σ Hy hP2 => ?_)⟩
      · obtain ⟨ns, y7, rfl, sy, el, hnl, hmem⟩ := hP2
        refine ⟨_, rfl, .inl ⟨rfl, _, SqL.of el⟩, ?_⟩
        refine ⟨_, rfl, _, rfl, b, _, 1, .int k.2.1, rfl, rfl, .inl (.inl (sy _ _ eb)), atI_nat (j := 1) rfl, _, k.2.1, rfl, rfl, divw (by omega) (by omega), (by show 1 ≤ sizeLine; decide), fun z nz => ?_⟩
        have sz := same_upd (o := .lst [.int ((cntF (k.2.2.take i) + j) / k.2.1)]) nz
        have ez := upd_same (H := Hy) (a := z) (o := .lst [.int ((cntF (k.2.2.take i) + j) / k.2.1)])
        revert sz ez
        generalize upd Hy z (.lst [.int ((cntF (k.2.2.take i) + j) / k.2.1)]) = H2
        intro sz ez
        refine ⟨_, rfl, _, rfl, D, rfl, .inl ⟨kvs, Rd.of (sz _ _ (sy _ _ eD))⟩, _, rfl, Nat.zero_le _, fun e ne => ?_⟩
        have se := same_upd (o := .lst []) ne
        have S3 := (sy.trans sz).trans se
        have eD3 := S3 _ _ eD
        have ez3 := se _ _ ez
        have ee := upd_same (H := H2) (a := e) (o := .lst [])
        have el3 := se _ _ (sz _ _ el)
        -- what get tells
        obtain ⟨cg, ecg, hcg⟩ : ∃ cg, (valV kvs (.inr p.1)).getD (.ref e) = .ref cg ∧ upd H2 e (.lst []) cg = some (.lst ((numsM mk p.1).map V.int)) := by
          by_cases hm : p.1 ∈ mk.map (·.1)
          · obtain ⟨c, e1, _, e2⟩ := (hdic p.1).1 hm
            exact ⟨c, by rw [e1]; rfl, S3 _ _ e2⟩
          · refine ⟨e, by rw [(hdic p.1).2 hm]; rfl, ?_⟩
            rw [numsM_none hm]
            exact ee
        refine ⟨valV kvs (.inr p.1), .inl ⟨kvs, .inr p.1, Rd.of eD3, rfl, rfl⟩, ?_⟩
        rw [ecg]
        refine ⟨cg, _, rfl, .inl (SqL.of hcg), rfl, flat_ints _, .inr ⟨_, rfl, ?_⟩⟩
        have z0 : (p.2.1 + (j : Int)) = p.2.1 + j := rfl
        rw [show (if false = true then !inV (V.int (p.2.1 + (j : Int))) ((numsM mk p.1).map V.int) else inV (V.int (p.2.1 + (j : Int))) ((numsM mk p.1).map V.int)) = decide (p.2.1 + (j : Int) ∈ numsM mk p.1) by rw [if_neg (by decide), inV_ints]]
        -- one more, or none
        have step : ∀ (n : Nat) (new : List Int), (∀ c, c ∈ new ↔ (p.2.1 + (j : Int) ∈ numsM mk p.1 ∧ (cntF (k.2.2.take i) + j) / k.2.1 = c)) → new.length ≤ 1 → ∀ c, c ∈ ns ++ new ↔ WithJ k.2.1 k.2.2 (fun m x => x ∈ numsM mk m) i p ((j + 1 : Nat) : Int) c := fun n new hnew _ c => by
          rw [List.mem_append, hmem c, hnew c]
          unfold WithJ
          constructor
          · rintro ((z | ⟨x, x1, x2, x3⟩) | ⟨z1, z2⟩)
            · exact .inl z
            · exact .inr ⟨x, x1, by omega, x3⟩
            · refine .inr ⟨p.2.1 + j, by omega, by omega, z1, ?_⟩
              rw [show p.2.1 + (j : Int) + (cntF (k.2.2.take i) - p.2.1) = cntF (k.2.2.take i) + j by omega]
              exact z2
          · rintro (z | ⟨x, x1, x2, x3, x4⟩)
            · exact .inl (.inl z)
            · by_cases hx : x < p.2.1 + (j : Int)
              · exact .inl (.inr ⟨x, x1, hx, x3, x4⟩)
              · have ex : x = p.2.1 + (j : Int) := by omega
                subst ex
                refine .inr ⟨x3, ?_⟩
                rw [show p.2.1 + (j : Int) + (cntF (k.2.2.take i) - p.2.1) = cntF (k.2.2.take i) + j by omega] at x4
                exact x4
        have hkl : i < k.2.2.length := (List.getElem?_eq_some_iff.mp ep).1
        by_cases hin : p.2.1 + (j : Int) ∈ numsM mk p.1
        · rw [decide_eq_true hin]
          refine ⟨z, 1, _, rfl, rfl, ez3, by decide, by decide, (by show 1 * 1 ≤ sizeLine; decide), fun r nr => ?_⟩
          have sr := same_upd (o := .lst (List.replicate (1 : Int).toNat [V.int ((cntF (k.2.2.take i) + j) / k.2.1)]).flatten) nr
          refine ⟨l, r, _, _, rfl, rfl, sr _ _ el3, upd_same, Nat.le_trans (show _ ≤ 1000 by rw [List.length_map]; show _ + 1 ≤ _; omega) (by decide), ?_⟩
          refine ⟨_, rfl, _, 1, rfl, rfl, ns ++ [(cntF (k.2.2.take i) + j) / k.2.1], some (.int (p.2.1 + (j : Int))), ?_, fun b o e => ?_, by rw [upd_same, List.map_append]; rfl, by rw [List.length_append]; show _ + 1 ≤ _; omega, step 1 _ (fun c => ⟨fun z => ⟨hin, (List.mem_singleton.mp z).symm⟩, fun z => List.mem_singleton.mpr z.2.symm⟩) (Nat.le_refl _)⟩
          · rw [show cntF (k.2.2.take i) + ((j + 1 : Nat) : Int) = cntF (k.2.2.take i) + j + 1 by omega]
            rfl
          · rw [upd_ne (ne_of_none e nl)]
            exact sr _ _ (S3 _ _ e)
        · rw [decide_eq_false hin]
          refine ⟨z, 0, _, rfl, rfl, ez3, by decide, by decide, (by show 1 * 0 ≤ sizeLine; decide), fun r nr => ?_⟩
          have sr := same_upd (o := .lst (List.replicate (0 : Int).toNat [V.int ((cntF (k.2.2.take i) + j) / k.2.1)]).flatten) nr
          refine ⟨l, r, _, _, rfl, rfl, sr _ _ el3, upd_same, Nat.le_trans (show _ ≤ 1000 by rw [List.length_map]; show _ + 0 ≤ _; omega) (by decide), ?_⟩
          refine ⟨_, rfl, _, 1, rfl, rfl, ns ++ [], some (.int (p.2.1 + (j : Int))), ?_, fun b o e => ?_, by rw [upd_same, List.map_append]; rfl, by rw [List.length_append]; show _ + 0 ≤ _; omega, step 0 _ (fun c => ⟨(fun z => nomatch z), fun z => absurd z.1 hin⟩) (Nat.zero_le _)⟩
          · rw [show cntF (k.2.2.take i) + ((j + 1 : Nat) : Int) = cntF (k.2.2.take i) + j + 1 by omega]
            rfl
          · rw [upd_ne (ne_of_none e nl)]
            exact sr _ _ (S3 _ _ e)
      · obtain ⟨ns, y7, rfl, sy, el, hnl, hmem⟩ := hP2
        have ej : (((p.2.2 + 1 - p.2.1).toNat : Nat) : Int) = p.2.2 - p.2.1 + 1 := by omega
        rw [ej] at hmem
        refine ⟨ns, some (.str p.1), some (.int p.2.1), some (.int p.2.2), y7, ?_, sy, el, by omega, fun c => (hmem c).trans (withJ_end ep)⟩
        rw [ej, take_snoc ep, cntF_snoc]
        rfl
    · obtain ⟨ns, y4, y5, y6, y7, rfl, sx, el, hnl, hmem⟩ := hP
      have hul := hus.1
      rw [List.length_map] at hul
      rw [hul] at hnl hmem
      refine ⟨_, rfl, l, ns, rfl, el, by omega, fun l2 rs H2 nl2 hl2 told len s2 => ?_⟩
      exact q l2 rs H2 (sx.free nl2) hl2 (told.cong fun c => (hmem c).trans withI_all) (by omega) (sx.trans s2)
end

open G3
/-! ### each tin for so many following ones -/
def widePt (m : Int) (p : Part) : Part := (p.1, p.2.1 * m, p.2.2 * m + m - 1)
def wideK (m : Int) (k : Pk) : Pk := (k.1, k.2.1 * m, k.2.2.map (widePt m))
def wideR (m : Int) (rows : Rows) : Rows := rows.map fun r => (r.1, r.2.map (wideP m))
theorem div_le_iff {x m a : Int} (hm : 1 ≤ m) : a * m ≤ x ↔ a ≤ x / m := (Int.le_ediv_iff_mul_le (by omega)).symm
theorem div_lt_iff {x m a : Int} (hm : 1 ≤ m) : x ≤ a * m + m - 1 ↔ x / m ≤ a := by
  have h := Int.ediv_lt_iff_lt_mul (a := x) (b := a + 1) (c := m) (by omega)
  rw [Int.add_mul] at h
  constructor
  · intro z
    have := h.mpr (by omega)
    omega
  · intro z
    have := h.mp (by omega)
    omega
theorem inS_wide {rs : Prs2} {m x : Int} (hm : 1 ≤ m) : InS (rs.map (wideP m)) x ↔ InS rs (x / m) := by
  constructor
  · rintro ⟨q, hq, h1, h2⟩
    obtain ⟨p, hp, rfl⟩ := List.mem_map.mp hq
    exact ⟨p, hp, (div_le_iff hm).mp h1, (div_lt_iff hm).mp h2⟩
  · rintro ⟨p, hp, h1, h2⟩
    exact ⟨wideP m p, List.mem_map.mpr ⟨p, hp, rfl⟩, (div_le_iff hm).mpr h1, (div_lt_iff hm).mpr h2⟩
theorem inM_wide {rows : Rows} {m x : Int} {mk : Str} (hm : 1 ≤ m) : InM (wideR m rows) mk x ↔ InM rows mk (x / m) := by
  constructor
  · rintro ⟨rs, hr, h⟩
    obtain ⟨r, hr', e⟩ := List.mem_map.mp hr
    cases e
    exact ⟨r.2, hr', (inS_wide hm).mp h⟩
  · rintro ⟨rs, hr, h⟩
    exact ⟨rs.map (wideP m), List.mem_map.mpr ⟨(mk, rs), hr, rfl⟩, (inS_wide hm).mpr h⟩
theorem cntF_wide {m : Int} : ∀ ps : List Part, cntF (ps.map (widePt m)) = cntF ps * m
  | [] => by show (0 : Int) = 0 * m; rw [Int.zero_mul]
  | p :: r => by
    rw [List.map_cons, cntF_cons, cntF_cons, cntF_wide r, Int.add_mul]
    unfold cntP widePt
    show p.2.2 * m + m - 1 - p.2.1 * m + 1 + cntF r * m = (p.2.2 - p.2.1 + 1) * m + cntF r * m
    rw [Int.add_mul, Int.sub_mul]
    omega
theorem spot_wide {sz m x A : Int} (hm : 1 ≤ m) : (x + A * m) / (sz * m) = (x / m + A) / sz := by
  rw [Int.mul_comm sz m, ← Int.ediv_ediv_of_nonneg (by omega), Int.add_mul_ediv_right _ _ (by omega)]
theorem with_wide {sz m : Int} {ps : List Part} {rows : Rows} {c : Int} (hm : 1 ≤ m) : WithP (sz * m) (ps.map (widePt m)) (InM (wideR m rows)) c ↔ WithP sz ps (InM rows) c := by
  constructor
  · rintro ⟨i, q, eq, x, x1, x2, x3, x4⟩
    rw [List.getElem?_map] at eq
    cases ep : ps[i]? with
    | none => rw [ep] at eq; cases eq
    | some p =>
      rw [ep] at eq
      cases eq
      refine ⟨i, p, ep, x / m, (div_le_iff hm).mp x1, (div_lt_iff hm).mp x2, (inM_wide hm).mp x3, ?_⟩
      rw [← x4, ← List.map_take, cntF_wide]
      show _ = (x + (cntF (ps.take i) * m - p.2.1 * m)) / (sz * m)
      rw [← Int.sub_mul, spot_wide hm]
  · rintro ⟨i, p, ep, x, x1, x2, x3, x4⟩
    have ex : x * m / m = x := Int.mul_ediv_cancel x (by omega)
    refine ⟨i, widePt m p, by rw [List.getElem?_map, ep]; rfl, x * m, ?_, ?_, (inM_wide hm).mpr (by rw [ex]; exact x3), ?_⟩
    · show p.2.1 * m ≤ x * m
      exact (div_le_iff hm).mpr (by rw [ex]; exact x1)
    · show x * m ≤ p.2.2 * m + m - 1
      exact (div_lt_iff hm).mpr (by rw [ex]; exact x2)
    · rw [← x4, ← List.map_take, cntF_wide]
      show (x * m + (cntF (ps.take i) * m - p.2.1 * m)) / (sz * m) = _
      rw [← Int.sub_mul, spot_wide hm, ex]
theorem allF_wide {m : Int} {rows : Rows} {ks : List Pk} (hm : 1 ≤ m) : allF (wideR m rows) (ks.map (wideK m)) = allF rows ks := by
  unfold allF
  rw [List.map_map]
  exact List.map_congr_left fun k _ => congrArg (Prod.mk k.1) (canon_cong fun c => with_wide hm)
theorem ris_wide {m : Int} (hm : 1 ≤ m) : ∀ {lo : Int} {rs : Prs2}, Ris lo rs → Ris (lo * m) (rs.map (wideP m))
  | _, [], _ => True.intro
  | lo, p :: r, h => by
    have h1 : lo * m ≤ p.1 * m := Int.mul_le_mul_of_nonneg_right h.1 (by omega)
    have h2 : p.1 * m ≤ p.2 * m := Int.mul_le_mul_of_nonneg_right h.2.1 (by omega)
    refine ⟨h1, by show p.1 * m ≤ p.2 * m + m - 1; omega, (ris_wide hm h.2.2).mono ?_⟩
    show p.2 * m + m - 1 + 2 ≤ (p.2 + 2) * m
    rw [Int.add_mul]
    omega
theorem good_wide {m : Int} {rows : Rows} (hm : 1 ≤ m) (h : GoodR rows) : GoodR (wideR m rows) := by
  unfold wideR
  refine ⟨by rw [List.map_map]; exact h.1, by rw [List.length_map]; exact h.2.1, fun r hr => ?_⟩
  obtain ⟨q, hq, rfl⟩ := List.mem_map.mp hr
  obtain ⟨g1, g2⟩ := h.2.2 q hq
  refine ⟨?_, by show (q.2.map (wideP m)).length ≤ 30; rw [List.length_map]; exact g2⟩
  have := ris_wide hm g1
  rw [Int.zero_mul] at this
  exact this

/-! ### dicts of lists of numbers -/
theorem numsM_snoc {mk : List (Str × List Int)} {m : Str} {ns : List Int} (h : m ∉ mk.map (·.1)) (x : Str) : numsM (mk ++ [(m, ns)]) x = if x = m then ns else numsM mk x := by
  unfold numsM
  rw [List.find?_append]
  by_cases e : x = m
  · subst e
    rw [if_pos rfl]
    have : mk.find? (fun r => decide (r.1 = x)) = none := List.find?_eq_none.mpr fun r hr z => h (List.mem_map.mpr ⟨r, hr, of_decide_eq_true z⟩)
    rw [this]
    simp
  · rw [if_neg e]
    have : [(m, ns)].find? (fun r => decide (r.1 = x)) = none := by
      rw [List.find?_eq_none]
      intro r hr z
      rw [List.mem_singleton.mp hr] at z
      exact e (of_decide_eq_true z).symm
    rw [this, Option.or_none]
theorem DicI.snoc {N : Addr → Prop} {H : Hp} {kvs : List (Key × V)} {mk : List (Str × List Int)} {m : Str} {ns : List Int} {c : Addr} (h : DicI N H kvs mk) (hm : m ∉ mk.map (·.1)) (nc : N c) (ec : H c = some (.lst (ns.map V.int))) : DicI N H (putK kvs (.inr m) (.ref c)) (mk ++ [(m, ns)]) := fun x => by
  rw [valV_put, numsM_snoc hm]
  by_cases e : x = m
  · subst e
    rw [if_pos rfl, if_pos rfl]
    exact ⟨fun _ => ⟨c, rfl, nc, ec⟩, fun z => absurd (List.mem_map.mpr ⟨_, List.mem_append_right _ (List.mem_singleton.mpr rfl), rfl⟩) z⟩
  · rw [if_neg (fun z => e (Sum.inr.inj z)), if_neg e]
    have iff : x ∈ (mk ++ [(m, ns)]).map (·.1) ↔ x ∈ mk.map (·.1) := by
      rw [List.map_append, List.mem_append]
      exact ⟨fun z => z.elim id fun z => absurd (List.mem_singleton.mp z) e, .inl⟩
    rw [iff]
    exact h x
theorem DicI.nil {N : Addr → Prop} {H : Hp} : DicI N H [] [] := fun _ => ⟨(fun z => nomatch z), fun _ => rfl⟩
theorem DicI.merge {N : Addr → Prop} {H : Hp} : ∀ {more : List (Key × V)} {mk mk' : List (Str × List Int)} {kvs : List (Key × V)}, DicI N H kvs mk → ((mk ++ mk').map (·.1)).Nodup → more.length = mk'.length → (∀ (i : Nat) kv r, more[i]? = some kv → mk'[i]? = some r → ∃ c, kv = (.inr r.1, .ref c) ∧ N c ∧ H c = some (.lst (r.2.map V.int))) → DicI N H (mergeK kvs more) (mk ++ mk')
  | [], _, [], _, h, _, _, _ => by rw [List.append_nil]; exact h
  | [], _, _ :: _, _, _, _, e, _ => nomatch e
  | _ :: _, _, [], _, _, _, e, _ => nomatch e
  | kv :: more, mk, r :: mk', kvs, h, nd, e, hk => by
    obtain ⟨c, rfl, nc, ec⟩ := hk 0 kv r rfl rfl
    have hm : r.1 ∉ mk.map (·.1) := fun z => by
      rw [List.map_append, List.map_cons] at nd
      exact (List.nodup_append.mp nd).2.2 _ z _ (List.mem_cons_self ..) rfl
    have e2 : mk ++ r :: mk' = (mk ++ [(r.1, r.2)]) ++ mk' := by rw [List.append_assoc]; rfl
    rw [e2] at nd ⊢
    show DicI N H (mergeK (putK kvs (.inr r.1) (.ref c)) more) _
    exact DicI.merge (h.snoc hm nc ec) nd (Nat.succ.inj e) fun i kv q e1 e2 => hk (i + 1) kv q e1 e2

open G3
/-! ### parts of the law -/
/-- a comprehension that makes data: all but its list stays -/
theorem lc_data {J : It} {n : Nat} {G : Hp → Prop} {Y : Nat → Hp → V → Hp → Prop} (w : Walk J n G Y) {g : TG} {tt : TT} {te : TE} {vs : List Nat} {σ : L2.St} {H1 : Hp} {D : Addr} {Qd : Hp → Prop} (ds : List PyData) (nD : H1 D = none) (hn : ds.length = n) (hz : n ≤ 1000) (hG : ∀ H, Same H1 H → G H)
    (turn : ∀ i x d H H' (Kt : V → Hp → Prop) (Kn : Hp → Prop), ds[i]? = some d → Same H1 H → Y i H x H' → (∀ y H4, Same H H4 → DatN (fun a => a ≠ D) H4 y d → Kt y H4) → g x (wipe σ vs) H' fun σ2 H2 => wipe σ2 vs = wipe σ vs ∧ tt σ2 H2 fun b H3 => if b = true then te σ2 H3 Kt else Kn H3)
    (fin : ∀ H ws, Same H1 H → H D = some (.lst ws) → EchN (fun a => a ≠ D) H ws ds → Qd H) : LcW J g tt te vs σ D Qd H1 := by
  refine lc_it w (fun j H => Same H1 H ∧ ∃ ws, H D = some (.lst ws) ∧ EchN (fun a => a ≠ D) H ws (ds.take j)) ⟨same_upd nD, [], upd_same, .nil⟩ (fun i H _ p => hG H p.1) (fun i x H H' hi hP hy => ?_) (fun H hP => ?_)
  · obtain ⟨sm, ws, eD, hws⟩ := hP
    have hd : ds[i]? = some ds[i] := List.getElem?_eq_getElem (by omega)
    refine turn i x _ H H' _ _ hd sm hy fun y H4 s4 hd4 => ?_
    have eD4 := s4 _ _ eD
    have hl' : ws.length < 1000 := by
      rw [hws.1, List.length_take]
      omega
    refine ⟨ws, eD4, Nat.lt_of_lt_of_le hl' (by decide), fun b o e => ?_, ws ++ [y], upd_same, ?_⟩
    · rw [upd_ne (ne_of_none e nD)]
      exact s4 _ _ (sm b o e)
    · rw [List.take_add_one, hd]
      have k : Kps (fun a => a ≠ D) H4 (upd H4 D (.lst (ws ++ [y]))) := .upd eD4 fun a z => z
      exact ((hws.same s4).keep k).snoc (hd4.keep k)
  · obtain ⟨sm, ws, eD, hws⟩ := hP
    rw [List.take_of_length_le (by omega)] at hws
    exact fin H ws sm eD hws
/-- sorted of rows -/
theorem rows_sortedK {N : Addr → Prop} {H : Hp} {ws : List V} {rs : Rows} (h : EchN N H ws (rs.map rowD)) (nd : (rs.map (·.1)).Nodup) :
    (∀ x ∈ ws, ([.inr (rowOf H x)] : List Key).map SrtK.isI = false :: [] ∧ ∃ t rest, x = V.ref t ∧ H t = some (.tup (([.inr (rowOf H x)] : List Key).map kV ++ rest))) ∧ (∀ x ∈ ws, ∀ y ∈ ws, ([.inr (rowOf H x)] : List Key) = [.inr (rowOf H y)] → x = y) ∧
      ∀ zs, SrtO.Srtd (fun x y => SrtK.lexK [.inr (rowOf H x)] [.inr (rowOf H y)]) zs → SrtO.Stb (fun x y => SrtK.lexK [.inr (rowOf H x)] [.inr (rowOf H y)]) zs ws → ∃ rs', EchN N H zs (rs'.map rowD) ∧ SrtdR rs' rs := by
  have one : ∀ x ∈ ws, ∃ r, DatN N H x (rowD r) := fun x hx => by
    obtain ⟨i, hi, e⟩ := List.getElem_of_mem hx
    obtain ⟨r, er, hd⟩ := h.atM (i := i) (x := x) (by rw [List.getElem?_eq_getElem hi, e])
    exact ⟨r, hd⟩
  refine ⟨fun x hx => ?_, fun x hx y hy e => ?_, fun zs srt stb => rows_sorted h nd srt stb⟩
  · obtain ⟨r, hd⟩ := one x hx
    obtain ⟨a3, c3, ws3, rfl, ea3, _⟩ := hasSome_at hd
    refine ⟨rfl, a3, [.ref c3], rfl, ?_⟩
    rw [ea3]
    show some (HO.tup [V.str r.1, .ref c3]) = some (HO.tup [V.str (rowOf H (.ref a3)), .ref c3])
    rw [rowOf_at ea3]
  · obtain ⟨i, hi, ei⟩ := List.getElem_of_mem hx
    obtain ⟨j, hj, ej⟩ := List.getElem_of_mem hy
    obtain ⟨r, er, hd⟩ := h.atM (i := i) (x := x) (by rw [List.getElem?_eq_getElem hi, ei])
    obtain ⟨r', er', hd'⟩ := h.atM (i := j) (x := y) (by rw [List.getElem?_eq_getElem hj, ej])
    obtain ⟨a3, c3, ws3, rfl, ea3, _⟩ := hasSome_at hd
    obtain ⟨a4, c4, ws4, rfl, ea4, _⟩ := hasSome_at hd'
    have en : rowOf H (.ref a3) = rowOf H (.ref a4) := Sum.inr.inj (List.cons.inj e).1
    rw [rowOf_at ea3, rowOf_at ea4] at en
    by_cases ij : i = j
    · subst ij
      rw [← ei, ← ej]
    · exact absurd en (row_ne nd er er' ij)
def numD (r : Str × List Int) : PyData := .tuple [.str r.1, .list (r.2.map PyData.int)]
/-- pairs for a dict -/
theorem EchN.nums {K : PySem.W.Frag} {N : Addr → Prop} {H : Hp} : ∀ {ws : List V} {mk : List (Str × List Int)}, EchN N H ws (mk.map numD) → ∃ (ps : List Addr) (kvs : List (Key × V)), ws = ps.map V.ref ∧ Paired (fun p kv => SqT K H p [kV kv.1, kv.2]) ps kvs ∧ kvs.length = mk.length ∧
    ∀ (i : Nat) kv r, kvs[i]? = some kv → mk[i]? = some r → ∃ c, kv = (.inr r.1, .ref c) ∧ N c ∧ H c = some (.lst (r.2.map V.int))
  | _, [], h => ⟨[], [], h.inv0, .nil, rfl, fun _ _ _ e => nomatch e⟩
  | _, r :: mk, h => by
    obtain ⟨x, xs', rfl, h1, h2⟩ := EchN.inv h
    obtain ⟨ps, kvs, e, hp, hl, hk⟩ := EchN.nums (K := K) h2
    obtain ⟨a, ys, ev, ea, q⟩ := h1.tuple
    obtain ⟨x1, r1, rfl, d1, qa⟩ := q.inv
    obtain ⟨x2, r1, rfl, d2, rc⟩ := qa.inv
    obtain ⟨c, us, rfl, nc, ec, hu⟩ := d2.list
    obtain rfl := rc.inv0
    rw [d1.inv_str] at ea
    rw [hu.ints] at ec
    refine ⟨a :: ps, (.inr r.1, .ref c) :: kvs, by rw [ev, e]; rfl, .cons (.inl (.inl ea)) hp, congrArg (· + 1) hl, fun i kv q e1 e2 => ?_⟩
    cases i with
    | zero => cases e1; cases e2; exact ⟨c, rfl, nc, ec⟩
    | succ i => exact hk i kv q e1 e2
theorem sm_rows59 {rs : Rows} (h : ∀ r ∈ rs, r.2.length ≤ 900) (hl : rs.length ≤ 900) : Sm 5 (.list (rs.map rowD)) := by
  refine ⟨by rw [List.length_map]; exact hl, fun d hd => ?_⟩
  obtain ⟨r, hr, rfl⟩ := List.mem_map.mp hd
  refine ⟨by show 2 ≤ 900; decide, all2 trivial ?_⟩
  refine ⟨by rw [List.length_map]; exact h r hr, fun d hd => ?_⟩
  obtain ⟨p, _, rfl⟩ := List.mem_map.mp hd
  exact ⟨by show 2 ≤ 900; decide, all2 trivial trivial⟩
theorem nb_rows59 (rs : Rows) : NoBl (.list (rs.map rowD)) := by
  rw [NoBl]
  refine noBls_of fun d hd => ?_
  obtain ⟨r, _, rfl⟩ := List.mem_map.mp hd
  simp only [rowD, setD, NoBl, NoBls, true_and, and_true]
  refine noBls_of fun d hd => ?_
  obtain ⟨p, _, rfl⟩ := List.mem_map.mp hd
  simp only [pairD, NoBl, NoBls, and_self]
abbrev marks4 : List Str := ["ab12", "0000", "ab12c", "a1b2c3d4e5"]
/-- marks, and one more -/
structure MkOk (ms : List Str) : Prop where
  nd : (ms ++ [("none0" : Str)]).Nodup
  len : 1 ≤ ms.length ∧ ms.length ≤ 4
  ok : ∀ m ∈ ms ++ [("none0" : Str)], PyData.strOk m = true ∧ m.length ≤ 10
theorem marks4_ok : ∀ j : Nat, j < 4 → (((marks4.take (1 + j)) ++ [("none0" : Str)]).Nodup ∧ (1 ≤ (marks4.take (1 + j)).length ∧ (marks4.take (1 + j)).length ≤ 4) ∧ ∀ m ∈ marks4.take (1 + j) ++ [("none0" : Str)], PyData.strOk m = true ∧ m.length ≤ 10) := by decide +kernel
theorem shw_pk {ms : List Str} {k : Pk} (h : PkS ms k) (hm : ∀ m ∈ ms, PyData.strOk m = true ∧ m.length ≤ 10) (h1 : PyData.strOk k.1 = true) (h2 : k.1.length ≤ 10) : Shw 6 15500 (pkD k) := by
  obtain ⟨g1, g2, g3, g4⟩ := h
  refine Shw.tuple (n := 5) (w := 5000) (m := 3) (all3 (.str h1 (by omega)) ((Shw.int (n := 5) (by omega)).mono (Nat.le_refl _) (by decide)) ?_) (Nat.le_refl _) (by decide)
  refine (Shw.listM (n := 4) (w := 400) (m := 12) (W := 5000) (fun p hp => ?_) g2 (by decide))
  obtain ⟨p1, p2, p3, p4⟩ := g1 p hp
  obtain ⟨q1, q2⟩ := hm _ p1
  exact (Shw.tuple (n := 3) (w := 131) (m := 3) (all3 (.str q1 (by omega)) (Shw.int (by omega)) (Shw.int (by omega))) (Nat.le_refl _) (by decide))
theorem shw_row {r : Str × Prs2} (h1 : PyData.strOk r.1 = true) (h2 : r.1.length ≤ 10) (hl : r.2.length ≤ 29) (hb : ∀ p ∈ r.2, 0 ≤ p.1 ∧ p.1 ≤ 30 ∧ 0 ≤ p.2 ∧ p.2 ≤ 30) : Shw 6 15500 (rowD r) := by
  refine Shw.tuple (n := 5) (w := 7700) (m := 2) (all2 (.str h1 (by omega)) ?_) (Nat.le_refl _) (by decide)
  refine (Shw.listM (n := 4) (w := 264) (m := 29) (W := 7700) (fun p hp => ?_) hl (by decide))
  obtain ⟨p1, p2, p3, p4⟩ := hb p hp
  exact (Shw.tuple (n := 3) (w := 131) (m := 2) (all2 (Shw.int (by omega)) (Shw.int (by omega))) (Nat.le_refl _) (by decide))
theorem two_shown {ks : List Pk} {rows : Rows} (h : ∀ k ∈ ks, Shw 6 15500 (pkD k)) (h' : ∀ r ∈ rows, Shw 6 15500 (rowD r)) (hl : ks.length ≤ 12) (hl' : rows.length ≤ 12) : Shw 8 390000 (.list [.list (ks.map pkD), .list (rows.map rowD)]) :=
  Shw.list (n := 7) (w := 190000) (m := 2) (all2 (.listM h hl (by decide)) (.listM h' hl' (by decide))) (Nat.le_refl _) (by decide)

open G3
/-- each item makes something new of which this holds -/
theorem lc_newR {α : Type} (f : α → PyData) (R : Nat → α → Prop) {J : It} {n : Nat} {G : Hp → Prop} {Y : Nat → Hp → V → Hp → Prop} (w : Walk J n G Y) {g : TG} {tt : TT} {te : TE} {vs : List Nat} {σ : L2.St} {H1 : Hp} {D : Addr} {Qd : Hp → Prop} (nD : H1 D = none) (hz : n ≤ 1000) (hG : ∀ H, Same H1 H → G H)
    (turn : ∀ i x H H' (Kt : V → Hp → Prop) (Kn : Hp → Prop), i < n → Same H1 H → Y i H x H' → (∀ z y H4, R i z → Same H H4 → DatN (NewIn H) H4 y (f z) → Kt y H4) → g x (wipe σ vs) H' fun σ2 H2 => wipe σ2 vs = wipe σ vs ∧ tt σ2 H2 fun b H3 => if b = true then te σ2 H3 Kt else Kn H3)
    (fin : ∀ (H : Hp) (zs : List α), zs.length = n → (∀ (i : Nat) z, zs[i]? = some z → R i z) → Same H1 H → DatN (NewIn H1) H (.ref D) (.list (zs.map f)) → Qd H) : LcW J g tt te vs σ D Qd H1 := by
  refine lc_it w (fun j H => Same H1 H ∧ ∃ (ws : List V) (zs : List α), H D = some (.lst ws) ∧ EchN (fun a => H1 a = none ∧ a ≠ D) H ws (zs.map f) ∧ zs.length = j ∧ ∀ (i : Nat) z, zs[i]? = some z → R i z) ⟨same_upd nD, [], [], upd_same, .nil, rfl, fun _ _ e => nomatch e⟩ (fun i H _ p => hG H p.1) (fun i x H H' hi hP hy => ?_) (fun H hP => ?_)
  · obtain ⟨sm, ws, zs, eD, hws, hzl, hR⟩ := hP
    refine turn i x H H' _ _ hi sm hy fun z y H4 hz' s4 hd4 => ?_
    have eD4 := s4 _ _ eD
    have hwl : ws.length = i := by rw [hws.1, List.length_map, hzl]
    refine ⟨ws, eD4, Nat.lt_of_lt_of_le (show ws.length < 1000 by omega) (by decide), fun b o e => ?_, ws ++ [y], zs ++ [z], upd_same, ?_, by rw [List.length_append, hzl]; rfl, fun j q e => ?_⟩
    · rw [upd_ne (ne_of_none e nD)]
      exact s4 _ _ (sm b o e)
    · rw [List.map_append]
      have k : Kps (fun a => H1 a = none ∧ a ≠ D) H4 (upd H4 D (.lst (ws ++ [y]))) := .upd eD4 fun a z => z.2
      refine ((hws.same s4).keep k).snoc (DatN.keep (hd4.weak fun a xs (z : H a = none) e => ⟨sm.free z, fun q => ?_⟩) k)
      rw [q, eD] at z
      cases z
    · by_cases hj : j < zs.length
      · rw [List.getElem?_append_left hj] at e
        exact hR j q e
      · rw [List.getElem?_append_right (by omega)] at e
        have hj0 : j - zs.length < 1 := (List.getElem?_eq_some_iff.mp e).1
        have ej : j = i := by omega
        subst ej
        rw [hzl, Nat.sub_self] at e
        cases e
        exact hz'
  · obtain ⟨sm, ws, zs, eD, hws, hzl, hR⟩ := hP
    exact fin H zs hzl hR sm ((hws.weak fun a _ z _ => z.1).lst nD eD)
theorem numsM_map {n2 : List Str} {F : Str → List Int} (m : Str) : numsM (n2.map fun x => (x, F x)) m = if m ∈ n2 then F m else [] := by
  unfold numsM
  by_cases h : m ∈ n2
  · rw [if_pos h]
    cases e : (n2.map fun x => (x, F x)).find? fun r => decide (r.1 = m) with
    | none => exact absurd (decide_eq_true rfl) (List.find?_eq_none.mp e (m, F m) (List.mem_map.mpr ⟨m, h, rfl⟩))
    | some r =>
      have h1 : r.1 = m := of_decide_eq_true (List.find?_some (p := fun r : Str × List Int => decide (r.1 = m)) e)
      obtain ⟨x, _, rfl⟩ := List.mem_map.mp (List.mem_of_find?_eq_some e)
      have h1' : x = m := h1
      subst h1'
      rfl
  · rw [if_neg h]
    cases e : (n2.map fun x => (x, F x)).find? fun r => decide (r.1 = m) with
    | none => rfl
    | some r =>
      have h1 : r.1 = m := of_decide_eq_true (List.find?_some (p := fun r : Str × List Int => decide (r.1 = m)) e)
      obtain ⟨x, hx, rfl⟩ := List.mem_map.mp (List.mem_of_find?_eq_some e)
      have h1' : x = m := h1
      subst h1'
      exact absurd hx h
theorem numsM_small {mk : List (Str × List Int)} (h : ∀ r ∈ mk, r.2.length ≤ 24 ∧ ∀ n ∈ r.2, 0 ≤ n ∧ n < 24) (m : Str) : (numsM mk m).length ≤ 24 ∧ ∀ n ∈ numsM mk m, 0 ≤ n ∧ n < 24 := by
  unfold numsM
  cases e : mk.find? fun r => decide (r.1 = m) with
  | none => exact ⟨Nat.zero_le _, fun _ z => nomatch z⟩
  | some r => exact h r (List.mem_of_find?_eq_some e)
/-- rows by their names -/
theorem rows_in {n2 : List Str} {rows : Rows} {mk : List (Str × List Int)} (hl : rows.length = n2.length) (hR : ∀ (i : Nat) r, rows[i]? = some r → n2[i]? = some r.1 ∧ Told (fun n => n ∈ numsM mk r.1) r.2 ∧ r.2.length ≤ 24) (m : Str) (x : Int) : InM rows m x ↔ x ∈ numsM (n2.map fun y => (y, numsM mk y)) m := by
  rw [numsM_map]
  constructor
  · rintro ⟨rs, hr, hx⟩
    obtain ⟨i, hi, e⟩ := List.getElem_of_mem hr
    obtain ⟨h1, h2, _⟩ := hR i (m, rs) (by rw [List.getElem?_eq_getElem hi, e])
    rw [if_pos (List.mem_of_getElem? h1)]
    exact (h2.same x).mp hx
  · intro h
    by_cases hm : m ∈ n2
    · rw [if_pos hm] at h
      obtain ⟨i, hi, e⟩ := List.getElem_of_mem hm
      have hi' : i < rows.length := by omega
      obtain ⟨h1, h2, _⟩ := hR i rows[i] (List.getElem?_eq_getElem hi')
      rw [List.getElem?_eq_getElem hi, e] at h1
      have e1 : m = rows[i].1 := Option.some.inj h1
      refine ⟨rows[i].2, ?_, ?_⟩
      · rw [e1]
        exact List.getElem_mem hi'
      · rw [e1] at h
        exact (h2.same x).mpr h
    · rw [if_neg hm] at h
      cases h
theorem rows_names {n2 : List Str} {rows : Rows} (hl : rows.length = n2.length) (hR : ∀ (i : Nat) r, rows[i]? = some r → n2[i]? = some r.1) : rows.map (·.1) = n2 := by
  refine List.ext_getElem? fun i => ?_
  rw [List.getElem?_map]
  cases h : rows[i]? with
  | none =>
    have : n2[i]? = none := by
      rw [List.getElem?_eq_none_iff] at h ⊢
      omega
    rw [this]
    rfl
  | some k => exact (hR i k h).symm

theorem cut_strs (xs : List Str) (m : Nat) : cutV (xs.map V.str) none (some (m : Int)) = (xs.take m).map V.str := by rw [cut_front, List.map_take]

open G3
/-! ### the law -/
abbrev sLaw : Stmt := topS 19
theorem scLaw : FnScope ["_law_script", "_law_state", "_law_marks", "_law_names_here", "_law_name", "_law_packings", "_law_much", "_law_turn", "_law_keep", "_law_marked", "_law_mark", "_law_pairs", "_law_some", "_law_due", "_law_seen", "_law_great_here", "_law_size", "_law_parts", "_law_wide_here", "_law_packing_here", "_law_tin", "_law_cases_here", "_law_row", "_law_first", "_law_last"] ["_law_script"] (defScope sLaw) := ⟨rfl, rfl, rfl, by decide +kernel, rfl, by decide +kernel, by decide +kernel⟩
def spLaw (K : PySem.W.Frag) : Sp := fun vs H Q _ => ∃ (a : Addr) (ns : List Int), vs = [.ref a] ∧ SqL K H a (ns.map V.int) ∧ ns.length ≤ 63 ∧ ∀ H', Q (.bl true) H'
section
variable {K : PySem.W.Frag} {mg : Str → Option Value} {P : Program} {w : World} {base : Heap}
theorem ok_Law {f : Addr} {fd : FuncData} (F : Fun K "law" "law" sLaw f fd) (C__law_begin : Cal P w K mg base 1 "_law_begin" ["_law_script"] (spBegin K)) (C__law_take : Cal P w K mg base 1 "_law_take" ["_law_state", "_law_many"] spTake) (C__law_names : Cal P w K mg base 2 "_law_names" ["_law_state", "_law_many"] spNamesB) (C__law_packing : Cal P w K mg base 2 "_law_packing" ["_law_state", "_law_name", "_law_marks"] spLPack) (C__law_great : Cal P w K mg base 2 "_law_great" ["_law_state"] spGreat) (C__law_set : Cal P w K mg base 1 "_law_set" ["_law_numbers"] spLSetN) (C__law_cases : Cal P w K mg base 2 "_law_cases" ["_law_packing_here", "_law_marked"] spLCases) (C__law_same : Cal P w K mg base 6 "_law_same" ["_law_found", "_law_due"] (spSame 5)) (C_call_of : Cal P w K mg base 4 "call_of" ["packings", "marked"] spCallOf) (C__law_wide : Cal P w K mg base 1 "_law_wide" ["_law_some", "_law_much"] spWide) (m_range : mg "range" = none) (m_dict : mg "dict" = none) (m_sorted : mg "sorted" = none) (m_str : mg "str" = none) : FnG P w K mg base CX0 7 f fd ["_law_script"] (spLaw K) := by
  refine Fun_okG F scLaw (fun vs H Q E h => ?_) (fun cdv A outer s H vs Q E hgd hr h => ?_)
  · obtain ⟨a, ns, rfl, _⟩ := h
    rfl
  · obtain ⟨a, ns, rfl, hS, hlen, q⟩ := h
    refine ⟨_, pss_cons (ps_set (i := 1) scLaw.nd rfl (.inr rfl) (pe_own C__law_begin (hr.mono (show 1 ≤ 6 by decide)) (by rfl) (pa_cons (pv 0) pa_nil)))
      (pss_cons (ps_set (i := 2) scLaw.nd rfl (.inr rfl) (pe_slice sl_list (pe_lst (pa_cons pe_str (pa_cons pe_str (pa_cons pe_str (pa_cons pe_str pa_nil))))) po_none (po_some (pe_op op_add pe_int (pe_own C__law_take (hr.mono (show 1 ≤ 6 by decide)) (by rfl) (pa_cons (pv 1) (pa_cons pe_int pa_nil)))))))
      (pss_cons (ps_set (i := 3) scLaw.nd rfl (.inl rfl) (pe_slice sl_list (pe_own C__law_names (hr.mono (show 2 ≤ 6 by decide)) (by rfl) (pa_cons (pv 1) (pa_cons pe_int pa_nil))) po_none (po_some (pe_op op_add pe_int (pe_own C__law_take (hr.mono (show 1 ≤ 6 by decide)) (by rfl) (pa_cons (pv 1) (pa_cons pe_int pa_nil)))))))
      (pss_cons (ps_asg (pe_tup (pa_cons (pe_lc (own := [("_law_name", 4)]) (g := (gName 4)) (tt := tYes) (te := (tCall spLPack [] E0 (tCons (tVar 1) (tCons (tVar 4) (tCons (tVar 2) tNil))))) rfl scLaw.nd (pi_list (pv 3)) (blkOk_by (own := [("_law_name", 4)]) (N := ["_law_script", "_law_state", "_law_marks", "_law_names_here", "_law_name", "_law_packings", "_law_much", "_law_turn", "_law_keep", "_law_marked", "_law_mark", "_law_pairs", "_law_some", "_law_due", "_law_seen", "_law_great_here", "_law_size", "_law_parts", "_law_wide_here", "_law_packing_here", "_law_tin", "_law_cases_here", "_law_row", "_law_first", "_law_last"]) (sc := defScope sLaw) (by decide +kernel)) (fun _ _ _ _ _ => (pg_name (i := 4) scLaw.nd rfl (.inl rfl))) (fun _ _ _ _ _ => pts_nil) (fun _ _ _ _ _ => (pe_own C__law_packing (hr.mono (show 2 ≤ 6 by decide)) (by rfl) (pa_cons (pv 1) (pa_cons (pv 4) (pa_cons (pv 2) pa_nil)))))) (pa_cons (pe_op op_add pe_int (pe_own C__law_great (hr.mono (show 2 ≤ 6 by decide)) (by rfl) (pa_cons (pv 1) pa_nil))) pa_nil))) (pg_tup rfl (pgs_cons (pg_name (i := 5) scLaw.nd rfl (.inl rfl)) (pgs_cons (pg_name (i := 6) scLaw.nd rfl (.inr rfl)) pgs_nil))))
      (pss_cons (ps_for PassesOwn.never rfl (pi_range1 rfl m_range (pa_cons pe_int pa_nil)) (pg_name (i := 7) scLaw.nd rfl (.inl rfl))
        (pss_cons (ps_asg (pe_tup (pa_cons (pe_op op_add pe_int (pe_own C__law_take (hr.mono (show 1 ≤ 6 by decide)) (by rfl) (pa_cons (pv 1) (pa_cons pe_int pa_nil)))) (pa_cons pe_dnewK pa_nil))) (pg_tup rfl (pgs_cons (pg_name (i := 8) scLaw.nd rfl (.inr rfl)) (pgs_cons (pg_name (i := 9) scLaw.nd rfl (.inr rfl)) pgs_nil))))
        (pss_cons (ps_for PassesOwn.never rfl (pi_list (pe_op op_cat (pv 2) (pe_lst (pa_cons pe_str pa_nil)))) (pg_name (i := 10) scLaw.nd rfl (.inl rfl))
          (pss_one (ps_dput (hu_of hr) (pv 9) (pv 10) (pe_lc (own := [("_law_tin", 20)]) (g := (gName 20)) (tt := (tTest (tOp (rEq) (tCall spTake [] E0 (tCons (tVar 1) (tCons (tOp (rI0 fun i j => .int (i + j)) (tVar 8) (tC (.int 1))) tNil))) (tC (.int 0))))) (te := (tVar 20)) rfl scLaw.nd (pi_range1 rfl m_range (pa_cons pe_int pa_nil)) (blkOk_by (own := [("_law_tin", 20)]) (N := ["_law_script", "_law_state", "_law_marks", "_law_names_here", "_law_name", "_law_packings", "_law_much", "_law_turn", "_law_keep", "_law_marked", "_law_mark", "_law_pairs", "_law_some", "_law_due", "_law_seen", "_law_great_here", "_law_size", "_law_parts", "_law_wide_here", "_law_packing_here", "_law_tin", "_law_cases_here", "_law_row", "_law_first", "_law_last"]) (sc := defScope sLaw) (by decide +kernel)) (fun _ _ _ _ _ => (pg_name (i := 20) scLaw.nd rfl (.inl rfl))) (fun _ _ _ _ _ => (pts_one (pt_cmpR op_eq (pe_own C__law_take (hr.mono (show 1 ≤ 6 by decide)) (by rfl) (pa_cons (pv 1) (pa_cons (pe_op op_add (pv 8) pe_int) pa_nil))) pe_int (nomark _)))) (fun _ _ _ _ _ => (pv 20))) rfl)))
        (pss_cons (ps_setLc (i := 11) (own := [("_law_mark", 10)]) (g := (gName 10)) (tt := tYes) (te := (tTup (tCons (tVar 10) (tCons (tCall spLSetN [] E0 (tCons (tDGet (tVar 9) (tVar 10)) tNil)) tNil)))) rfl scLaw.nd rfl rfl (sw_true rfl rfl rfl (by decide +kernel)) (pi_list (pe_slice sl_list (pe_op op_cat (pv 2) (pe_lst (pa_cons pe_str pa_nil))) (po_some (pe_own C__law_take (hr.mono (show 1 ≤ 6 by decide)) (by rfl) (pa_cons (pv 1) (pa_cons pe_int pa_nil)))) po_none)) (blkOk_by (own := [("_law_mark", 10)]) (N := ["_law_script", "_law_state", "_law_marks", "_law_names_here", "_law_name", "_law_packings", "_law_much", "_law_turn", "_law_keep", "_law_marked", "_law_mark", "_law_pairs", "_law_some", "_law_due", "_law_seen", "_law_great_here", "_law_size", "_law_parts", "_law_wide_here", "_law_packing_here", "_law_tin", "_law_cases_here", "_law_row", "_law_first", "_law_last"]) (sc := defScope sLaw) (by decide +kernel)) (fun _ _ _ _ _ => (pg_name (i := 10) scLaw.nd rfl (.inl rfl))) (fun _ _ _ _ _ => pts_nil) (fun _ _ _ _ _ => (pe_tup (pa_cons (pv 10) (pa_cons (pe_own C__law_set (hr.mono (show 1 ≤ 6 by decide)) (by rfl) (pa_cons (pe_dget (hu_of hr) (pv 9) (pv 10) (fun _ _ => rfl)) pa_nil)) pa_nil)))))
        (pss_cons (ps_set (i := 12) scLaw.nd rfl (.inr rfl) (pe_callTy (call_dictP rfl) (by rfl) m_dict (by decide +kernel) (pa_cons (pe_lc (own := [("_law_mark", 10), ("_law_cases_here", 21)]) (g := (gTup K 2 (gCons (gName 10) (gCons (gName 21) gNil)))) (tt := tYes) (te := (tTup (tCons (tVar 10) (tCons (tDGet (tVar 9) (tVar 10)) tNil)))) rfl scLaw.nd (pi_list (pv 11)) (blkOk_by (own := [("_law_mark", 10), ("_law_cases_here", 21)]) (N := ["_law_script", "_law_state", "_law_marks", "_law_names_here", "_law_name", "_law_packings", "_law_much", "_law_turn", "_law_keep", "_law_marked", "_law_mark", "_law_pairs", "_law_some", "_law_due", "_law_seen", "_law_great_here", "_law_size", "_law_parts", "_law_wide_here", "_law_packing_here", "_law_tin", "_law_cases_here", "_law_row", "_law_first", "_law_last"]) (sc := defScope sLaw) (by decide +kernel)) (fun _ _ _ _ _ => (pg_tup rfl (pgs_cons (pg_name (i := 10) scLaw.nd rfl (.inl rfl)) (pgs_cons (pg_name (i := 21) scLaw.nd rfl (.inl rfl)) pgs_nil)))) (fun _ _ _ _ _ => pts_nil) (fun _ _ _ _ _ => (pe_tup (pa_cons (pv 10) (pa_cons (pe_dget (hu_of hr) (pv 9) (pv 10) (fun _ _ => rfl)) pa_nil))))) pa_nil)))
        (pss_cons (ps_setLc (i := 13) (own := [("_law_packing_here", 19)]) (g := (gName 19)) (tt := tYes) (te := (tTup (tCons (tOp (rIxT K) (tVar 19) (tC (.int 0))) (tCons (tCall spLCases [] E0 (tCons (tVar 19) (tCons (tVar 12) tNil))) tNil)))) rfl scLaw.nd rfl rfl (sw_true rfl rfl rfl (by decide +kernel)) (pi_list (pv 5)) (blkOk_by (own := [("_law_packing_here", 19)]) (N := ["_law_script", "_law_state", "_law_marks", "_law_names_here", "_law_name", "_law_packings", "_law_much", "_law_turn", "_law_keep", "_law_marked", "_law_mark", "_law_pairs", "_law_some", "_law_due", "_law_seen", "_law_great_here", "_law_size", "_law_parts", "_law_wide_here", "_law_packing_here", "_law_tin", "_law_cases_here", "_law_row", "_law_first", "_law_last"]) (sc := defScope sLaw) (by decide +kernel)) (fun _ _ _ _ _ => (pg_name (i := 19) scLaw.nd rfl (.inl rfl))) (fun _ _ _ _ _ => pts_nil) (fun _ _ _ _ _ => (pe_tup (pa_cons (pe_ix ix_tup (pv 19) pe_int (fun _ _ => rfl)) (pa_cons (pe_own C__law_cases (hr.mono (show 2 ≤ 6 by decide)) (by rfl) (pa_cons (pv 19) (pa_cons (pv 12) pa_nil))) pa_nil)))))
        (pss_cons (ps_par rfl scLaw.nd (i := 13) (j := 14) rfl rfl (by decide) rfl rfl (pa_cons (pe_callB cr_sortedK (by rfl) m_sorted (by decide +kernel) (pa_cons (pe_lc (own := [("_law_row", 22)]) (g := (gName 22)) (tt := (tTest (tOp (rNeD K) (tOp (rIxT K) (tVar 22) (tC (.int 1))) (tLst tNil)))) (te := (tVar 22)) rfl scLaw.nd (pi_list (pv 13)) (blkOk_by (own := [("_law_row", 22)]) (N := ["_law_script", "_law_state", "_law_marks", "_law_names_here", "_law_name", "_law_packings", "_law_much", "_law_turn", "_law_keep", "_law_marked", "_law_mark", "_law_pairs", "_law_some", "_law_due", "_law_seen", "_law_great_here", "_law_size", "_law_parts", "_law_wide_here", "_law_packing_here", "_law_tin", "_law_cases_here", "_law_row", "_law_first", "_law_last"]) (sc := defScope sLaw) (by decide +kernel)) (fun _ _ _ _ _ => (pg_name (i := 22) scLaw.nd rfl (.inl rfl))) (fun _ _ _ _ _ => (pts_one (pt_cmpR (op_neD hr.units) (pe_ix ix_tup (pv 22) pe_int (fun _ _ => rfl)) (pe_lst pa_nil) (nomark _)))) (fun _ _ _ _ _ => (pv 22))) pa_nil)) (pa_cons (pe_callTy (cr_strD hgd (Nat.lt_of_le_of_lt (Nat.add_le_add_left (show 11 ≤ 64 by decide) _) hr.units)) (by rfl) m_str (by decide +kernel) (pa_cons (pe_lst (pa_cons (pv 5) (pa_cons (pv 11) pa_nil))) pa_nil)) pa_nil)) (by rfl))
        (pss_cons (ps_if (PW.pt (pw_or (pt_not (pt_val (pe_own C__law_same hr (by rfl) (pa_cons (pe_own C_call_of (hr.mono (show 4 ≤ 6 by decide)) (by rfl) (pa_cons (pv 5) (pa_cons (pv 11) pa_nil))) (pa_cons (pv 13) pa_nil))))) (pw_or1 (pt_cmpR op_ne (pe_callTy (cr_strD hgd (Nat.lt_of_le_of_lt (Nat.add_le_add_left (show 11 ≤ 64 by decide) _) hr.units)) (by rfl) m_str (by decide +kernel) (pa_cons (pe_lst (pa_cons (pv 5) (pa_cons (pv 11) pa_nil))) pa_nil)) (pv 14) (nomark _))))) (pss_one (ps_ret pe_bl))
          pss_nil)
        (pss_cons (ps_set (i := 15) scLaw.nd rfl (.inl rfl) (pe_lst pa_nil))
        (pss_cons (ps_for PassesOwn.never rfl (pi_list (pv 5)) (pg_tup rfl (pgs_cons (pg_name (i := 4) scLaw.nd rfl (.inl rfl)) (pgs_cons (pg_name (i := 16) scLaw.nd rfl (.inl rfl)) (pgs_cons (pg_name (i := 17) scLaw.nd rfl (.inl rfl)) pgs_nil))))
          (pss_one (ps_expr (pe_bm PySem.F.plainAttrs_list PySem.F.slot_list_append PySem.F.type_list_append mt_append (pv 15) (pa_cons (pe_tup (pa_cons (pv 4) (pa_cons (pv 16) (pa_cons (pe_lc (own := [("_law_mark", 10), ("_law_first", 23), ("_law_last", 24)]) (g := (gTup K 3 (gCons (gName 10) (gCons (gName 23) (gCons (gName 24) gNil))))) (tt := tYes) (te := (tTup (tCons (tVar 10) (tCons (tOp (rI CMulW fun i j => .int (i * j)) (tVar 23) (tVar 6)) (tCons (tOp (rI0 fun i j => .int (i - j)) (tOp (rI0 fun i j => .int (i + j)) (tOp (rI CMulW fun i j => .int (i * j)) (tVar 24) (tVar 6)) (tVar 6)) (tC (.int 1))) tNil))))) rfl scLaw.nd (pi_list (pv 17)) (blkOk_by (own := [("_law_mark", 10), ("_law_first", 23), ("_law_last", 24)]) (N := ["_law_script", "_law_state", "_law_marks", "_law_names_here", "_law_name", "_law_packings", "_law_much", "_law_turn", "_law_keep", "_law_marked", "_law_mark", "_law_pairs", "_law_some", "_law_due", "_law_seen", "_law_great_here", "_law_size", "_law_parts", "_law_wide_here", "_law_packing_here", "_law_tin", "_law_cases_here", "_law_row", "_law_first", "_law_last"]) (sc := defScope sLaw) (by decide +kernel)) (fun _ _ _ _ _ => (pg_tup rfl (pgs_cons (pg_name (i := 10) scLaw.nd rfl (.inl rfl)) (pgs_cons (pg_name (i := 23) scLaw.nd rfl (.inl rfl)) (pgs_cons (pg_name (i := 24) scLaw.nd rfl (.inl rfl)) pgs_nil))))) (fun _ _ _ _ _ => pts_nil) (fun _ _ _ _ _ => (pe_tup (pa_cons (pv 10) (pa_cons (pe_op op_mulW (pv 23) (pv 6)) (pa_cons (pe_op op_sub (pe_op op_add (pe_op op_mulW (pv 24) (pv 6)) (pv 6)) pe_int) pa_nil)))))) pa_nil)))) pa_nil)))))
        (pss_cons (ps_setLc (i := 18) (own := [("_law_name", 4), ("_law_size", 16), ("_law_parts", 17)]) (g := (gTup K 3 (gCons (gName 4) (gCons (gName 16) (gCons (gName 17) gNil))))) (tt := tYes) (te := (tTup (tCons (tVar 4) (tCons (tOp (rI CMulW fun i j => .int (i * j)) (tVar 16) (tVar 6)) (tCons (tVar 17) tNil))))) rfl scLaw.nd rfl rfl (sw_true rfl rfl rfl (by decide +kernel)) (pi_list (pv 15)) (blkOk_by (own := [("_law_name", 4), ("_law_size", 16), ("_law_parts", 17)]) (N := ["_law_script", "_law_state", "_law_marks", "_law_names_here", "_law_name", "_law_packings", "_law_much", "_law_turn", "_law_keep", "_law_marked", "_law_mark", "_law_pairs", "_law_some", "_law_due", "_law_seen", "_law_great_here", "_law_size", "_law_parts", "_law_wide_here", "_law_packing_here", "_law_tin", "_law_cases_here", "_law_row", "_law_first", "_law_last"]) (sc := defScope sLaw) (by decide +kernel)) (fun _ _ _ _ _ => (pg_tup rfl (pgs_cons (pg_name (i := 4) scLaw.nd rfl (.inl rfl)) (pgs_cons (pg_name (i := 16) scLaw.nd rfl (.inl rfl)) (pgs_cons (pg_name (i := 17) scLaw.nd rfl (.inl rfl)) pgs_nil))))) (fun _ _ _ _ _ => pts_nil) (fun _ _ _ _ _ => (pe_tup (pa_cons (pv 4) (pa_cons (pe_op op_mulW (pv 16) (pv 6)) (pa_cons (pv 17) pa_nil))))))
        (pss_one (ps_if (pt_not (pt_val (pe_own C__law_same hr (by rfl) (pa_cons (pe_own C_call_of (hr.mono (show 4 ≤ 6 by decide)) (by rfl) (pa_cons (pv 18) (pa_cons (pe_lc (own := [("_law_mark", 10), ("_law_cases_here", 21)]) (g := (gTup K 2 (gCons (gName 10) (gCons (gName 21) gNil)))) (tt := tYes) (te := (tTup (tCons (tVar 10) (tCons (tCall spWide [] E0 (tCons (tVar 21) (tCons (tVar 6) tNil))) tNil)))) rfl scLaw.nd (pi_list (pv 11)) (blkOk_by (own := [("_law_mark", 10), ("_law_cases_here", 21)]) (N := ["_law_script", "_law_state", "_law_marks", "_law_names_here", "_law_name", "_law_packings", "_law_much", "_law_turn", "_law_keep", "_law_marked", "_law_mark", "_law_pairs", "_law_some", "_law_due", "_law_seen", "_law_great_here", "_law_size", "_law_parts", "_law_wide_here", "_law_packing_here", "_law_tin", "_law_cases_here", "_law_row", "_law_first", "_law_last"]) (sc := defScope sLaw) (by decide +kernel)) (fun _ _ _ _ _ => (pg_tup rfl (pgs_cons (pg_name (i := 10) scLaw.nd rfl (.inl rfl)) (pgs_cons (pg_name (i := 21) scLaw.nd rfl (.inl rfl)) pgs_nil)))) (fun _ _ _ _ _ => pts_nil) (fun _ _ _ _ _ => (pe_tup (pa_cons (pv 10) (pa_cons (pe_own C__law_wide (hr.mono (show 1 ≤ 6 by decide)) (by rfl) (pa_cons (pv 21) (pa_cons (pv 6) pa_nil))) pa_nil))))) pa_nil))) (pa_cons (pv 13) pa_nil))))) (pss_one (ps_ret pe_bl))
          pss_nil)))))))))))))
      (pss_one (ps_ret pe_bl)))))), ?_⟩
    refine ⟨.ref a, rfl, a, ns, rfl, hS, hlen, fun d c H1 s1 nd nc hS1 => ?_⟩
    -- marks
    refine ⟨(by show 4 ≤ sizeLine; decide), fun z nz => ?_⟩
    have sz := same_upd (o := .lst (marks4.map V.str)) nz
    have ez := upd_same (H := H1) (a := z) (o := .lst (marks4.map V.str))
    have offz := hS1.off nz
    refine ⟨_, rfl, d, c, 0, 4, rfl, hS1.same sz, by decide, by decide, by decide, fun r2 H2 r20 r21 hS2 k2 => ⟨1, r2, rfl, rfl, 1 + r2, rfl, z, marks4.map V.str, rfl, SqL.of (k2 _ _ offz.1 offz.2 ez), fun lm nlm => ?_⟩⟩
    obtain ⟨j2, rfl⟩ := Int.eq_ofNat_of_zero_le r20
    have ecut : cutV (marks4.map V.str) none (some (1 + (j2 : Int))) = (marks4.take (1 + j2)).map V.str := by
      have e := cut_strs marks4 (1 + j2)
      rw [Int.natCast_add] at e
      exact e
    have hmk : MkOk (marks4.take (1 + j2)) := let ⟨h1, h2, h3⟩ := marks4_ok j2 (by omega); ⟨h1, h2, h3⟩
    have slm := same_upd (o := .lst (cutV (marks4.map V.str) none (some (1 + (j2 : Int))))) nlm
    have elm := upd_same (H := H2) (a := lm) (o := .lst (cutV (marks4.map V.str) none (some (1 + (j2 : Int)))))
    have offm := hS2.off nlm
    have hS3 := hS2.same slm
    revert slm elm hS3 hmk
    rw [ecut]
    generalize marks4.take (1 + j2) = ms
    generalize upd H2 lm (.lst (ms.map V.str)) = H3
    intro hmk slm elm hS3
    -- names
    refine ⟨_, rfl, d, c, _, 12, rfl, hS3, by decide, by decide, by decide, fun ln xs t4 H4 nln eln hxl hxo t40 t41 hS4 k4 => ?_⟩
    refine ⟨_, rfl, d, c, t4, 12, rfl, hS4, by omega, by decide, by decide, fun r5 H5 r50 r51 hS5 k5 => ⟨1, r5, rfl, rfl, 1 + r5, rfl, ln, xs.map V.str, rfl, ?_, fun lh nlh => ?_⟩⟩
    · have offn := hS3.off nln
      exact SqL.of (k5 _ _ offn.1 offn.2 eln)
    obtain ⟨j5, rfl⟩ := Int.eq_ofNat_of_zero_le r50
    have ecut5 : cutV (xs.map V.str) none (some (1 + (j5 : Int))) = (xs.take (1 + j5)).map V.str := by
      have e := cut_strs xs (1 + j5)
      rw [Int.natCast_add] at e
      exact e
    have hns : NamesOk (xs.take (1 + j5)) := ⟨hxo.1.sublist (List.take_sublist _ _), fun x hx => hxo.2 x (List.mem_of_mem_take hx)⟩
    have hnl : (xs.take (1 + j5)).length ≤ 12 := by rw [List.length_take]; omega
    have slh := same_upd (o := .lst (cutV (xs.map V.str) none (some (1 + (j5 : Int))))) nlh
    have elh := upd_same (H := H5) (a := lh) (o := .lst (cutV (xs.map V.str) none (some (1 + (j5 : Int)))))
    have offh := hS5.off nlh
    have hS6 := hS5.same slh
    have elm6 := slh _ _ (k5 _ _ offm.1 offm.2 (k4 _ _ offm.1 offm.2 elm))
    revert slh elh hS6 elm6 hns hnl
    rw [ecut5]
    generalize xs.take (1 + j5) = nms
    generalize upd H5 lh (.lst (nms.map V.str)) = H6
    intro hns hnl slh elh hS6 elm6
    -- packings
    refine ⟨_, rfl, lh, rfl, ⟨_, SqL.of elh⟩, fun L nL => lc_draw (α := Pk) pkD (fun i k => nms[i]? = some k.1 ∧ PkS ms k) 50 (walk_list (xs := nms.map V.str)) hS6 nL (by rw [List.length_map]; omega) (fun Hx kx => SqL.of (kx _ _ offh.1 offh.2 elh)) (fun i x Hx Hx' t' Kt Kn hi u0 u1 hSx kx hy kk => ?_) (fun H7 t7 ks hkl hks u0 u1 hS7 k7 hL => ?_)⟩
    · obtain ⟨rfl, hx⟩ := hy
      obtain ⟨nm, enm, rfl⟩ := str_at hx
      rw [List.length_map] at hi
      refine ⟨rfl, _, rfl, _, rfl, _, rfl, d, c, lm, t', nm, ms, rfl, hSx, by omega, kx _ _ offm.1 offm.2 elm6, hmk.len.1, by have := hmk.len.2; omega, fun v k t'' H'' hd ek hpk v0 v1 hS'' k'' => ?_⟩
      exact kk k v t'' H'' ⟨by rw [ek]; exact enm, hpk⟩ hd v0 v1 hS'' k''
    rw [List.length_map] at hkl u1
    refine ⟨_, rfl, d, c, t7, rfl, hS7, by omega, fun gr H8 gr0 gr1 hS8 k8 => ⟨1, gr, rfl, rfl, (by show 2 ≤ sizeLine; decide), fun T nT => ?_⟩⟩
    have sT := same_upd (o := .tup [.ref L, .int (1 + gr)]) nT
    refine ⟨T, _, rfl, .inl (.inl upd_same), rfl, _, _, rfl, _, _, rfl, rfl, ?_⟩
    have hc6 : ∀ b, H6 b = none → b ≠ c := fun b z q => by
      obtain ⟨cs, ec, _⟩ := hS6.cells
      rw [q, ec] at z
      cases z
    have hL8 : DatN (fun b => b ≠ c) (upd H8 T (.tup [.ref L, .int (1 + gr)])) (.ref L) (.list (ks.map pkD)) := ((hL.weak fun b _ z _ => hc6 b z).keep (.kp k8 hS7 fun _ h => h)).same sT
    have elm8 := sT _ _ (k8 _ _ offm.1 offm.2 (k7 _ _ offm.1 offm.2 elm6))
    have hS9 := hS8.same sT
    revert hL8 elm8 hS9
    generalize upd H8 T (.tup [.ref L, .int (1 + gr)]) = H9
    intro hL8 elm8 hS9
    have hm1 : 1 ≤ 1 + gr := by omega
    have hm2 : 1 + gr ≤ 10 ^ 30 + 1 := by omega
    -- what is known of the packings
    have kname : ks.map (·.1) = nms := by
      refine List.ext_getElem? fun i => ?_
      rw [List.getElem?_map]
      cases h : ks[i]? with
      | none =>
        have : nms[i]? = none := by
          rw [List.getElem?_eq_none_iff] at h ⊢
          omega
        rw [this]
        rfl
      | some k => exact (hks i k h).1.symm
    have knd : (ks.map (·.1)).Nodup := by rw [kname]; exact hns.1
    have kS : ∀ k ∈ ks, PkS ms k ∧ PyData.strOk k.1 = true ∧ k.1.length ≤ 10 := fun k hk => by
      obtain ⟨i, hi, e⟩ := List.getElem_of_mem hk
      obtain ⟨h1, h2⟩ := hks i k (by rw [List.getElem?_eq_getElem hi, e])
      obtain ⟨cs, ecs, c1, c2, c3⟩ := hns.2 k.1 (List.mem_of_getElem? h1)
      refine ⟨h2, ?_, ?_⟩
      · rw [ecs]
        exact strOk_S fun ch hch => by have := c3 ch hch; omega
      · rw [ecs, SX.S_len]
        omega
    have hkl12 : ks.length ≤ 12 := by omega
    refine ⟨3, rfl, by decide, by decide, for_range (n := 3) (fun i σ Hx => ∃ (t : Int) (y3 y4 y7 y8 y9 y10 y11 y12 y13 y14 y15 y16 y17 y18 : Option V), σ = [some (.ref a), some (.ref d), some (.ref lm), y3, y4, some (.ref L), some (.int (1 + gr)), y7, y8, y9, y10, y11, y12, y13, y14, y15, y16, y17, y18, none, none, none, none, none, none] ∧ 0 ≤ t ∧ t ≤ 1000 + 200 * (i : Int) ∧ StAt Hx d c t ∧ DatN (fun b => b ≠ c) Hx (.ref L) (.list (ks.map pkD)) ∧ Hx lm = some (.lst (ms.map V.str)))
      ⟨t7 + 5, _, _, _, _, _, _, _, _, _, _, _, _, _, _, rfl, by omega, by omega, hS9, hL8, elm8⟩ (fun i σ Hx hi hP => ?_) (fun σ Hx hP => q _)⟩
    clear hL8 elm8 hS9
    obtain ⟨t, y3, y4, y7, y8, y9, y10, y11, y12, y13, y14, y15, y16, y17, y18, rfl, t0, t1, hSx, hLx, elx⟩ := hP
    -- keep, marked
    refine ⟨_, rfl, d, c, t, 9, rfl, hSx, by omega, by decide, by decide, fun kp Ha kp0 kp1 hSa ka => ⟨1, kp, rfl, rfl, fun Dm nDm => ⟨(by show 2 ≤ sizeLine; decide), fun T2 nT2 => ?_⟩⟩⟩
    have sDm := same_upd (o := .dK []) nDm
    have sT2 := same_upd (o := .tup [.int (1 + kp), .ref Dm]) nT2
    refine ⟨T2, _, rfl, .inl (.inl upd_same), rfl, _, _, rfl, _, _, rfl, rfl, ?_⟩
    have offD := hSa.off nDm
    have eDm := sT2 _ _ (upd_same (H := Ha) (a := Dm) (o := .dK []))
    have hSb := (hSa.same sDm).same sT2
    have kab : Kp d c Hx (upd (upd Ha Dm (.dK [])) T2 (.tup [.int (1 + kp), .ref Dm])) := (ka.trans (Kp.same d c sDm)).trans (Kp.same d c sT2)
    have nDx : Hx Dm = none := ka.free hSa nDm
    revert eDm hSb kab
    generalize upd (upd Ha Dm (.dK [])) T2 (.tup [.int (1 + kp), .ref Dm]) = Hb
    intro eDm hSb kab
    have hLb := hLx.keep (.kp kab hSx fun _ h => h)
    have elb := kab _ _ offm.1 offm.2 elx
    -- the marks, and one more
    refine ⟨_, rfl, (by show 1 ≤ sizeLine; decide), fun zn nzn => ?_⟩
    have szn := same_upd (o := .lst [V.str "none0"]) nzn
    refine ⟨lm, zn, ms.map V.str, [V.str "none0"], rfl, rfl, szn _ _ elb, upd_same, Nat.le_trans (show _ ≤ 1000 by rw [List.length_map]; show _ + 1 ≤ _; have := hmk.len.2; omega) (by decide), fun lq nlq => ?_⟩
    have enn : ms.map V.str ++ [V.str "none0"] = (ms ++ [("none0" : Str)]).map V.str := by rw [List.map_append]; rfl
    rw [enn]
    have slq := same_upd (o := .lst ((ms ++ [("none0" : Str)]).map V.str)) nlq
    have Sb := szn.trans slq
    have elq := upd_same (H := upd Hb zn (.lst [V.str "none0"])) (a := lq) (o := .lst ((ms ++ [("none0" : Str)]).map V.str))
    have offq := hSb.off (szn.free nlq)
    have hnnl : (ms ++ [("none0" : Str)]).length ≤ 5 := by rw [List.length_append]; have := hmk.len.2; show _ + 1 ≤ _; omega
    have hSc := hSb.same Sb
    have kac : Kp d c Hx (upd (upd Hb zn (.lst [V.str "none0"])) lq (.lst ((ms ++ [("none0" : Str)]).map V.str))) := kab.trans (Kp.same d c Sb)
    have eDc := Sb _ _ eDm
    have neq : lq ≠ Dm := fun z => by rw [z, szn _ _ eDm] at nlq; cases nlq
    revert hSc kac eDc elq
    generalize upd (upd Hb zn (.lst [V.str "none0"])) lq (.lst ((ms ++ [("none0" : Str)]).map V.str)) = Hc
    intro elq hSc kac eDc
    have hnd := hmk.nd
    have hok := hmk.ok
    revert hnd hok elq hnnl
    generalize hnn : ms ++ [("none0" : Str)] = nn
    intro hnnl elq hnd hok
    refine ⟨lq, rfl, ⟨_, SqL.of elq⟩, for_list (xs := nn.map V.str) (fun i3 σ Hy => ∃ (t' : Int) (kvs : List (Key × V)) (mk : List (Str × List Int)) (y10 : Option V), σ = [some (.ref a), some (.ref d), some (.ref lm), y3, y4, some (.ref L), some (.int (1 + gr)), some (.int (0 + (i : Int))), some (.int (1 + kp)), some (.ref Dm), y10, y11, y12, y13, y14, y15, y16, y17, y18, none, none, none, none, none, none] ∧ Hy Dm = some (.dK kvs) ∧ kvs.length ≤ i3 ∧ mk.map (·.1) = nn.take i3 ∧ (∀ r ∈ mk, r.2.length ≤ 24 ∧ ∀ n ∈ r.2, 0 ≤ n ∧ n < 24) ∧ DicI (fun b => b ≠ c) Hy kvs mk ∧ Hy lq = some (.lst (nn.map V.str)) ∧ t + 1 ≤ t' ∧ t' ≤ t + 1 + 24 * (i3 : Int) ∧ StAt Hy d c t' ∧ Kp d c Hx Hy)
      ⟨t + 1, [], [], _, rfl, eDc, Nat.le_refl _, rfl, (fun _ z => nomatch z), DicI.nil, elq, by omega, by omega, hSc, kac⟩ (fun i2 σ Hy _ hP => ?_) (fun i2 x σ Hy hx hP => ?_) (fun σ Hd hP => ?_)⟩
    · obtain ⟨_, _, _, _, rfl, _, _, _, _, _, e, _⟩ := hP
      exact SqL.of e
    · obtain ⟨t', kvs, mk, y10', rfl, eD, hkv, hmn, hmr, hdic, elqy, u0, u1, hSy, ky⟩ := hP
      obtain ⟨nm, enm, rfl⟩ := str_at hx
      have hi2 : i2 < nn.length := (List.getElem?_eq_some_iff.mp enm).1
      -- its tins
      refine ⟨24, rfl, by decide, by decide, fun D2 nD2 => lc_range (n := 24) (fun j H' => ∃ (t'' : Int) (ns2 : List Int), H' D2 = some (.lst (ns2.map V.int)) ∧ ns2.length ≤ j ∧ (∀ n ∈ ns2, 0 ≤ n ∧ n < (j : Int)) ∧ t' ≤ t'' ∧ t'' ≤ t' + j ∧ StAt H' d c t'' ∧ Kp d c Hy H') ⟨t', [], upd_same, Nat.le_refl _, (fun _ z => nomatch z), by omega, by omega, hSy.same (same_upd nD2), Kp.same d c (same_upd nD2)⟩ (fun j H' hj hP2 => ?_) (fun He hP2 => ?_)⟩
      · obtain ⟨t'', ns2, eD2, hl2, hn2, v0, v1, hS', k'⟩ := hP2
        have off2 := hSy.off nD2
        refine ⟨rfl, _, rfl, _, rfl, 1 + kp, 1, rfl, rfl, d, c, t'', 1 + kp + 1, rfl, hS', by omega, by omega, by omega, fun r6 Hf r60 r61 hSf kf => ⟨rfl, _, rfl, ite2 (fun e => ?_) (fun e => ?_)⟩⟩
        · refine ⟨_, rfl, _, kf _ _ off2.1 off2.2 eD2, small1000 (by rw [List.length_map]; omega), t'' + 1, ns2 ++ [(0 : Int) + (j : Int)], by rw [upd_same, List.map_append]; rfl, by rw [List.length_append]; exact Nat.add_le_add_right hl2 1, fun n hn => ?_, by omega, by omega, hSf.upd off2.1 off2.2, fun b o b1 b2 e' => ?_⟩
          · rcases List.mem_append.mp hn with z | z
            · have := hn2 n z
              omega
            · rw [List.mem_singleton.mp z]
              omega
          · rw [upd_ne (ne_of_none e' nD2)]
            exact kf b o b1 b2 (k' b o b1 b2 e')
        · exact ⟨t'' + 1, ns2, kf _ _ off2.1 off2.2 eD2, by omega, fun n hn => by have := hn2 n hn; omega, by omega, by omega, hSf, k'.trans kf⟩
      obtain ⟨t'', ns2, eD2, hl2, hn2, v0, v1, hSe, ke⟩ := hP2
      have off2 := hSy.off nD2
      have eDe := ke _ _ offD.1 offD.2 eD
      have hdicE : DicI (fun b => b ≠ c) He kvs mk := hdic.keep (.kp ke hSy fun _ h => h)
      refine ⟨_, rfl, _, rfl, Dm, _, rfl, DPut.k (k := Sum.inr nm) eDe (small1000 (by omega)), ?_⟩
      have hnew : nm ∉ mk.map (·.1) := fun z => by
        rw [hmn] at z
        obtain ⟨j, hj, e⟩ := List.getElem_of_mem z
        rw [List.length_take] at hj
        rw [List.getElem_take] at e
        have e2 := (List.getElem?_eq_some_iff.mp enm).2
        exact absurd (e.trans e2.symm) (List.pairwise_iff_getElem.mp hnd j i2 (by omega) hi2 (by omega))
      refine ⟨t'', putK kvs (.inr nm) (.ref D2), mk ++ [(nm, ns2)], _, rfl, upd_same, Nat.le_trans (putK_len ..) (Nat.add_le_add_right hkv 1), by rw [List.map_append, hmn, List.take_add_one, enm]; rfl, fun r hr => ?_, (hdicE.snoc hnew off2.2 eD2).keep (.upd_dK eDe), ?_, by omega, by omega, hSe.upd offD.1 offD.2, fun b o b1 b2 e => ?_⟩
      · rcases List.mem_append.mp hr with z | z
        · exact hmr r z
        · rw [List.mem_singleton.mp z]
          exact ⟨hl2, hn2⟩
      · rw [upd_ne neq]
        exact ke _ _ offq.1 offq.2 elqy
      · rw [upd_ne (fun z => by rw [z, nDx] at e; cases e)]
        exact ke b o b1 b2 (ky b o b1 b2 e)
    obtain ⟨t5, kvs, mk, y10', rfl, eDd, hkv, hmn, hmr, hdic, elqd, u0', u1', hSd, kd⟩ := hP
    rw [List.length_map, List.take_of_length_le (Nat.le_refl _)] at hmn
    rw [List.length_map] at hkv u1'
    have hLd := hLx.keep (.kp kd hSx fun _ h => h)
    have eld := kd _ _ offm.1 offm.2 elx
    -- pairs
    refine ⟨_, rfl, (by show 1 ≤ sizeLine; decide), fun z3 nz3 => ?_⟩
    have sz3 := same_upd (o := .lst [V.str "none0"]) nz3
    refine ⟨lm, z3, ms.map V.str, [V.str "none0"], rfl, rfl, sz3 _ _ eld, upd_same, Nat.le_trans (show _ ≤ 1000 by rw [List.length_map]; show _ + 1 ≤ _; have := hmk.len.2; omega) (by decide), fun lq3 nlq3 => ?_⟩
    rw [enn, hnn]
    have slq3 := same_upd (o := .lst (nn.map V.str)) nlq3
    have S3 := sz3.trans slq3
    have off3 := (hSd.same sz3).off nlq3
    refine ⟨_, rfl, d, c, t5, 2, rfl, hSd.same S3, by omega, by decide, by decide, fun r7 Hg r70 r71 hSg kg => ⟨r7, rfl, lq3, nn.map V.str, rfl, SqL.of (kg _ _ off3.1 off3.2 upd_same), fun ls nls => ?_⟩⟩
    obtain ⟨j7, rfl⟩ := Int.eq_ofNat_of_zero_le r70
    rw [cut_back, ← List.map_drop]
    have sls := same_upd (o := .lst ((nn.drop j7).map V.str)) nls
    have els := upd_same (H := Hg) (a := ls) (o := .lst ((nn.drop j7).map V.str))
    have kdh : Kp d c Hd (upd Hg ls (.lst ((nn.drop j7).map V.str))) := ((Kp.same d c S3).trans kg).trans (Kp.same d c sls)
    have hSh := hSg.same sls
    revert sls els kdh hSh
    generalize upd Hg ls (.lst ((nn.drop j7).map V.str)) = Hh
    intro sls els kdh hSh
    have hdn : (nn.drop j7).Nodup := hnd.sublist (List.drop_sublist _ _)
    have hdl : (nn.drop j7).length ≤ 5 := by rw [List.length_drop]; omega
    have hdo : ∀ m ∈ nn.drop j7, m ∈ nn := fun m hm => List.mem_of_mem_drop hm
    revert hdn hdl hdo els
    generalize nn.drop j7 = n2
    intro els hdn hdl hdo
    have hLh := hLd.keep (.kp kdh hSd fun _ h => h)
    have elh2 := kdh _ _ offm.1 offm.2 eld
    have eDh := kdh _ _ offD.1 offD.2 eDd
    have hdich : DicI (fun b => b ≠ c) Hh kvs mk := hdic.keep (.kp kdh hSd fun _ h => h)
    have hsmall := numsM_small hmr
    refine ⟨ls, rfl, ⟨_, SqL.of els⟩, fun Lp nLp => lc_newR (α := Str × Prs2) rowD (fun i r => n2[i]? = some r.1 ∧ Told (fun n => n ∈ numsM mk r.1) r.2 ∧ r.2.length ≤ 24) (walk_list (xs := n2.map V.str)) nLp (by rw [List.length_map]; omega) (fun H' s' => SqL.of (s' _ _ els)) (fun i3 x H' H'' Kt Kn hi3 s' hy kk => ?_) (fun Hi rows hrl hrR si hP => ?_)⟩
    · obtain ⟨rfl, hx⟩ := hy
      obtain ⟨nm, enm, rfl⟩ := str_at hx
      obtain ⟨cg, e1, _, e2⟩ := (hdich nm).1 (by rw [hmn]; exact hdo nm (List.mem_of_getElem? enm))
      refine ⟨rfl, _, rfl, _, rfl, _, rfl, Dm, .ref cg, rfl, .inl ⟨kvs, .inr nm, Rd.of (s' _ _ eDh), rfl, e1.symm⟩, cg, numsM mk nm, rfl, s' _ _ e2, by have := (hsmall nm).1; omega, fun l rs H4 nl hl told len s4 => ⟨(by show 2 ≤ sizeLine; decide), fun T3 nT3 => ?_⟩⟩
      have sT3 := same_upd (o := .tup [.str nm, .ref l]) nT3
      obtain ⟨ws, el, hws⟩ := hl
      exact kk (nm, rs) _ _ ⟨enm, told, by show rs.length ≤ 24; have := (hsmall nm).1; omega⟩ (s4.trans sT3) (EchN.tup (.cons (.str _) (.one (((hws.ech (N := NewIn H'')).same sT3).lst nl (sT3 _ _ el)))) upd_same)
    rw [List.length_map] at hrl
    have hch : ∀ b, Hh b = none → b ≠ c := fun b z q => by
      obtain ⟨cs, ec, _⟩ := hSh.cells
      rw [q, ec] at z
      cases z
    have hPi : DatN (fun b => b ≠ c) Hi (.ref Lp) (.list (rows.map rowD)) := hP.weak fun b _ z _ => hch b z
    have hnames := rows_names hrl fun i r e => (hrR i r e).1
    have hgood : GoodR rows := by
      refine ⟨by rw [hnames]; exact hdn, by omega, fun r hr => ?_⟩
      obtain ⟨i3, hi3, e⟩ := List.getElem_of_mem hr
      obtain ⟨_, h2, h3⟩ := hrR i3 r (by rw [List.getElem?_eq_getElem hi3, e])
      exact ⟨h2.nneg fun n hn => ((hsmall r.1).2 n hn).1, by omega⟩
    have hrb : ∀ r ∈ rows, ∀ p ∈ r.2, 0 ≤ p.1 ∧ p.1 ≤ 30 ∧ 0 ≤ p.2 ∧ p.2 ≤ 30 := fun r hr p hp => by
      obtain ⟨i3, hi3, e⟩ := List.getElem_of_mem hr
      obtain ⟨_, h2, _⟩ := hrR i3 r (by rw [List.getElem?_eq_getElem hi3, e])
      have hle := ((hgood.2.2 r hr).1).le p hp
      have h4 := (hsmall r.1).2 p.1 ((h2.same p.1).mp ⟨p, hp, Int.le_refl _, hle.2⟩)
      have h5 := (hsmall r.1).2 p.2 ((h2.same p.2).mp ⟨p, hp, hle.2, Int.le_refl _⟩)
      omega
    have hLi := hLh.same si
    have eli := si _ _ elh2
    have eDi := si _ _ eDh
    have hdici := hdich.keep (Kps.same si)
    have hSi := hSh.same si
    obtain ⟨_, wp, e, _, eLp, hwp⟩ := hPi.list
    cases e
    -- some
    refine ⟨_, rfl, Lp, rfl, ⟨_, SqL.of eLp⟩, fun Dc nDc => lc_data (walk_list (xs := wp)) ((n2.map fun y => (y, numsM mk y)).map numD) nDc (by have := hwp.1; rw [List.length_map] at this; rw [List.length_map, List.length_map, this, hrl]) (by have := hwp.1; rw [List.length_map] at this; omega) (fun H' s' => SqL.of (s' _ _ eLp)) (fun i3 x dd H' H'' Kt Kn hdd s' hy kk => ?_) (fun Hj wd sj eDc hwd => ?_)⟩
    · obtain ⟨rfl, hx⟩ := hy
      obtain ⟨r, er, hd⟩ := (hwp.same s').atM hx
      obtain ⟨a3, c3, ws3, rfl, ea3, ec3, _⟩ := hasSome_at hd
      have enm := (hrR i3 r er).1
      obtain ⟨cg, e1, e0, e2⟩ := (hdici r.1).1 (by rw [hmn]; exact hdo _ (List.mem_of_getElem? enm))
      refine ⟨a3, _, rfl, .inl (.inl ea3), rfl, _, _, rfl, _, _, rfl, rfl, rfl, ?_⟩
      refine ⟨_, rfl, _, rfl, _, rfl, Dm, .ref cg, rfl, .inl ⟨kvs, .inr r.1, Rd.of (s' _ _ eDi), rfl, e1.symm⟩, (by show 2 ≤ sizeLine; decide), fun T3 nT3 => ?_⟩
      have sT3 := same_upd (o := .tup [.str r.1, .ref cg]) nT3
      have ed : dd = numD (r.1, numsM mk r.1) := by
        rw [List.getElem?_map, List.getElem?_map, enm] at hdd
        exact (Option.some.inj hdd).symm
      subst ed
      refine kk _ _ sT3 (EchN.tup (.cons (.str _) (.one ((echN_ints _).lst (fun z => ?_) (sT3 _ _ (s' _ _ e2))))) upd_same)
      rw [z, nDc] at e2
      cases e2
    obtain ⟨ps2, kvs2, rfl, hpair, hkl2, hkk⟩ := EchN.nums (K := K) hwd
    refine ⟨Dc, ps2, kvs2, rfl, SqL.of eDc, hpair, fun Ds nDs => ?_⟩
    have sDs := same_upd (o := .dK (mergeK [] kvs2)) nDs
    have eDs := upd_same (H := Hj) (a := Ds) (o := .dK (mergeK [] kvs2))
    have hdic2 : DicI (fun b => b ≠ Dc) (upd Hj Ds (.dK (mergeK [] kvs2))) (mergeK [] kvs2) (n2.map fun y => (y, numsM mk y)) := (DicI.merge (mk := []) DicI.nil (by rw [List.nil_append, List.map_map]; simpa [Function.comp_def] using hdn) hkl2 hkk).keep (Kps.same sDs)
    have sik := sj.trans sDs
    revert sDs eDs hdic2 sik
    generalize upd Hj Ds (.dK (mergeK [] kvs2)) = Hk
    intro sDs eDs hdic2 sik
    have hin := rows_in hrl hrR
    -- due
    obtain ⟨_, wl, e, _, eL, hwl⟩ := (hLi.same sik).list
    cases e
    have hwll : wl.length = ks.length := by have := hwl.1; rwa [List.length_map] at this
    refine ⟨_, rfl, L, rfl, ⟨_, SqL.of eL⟩, fun Lu nLu => lc_newR (α := Str × Prs2) rowD (fun i r => ∃ k, ks[i]? = some k ∧ r = (k.1, canon (WithP k.2.1 k.2.2 (InM rows))) ∧ r.2.length ≤ 300) (walk_list (xs := wl)) nLu (by omega) (fun H' s' => SqL.of (s' _ _ eL)) (fun i3 x H' H'' Kt Kn hi3 s' hy kk => ?_) (fun Hl du hdul hduR sl hU => ?_)⟩
    · obtain ⟨rfl, hx⟩ := hy
      obtain ⟨k, ek, hd⟩ := (hwl.same s').atM hx
      obtain ⟨b, a2, us2, rfl, eb, na2, ea2, hu2⟩ := hd.pk
      obtain ⟨kS1, _⟩ := kS k (List.mem_of_getElem? ek)
      refine ⟨rfl, _, rfl, b, _, 0, .str k.1, rfl, rfl, .inl (.inl eb), atI_nat (j := 0) rfl, _, rfl, _, rfl, b, Ds, k, mergeK [] kvs2, n2.map fun y => (y, numsM mk y), _, _, rfl, hd, s' _ _ eDs, hdic2.keep (Kps.same s'), fun p hp => (kS1.1 p hp).2, kS1.2.1, kS1.2.2.1, kS1.2.2.2, fun l rs H4 nl hl told len s4 => ⟨(by show 2 ≤ sizeLine; decide), fun T3 nT3 => ?_⟩⟩
      have sT3 := same_upd (o := .tup [.str k.1, .ref l]) nT3
      obtain ⟨ws, el, hws⟩ := hl
      refine kk (k.1, rs) _ _ ⟨k, ek, ?_, len⟩ (s4.trans sT3) (EchN.tup (.cons (.str _) (.one (((hws.ech (N := NewIn H'')).same sT3).lst nl (sT3 _ _ el)))) upd_same)
      rw [told.canon]
      refine congrArg (Prod.mk k.1) (canon_cong fun cs => ?_)
      unfold WithP
      simp only [hin]
    have hdu : du = allF rows ks := by
      unfold allF
      refine List.ext_getElem? fun i3 => ?_
      rw [List.getElem?_map]
      cases h : du[i3]? with
      | none =>
        have : ks[i3]? = none := by
          rw [List.getElem?_eq_none_iff] at h ⊢
          omega
        rw [this]
        rfl
      | some r =>
        obtain ⟨k, ek, er, _⟩ := hduR i3 r h
        rw [ek, er]
        rfl
    have hdul2 : ∀ r ∈ allF rows ks, r.2.length ≤ 300 := fun r hr => by
      rw [← hdu] at hr
      obtain ⟨i3, hi3, e⟩ := List.getElem_of_mem hr
      obtain ⟨_, _, _, h⟩ := hduR i3 r (by rw [List.getElem?_eq_getElem hi3, e])
      exact h
    rw [hdu] at hU
    clear hdu hduR hdul
    obtain ⟨_, wu, e, _, eLu, hwu⟩ := hU.list
    cases e
    have hwul : wu.length = ks.length := by have := hwu.1; unfold allF at this; rwa [List.length_map, List.length_map] at this
    -- put in order
    refine ⟨_, rfl, Lu, rfl, ⟨_, SqL.of eLu⟩, fun Lf nLf => lc_keep (hasSome Hl) nLf eLu (by omega) (fun i3 x H2 Kt Kn hx s2 kt kn => ?_) (fun Hm sm eLf => ?_)⟩
    · obtain ⟨r, er, hd⟩ := hwu.atM hx
      obtain ⟨a3, c3, ws3, rfl, ea3, ec3, eh, eh2⟩ := hasSome_at hd
      obtain ⟨_, xs5, ev5, ea5, q5⟩ := hd.tuple
      cases ev5
      rw [ea3] at ea5
      cases ea5
      obtain ⟨x1, r1, e5, d1, qa⟩ := q5.inv
      cases e5
      obtain ⟨x2, r1, e5, d2, rc⟩ := qa.inv
      cases e5
      refine ⟨rfl, _, rfl, a3, _, 1, .ref c3, rfl, rfl, .inl (.inl (s2 _ _ ea3)), atI_nat (j := 1) rfl, Nat.zero_le _, fun z nz => ?_⟩
      have sz := same_upd (o := .lst []) nz
      refine ⟨setD r.2, .list [], ((d2.same s2).same sz).dp, .lst (SqL.of upd_same) .nil, shaped_prs r.2, shaped_ints [], _, rfl, ite2 (fun e => ?_) (fun e => ?_)⟩
      · have e' : (!PyData.eqv (.list (r.2.map pairD)) (.list [])) = true := e
        rw [eqv_pr_nil] at e'
        exact ⟨_, rfl, kt _ sz (by rw [eh, eh2]; exact e')⟩
      · have e' : ¬ (!PyData.eqv (.list (r.2.map pairD)) (.list [])) = true := e
        rw [eqv_pr_nil] at e'
        exact kn _ sz (by rw [eh, eh2]; exact Bool.eq_false_iff.mpr e')
    have hf : EchN (NewIn Hk) Hl (wu.filter (hasSome Hl)) ((keepR (allF rows ks)).map rowD) := hwu.filter fun i x r e1 e2 => by
      obtain ⟨r', er, hd⟩ := hwu.atM e1
      rw [e2] at er
      cases er
      obtain ⟨a3, c3, ws3, rfl, ea3, ec3, eh, eh2⟩ := hasSome_at hd
      rw [eh, eh2]
    have hnd2 : ((keepR (allF rows ks)).map (·.1)).Nodup := by
      have : ((allF rows ks).map (·.1)).Nodup := by
        unfold allF
        rw [List.map_map]
        exact knd
      exact this.sublist (List.filter_sublist.map _)
    obtain ⟨so1, so2, so3⟩ := rows_sortedK (hf.same sm) hnd2
    refine ⟨Lf, _, fun v => [.inr (rowOf Hm v)], false, [], rfl, SqL.of eLf, so1, so2, fun zs Lz srt stb nLz => ?_⟩
    obtain ⟨rs', hzs, hsr⟩ := so3 zs srt stb
    have sLz := same_upd (o := .lst zs) nLz
    have hZ : DatN (fun _ => True) (upd Hm Lz (.lst zs)) (.ref Lz) (.list (rs'.map rowD)) := ((hzs.same sLz).weak fun _ _ _ _ => trivial).lst trivial upd_same
    have sin := ((sik.trans sl).trans sm).trans sLz
    revert hZ sin sLz
    generalize upd Hm Lz (.lst zs) = Hn
    intro sLz hZ sin
    have hrs' : ∀ r ∈ rs', r.2.length ≤ 900 := fun r hr => by
      have h1 := hdul2 r (List.mem_filter.mp ((hsr.mem r).mp hr)).1
      omega
    have hrs'l : rs'.length ≤ 900 := by
      rw [hsr.2.len]
      have h1 : (keepR (allF rows ks)).length ≤ (allF rows ks).length := List.length_filter_le ..
      have h2 : (allF rows ks).length = ks.length := by unfold allF; rw [List.length_map]
      omega
    -- what is shown
    have hshow := (two_shown (ks := ks) (rows := rows) (fun k hk => let ⟨h1, h2, h3⟩ := kS k hk; shw_pk h1 (fun m hm => hmk.ok m (List.mem_append_left _ hm)) h2 h3) (fun r hr => by
      have hm : r.1 ∈ nn := by
        have : r.1 ∈ rows.map (·.1) := List.mem_map.mpr ⟨r, hr, rfl⟩
        rw [hnames] at this
        exact hdo _ this
      have h5 := hgood.2.2 r hr
      obtain ⟨i3, hi3, e⟩ := List.getElem_of_mem hr
      obtain ⟨_, _, h3⟩ := hrR i3 r (by rw [List.getElem?_eq_getElem hi3, e])
      exact shw_row (hok r.1 hm).1 (hok r.1 hm).2 (by omega) (hrb r hr)) hkl12 (by omega)).shown (by decide)
    obtain ⟨sh1, sh2, sh3, sh4⟩ := hshow
    have dpT : ∀ (H' : Hp) (z : Addr), Same Hn H' → H' z = some (.lst [.ref L, .ref Lp]) → Dp K H' (.ref z) (.list [.list (ks.map pkD), .list (rows.map rowD)]) := fun H' z s' ez => .lst (SqL.of ez) (.cons ((hLi.same sin).same s').dp (.cons ((hPi.same sin).same s').dp .nil))
    refine ⟨_, rfl, _, rfl, (by show 2 ≤ sizeLine; decide), fun z4 nz4 => ?_⟩
    have sz4 := same_upd (o := .lst [.ref L, .ref Lp]) nz4
    refine ⟨z4, _, rfl, dpT _ z4 sz4 upd_same, sh1, sh2, sh3, sh4, _, _, rfl, ?_⟩
    have hpkok : ∀ k ∈ ks, PkOk k := fun k hk => by
      obtain ⟨⟨h1, h2, h3, h4⟩, _⟩ := kS k hk
      exact ⟨h2, fun p hp => (h1 p hp).2.2.1, h3, by omega⟩
    have sio := sin.trans sz4
    have hZ4 := hZ.same sz4
    revert sio hZ4
    generalize hHo : upd Hn z4 (.lst [.ref L, .ref Lp]) = Ho
    intro sio hZ4
    have sno : Same Hn Ho := by rw [← hHo]; exact sz4
    obtain ⟨_, wl4, e, _, eL4, hwl4⟩ := (hLi.same sio).list
    cases e
    have hwp4 := hwp.same sio
    have eLp4 := sio _ _ eLp
    -- call_of
    refine ⟨_, rfl, _, rfl, L, Lp, wl4, wp, ks, rows, fun _ => True, rfl, .inl eL4, hwl4.weak fun _ _ _ _ => trivial, .inl eLp4, hwp4.weak fun _ _ _ _ => trivial, hgood, hpkok, hkl12, knd, fun lr rs Hq hlr hsr2 hrl2 sq => ?_⟩
    obtain rfl := hsr2.one hsr
    refine ⟨_, rfl, .ref lr, .ref Lz, .list (rs.map rowD), rfl, hlr.dat, (hZ4.same sq).dat, sm_rows59 hrs' hrs'l, nb_rows59 rs, fun Hr sr => ⟨_, rfl, iteF ?_⟩⟩
    -- nothing that was handed in is changed
    refine ⟨_, rfl, _, rfl, (by show 2 ≤ sizeLine; decide), fun z5 nz5 => ?_⟩
    have sz5 := same_upd (o := .lst [.ref L, .ref Lp]) nz5
    refine ⟨z5, _, rfl, dpT _ z5 (((sno.trans sq).trans sr).trans sz5) upd_same, sh1, sh2, sh3, sh4, _, rfl, rfl, false, congrArg V.bl (by rw [decide_eq_true rfl]; rfl), iteF ?_⟩
    have sis := ((sio.trans sq).trans sr).trans sz5
    have hZ5 := ((hZ4.same sq).same sr).same sz5
    revert sis hZ5
    generalize upd Hr z5 (.lst [.ref L, .ref Lp]) = Hs
    intro sis hZ5
    -- each tin for so many
    refine ⟨Nat.zero_le _, fun Gl nGl => ?_⟩
    have sGl := same_upd (o := .lst []) nGl
    obtain ⟨_, wl5, e, _, eL5, hwl5⟩ := (hLi.same sis).list
    cases e
    have hwl5l : wl5.length = ks.length := by have := hwl5.1; rwa [List.length_map] at this
    refine ⟨_, rfl, L, rfl, ⟨_, SqL.of (sGl _ _ eL5)⟩, for_list (xs := wl5) (fun i3 σ Hy => ∃ (us : List V) (y4 y10 y16 y17 : Option V), σ = [some (.ref a), some (.ref d), some (.ref lm), y3, y4, some (.ref L), some (.int (1 + gr)), some (.int (0 + (i : Int))), some (.int (1 + kp)), some (.ref Dm), y10, some (.ref Lp), some (.ref Ds), some (.ref Lz), some (.str (PyData.list [.list (ks.map pkD), .list (rows.map rowD)]).shown), some (.ref Gl), y16, y17, y18, none, none, none, none, none, none] ∧ Same Hs Hy ∧ Hy Gl = some (.lst us) ∧ EchN (fun b => b ≠ Gl) Hy us ((ks.take i3).map fun k => pkD (k.1, k.2.1, k.2.2.map (widePt (1 + gr)))))
      ⟨[], _, _, _, _, rfl, sGl, upd_same, .nil⟩ (fun i3 σ Hy _ hP => ?_) (fun i3 x σ Hy hx hP => ?_) (fun σ Ht hP => ?_)⟩
    · obtain ⟨_, _, _, _, _, rfl, sy, _⟩ := hP
      exact SqL.of (sy _ _ eL5)
    · obtain ⟨us, y4', y10'', y16', y17', rfl, sy, eGl, hus⟩ := hP
      obtain ⟨k, ek, hd⟩ := (hwl5.same sy).atM hx
      obtain ⟨b, a2, us2, rfl, eb, na2, ea2, hu2⟩ := hd.pk
      obtain ⟨kS1, _⟩ := kS k (List.mem_of_getElem? ek)
      have hi3 : i3 < ks.length := (List.getElem?_eq_some_iff.mp ek).1
      have hul : us.length = i3 := by rw [hus.1, List.length_map, List.length_take]; omega
      refine ⟨b, _, rfl, .inl (.inl eb), rfl, _, _, rfl, _, _, rfl, _, _, rfl, rfl, ?_⟩
      refine ⟨_, rfl, .inl ⟨rfl, _, SqL.of eGl⟩, _, rfl, _, rfl, _, rfl, a2, rfl, ⟨_, SqL.of ea2⟩, fun D6 nD6 => lc_new_list nD6 ea2 ((k.2.2.map (widePt (1 + gr))).map partD) (by have := hu2.1; rw [List.length_map] at this; rw [List.length_map, List.length_map, this]) (by have := hu2.1; rw [List.length_map] at this; have := kS1.2.1; omega) (fun i4 x dd H' Kt Kn hx4 hdd s' kk => ?_) (fun Hz sz6 hD6 => ?_)⟩
      · obtain ⟨p, ep, g, rfl, eg⟩ := Pts.at (Pts.same hu2.pts s') hx4
        obtain ⟨_, p0, p1, p2⟩ := kS1.1 p (List.mem_of_getElem? ep)
        refine ⟨g, _, rfl, .inl (.inl eg), rfl, _, _, rfl, _, _, rfl, _, _, rfl, rfl, rfl, ?_⟩
        refine ⟨_, rfl, _, rfl, _, rfl, p.2.1, 1 + gr, rfl, rfl, mulw (by omega) (by omega), _, rfl, _, rfl, p.2.2, 1 + gr, rfl, rfl, mulw (by omega) (by omega), _, rfl, _, 1 + gr, rfl, rfl, _, 1, rfl, rfl, (by show 3 ≤ sizeLine; decide), fun T4 nT4 => ?_⟩
        have ed : dd = partD (widePt (1 + gr) p) := by
          rw [List.getElem?_map, List.getElem?_map, ep] at hdd
          exact (Option.some.inj hdd).symm
        subst ed
        exact kk _ _ (same_upd nT4) (EchN.tup (.cons (.str _) (.cons (.int _) (.one (.int _)))) upd_same)
      refine ⟨(by show 3 ≤ sizeLine; decide), fun T5 nT5 => ?_⟩
      have sT5 := same_upd (o := .tup [.str k.1, .int k.2.1, .ref D6]) nT5
      have eG6 := sT5 _ _ (sz6 _ _ eGl)
      have kG : Kps (fun b => b ≠ Gl) (upd Hz T5 (.tup [.str k.1, .int k.2.1, .ref D6])) (upd (upd Hz T5 (.tup [.str k.1, .int k.2.1, .ref D6])) Gl (.lst (us ++ [.ref T5]))) := .upd eG6 fun _ h => h
      have hnew : DatN (fun b => b ≠ Gl) (upd Hz T5 (.tup [.str k.1, .int k.2.1, .ref D6])) (.ref T5) (pkD (k.1, k.2.1, k.2.2.map (widePt (1 + gr)))) := EchN.tup (.cons (.str _) (.cons (.int _) (.one ((hD6.weak fun b _ (z : Hy b = none) _ => (fun q => by rw [q, eGl] at z; cases z)).same sT5)))) upd_same
      refine ⟨Gl, us, .ref T5, rfl, rfl, eG6, small1000 (by omega), us ++ [.ref T5], _, _, _, _, rfl, fun b o e => ?_, upd_same, ?_⟩
      · rw [upd_ne (ne_of_none e nGl)]
        exact sT5 _ _ (sz6 _ _ (sy b o e))
      · rw [take_snoc ek, List.map_append]
        exact (((hus.same sz6).same sT5).keep kG).snoc (hnew.keep kG)
    obtain ⟨us, y4', y10'', y16', y17', rfl, st, eGl, hus⟩ := hP
    rw [hwl5l, List.take_of_length_le (Nat.le_refl _)] at hus
    have husl : us.length = ks.length := by rw [hus.1, List.length_map]
    -- wide_here
    refine ⟨_, rfl, Gl, rfl, ⟨_, SqL.of eGl⟩, fun Lw nLw => lc_data (walk_list (xs := us)) ((ks.map (wideK (1 + gr))).map pkD) nLw (by rw [List.length_map, List.length_map, husl]) (by omega) (fun H' s' => SqL.of (s' _ _ eGl)) (fun i3 x dd H' H'' Kt Kn hdd s' hy kk => ?_) (fun Hu ww su eLw hww => ?_)⟩
    · obtain ⟨rfl, hx⟩ := hy
      have hus' : EchN (fun b => b ≠ Gl) Ht us (ks.map fun k => pkD (k.1, k.2.1, k.2.2.map (widePt (1 + gr)))) := hus
      obtain ⟨k, ek, hd⟩ := hus'.atM hx
      obtain ⟨b, a2, us2, rfl, eb, na2, ea2, hu2⟩ := DatN.pk (k := (k.1, k.2.1, k.2.2.map (widePt (1 + gr)))) hd
      obtain ⟨kS1, _⟩ := kS k (List.mem_of_getElem? ek)
      refine ⟨b, _, rfl, .inl (.inl (s' _ _ eb)), rfl, _, _, rfl, _, _, rfl, _, _, rfl, rfl, rfl, ?_⟩
      refine ⟨_, rfl, _, rfl, _, rfl, k.2.1, 1 + gr, rfl, rfl, mulw (by have := kS1.2.2; omega) (by omega), _, rfl, (by show 3 ≤ sizeLine; decide), fun T6 nT6 => ?_⟩
      have sT6 := same_upd (o := .tup [.str k.1, .int (k.2.1 * (1 + gr)), .ref a2]) nT6
      have ed : dd = pkD (wideK (1 + gr) k) := by
        rw [List.getElem?_map, List.getElem?_map, ek] at hdd
        exact (Option.some.inj hdd).symm
      subst ed
      have low : ∀ b xs, b ≠ Gl → Ht b = some (.lst xs) → b ≠ Lw := fun b xs _ e z => by rw [z, nLw] at e; cases e
      refine kk _ _ sT6 (EchN.tup (.cons (.str _) (.cons (.int _) (.one ((((hu2.weak low).same s').same sT6).lst (low _ _ na2 ea2) (sT6 _ _ (s' _ _ ea2)))))) upd_same)
    have siu := (sis.trans st).trans su
    have hwp6 := hwp.same siu
    have eLp6 := siu _ _ eLp
    have hwpl : wp.length = rows.length := by have := hwp.1; rwa [List.length_map] at this
    refine ⟨_, rfl, _, rfl, Lp, rfl, ⟨_, SqL.of eLp6⟩, fun Lv nLv => lc_new_list nLv eLp6 ((wideR (1 + gr) rows).map rowD) (by unfold wideR; rw [List.length_map, List.length_map, hwpl]) (by omega) (fun i3 x dd H' Kt Kn hx hdd s' kk => ?_) (fun Hv sv hV => ?_)⟩
    · obtain ⟨r, er, hd⟩ := (hwp6.same s').atM hx
      obtain ⟨a3, xs5, rfl, ea3, q5⟩ := hd.tuple
      obtain ⟨x1, r1, rfl, d1, qa⟩ := q5.inv
      obtain ⟨x2, r1, rfl, d2, rc⟩ := qa.inv
      obtain ⟨c3, ws3, rfl, _, ec3, hw3⟩ := d2.list
      obtain rfl := rc.inv0
      rw [d1.inv_str] at ea3
      have hr := List.mem_of_getElem? er
      refine ⟨a3, _, rfl, .inl (.inl ea3), rfl, _, _, rfl, _, _, rfl, rfl, rfl, ?_⟩
      refine ⟨_, rfl, _, rfl, _, rfl, c3, r.2, 1 + gr, rfl, ⟨ws3, ec3, hw3.prs⟩, by have := (hgood.2.2 r hr).2; omega, fun p hp => by have := hrb r hr p hp; omega, by omega, by omega, fun v H4 hv s4 => ⟨(by show 2 ≤ sizeLine; decide), fun T7 nT7 => ?_⟩⟩
      have sT7 := same_upd (o := .tup [.str r.1, v]) nT7
      have ed : dd = rowD (r.1, r.2.map (wideP (1 + gr))) := by
        unfold wideR at hdd
        rw [List.getElem?_map, List.getElem?_map, er] at hdd
        exact (Option.some.inj hdd).symm
      subst ed
      exact kk _ _ (s4.trans sT7) (EchN.tup (.cons (.str _) (.one (hv.same sT7))) upd_same)
    obtain ⟨_, wv, e, _, eLv, hwv⟩ := hV.list
    cases e
    have hkname2 : ((ks.map (wideK (1 + gr))).map (·.1)).Nodup := by
      rw [List.map_map]
      exact knd
    refine ⟨Lw, Lv, ww, wv, ks.map (wideK (1 + gr)), wideR (1 + gr) rows, fun _ => True, rfl, .inl (sv _ _ eLw), (hww.same sv).weak fun _ _ _ _ => trivial, .inl eLv, hwv.weak fun _ _ _ _ => trivial, good_wide hm1 hgood, fun k hk => ?_, by rw [List.length_map]; exact hkl12, hkname2, fun lr2 rs2 Hw hlr2 hsr3 hrl3 sw => ?_⟩
    · obtain ⟨k', hk', rfl⟩ := List.mem_map.mp hk
      obtain ⟨⟨h1, h2, h3, h4⟩, _⟩ := kS k' hk'
      have e1 : 1 * 1 ≤ k'.2.1 * (1 + gr) := Int.mul_le_mul h3 hm1 (by decide) (by omega)
      have e2 : k'.2.1 * (1 + gr) ≤ 60 * (10 ^ 30 + 1) := Int.mul_le_mul h4 hm2 (by omega) (by decide)
      refine ⟨by show (k'.2.2.map _).length ≤ 12; rw [List.length_map]; exact h2, fun p hp => ?_, by show 1 ≤ k'.2.1 * (1 + gr); omega, by show k'.2.1 * (1 + gr) ≤ 10 ^ 50; omega⟩
      obtain ⟨p', hp', rfl⟩ := List.mem_map.mp hp
      have hle := (h1 p' hp').2.2.1
      have e3 : p'.2.1 * (1 + gr) ≤ p'.2.2 * (1 + gr) := Int.mul_le_mul_of_nonneg_right hle (by omega)
      show p'.2.1 * (1 + gr) ≤ p'.2.2 * (1 + gr) + (1 + gr) - 1
      omega
    rw [allF_wide hm1] at hsr3
    obtain rfl := hsr3.one hsr
    refine ⟨_, rfl, .ref lr2, .ref Lz, .list (rs2.map rowD), rfl, hlr2.dat, ((((hZ5.same st).same su).same sv).same sw).dat, sm_rows59 hrs' hrs'l, nb_rows59 rs2, fun Hx2 sx2 => ⟨_, rfl, iteF ?_⟩⟩
    have sfin := ((siu.trans sv).trans sw).trans sx2
    exact ⟨t5 + 1, _, _, _, _, _, _, _, _, _, _, _, _, _, _, rfl, by omega, by omega, hSi.same sfin, hLi.same sfin, sfin _ _ eli⟩
end

theorem all_mk {l : PySem.W.OpenLaw} {w : World} {K : PySem.W.Frag} {h : Heap} {mg : Str → Option Value} {fa f0 f1 f2 f3 f4 f5 f6 f7 f8 f9 f10 f11 f12 f13 f14 f15 : Addr} (X : K.In h) (G : h.Ns mainGlobals mg) (hfa : mg "law" = some (.ref fa))
    {od0 an0 od1 an1 od2 an2 od3 an3 od4 an4 od5 an5 od6 an6 od7 an7 od8 an8 od9 an9 od10 an10 od11 an11 od12 an12 od13 an13 od14 an14 od15 an15 : Option Addr} {sl0 sl1 sl2 sl3 sl4 sl5 sl6 sl7 sl8 sl9 sl10 sl11 sl12 sl13 sl14 sl15 : Array (Option Value)} {oc0 kV0 dc0 pm0 ct0 cd0 oc1 kV1 dc1 pm1 ct1 cd1 oc2 kV2 dc2 pm2 ct2 cd2 oc3 kV3 dc3 pm3 ct3 cd3 oc4 kV4 dc4 pm4 ct4 cd4 oc5 kV5 dc5 pm5 ct5 cd5 oc6 kV6 dc6 pm6 ct6 cd6 oc7 kV7 dc7 pm7 ct7 cd7 oc8 kV8 dc8 pm8 ct8 cd8 oc9 kV9 dc9 pm9 ct9 cd9 oc10 kV10 dc10 pm10 ct10 cd10 oc11 kV11 dc11 pm11 ct11 cd11 oc12 kV12 dc12 pm12 ct12 cd12 oc13 kV13 dc13 pm13 ct13 cd13 oc14 kV14 dc14 pm14 ct14 cd14 oc15 kV15 dc15 pm15 ct15 cd15 : Value}
    (a0 : PySem.W.nsIn K mainGlobals "set_of" = some (some (.ref f0))) (l0 : K.lookup f0 = some ⟨oc0, od0, .func (PySem.W.fnOf "set_of" "set_of" (defArgs sSetOf) (defBody sSetOf) (defScope sSetOf) .none kV0 dc0 pm0 an0 cd0 ct0), sl0⟩) (c0' : PySem.W.codeIn K cd0 "set_of" = true) (k0 : PySem.W.keepIn K (.ref f0) = true)
    (a1 : PySem.W.nsIn K mainGlobals "both_of" = some (some (.ref f1))) (l1 : K.lookup f1 = some ⟨oc1, od1, .func (PySem.W.fnOf "both_of" "both_of" (defArgs sBoth) (defBody sBoth) (defScope sBoth) .none kV1 dc1 pm1 an1 cd1 ct1), sl1⟩) (c1' : PySem.W.codeIn K cd1 "both_of" = true) (k1 : PySem.W.keepIn K (.ref f1) = true)
    (a2 : PySem.W.nsIn K mainGlobals "spots_of" = some (some (.ref f2))) (l2 : K.lookup f2 = some ⟨oc2, od2, .func (PySem.W.fnOf "spots_of" "spots_of" (defArgs sSpots) (defBody sSpots) (defScope sSpots) .none kV2 dc2 pm2 an2 cd2 ct2), sl2⟩) (c2' : PySem.W.codeIn K cd2 "spots_of" = true) (k2 : PySem.W.keepIn K (.ref f2) = true)
    (a3 : PySem.W.nsIn K mainGlobals "cases_touched" = some (some (.ref f3))) (l3 : K.lookup f3 = some ⟨oc3, od3, .func (PySem.W.fnOf "cases_touched" "cases_touched" (defArgs sTouched) (defBody sTouched) (defScope sTouched) .none kV3 dc3 pm3 an3 cd3 ct3), sl3⟩) (c3' : PySem.W.codeIn K cd3 "cases_touched" = true) (k3 : PySem.W.keepIn K (.ref f3) = true)
    (a4 : PySem.W.nsIn K mainGlobals "cases_with" = some (some (.ref f4))) (l4 : K.lookup f4 = some ⟨oc4, od4, .func (PySem.W.fnOf "cases_with" "cases_with" (defArgs sWith) (defBody sWith) (defScope sWith) .none kV4 dc4 pm4 an4 cd4 ct4), sl4⟩) (c4' : PySem.W.codeIn K cd4 "cases_with" = true) (k4 : PySem.W.keepIn K (.ref f4) = true)
    (a5 : PySem.W.nsIn K mainGlobals "call_of" = some (some (.ref f5))) (l5 : K.lookup f5 = some ⟨oc5, od5, .func (PySem.W.fnOf "call_of" "call_of" (defArgs sCallOf) (defBody sCallOf) (defScope sCallOf) .none kV5 dc5 pm5 an5 cd5 ct5), sl5⟩) (c5' : PySem.W.codeIn K cd5 "call_of" = true) (k5 : PySem.W.keepIn K (.ref f5) = true)
    (a6 : PySem.W.nsIn K mainGlobals "_law_begin" = some (some (.ref f6))) (l6 : K.lookup f6 = some ⟨oc6, od6, .func (PySem.W.fnOf "_law_begin" "_law_begin" (defArgs sBegin) (defBody sBegin) (defScope sBegin) .none kV6 dc6 pm6 an6 cd6 ct6), sl6⟩) (c6' : PySem.W.codeIn K cd6 "_law_begin" = true) (k6 : PySem.W.keepIn K (.ref f6) = true)
    (a7 : PySem.W.nsIn K mainGlobals "_law_take" = some (some (.ref f7))) (l7 : K.lookup f7 = some ⟨oc7, od7, .func (PySem.W.fnOf "_law_take" "_law_take" (defArgs sTake) (defBody sTake) (defScope sTake) .none kV7 dc7 pm7 an7 cd7 ct7), sl7⟩) (c7' : PySem.W.codeIn K cd7 "_law_take" = true) (k7 : PySem.W.keepIn K (.ref f7) = true)
    (a8 : PySem.W.nsIn K mainGlobals "_law_same" = some (some (.ref f8))) (l8 : K.lookup f8 = some ⟨oc8, od8, .func (PySem.W.fnOf "_law_same" "_law_same" (defArgs sSame) (defBody sSame) (defScope sSame) .none kV8 dc8 pm8 an8 cd8 ct8), sl8⟩) (c8' : PySem.W.codeIn K cd8 "_law_same" = true) (k8 : PySem.W.keepIn K (.ref f8) = true)
    (a9 : PySem.W.nsIn K mainGlobals "_law_great" = some (some (.ref f9))) (l9 : K.lookup f9 = some ⟨oc9, od9, .func (PySem.W.fnOf "_law_great" "_law_great" (defArgs sGreat) (defBody sGreat) (defScope sGreat) .none kV9 dc9 pm9 an9 cd9 ct9), sl9⟩) (c9' : PySem.W.codeIn K cd9 "_law_great" = true) (k9 : PySem.W.keepIn K (.ref f9) = true)
    (a10 : PySem.W.nsIn K mainGlobals "_law_names" = some (some (.ref f10))) (l10 : K.lookup f10 = some ⟨oc10, od10, .func (PySem.W.fnOf "_law_names" "_law_names" (defArgs sNames) (defBody sNames) (defScope sNames) .none kV10 dc10 pm10 an10 cd10 ct10), sl10⟩) (c10' : PySem.W.codeIn K cd10 "_law_names" = true) (k10 : PySem.W.keepIn K (.ref f10) = true)
    (a11 : PySem.W.nsIn K mainGlobals "_law_set" = some (some (.ref f11))) (l11 : K.lookup f11 = some ⟨oc11, od11, .func (PySem.W.fnOf "_law_set" "_law_set" (defArgs sLSet) (defBody sLSet) (defScope sLSet) .none kV11 dc11 pm11 an11 cd11 ct11), sl11⟩) (c11' : PySem.W.codeIn K cd11 "_law_set" = true) (k11 : PySem.W.keepIn K (.ref f11) = true)
    (a12 : PySem.W.nsIn K mainGlobals "_law_packing" = some (some (.ref f12))) (l12 : K.lookup f12 = some ⟨oc12, od12, .func (PySem.W.fnOf "_law_packing" "_law_packing" (defArgs sLPack) (defBody sLPack) (defScope sLPack) .none kV12 dc12 pm12 an12 cd12 ct12), sl12⟩) (c12' : PySem.W.codeIn K cd12 "_law_packing" = true) (k12 : PySem.W.keepIn K (.ref f12) = true)
    (a13 : PySem.W.nsIn K mainGlobals "_law_cases" = some (some (.ref f13))) (l13 : K.lookup f13 = some ⟨oc13, od13, .func (PySem.W.fnOf "_law_cases" "_law_cases" (defArgs sLCases) (defBody sLCases) (defScope sLCases) .none kV13 dc13 pm13 an13 cd13 ct13), sl13⟩) (c13' : PySem.W.codeIn K cd13 "_law_cases" = true) (k13 : PySem.W.keepIn K (.ref f13) = true)
    (a14 : PySem.W.nsIn K mainGlobals "_law_wide" = some (some (.ref f14))) (l14 : K.lookup f14 = some ⟨oc14, od14, .func (PySem.W.fnOf "_law_wide" "_law_wide" (defArgs sWide) (defBody sWide) (defScope sWide) .none kV14 dc14 pm14 an14 cd14 ct14), sl14⟩) (c14' : PySem.W.codeIn K cd14 "_law_wide" = true) (k14 : PySem.W.keepIn K (.ref f14) = true)
    (a15 : PySem.W.nsIn K mainGlobals "law" = some (some (.ref f15))) (l15 : K.lookup f15 = some ⟨oc15, od15, .func (PySem.W.fnOf "law" "law" (defArgs sLaw) (defBody sLaw) (defScope sLaw) .none kV15 dc15 pm15 an15 cd15 ct15), sl15⟩) (c15' : PySem.W.codeIn K cd15 "law" = true) (k15 : PySem.W.keepIn K (.ref f15) = true)
    (z_all : PySem.W.nsIn K mainGlobals "all" = some none) (z_bool : PySem.W.nsIn K mainGlobals "bool" = some none) (z_dict : PySem.W.nsIn K mainGlobals "dict" = some none) (z_divmod : PySem.W.nsIn K mainGlobals "divmod" = some none) (z_int : PySem.W.nsIn K mainGlobals "int" = some none) (z_isinstance : PySem.W.nsIn K mainGlobals "isinstance" = some none) (z_len : PySem.W.nsIn K mainGlobals "len" = some none) (z_list : PySem.W.nsIn K mainGlobals "list" = some none) (z_max : PySem.W.nsIn K mainGlobals "max" = some none) (z_min : PySem.W.nsIn K mainGlobals "min" = some none) (z_range : PySem.W.nsIn K mainGlobals "range" = some none) (z_set : PySem.W.nsIn K mainGlobals "set" = some none) (z_sorted : PySem.W.nsIn K mainGlobals "sorted" = some none) (z_str : PySem.W.nsIn K mainGlobals "str" = some none) (z_tuple : PySem.W.nsIn K mainGlobals "tuple" = some none) (z_zip : PySem.W.nsIn K mainGlobals "zip" = some none) :
    LawAtG l w K 7 mg fa := by
  cases hfa.symm.trans (PySem.W.mg_of X G a15)
  have F0 := fun_mk (st := sSetOf) l0 c0' k0
  have b0 := F0.binds (ps := ["pairs"]) fun _ _ _ _ _ _ us hl => match us, hl with | [_], _ => rfl
  have F1 := fun_mk (st := sBoth) l1 c1' k1
  have b1 := F1.binds (ps := ["one", "other"]) fun _ _ _ _ _ _ us hl => match us, hl with | [_, _], _ => rfl
  have F2 := fun_mk (st := sSpots) l2 c2' k2
  have b2 := F2.binds (ps := ["packing"]) fun _ _ _ _ _ _ us hl => match us, hl with | [_], _ => rfl
  have F3 := fun_mk (st := sTouched) l3 c3' k3
  have b3 := F3.binds (ps := ["packing", "chosen"]) fun _ _ _ _ _ _ us hl => match us, hl with | [_, _], _ => rfl
  have F4 := fun_mk (st := sWith) l4 c4' k4
  have b4 := F4.binds (ps := ["packing", "marked"]) fun _ _ _ _ _ _ us hl => match us, hl with | [_, _], _ => rfl
  have F5 := fun_mk (st := sCallOf) l5 c5' k5
  have b5 := F5.binds (ps := ["packings", "marked"]) fun _ _ _ _ _ _ us hl => match us, hl with | [_, _], _ => rfl
  have F6 := fun_mk (st := sBegin) l6 c6' k6
  have b6 := F6.binds (ps := ["_law_script"]) fun _ _ _ _ _ _ us hl => match us, hl with | [_], _ => rfl
  have F7 := fun_mk (st := sTake) l7 c7' k7
  have b7 := F7.binds (ps := ["_law_state", "_law_many"]) fun _ _ _ _ _ _ us hl => match us, hl with | [_, _], _ => rfl
  have F8 := fun_mk (st := sSame) l8 c8' k8
  have b8 := F8.binds (ps := ["_law_found", "_law_due"]) fun _ _ _ _ _ _ us hl => match us, hl with | [_, _], _ => rfl
  have F9 := fun_mk (st := sGreat) l9 c9' k9
  have b9 := F9.binds (ps := ["_law_state"]) fun _ _ _ _ _ _ us hl => match us, hl with | [_], _ => rfl
  have F10 := fun_mk (st := sNames) l10 c10' k10
  have b10 := F10.binds (ps := ["_law_state", "_law_many"]) fun _ _ _ _ _ _ us hl => match us, hl with | [_, _], _ => rfl
  have F11 := fun_mk (st := sLSet) l11 c11' k11
  have b11 := F11.binds (ps := ["_law_numbers"]) fun _ _ _ _ _ _ us hl => match us, hl with | [_], _ => rfl
  have F12 := fun_mk (st := sLPack) l12 c12' k12
  have b12 := F12.binds (ps := ["_law_state", "_law_name", "_law_marks"]) fun _ _ _ _ _ _ us hl => match us, hl with | [_, _, _], _ => rfl
  have F13 := fun_mk (st := sLCases) l13 c13' k13
  have b13 := F13.binds (ps := ["_law_packing_here", "_law_marked"]) fun _ _ _ _ _ _ us hl => match us, hl with | [_, _], _ => rfl
  have F14 := fun_mk (st := sWide) l14 c14' k14
  have b14 := F14.binds (ps := ["_law_some", "_law_much"]) fun _ _ _ _ _ _ us hl => match us, hl with | [_, _], _ => rfl
  have F15 := fun_mk (st := sLaw) l15 c15' k15
  have m_all := PySem.W.mg_none_of X G z_all
  have m_bool := PySem.W.mg_none_of X G z_bool
  have m_dict := PySem.W.mg_none_of X G z_dict
  have m_divmod := PySem.W.mg_none_of X G z_divmod
  have m_int := PySem.W.mg_none_of X G z_int
  have m_isinstance := PySem.W.mg_none_of X G z_isinstance
  have m_len := PySem.W.mg_none_of X G z_len
  have m_list := PySem.W.mg_none_of X G z_list
  have m_max := PySem.W.mg_none_of X G z_max
  have m_min := PySem.W.mg_none_of X G z_min
  have m_range := PySem.W.mg_none_of X G z_range
  have m_set := PySem.W.mg_none_of X G z_set
  have m_sorted := PySem.W.mg_none_of X G z_sorted
  have m_str := PySem.W.mg_none_of X G z_str
  have m_tuple := PySem.W.mg_none_of X G z_tuple
  have m_zip := PySem.W.mg_none_of X G z_zip
  refine ⟨PySem.W.fnOf "law" "law" (defArgs sLaw) (defBody sLaw) (defScope sLaw) .none kV15 dc15 pm15 an15 cd15 ct15, spLaw K, fun s v => .of_eq rfl, fun H a ns hl hS => ?_, fun base _ _ => ?_⟩
  ·  exact ⟨a, ns, rfl, hS, hl, fun _ => rfl⟩
  · have g := fun {x : Str} {f : Addr} (a : PySem.W.nsIn K mainGlobals x = some (some (.ref f))) => PySem.W.mg_of X G a
    have CT : Cal l.prog w K mg base 1 "_law_take" ["_law_state", "_law_many"] spTake := ⟨_, _, ok_take F7 m_len m_divmod, g a7, k7, b7⟩
    have CB : Cal l.prog w K mg base 1 "_law_begin" ["_law_script"] (spBegin K) := ⟨_, _, ok_begin F6 m_list, g a6, k6, b6⟩
    have SO : Cal l.prog w K mg base 1 "set_of" ["pairs"] (spSetOf K) := ⟨_, _, ok_setof F0 m_sorted m_max, g a0, k0, b0⟩
    have BO : Cal l.prog w K mg base 1 "both_of" ["one", "other"] (spBoth K) := ⟨_, _, ok_both F1 m_len m_max m_min, g a1, k1, b1⟩
    have SP : Cal l.prog w K mg base 1 "spots_of" ["packing"] spSpots := ⟨_, _, ok_spots F2, g a2, k2, b2⟩
    have TO : Cal l.prog w K mg base 2 "cases_touched" ["packing", "chosen"] spTouched := ⟨_, _, ok_touched F3 SP SO m_zip, g a3, k3, b3⟩
    have WI : Cal l.prog w K mg base 3 "cases_with" ["packing", "marked"] spWith := ⟨_, _, ok_with F4 BO TO, g a4, k4, b4⟩
    have E0_ : Cal l.prog w K mg base 1 "_law_same" ["_law_found", "_law_due"] (spSame 0) := ⟨_, _, ok_same0 F8 m_isinstance m_list m_tuple m_bool m_str m_int, g a8, k8, b8⟩
    have E1_ : Cal l.prog w K mg base 2 "_law_same" ["_law_found", "_law_due"] (spSame 1) := ⟨_, _, ok_sameS F8 E0_ m_isinstance m_list m_tuple m_bool m_str m_int m_len m_all m_zip, g a8, k8, b8⟩
    have E2_ : Cal l.prog w K mg base 3 "_law_same" ["_law_found", "_law_due"] (spSame 2) := ⟨_, _, ok_sameS F8 E1_ m_isinstance m_list m_tuple m_bool m_str m_int m_len m_all m_zip, g a8, k8, b8⟩
    have E3_ : Cal l.prog w K mg base 4 "_law_same" ["_law_found", "_law_due"] (spSame 3) := ⟨_, _, ok_sameS F8 E2_ m_isinstance m_list m_tuple m_bool m_str m_int m_len m_all m_zip, g a8, k8, b8⟩
    have E4_ : Cal l.prog w K mg base 5 "_law_same" ["_law_found", "_law_due"] (spSame 4) := ⟨_, _, ok_sameS F8 E3_ m_isinstance m_list m_tuple m_bool m_str m_int m_len m_all m_zip, g a8, k8, b8⟩
    have E5_ : Cal l.prog w K mg base 6 "_law_same" ["_law_found", "_law_due"] (spSame 5) := ⟨_, _, ok_sameS F8 E4_ m_isinstance m_list m_tuple m_bool m_str m_int m_len m_all m_zip, g a8, k8, b8⟩
    have CO : Cal l.prog w K mg base 4 "call_of" ["packings", "marked"] spCallOf := ⟨_, _, ok_CallOf F5 WI m_sorted, g a5, k5, b5⟩
    have GR : Cal l.prog w K mg base 2 "_law_great" ["_law_state"] spGreat := ⟨_, _, ok_Great F9 CT m_range, g a9, k9, b9⟩
    have NM : Cal l.prog w K mg base 2 "_law_names" ["_law_state", "_law_many"] spNamesB := ⟨_, _, ok_Names F10 CT m_range m_len, g a10, k10, b10⟩
    have LS : Cal l.prog w K mg base 1 "_law_set" ["_law_numbers"] spLSetN := ⟨_, _, ok_LSet F11 m_sorted m_set, g a11, k11, b11⟩
    have LP : Cal l.prog w K mg base 2 "_law_packing" ["_law_state", "_law_name", "_law_marks"] spLPack := ⟨_, _, ok_LPack F12 CT m_range m_len, g a12, k12, b12⟩
    have LC : Cal l.prog w K mg base 2 "_law_cases" ["_law_packing_here", "_law_marked"] spLCases := ⟨_, _, ok_LCases F13 LS m_range m_int, g a13, k13, b13⟩
    have WD : Cal l.prog w K mg base 1 "_law_wide" ["_law_some", "_law_much"] spWide := ⟨_, _, ok_Wide F14, g a14, k14, b14⟩
    exact ok_Law F15 CB CT NM LP GR LS LC E5_ CO WD m_range m_dict m_sorted m_str
end TK
open PySem PySem.W PyProof.Rows
set_option maxHeartbeats 0 in
theorem PySem.Challenge.cw_tinrecall_k59_calls_holds : PySem.Challenge.rw_tinrecall_k59_calls.Holds := by
  w_on; o_law; k_head; (case hw => w_witness2)
  k_fill
  refine TK.law_endG (l := PySem.Challenge.rw_tinrecall_k59_calls) (k := 7) rfl rfl ⟨rfl, by decide, by decide⟩ (fun w h Y => PySem.W.kIn_of Y) ?made
  case made =>
    intro w mg f h KX G hmg
    refine' TK.all_mk KX G hmg ?a0 ?l0 ?c0 ?k0 ?a1 ?l1 ?c1 ?k1 ?a2 ?l2 ?c2 ?k2 ?a3 ?l3 ?c3 ?k3 ?a4 ?l4 ?c4 ?k4 ?a5 ?l5 ?c5 ?k5 ?a6 ?l6 ?c6 ?k6 ?a7 ?l7 ?c7 ?k7 ?a8 ?l8 ?c8 ?k8 ?a9 ?l9 ?c9 ?k9 ?a10 ?l10 ?c10 ?k10 ?a11 ?l11 ?c11 ?k11 ?a12 ?l12 ?c12 ?k12 ?a13 ?l13 ?c13 ?k13 ?a14 ?l14 ?c14 ?k14 ?a15 ?l15 ?c15 ?k15 ?z_all ?z_bool ?z_dict ?z_divmod ?z_int ?z_isinstance ?z_len ?z_list ?z_max ?z_min ?z_range ?z_set ?z_sorted ?z_str ?z_tuple ?z_zip
    (case a0 => k_is); (case l0 => k_is); (case c0 => k_is); (case k0 => k_is)
    (case a1 => k_is); (case l1 => k_is); (case c1 => k_is); (case k1 => k_is)
    (case a2 => k_is); (case l2 => k_is); (case c2 => k_is); (case k2 => k_is)
    (case a3 => k_is); (case l3 => k_is); (case c3 => k_is); (case k3 => k_is)
    (case a4 => k_is); (case l4 => k_is); (case c4 => k_is); (case k4 => k_is)
    (case a5 => k_is); (case l5 => k_is); (case c5 => k_is); (case k5 => k_is)
    (case a6 => k_is); (case l6 => k_is); (case c6 => k_is); (case k6 => k_is)
    (case a7 => k_is); (case l7 => k_is); (case c7 => k_is); (case k7 => k_is)
    (case a8 => k_is); (case l8 => k_is); (case c8 => k_is); (case k8 => k_is)
    (case a9 => k_is); (case l9 => k_is); (case c9 => k_is); (case k9 => k_is)
    (case a10 => k_is); (case l10 => k_is); (case c10 => k_is); (case k10 => k_is)
    (case a11 => k_is); (case l11 => k_is); (case c11 => k_is); (case k11 => k_is)
    (case a12 => k_is); (case l12 => k_is); (case c12 => k_is); (case k12 => k_is)
    (case a13 => k_is); (case l13 => k_is); (case c13 => k_is); (case k13 => k_is)
    (case a14 => k_is); (case l14 => k_is); (case c14 => k_is); (case k14 => k_is)
    (case a15 => k_is); (case l15 => k_is); (case c15 => k_is); (case k15 => k_is)
    (case z_all => k_is); (case z_bool => k_is); (case z_dict => k_is); (case z_divmod => k_is); (case z_int => k_is); (case z_isinstance => k_is); (case z_len => k_is); (case z_list => k_is); (case z_max => k_is); (case z_min => k_is); (case z_range => k_is); (case z_set => k_is); (case z_sorted => k_is); (case z_str => k_is); (case z_tuple => k_is); (case z_zip => k_is)

