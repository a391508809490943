import PyProof.Rows.All
import Wide.All
import OpenK.AllK
import Wide.FinOn
import HandS.ForMost
import HandS.WideBits
import HandS.IsInst
import HandS.Style
import HandS.AnyAll
import HandS.Nested
import HandS.Walk
import HandS.Evl
import HandS.EndTab
import HandS.SortInts
import HandS.SortRule
import HandS.Conv
import HandS.Star
import KE.KDictPairs
import PyProof.SumAny
import PyProof.WalksPairs
import PyProof.GenCompT
import PySem.Challenge.RW_tinrecall_k05_sets_beside_one_another
set_option Elab.async false
set_option linter.all false
set_option maxRecDepth 100000
set_option maxHeartbeats 5000000
/-! ## sum(.. for a, b in ..): a generator expression over a list or a tuple of pairs of whole numbers -/
namespace GP
open PySem PySem.Spec PyProof.Rows L2 GxR

/-- a walk whose items are tuples that stand still -/
theorem asTuples {prog : Program} {w : World} {A : Around} {it : Addr} {foot : List Addr} {n : Nat} {Item : Nat → Value → Prop} {At : Nat → Heap → Prop} (W : Walks prog w A it foot [it] n Item At) (loc : Nat → Addr) (held : Nat → Array Value)
    (isT : ∀ j v, j < n → Item j v → v = .ref (loc j)) (apt : ∀ j, j < n → loc j ≠ it)
    (letGo : ∀ (es : List Expr) (k : Nat) (pos : Pos) (j : Nat) (T : Addr) (s : Shared) (Q : Unit → Shared → Prop) (E : Value → Shared → Prop), At j s.heap → Q () s → wpAny (model prog w) A (letOwnedTupleGo (.Tuple es k pos) (.ref it) (.ref T)) Q E s) :
    WalksU prog w A it (foot ++ (List.range n).map loc) [it] n (fun j xs => xs = held j) (fun j h => At j h ∧ ∀ m, m < n → h.IsTuple (loc m) (held m))
      (fun j T h => (j < n ∧ T = loc j) ∧ At (j + 1) h ∧ ∀ m, m < n → h.IsTuple (loc m) (held m)) := by
  have inFoot : ∀ m, m < n → loc m ∈ foot ++ (List.range n).map loc := fun m hm => List.mem_append.mpr (.inr (List.mem_map.mpr ⟨m, List.mem_range.mpr hm, rfl⟩))
  constructor
  case sub => exact fun b hb => List.mem_append.mpr (.inl (W.sub b hb))
  case frame =>
    intro j h h' ⟨a1, a2⟩ kept
    refine ⟨W.frame j h h' a1 fun b hb => kept b (List.mem_append.mpr (.inl hb)), fun m hm => ?_⟩
    obtain ⟨o, e, r⟩ := a2 m hm
    exact ⟨o, kept _ (inFoot m hm) o e, r⟩
  case item =>
    intro j s Q E hj ⟨a1, a2⟩ fin
    refine W.item j s Q E hj a1 fun v h' tk hv a1' kept => ?_
    have still : ∀ m, m < n → h'.IsTuple (loc m) (held m) := fun m hm => by
      obtain ⟨o, e, r⟩ := a2 m hm
      exact ⟨o, kept _ o (fun z => apt m hm (List.mem_singleton.mp z)) e, r⟩
    rw [isT j v hj hv]
    exact fin (loc j) (held j) h' tk rfl (still j hj) ⟨⟨hj, rfl⟩, a1', still⟩ kept
  case go =>
    intro es k pos j T s Q E hm fin
    exact letGo es k pos (j + 1) T s Q E hm.2.1 (fin s.heap hm.2 fun _ _ _ e => e)
  case apart =>
    intro j T h hm z
    rw [hm.1.2] at z
    exact apt j hm.1.1 (List.mem_singleton.mp z)
  case done => exact fun s Q E a fin => W.done s Q E a.1 fin
  case self => exact fun j s Q E a fin => W.self j s Q E a.1 fin

/-- the values vs are tuples that hold the pairs ps -/
def Prs (H : Hp) (vs : List V) (ps : List (Int × Int)) : Prop := vs.length = ps.length ∧ ∀ (i : Nat) p, ps[i]? = some p → ∃ a, vs[i]? = some (.ref a) ∧ H a = some (.tup [.int p.1, .int p.2])

/-- what is asked of the expression's own scope: the two names are its locals, its captured names are the def's -/
def OwnScope (env : Env) (sc : Scope) (xa xb : Str) : Prop :=
  (sc.kind = .function ∧ sc.isCoroutine = false ∧ xa ≠ xb) ∧ (sc.names.lookup (".0" : Str) = some .local ∧ sc.names.lookup xa = some .local ∧ sc.names.lookup xb = some .local) ∧
  (∀ y ∈ sc.names, y.2 ≠ NameKind.cell) ∧ ∀ y ∈ sc.names, y.2 = NameKind.free → ∃ c, env.cells.lookup y.1 = some c

section
variable {X : Cx} {s : Shared} {H : Hp} {σ : L2.St} {pins : List (Addr × Obj)}
/-- a tracked pair in the machine's heap -/
theorem pair_in {T : Addr} {p : Int × Int} (I : Inv X pins σ H s) (e : H T = some (.tup [.int p.1, .int p.2])) : ∃ ta tb, s.heap.IsTuple T #[.int p.1 ta, .int p.2 tb] := by
  obtain ⟨_, its, r, t⟩ := I.hok T _ e
  cases r with
  | cons q1 r =>
    cases r with
    | cons q2 r =>
      cases r
      obtain ⟨ta, rfl⟩ := q1
      obtain ⟨tb, rfl⟩ := q2
      exact ⟨ta, tb, t⟩
/-- the pairs by place: where they stand and what they hold -/
theorem pairs_in {vs : List V} {ps : List (Int × Int)} {its : List Value} (I : Inv X pins σ H s) (hp : Prs H vs ps) (r : Vals vs its) :
    ∃ (loc : Nat → Addr) (held : Nat → Array Value), ∀ j, j < ps.length → its[j]? = some (.ref (loc j)) ∧ s.heap.IsTuple (loc j) (held j) ∧ ∃ p ta tb, ps[j]? = some p ∧ held j = #[.int p.1 ta, .int p.2 tb] := by
  have one : ∀ j, ∃ (T : Addr) (xs : Array Value), j < ps.length → its[j]? = some (.ref T) ∧ s.heap.IsTuple T xs ∧ ∃ p ta tb, ps[j]? = some p ∧ xs = #[.int p.1 ta, .int p.2 tb] := fun j => by
    by_cases hj : j < ps.length
    · obtain ⟨T, e1, e2⟩ := hp.2 j ps[j] (List.getElem?_eq_getElem hj)
      obtain ⟨u, eu, ru⟩ := r.get e1
      cases ru
      obtain ⟨ta, tb, t⟩ := pair_in I e2
      exact ⟨T, _, fun _ => ⟨eu, t, ps[j], ta, tb, List.getElem?_eq_getElem hj, rfl⟩⟩
    · exact ⟨0, #[], fun z => absurd z hj⟩
  exact ⟨fun j => (one j).choose, fun j => (one j).choose_spec.choose, fun j hj => (one j).choose_spec.choose_spec hj⟩

/-- what a walk over the pairs is, begun at the new iterator that o is -/
def Begun (X : Cx) (s : Shared) (P : Addr) (ps : List (Int × Int)) (o : Obj) : Prop :=
  ∃ (foot : List Addr) (Hold : Nat → Array Value → Prop) (At : Nat → Heap → Prop) (Mid : Nat → Addr → Heap → Prop),
    (∀ A' : Around, A'.handled = none → WalksU X.prog X.w A' s.heap.objs.size foot [s.heap.objs.size] ps.length (fun j xs => j < ps.length ∧ Hold j xs) At Mid) ∧
    (∀ j xs, j < ps.length → Hold j xs → ∃ p ta tb, ps[j]? = some p ∧ xs = #[.int p.1 ta, .int p.2 tb]) ∧ At 0 (s.heap.push o) ∧ ∀ b ∈ foot, b < s.heap.objs.size + 1 ∧ b ≠ P
theorem begin_pairs {a P : Addr} {vs : List V} {ps : List (Int × Int)} {tb : Array Value} {Q' : Value → Shared → Prop} (I : Inv X pins σ H s) (hS : SqL X.K H a vs ∨ SqT X.K H a vs) (hp : Prs H vs ps) (hP : H P = some (.tbl tb))
    (fin : ∀ o, Begun X s P ps o → Q' (.ref s.heap.objs.size) { s with heap := s.heap.push o }) : wpAny (model X.prog X.w) X.A (pyIter (.ref a)) Q' X.xe s := by
  have hPo : s.heap.get? P = some { cls := .none, data := .fields tb } := I.hok P _ hP
  have notP : ∀ (b : Addr) (o : Obj) (xs : Array Value) (n : Nat), s.heap.get? b = some o → o.data = .seq xs n → b ≠ P := fun b o xs n e d z => by
    rw [z, hPo] at e
    rw [← Option.some.inj e] at d
    cases d
  have newP : s.heap.objs.size ≠ P := fun z => Nat.lt_irrefl _ (Nat.lt_of_lt_of_eq (Heap.lt_size hPo) z)
  -- from a walk over the items to the pairs
  have mk : ∀ (its : List Value) (o : Obj) (At : Nat → Heap → Prop), Vals vs its → a < s.heap.objs.size → a ≠ P → At 0 (s.heap.push o) →
      (∀ A' : Around, A'.handled = none → Walks X.prog X.w A' s.heap.objs.size [s.heap.objs.size, a] [s.heap.objs.size] its.toArray.size (fun i v => its.toArray[i]? = some v) At) →
      (∀ (A' : Around) (es : List Expr) (k : Nat) (pos : Pos) (j : Nat) (T : Addr) (s' : Shared) (Q : Unit → Shared → Prop) (E : Value → Shared → Prop), At j s'.heap → Q () s' → wpAny (model X.prog X.w) A' (letOwnedTupleGo (.Tuple es k pos) (.ref s.heap.objs.size) (.ref T)) Q E s') →
      Begun X s P ps o := by
    intro its o At r ha haP a0 W go
    obtain ⟨loc, held, hl⟩ := pairs_in I hp r
    have ln : its.toArray.size = ps.length := by rw [List.size_toArray, ← r.length, hp.1]
    have below : ∀ m, m < ps.length → loc m < s.heap.objs.size ∧ loc m ≠ P := fun m hm => by
      obtain ⟨_, ⟨ob, e, _, n, d⟩, _⟩ := hl m hm
      exact ⟨Heap.lt_size e, notP _ _ _ _ e d⟩
    refine ⟨_, _, _, _, fun A' hA => (asTuples (ln ▸ W A' hA) loc held (fun j v hj e => ?_) (fun j hj => Nat.ne_of_lt (below j hj).1) (fun es k pos j T s' Q E => go A' es k pos j T s' Q E)).bound, fun j xs hj e => ?_, ⟨a0, fun m hm => ?_⟩, fun b hb => ?_⟩
    · have e2 : its[j]? = some v := by simpa using e
      rw [(hl j hj).1] at e2
      exact (Option.some.inj e2).symm
    · obtain ⟨_, _, p, ta, tb', e1, e2⟩ := hl j hj
      exact ⟨p, ta, tb', e1, (show xs = held j from e).trans e2⟩
    · obtain ⟨_, ⟨ob, e, rest⟩, _⟩ := hl m hm
      exact ⟨ob, Heap.get?_push_of_some _ e, rest⟩
    · rcases List.mem_append.mp hb with z | z
      · rcases List.mem_cons.mp z with e | e
        · rw [e]; exact ⟨Nat.lt_succ_self _, newP⟩
        · rw [List.mem_singleton.mp e]; exact ⟨Nat.lt_succ_of_lt ha, haP⟩
      · obtain ⟨m, hm, e⟩ := List.mem_map.mp z
        obtain ⟨h1, h2⟩ := below m (List.mem_range.mp hm)
        rw [← e]; exact ⟨Nat.lt_succ_of_lt h1, h2⟩
  rcases hS with hS | hS
  · obtain ⟨its, r, hl, _⟩ := I.list hS
    obtain ⟨o, e, c, n, d⟩ := hl.isList
    refine wpAny_pyIter_list hl.isList (fin _ (mk its _ _ r (Heap.lt_size e) (notP _ _ _ _ e d) ⟨⟨_, Heap.get?_push_size _ rfl, rfl, rfl⟩, ⟨o, Heap.get?_push_of_some _ e, c, n, d⟩⟩ (fun A' hA => Walks.list hA _ a (Nat.ne_of_lt (Heap.lt_size e)) its.toArray) ?_))
    exact fun A' es k pos j T s' Q E at_ q => wpAny_letOwnedTupleGo_listiter at_.1 q
  · obtain ⟨its, r, ⟨o, e, c, n, d⟩, _⟩ := I.tuple hS
    refine wpAny_pyIter_tuple (items := its.toArray) ⟨o, e, c, n, d⟩ (fin _ (mk its _ _ r (Heap.lt_size e) (notP _ _ _ _ e d) ⟨⟨_, Heap.get?_push_size _ rfl, rfl, rfl⟩, ⟨o, Heap.get?_push_of_some _ e, c, n, d⟩⟩ (fun A' hA => Walks.tuple hA _ a (Nat.ne_of_lt (Heap.lt_size e)) its.toArray) ?_))
    exact fun A' es k pos j T s' Q E at_ q => letGo_tupleiter at_.1 q

/-- the expression's code object is made, or found: the table may grow, all else stands -/
theorem code_there {c P : Addr} {gpos : Pos} {qual : Str} {sc : Scope} {tb : Array Value} {Q' : Value → Shared → Prop} {E : Value → Shared → Prop} (hcode : X.env.code = .ref c) (C : PySem.W.CodeHd s.heap c P) (hP : s.heap.get? P = some { cls := .none, data := .fields tb }) (ok : TriplesOk tb.toList)
    (fin : ∀ (code : Value) (h' : Heap) (tk : Nat) (more : Array Value), Heap.ExtBut P s.heap h' → s.heap.objs.size ≤ h'.objs.size → h'.get? P = some { cls := .none, data := .fields (tb ++ more) } → TriplesOk (tb ++ more).toList → Q' code { s with heap := h', toks := tk }) :
    wpAny (model X.prog X.w) X.A (genexprCode X.env gpos qual sc) Q' E s := by
  cases found : codeAmong gpos tb.toList with
  | some old =>
    refine wpAny_genexprCode_hit hcode (C.code hP ok) found ?_
    have e : tb ++ #[] = tb := by simp
    exact fin old s.heap s.toks #[] (Heap.ExtBut.refl _ _) (Nat.le_refl _) (by rw [e]; exact hP) (by rw [e]; exact ok)
  | none =>
    refine wpAny_genexprCodeX hcode (C.code hP ok) (C.tab hP) found fun c' h' tk ext le lt isC _ tab _ => ?_
    obtain ⟨_, _, _, _, _, _, _, _, _, _, _, _, _, _, _, _, _, _, _, okT, _⟩ := isC
    exact fin _ h' tk _ ext (Nat.le_trans le (Nat.le_of_lt lt)) tab.2 okT

/-- the element at a pair of whole numbers: what it gives, wherever the expression runs later -/
def EltAt (X : Cx) (s₁ : Shared) (P : Addr) (sc : Scope) (xa xb : Str) (elt : Expr) (Gives : Int → Int → Value → Prop) : Prop :=
  ∀ (L : Addr) (code : Value) (A' : Around) (E' : Value → Shared → Prop) (a b : Int) (ta tb : Tok) (s₂ : Shared) (m : Str → Option Value), A'.handled = none →
    (∀ x o, x ≠ P → s₁.heap.get? x = some o → s₂.heap.get? x = some o) → s₂.heap.Ns L m → m xa = some (.int a ta) → m xb = some (.int b tb) →
    wpAny (model X.prog X.w) A' (eval elt (genEnv sc (cloFrom X.env.cells sc.names []) L code builtinsNs X.env)) (fun y s₃ => Gives a b y ∧ Keeps s₂ s₃) E' s₂

/-- the generator at g, in the state s₅, before its first item; H₁: what was held when it was made -/
def Fresh (X : Cx) (pins : List (Addr × Obj)) (σ : L2.St) (H₁ : Hp) (P : Addr) (ps : List (Int × Int)) (Gives : Int → Int → Value → Prop) (g : Addr) (s₅ : Shared) : Prop :=
  ∃ (foot writes : List Addr) (Gens : Array GenState → Array GenState → Prop) (Item : Nat → Value → Prop) (At : Nat → Shared → Prop),
    (WalksS X.prog X.w X.A.in1 g foot writes Gens ps.length Item At ∧ At 0 s₅ ∧ ∀ b ∈ foot, b < s₅.heap.objs.size) ∧
    (∀ j v, Item j v → ∃ p, ps[j]? = some p ∧ Gives p.1 p.2 v) ∧ ∀ s₆, Moved writes Gens s₅ s₆ → ∃ H₂, Tabbed P H₁ H₂ ∧ Inv X pins σ H₂ s₆

theorem gen_made {c P : Addr} {elt iter : Expr} {xa xb : Str} {pa pb pt gpos : Pos} {kt : Nat} {sc : Scope} {te : TE} {k : Nat} {Q' : Value → Shared → Prop} {Want : List (Int × Int) → Hp → Prop} {Gives : Int → Int → Value → Prop}
    (room : Room k X.A) (TB : TabB X.base X.mg c P) (hcode : X.env.code = .ref c) (own : OwnScope X.env sc xa xb) (walked : PE X iter te) (plain : ∀ v, genFold iter X.env v = pure v) (I : Inv X pins σ H s)
    (each : ∀ s₁ H₁, Inv X pins σ H₁ s₁ → TabG H₁ P → EltAt X s₁ P sc xa xb elt Gives)
    (h : te σ H fun v H₁ => ∃ (a : Addr) (vs : List V) (ps : List (Int × Int)), v = .ref a ∧ (SqL X.K H₁ a vs ∨ SqT X.K H₁ a vs) ∧ Prs H₁ vs ps ∧ TabG H₁ P ∧ Want ps H₁)
    (fin : ∀ ps H₁ g s₅, Want ps H₁ → Fresh X pins σ H₁ P ps Gives g s₅ → Q' (.ref g) s₅) :
    wpAny (model X.prog X.w) X.A (eval (.GeneratorExp elt [⟨.Tuple [.Name xa pa, .Name xb pb] kt pt, iter, [], 0⟩] sc gpos) X.env) Q' X.xe s := by
  obtain ⟨⟨o1, o2, o3⟩, ⟨o4, o5, o6⟩, o7, o8⟩ := own
  have deep : X.A.depth < recursionLimit := by have := room.dp; omega
  refine wpAny_GeneratorExp_walksQT room.hd o2 (closure_ok o8) o7 o4 o5 o6 o3 o1 deep (thn (walked.run pins s σ H _ I h) fun u s₁ had => ?_) plain
  obtain ⟨_, H₁, I₁, rel, a, vs, ps, rfl, hS, hp, ⟨tb, hP, ok⟩, want⟩ := had
  cases rel
  have tabAt : s₁.heap.get? P = some { cls := .none, data := .fields tb } := I₁.hok P _ hP
  refine begin_pairs I₁ hS hp hP fun o beg => ?_
  obtain ⟨foot, Hold, At, Mid, W, holds, at0, low⟩ := beg
  have statics : cStatics < s₁.heap.objs.size ∧ cStatics ≠ P := by
    obtain ⟨_, ns, _⟩ := I₁.nolimit
    refine ⟨ns.lt, fun z => ?_⟩
    obtain ⟨ob, _, _, e, d, _⟩ := ns
    rw [z, tabAt] at e
    rw [← Option.some.inj e] at d
    cases d
  have quiet : (s₁.heap.push o).NoLimit := I₁.nolimit.push o
  refine ⟨quiet, code_there hcode (TB.code.keeps fun b u e => Heap.get?_push_of_some _ (I₁.bk b u e)) (Heap.get?_push_of_some _ tabAt) ok fun code h₃ tk more ext le tab₃ ok₃ => ?_⟩
  rw [Heap.size_push] at le
  have stays : ∀ b u, b ≠ P → s₁.heap.get? b = some u → h₃.get? b = some u := fun b u hb e => ext b u hb (Heap.get?_push_of_some _ e)
  obtain ⟨bm, ob, f1, f2, f3, f4, f5, f6, f7, f8⟩ := TB.bm
  have globals : Heap.Ns h₃ X.env.globals X.mg := by
    rw [I₁.ok.glob]
    exact ((I₁.mod.glob.keeps I₁.bk).push o).extBut ext TB.gP
  refine wpAny_builtinsFor (m := X.mg) globals f1 f2 (stays bm ob f4 (I₁.bk bm ob f5)) f6 f7 f8 ?_
  have later : ∀ b u, s₁.heap.get? b = some u → b ∉ [h₃.objs.size, s₁.heap.objs.size] := fun b u e z => by
    have lt := Heap.lt_size e
    rcases List.mem_cons.mp z with z' | z'
    · exact Nat.lt_irrefl _ (Nat.lt_of_lt_of_le (z' ▸ lt) (Nat.le_of_succ_le le))
    · exact Nat.lt_irrefl _ (List.mem_singleton.mp z' ▸ lt)
  refine ⟨_, _, _, _, _, _, _, fun _ => true, fun i y => i < ps.length → ∃ p, ps[i]? = some p ∧ Gives p.1 p.2 y, rfl, W, fun i xs hx => ?_, ?_, fun b hb => Nat.lt_of_lt_of_le (low b hb).1 le, quiet.extBut ext statics.2, fun z => Nat.ne_of_lt statics.1 (List.mem_singleton.mp z), fun ref kept => ⟨?_, ?_⟩, ?_⟩
  · obtain ⟨p, ta, tb', _, e⟩ := holds i xs hx.1 hx.2
    exact ⟨_, _, e⟩
  · exact (W X.A room.hd).frame _ _ _ at0 fun b hb u e => ext b u (low b hb).2 e
  · intro A' E' i va vb s₂ m _ _ _ _ _ _
    rw [List.forIn_nil]
    exact wpAny_pure ⟨rfl, _, _, rfl, fun _ _ e => e⟩
  · intro A' E' i va vb s₂ m calm hx _ ns ea eb still
    obtain ⟨p, ta, tb', ep, e⟩ := holds i _ hx.1 hx.2
    have e1 : va = .int p.1 ta := by have z := congrArg (·[0]?) e; simpa using z
    have e2 : vb = .int p.2 tb' := by have z := congrArg (·[1]?) e; simpa using z
    subst e1 e2
    refine wpAny_mono (each s₁ H₁ I₁ ⟨tb, hP, ok⟩ _ code A' E' p.1 p.2 ta tb' s₂ m calm (fun b u hb q => ?_) ns ea eb) (fun y s₃ r => ⟨fun _ => ⟨p, ep, r.1⟩, r.2⟩) fun _ _ q => q
    have q3 := stays b u hb q
    exact still b (List.mem_range.mpr (Heap.lt_size q3)) (fun z => later b u q (List.mem_cons_of_mem _ z)) u (kept b u q3)
  · intro g h₅ tk₅ gs bare above size kept W₅ at₅
    rw [GxR.passing_true, List.length_range] at W₅
    have above' : h₃.objs.size < g := above
    have size' : h₅.objs.size = g + 1 := size
    refine fin ps H₁ g _ want ⟨_, _, _, _, _, ⟨W₅.in4_1, at₅, fun b hb => ?_⟩, fun j v it => ?_, fun s₆ mv => ?_⟩
    · show b < h₅.objs.size
      rw [size']
      rcases List.mem_cons.mp hb with eg | e
      · rw [eg]; exact Nat.lt_succ_self g
      · refine Nat.lt_succ_of_le (Nat.le_trans ?_ (Nat.le_of_lt above'))
        rcases List.mem_cons.mp e with e' | e'
        · rw [e']; exact Nat.le_refl _
        · exact Nat.le_of_lt (List.mem_range.mp e')
    · obtain ⟨i, ei, hg⟩ := it
      have lt : j < ps.length := by
        have z := (List.getElem?_eq_some_iff.mp ei).1
        rwa [List.length_range] at z
      rw [List.getElem?_range lt] at ei
      cases ei
      exact hg lt
    · have all : ∀ b u, b ≠ P → s₁.heap.get? b = some u → s₆.heap.get? b = some u := fun b u hb e => mv.heap b u (later b u e) (kept b u (stays b u hb e))
      have tab₆ := mv.heap P _ (later P _ tabAt) (kept P _ tab₃)
      have J := inv_tab (more := more) (d' := s₆.drawn) (t' := s₆.toks) I₁ hP all tab₆ (AllBare.movedS (I₁.bare.push bare) mv)
      rw [sh_eta s₁ s₆ mv.os] at J
      exact ⟨_, ⟨⟨tb ++ more, upd_same, ok₃⟩, fun b hb => upd_ne hb⟩, J⟩

/-- the sum of g over the pairs -/
def sumP (g : Int → Int → Int) (ps : List (Int × Int)) : Int := (ps.map fun p => g p.1 p.2).sum
theorem preSum_is (g : Int → Int → Int) (ps : List (Int × Int)) (val : Nat → Int) (h : ∀ i p, ps[i]? = some p → val i = g p.1 p.2) : ∀ n, n ≤ ps.length → preSum val n = sumP g (ps.take n)
  | 0, _ => rfl
  | n + 1, hn => by
    have e : ps[n]? = some ps[n] := List.getElem?_eq_getElem hn
    show preSum val n + val n = _
    rw [preSum_is g ps val h n (by omega), h n _ e]
    unfold sumP
    rw [List.take_add_one, e, List.map_append, List.sum_append]
    show _ = _ + (g ps[n].1 ps[n].2 + 0)
    rw [Int.add_zero]
/-- what the reading of sum(..), any(..) over pairs asks: what is captured (Cap), the pairs, the table; then the answer -/
def tOver {α : Type} (K : PySem.W.Frag) (P : Addr) (Cap : L2.St → α → Prop) (ans : α → List (Int × Int) → V) (te : TE) : TE := fun σ H Q => ∃ x : α, Cap σ x ∧ te σ H fun v H₁ => ∃ (a : Addr) (vs : List V) (ps : List (Int × Int)), v = .ref a ∧ (SqL K H₁ a vs ∨ SqT K H₁ a vs) ∧ Prs H₁ vs ps ∧ TabG H₁ P ∧
  ∀ H₂, Tabbed P H₁ H₂ → Q (ans x ps) H₂
/-- how a built-in takes a generator over pairs -/
def Takes2 (X : Cx) (name : String) (Gives : Int → Int → Value → Prop) (ans : List (Int × Int) → V) : Prop :=
  ∀ (pins : List (Addr × Obj)) (σ : L2.St) (P : Addr) (ps : List (Int × Int)) (H₁ : Hp) (gen : Addr) (s₅ : Shared) (Q : VK), Fresh X pins σ H₁ P ps Gives gen s₅ → (∀ H₂, Tabbed P H₁ H₂ → Q (ans ps) H₂) →
    wpAny (model X.prog X.w) X.A (call (.builtin name) [.ref gen]) (EP X pins σ Q) X.xe s₅
theorem pe_over {α : Type} {name : String} {x : Str} {c P : Addr} {elt iter : Expr} {xa xb : Str} {pa pb pt p pos gpos : Pos} {kt : Nat} {sc : Scope} {Cap : L2.St → α → Prop} {Gives : α → Int → Int → Value → Prop} {ans : α → List (Int × Int) → V} {te : TE} {k : Nat} (takes : ∀ y, Takes2 X name (Gives y) (ans y))
    (room : Room k X.A) (glob : Gl X x) (free : X.mg x = none) (bltn : bootBuiltins x = some (.builtin name)) (TB : TabB X.base X.mg c P) (hcode : X.env.code = .ref c) (own : OwnScope X.env sc xa xb) (walked : PE X iter te)
    (each : ∀ pins σ s₁ H₁ y, Inv X pins σ H₁ s₁ → TabG H₁ P → Cap σ y → EltAt X s₁ P sc xa xb elt (Gives y)) (plain : ∀ v, genFold iter X.env v = pure v) (n1 : x ≠ "__name__" := by decide) (n2 : (x == ("__debug__" : Str)) = false := by decide)
    (one : starEach [.GeneratorExp elt [⟨.Tuple [.Name xa pa, .Name xb pb] kt pt, iter, [], 0⟩] sc gpos] X.env = [(false, eval (.GeneratorExp elt [⟨.Tuple [.Name xa pa, .Name xb pb] kt pt, iter, [], 0⟩] sc gpos) X.env)] := by rfl) :
    PE X (.Call (.Name x p) [.GeneratorExp elt [⟨.Tuple [.Name xa pa, .Name xb pb] kt pt, iter, [], 0⟩] sc gpos] [] pos) (tOver X.K P Cap ans te) := by
  constructor
  intro pins s σ H Q I h
  obtain ⟨y, cap, h⟩ := h
  refine wpAny_Call_Name_kw (ld_blt I glob free bltn (callWith_builtin1 ?_ one (by rfl)) n1 n2)
  rw [one]
  refine Calls.spliced_cons (gen_made (Want := fun ps H₁ => ∀ H₂, Tabbed P H₁ H₂ → Q (ans y ps) H₂) (Gives := Gives y) room TB hcode own walked plain I (fun s₁ H₁ J g => each pins σ s₁ H₁ y J g cap) h fun ps H₁ gen s₅ want fresh => Calls.spliced_nil ?_)
  exact takes y pins σ P ps H₁ gen s₅ Q fresh want
theorem takes_sum (g : Int → Int → Int) : Takes2 X "sum" (fun a b y => ∃ t, y = .int (g a b) t) (fun ps => .int (sumP g ps)) := by
  intro pins σ P ps H₁ gen s₅ Q fresh want
  obtain ⟨foot, writes, Gens, Item, At, ⟨W, a0, low⟩, items, behind⟩ := fresh
  let val : Nat → Int := fun i => (ps[i]?.map fun p => g p.1 p.2).getD 0
  have hv : ∀ i p, ps[i]? = some p → val i = g p.1 p.2 := fun i p e => by show (ps[i]?.map _).getD 0 = _; rw [e]; rfl
  refine call_sum_walkAnyS (W.self 0 _ _ _ a0 ⟨gen, foot, writes, Gens, ps.length, Item, At, val, rfl, W, a0, low, fun i v it => ?_, fun s₆ t mv => ?_⟩)
  · obtain ⟨p, e, t, ev⟩ := items i v it
    exact ⟨t, by rw [hv i p e]; exact ev⟩
  · obtain ⟨H₂, tabbed, J⟩ := behind s₆ mv
    refine ⟨.int (preSum val ps.length), H₂, J, ⟨t, rfl⟩, ?_⟩
    rw [preSum_is g ps val hv ps.length (Nat.le_refl _), List.take_length]
    exact want H₂ tabbed
def anyP (g : Int → Int → Bool) (ps : List (Int × Int)) : Bool := ps.any fun p => g p.1 p.2
theorem any_is {α : Type} (ps : List α) (f : α → Bool) (tr : Nat → Bool) (h : ∀ i p, ps[i]? = some p → tr i = f p) : (List.range ps.length).any tr = ps.any f := by
  rw [Bool.eq_iff_iff, List.any_eq_true (l := List.range _), List.any_eq_true]
  constructor
  · rintro ⟨i, hi, e⟩
    have lt := List.mem_range.mp hi
    exact ⟨ps[i], List.getElem_mem lt, by rw [← h i _ (List.getElem?_eq_getElem lt)]; exact e⟩
  · rintro ⟨p, hp, e⟩
    obtain ⟨i, lt, rfl⟩ := List.getElem_of_mem hp
    exact ⟨i, List.mem_range.mpr lt, by rw [h i _ (List.getElem?_eq_getElem lt)]; exact e⟩
theorem takes_any (g : Int → Int → Bool) : Takes2 X "any" (fun a b y => y = .bool (g a b)) (fun ps => .bl (anyP g ps)) := by
  intro pins σ P ps H₁ gen s₅ Q fresh want
  obtain ⟨foot, writes, Gens, Item, At, ⟨W, a0, low⟩, items, behind⟩ := fresh
  let tr : Nat → Bool := fun i => (ps[i]?.map fun p => g p.1 p.2).getD false
  have ht : ∀ i p, ps[i]? = some p → tr i = g p.1 p.2 := fun i p e => by show (ps[i]?.map _).getD false = _; rw [e]; rfl
  refine call_any_walkS (W.self 0 _ _ _ a0 ⟨gen, foot, writes, Gens, ps.length, Item, At, tr, rfl, W, a0, fun i v s' Q' E' it q => ?_, fun s₆ mv => ?_⟩)
  · obtain ⟨p, e, rfl⟩ := items i v it
    rw [ht i p e] at q
    exact wpAny_truthy_bool q
  · obtain ⟨H₂, tabbed, J⟩ := behind s₆ mv
    refine ⟨.bl _, H₂, J, rfl, ?_⟩
    rw [any_is ps (fun p => g p.1 p.2) tr ht]
    exact want H₂ tabbed
/-- a whole number that the expression captures, as its cell has it -/
theorem captured {i : Nat} {y : Str} {n : Int} {P : Addr} (I : Inv X pins σ H s) (hN : X.N[i]? = some y) (hk : X.env.scope.names.lookup y = some .cell) (hv : σ[i]? = some (some (.int n))) (g : TabG H P) :
    ∃ c t, X.env.cells.lookup y = some c ∧ s.heap.IsCell c (some (.int n t)) ∧ c ≠ P := by
  obtain ⟨tb, hP, _⟩ := g
  obtain ⟨m, _, look⟩ := I.loc
  obtain ⟨u, ⟨t, rfl⟩, l⟩ := look i y _ hN hv (.inr (.inl hk))
  rcases l with ⟨z, _⟩ | ⟨_, c, e, o, ho, hd⟩
  · rw [show X.env.kindOf y = some .cell from hk] at z
    cases z
  · refine ⟨c, t, e, ⟨o, ho, hd⟩, fun z => ?_⟩
    rw [z, I.hok P _ hP] at ho
    rw [← Option.some.inj ho] at hd
    cases hd
/-- the names of the module and the built-in ones, where the expression runs -/
theorem names_in {P : Addr} {s₂ : Shared} (I : Inv X pins σ H s) (g : TabG H P) (gP : mainGlobals ≠ P) (kept : ∀ x o, x ≠ P → s.heap.get? x = some o → s₂.heap.get? x = some o) :
    s₂.heap.Ns mainGlobals X.mg ∧ ∃ mb, s₂.heap.Ns builtinsNs mb ∧ ∀ x : Str, x ≠ "__name__" → mb x = bootBuiltins x := by
  obtain ⟨tb, hP, _⟩ := g
  obtain ⟨mb, b1, b2⟩ := I.mod.blt
  have at_ : ∀ b m, b ≠ P → s.heap.Ns b m → s₂.heap.Ns b m := fun b m hb ⟨o, es, ep, ho, r⟩ => ⟨o, es, ep, kept b o hb ho, r⟩
  refine ⟨at_ _ _ gP (I.mod.glob.keeps I.bk), mb, at_ _ _ (fun z => ?_) (b1.keeps I.bk), b2⟩
  obtain ⟨o, es, ep, ho, hd, _⟩ := b1.keeps I.bk
  rw [z, I.hok P _ hP] at ho
  rw [← Option.some.inj ho] at hd
  cases hd
end
end GP

namespace TK
open PySem PySem.Spec PyProof.Rows L2 GP
def topS (i : Nat) : Stmt := PySem.Challenge.pw_tinrecall_k05_sets_beside_one_another.main.body.getD i (.Pass ⟨0, 0, 0, 0⟩)

/-- the draws' state: its dict at d, its cells at c -/
structure StAt (H : Hp) (d c : Addr) (t : Int) : Prop where
  dict : H d = some (.dK [(.inr "cells", .ref c), (.inr "turn", .int t)])
  cells : ∃ cs : List Int, H c = some (.lst (cs.map V.int)) ∧ cs ≠ [] ∧ cs.length ≤ 63
  pos : 0 ≤ t
theorem StAt.ne {H : Hp} {d c : Addr} {t : Int} (h : StAt H d c t) : d ≠ c := by
  obtain ⟨cs, hc, _⟩ := h.cells
  exact ne_of h.dict hc (by intro z; cases z)
/-- all but the state is as it was -/
def Kp (d c : Addr) (H H' : Hp) : Prop := ∀ b o, b ≠ d → b ≠ c → H b = some o → H' b = some o
theorem Kp.refl (d c : Addr) (H : Hp) : Kp d c H H := fun _ _ _ _ h => h
theorem Kp.trans {d c : Addr} {H H1 H2 : Hp} (a : Kp d c H H1) (b : Kp d c H1 H2) : Kp d c H H2 := fun x o h1 h2 h => b x o h1 h2 (a x o h1 h2 h)

theorem ixN_of {n j : Nat} (h : j < n) : ixN n (j : Int) = some j := by
  unfold ixN
  rw [if_pos (Int.natCast_nonneg j), if_pos (by omega), Int.toNat_natCast]
def spTake : Sp := fun vs H Q _ => ∃ (d c : Addr) (t m : Int), vs = [.ref d, .int m] ∧ StAt H d c t ∧ t < 2 ^ 60 ∧ 0 < m ∧ m.natAbs < 2 ^ 200 ∧
  ∀ r H', 0 ≤ r → r < m → StAt H' d c (t + 1) → Kp d c H H' → Q (.int r) H'

abbrev sTake : Stmt := topS 12
theorem scTake : FnScope ["_law_state", "_law_many", "_law_turn", "_law_place", "_law_cell", "_law_digit", "_law_mixed"] ["_law_state", "_law_many"] (defScope sTake) := ⟨rfl, rfl, rfl, by decide +kernel, rfl, by decide +kernel, by decide +kernel⟩
section
variable {K : PySem.W.Frag} {mg : Str → Option Value} {P : Program} {w : World} {base : Heap}
theorem ok_take {f : Addr} {fd : FuncData} {k : Nat} (F : Fun K "_law_take" "_law_take" sTake f fd) (ml : mg "len" = none) (md : mg "divmod" = none) : FnOk P w K mg base CX0 (k + 1) f fd ["_law_state", "_law_many"] spTake := by
  refine F.ok scTake (fun vs H Q E h => ?_) (fun cdv A outer s H vs Q E hr h => ?_)
  · obtain ⟨d, c, t, m, rfl, _⟩ := h
    rfl
  · obtain ⟨d, c, t, m, rfl, hS, ht, hm, hm2, q⟩ := h
    refine ⟨_, pss_cons (ps_set (i := 2) scTake.nd rfl (.inl rfl) (pe_op op_add (pe_dget (hu_of hr) (pv 0) pe_str (fun _ _ => rfl)) pe_int))
      (pss_cons (ps_dput (hu_of hr) (pv 0) pe_str (pv 2) rfl)
      (pss_cons (ps_set (i := 3) scTake.nd rfl (.inl rfl) (pe_op op_mod (pv 2) (pe_callB call_len_seq (by rfl) ml PySem.boot_len (pa_cons (pe_dget (hu_of hr) (pv 0) pe_str (fun _ _ => rfl)) pa_nil))))
      (pss_cons (ps_set (i := 4) scTake.nd rfl (.inl rfl) (pe_ix ix_list (pe_dget (hu_of hr) (pv 0) pe_str (fun _ _ => rfl)) (pv 3) (fun _ _ => rfl)))
      (pss_cons (ps_if (pt_cmpR op_ge (pv 4) (pe_op op_pow pe_int pe_int) (nomark _))
        (pss_cons (ps_asg (pe_callB call_divmodW (by rfl) md (by decide +kernel) (pa_cons (pv 4) (pa_cons (pv 1) pa_nil)))
            (pg_tup rfl (pgs_cons (pg_sub (pe_dget (hu_of hr) (pv 0) pe_str (fun _ _ => rfl)) (pv 3) set_list) (pgs_cons (pg_name (i := 5) scTake.nd rfl (.inl rfl)) pgs_nil))))
          (pss_one (ps_ret (pv 5)))) pss_nil)
      (pss_cons (ps_set (i := 6) scTake.nd rfl (.inl rfl) (pe_op op_mod (pe_op op_mul (pe_op op_add (pe_op op_add (pe_op op_mod (pv 4) pe_int) (pe_op op_mul (pe_op op_mul (pv 2) (pv 2)) pe_int)) pe_int) pe_int) pe_int))
      (pss_cons (ps_set (i := 6) scTake.nd rfl (.inl rfl) (pe_op op_mod (pe_op op_mul (pv 6) (pv 6)) pe_int))
      (pss_one (ps_ret (pe_op op_mod (pe_op op_fdiv (pe_op op_mod (pe_op op_mul (pe_op op_add (pv 6) (pe_op op_mul (pv 2) pe_int)) pe_int) pe_int) pe_int) (pv 1)))))))))), ?_⟩
    obtain ⟨hd, ⟨cs, hc, hne, hlen⟩, hpos⟩ := hS
    have ndc : d ≠ c := ne_of hd hc (by intro z; cases z)
    -- turn = state['turn'] + 1
    refine ⟨.ref d, rfl, d, .int t, rfl, DGet.k (k := Sum.inr "turn") hd, t, 1, rfl, rfl, ?_⟩
    -- state['turn'] = turn
    refine ⟨_, rfl, .ref d, rfl, d, _, rfl, DPut.k (k := Sum.inr "turn") hd (by show 2 < sizeLine; decide), ?_⟩
    have hput : putK [((.inr "cells" : Key), V.ref c), (.inr "turn", .int t)] (.inr "turn") (.int (t + 1)) = [(.inr "cells", .ref c), (.inr "turn", .int (t + 1))] := rfl
    rw [show (.int (t + 1) : V) = V.int (t + 1) from rfl] at *
    rw [hput]
    generalize hH1 : upd H d (.dK [((.inr "cells" : Key), V.ref c), (.inr "turn", .int (t + 1))]) = H1
    have hd1 : H1 d = some (.dK [(.inr "cells", .ref c), (.inr "turn", .int (t + 1))]) := by rw [← hH1]; exact upd_same
    have hc1 : H1 c = some (.lst (cs.map V.int)) := by rw [← hH1, upd_ne ndc.symm]; exact hc
    have k1 : Kp d c H H1 := fun b o h1 h2 e => by rw [← hH1, upd_ne h1]; exact e
    have hlp : 0 < cs.length := List.length_pos_iff.mpr hne
    -- place = turn % len(state['cells'])
    refine ⟨_, rfl, .ref d, rfl, d, .ref c, rfl, DGet.k (k := Sum.inr "cells") hd1, c, _, rfl, .inl (SqL.of hc1), _, _, rfl, rfl, (by show (0 : Int) < ((cs.map V.int).length : Int); rw [List.length_map]; omega), ?_⟩
    dsimp only
    rw [List.length_map]
    have hj0 : 0 ≤ (t + 1) % (cs.length : Int) := Int.emod_nonneg _ (by omega)
    have hj1 : (t + 1) % (cs.length : Int) < cs.length := Int.emod_lt_of_pos _ (by omega)
    obtain ⟨j, hj⟩ := Int.eq_ofNat_of_zero_le hj0
    have hjl : j < cs.length := by omega
    rw [hj]
    have gj : (cs.map V.int)[j]? = some (.int cs[j]) := by rw [List.getElem?_map, List.getElem?_eq_getElem hjl]; rfl
    -- cell = state['cells'][place]
    refine ⟨.ref d, rfl, d, .ref c, rfl, DGet.k (k := Sum.inr "cells") hd1, _, rfl, c, _, _, .int cs[j], rfl, rfl, SqL.of hc1, atI_nat gj, ?_⟩
    generalize cs[j] = x
    -- if cell >= 10 ** 18
    refine ⟨_, rfl, 10, 18, rfl, rfl, ⟨by decide, by decide, by decide⟩, _, _, rfl, rfl, _, rfl, ite2 (fun e => ?_) (fun e => ?_)⟩
    · have hdp : CDivP x m := ⟨hm, PyProof.noPylong_of_log2 (Nat.lt_trans (PySem.Flt.log2_lt_of (by decide) hm2) (by decide))⟩
      refine ⟨_, rfl, _, rfl, x, m, rfl, hdp, fun p hp => ?_⟩
      have npd : d ≠ p := ne_of_none hd1 hp
      have npc : c ≠ p := ne_of_none hc1 hp
      have hd2 : upd H1 p (.tup [.int (x / m), .int (x % m)]) d = some (.dK [(.inr "cells", .ref c), (.inr "turn", .int (t + 1))]) := by rw [upd_ne npd]; exact hd1
      have hc2 : upd H1 p (.tup [.int (x / m), .int (x % m)]) c = some (.lst (cs.map V.int)) := by rw [upd_ne npc]; exact hc1
      refine ⟨p, _, rfl, .inl (.inl upd_same), rfl, _, _, rfl, .ref d, rfl, d, .ref c, rfl, DGet.k (k := Sum.inr "cells") hd2, _, rfl, c, _, _, j, rfl, rfl, hc2, ixN_of (by rw [List.length_map]; exact hjl), _, _, rfl, rfl, ?_⟩
      refine ⟨_, rfl, ?_⟩
      refine q _ _ (Int.emod_nonneg _ (by omega)) (Int.emod_lt_of_pos _ hm) ⟨?_, ⟨cs.set j (x / m), ?_, ?_, ?_⟩, by omega⟩ ?_
      · rw [upd_ne ndc]; exact hd2
      · rw [upd_same, List.map_set]
      · intro z
        have z2 : (cs.set j (x / m)).length = 0 := by rw [z]; rfl
        rw [List.length_set] at z2
        omega
      · rw [List.length_set]; exact hlen
      · intro b o h1 h2 e
        rw [upd_ne h2, upd_ne (ne_of_none (k1 b o h1 h2 e) hp)]
        exact k1 b o h1 h2 e
    · have t1 : t + 1 < 2 ^ 61 := by omega
      -- mixed
      refine ⟨_, rfl, _, _, rfl, rfl, (show (0 : Int) < 2147483629 by decide), _, rfl, _, rfl, t + 1, t + 1, rfl, rfl, .inl ⟨by omega, by omega⟩, _, _, rfl, rfl, .inr ⟨by decide, by decide⟩, _, _, rfl, rfl, _, _, rfl, rfl, _, _, rfl, rfl, .inr ⟨by decide, by decide⟩, _, 2147483647, rfl, rfl, (show (0 : Int) < 2147483647 by decide), ?_⟩
      dsimp only
      generalize hy : ((x % 2147483629 + (t + 1) * (t + 1) * 7919 + 11) * 48271) = y
      have y0 : 0 ≤ y % 2147483647 := Int.emod_nonneg _ (by decide)
      have y1 : y % 2147483647 < 2147483647 := Int.emod_lt_of_pos _ (by decide)
      refine ⟨_, rfl, _, rfl, y % 2147483647, y % 2147483647, rfl, rfl, .inl ⟨by omega, by omega⟩, _, 2147483587, rfl, rfl, (show (0 : Int) < 2147483587 by decide), ?_⟩
      refine ⟨_, rfl, _, rfl, t + 1, 104729, rfl, rfl, .inr ⟨by decide, by decide⟩, _, _, rfl, rfl, _, _, rfl, rfl, .inr ⟨by decide, by decide⟩, _, 2147483629, rfl, rfl, (show (0 : Int) < 2147483629 by decide), _, 64, rfl, rfl, ⟨by decide, by decide⟩, _, rfl, _, m, rfl, rfl, hm, ?_⟩
      exact q _ _ (Int.emod_nonneg _ (by omega)) (Int.emod_lt_of_pos _ hm) ⟨hd1, ⟨cs, hc1, hne, hlen⟩, by omega⟩ k1
end

abbrev sBegin : Stmt := topS 11
theorem scBegin : FnScope ["_law_script", "_law_cells"] ["_law_script"] (defScope sBegin) := ⟨rfl, rfl, rfl, by decide +kernel, rfl, by decide +kernel, by decide +kernel⟩
theorem same_upd {H : Hp} {p : Addr} {o : HO} (h : H p = none) : Same H (upd H p o) := fun b x e => by
  rw [upd_ne (ne_of_none e h)]
  exact e
theorem cut_front (xs : List V) (m : Nat) : cutV xs none (some (m : Int)) = xs.take m := by
  unfold cutV
  rw [HT.sIx_none, HT.sIx_nat]
  show List.take (min m xs.length - 0) (xs.drop 0) = xs.take m
  rw [Nat.sub_zero, List.drop_zero]
  by_cases h : m ≤ xs.length
  · rw [Nat.min_eq_left h]
  · rw [Nat.min_eq_right (by omega), List.take_length, List.take_of_length_le (by omega)]
theorem dp_ints {K : PySem.W.Frag} {H : Hp} : ∀ ns : List Int, DpAll K H (ns.map V.int) (ns.map PyData.int)
  | [] => .nil
  | n :: r => .cons (.int n) (dp_ints r)
theorem lay_ints : ∀ ns : List Int, PyData.canLayAll0 (ns.map PyData.int) = true
  | [] => by simp only [List.map_nil, PyData.canLayAll0]
  | n :: r => by
    rw [List.map_cons, PyData.canLayAll0, lay_ints r]
    simp [PyData.canLay0]
theorem depth_ints : ∀ ns : List Int, PyData.depthAll (ns.map PyData.int) = 0
  | [] => by simp only [List.map_nil, PyData.depthAll]
  | n :: r => by
    rw [List.map_cons, PyData.depthAll, depth_ints r]
    simp [PyData.depth]
theorem shaped_ints (ns : List Int) : SeqAt.shaped (PyData.list (ns.map PyData.int)) = true := by
  unfold SeqAt.shaped
  rw [PyData.canLay0, lay_ints, PyData.depth, depth_ints]
  rfl
theorem eqv_nil (n : Int) (r : List Int) : PyData.eqv (PyData.list ((n :: r).map PyData.int)) (PyData.list []) = false := by
  simp [PyData.eqv, PyData.eqvAll]
theorem eqv_nil0 : PyData.eqv (PyData.list (([] : List Int).map PyData.int)) (PyData.list []) = true := by
  simp [PyData.eqv, PyData.eqvAll]
def spBegin (K : PySem.W.Frag) : Sp := fun vs H Q _ => ∃ (a : Addr) (ns : List Int), vs = [.ref a] ∧ SqL K H a (ns.map V.int) ∧ ns.length ≤ 63 ∧
  ∀ d c H', Same H H' → H d = none → H c = none → StAt H' d c 0 → Q (.ref d) H'
section
variable {K : PySem.W.Frag} {mg : Str → Option Value} {P : Program} {w : World} {base : Heap}
theorem ok_begin {f : Addr} {fd : FuncData} {k : Nat} (F : Fun K "_law_begin" "_law_begin" sBegin f fd) (ml : mg "list" = none) : FnOk P w K mg base CX0 (k + 1) f fd ["_law_script"] (spBegin K) := by
  refine F.ok scBegin (fun vs H Q E h => ?_) (fun cdv A outer s H vs Q E hr h => ?_)
  · obtain ⟨a, ns, rfl, _⟩ := h
    rfl
  · obtain ⟨a, ns, rfl, hS, hlen, q⟩ := h
    refine ⟨_, pss_cons (ps_set (i := 1) scBegin.nd rfl (.inl rfl) (pe_callTy call_list_of (by rfl) ml (by decide +kernel) (pa_cons (pe_slice sl_list (pv 0) po_none (po_some pe_int)) pa_nil)))
      (pss_cons (ps_if (pt_cmpR (op_eqD hr.units) (pv 1) (pe_lst pa_nil) (nomark _)) (pss_one (ps_set (i := 1) scBegin.nd rfl (.inl rfl) (pe_lst (pa_cons pe_int pa_nil)))) pss_nil)
      (pss_one (ps_ret (pe_disp (pps_cons pe_str (pv 1) (pps_cons pe_str pe_int pps_nil)) (by rfl) (by rfl) (fun z => by cases z) (by decide))))), ?_⟩
    -- the end: a dict of what stands at the cells' place
    have fin : ∀ (H1 : Hp) (c : Addr) (cs : List Int) (y : Option V), Same H H1 → H c = none → H1 c = some (.lst (cs.map V.int)) → cs ≠ [] → cs.length ≤ 63 →
        (tRet (tDisp [(tC (.str "cells"), tVar 1), (tC (.str "turn"), tC (.int 0))])) { nx := fun _ H' => Q .non H', rt := Q } [some (.ref a), some (.ref c)] H1 := by
      intro H1 c cs y s1 nc ec hne hl
      refine fun d nd => ⟨_, rfl, upd_same, [(.inr "cells", .ref c), (.inr "turn", .int 0)], rfl, (by show 2 ≤ 15; decide), ?_⟩
      have ndc : c ≠ d := ne_of_none ec nd
      refine q d c _ (fun b o e => ?_) (s1.free nd) nc ⟨?_, ⟨cs, ?_, hne, hl⟩, by decide⟩
      · have nb : b ≠ d := ne_of_none (s1 b o e) nd
        rw [upd_ne nb, upd_ne nb]
        exact s1 b o e
      · exact upd_same
      · rw [upd_ne ndc, upd_ne ndc]
        exact ec
    refine ⟨.ref a, rfl, 63, rfl, a, ns.map V.int, rfl, hS, fun p np => ?_⟩
    have s1 : Same H (upd H p (.lst (cutV (ns.map V.int) none (some 63)))) := same_upd np
    refine ⟨p, _, rfl, .inl (SqL.of upd_same), fun l nl => ?_⟩
    have s2 := s1.trans (same_upd (o := .lst (cutV (ns.map V.int) none (some 63))) nl)
    have ecut : cutV (ns.map V.int) none (some 63) = ns.map V.int := by
      have e := cut_front (ns.map V.int) 63
      have e2 : cutV (ns.map V.int) none (some 63) = (ns.map V.int).take 63 := e
      rw [e2, List.take_of_length_le (by rw [List.length_map]; exact hlen)]
    have el : upd (upd H p (.lst (cutV (ns.map V.int) none (some 63)))) l (.lst (cutV (ns.map V.int) none (some 63))) l = some (.lst (ns.map V.int)) := by
      rw [upd_same, ecut]
    revert s2 el
    generalize upd (upd H p (.lst (cutV (ns.map V.int) none (some 63)))) l (.lst (cutV (ns.map V.int) none (some 63))) = H2
    intro s2 el
    have nlH : H l = none := s1.free nl
    -- if cells == []
    refine ⟨.ref l, rfl, Nat.zero_le _, fun z nz => ?_⟩
    have s3 := s2.trans (same_upd (o := .lst []) nz)
    have nlz : l ≠ z := ne_of_none el nz
    have el3 : upd H2 z (.lst []) l = some (.lst (ns.map V.int)) := by rw [upd_ne nlz]; exact el
    refine ⟨.list (ns.map PyData.int), .list [], .lst (SqL.of el3) (dp_ints ns), .lst (SqL.of upd_same) .nil, shaped_ints ns, shaped_ints [], ?_⟩
    cases ns with
    | nil =>
      refine ⟨true, by rw [eqv_nil0], iteT ?_⟩
      refine ⟨(by show 1 ≤ sizeLine; decide), fun c nc => ?_⟩
      exact fin _ c [_] none (s3.trans (same_upd nc)) (s3.free nc) upd_same (by simp) (by decide)
    | cons n r =>
      refine ⟨false, by rw [eqv_nil], iteF ?_⟩
      exact fin _ l (n :: r) none s3 nlH el3 (by simp) hlen
end

/-- a def of the text that keeps a promise, as its callers see it -/
def Cal (P : Program) (w : World) (K : PySem.W.Frag) (mg : Str → Option Value) (base : Heap) (k : Nat) (x : Str) (ps : List Str) (sp : Sp) : Prop :=
  ∃ f fd, FnOk P w K mg base CX0 k f fd ps sp ∧ mg x = some (.ref f) ∧ PySem.W.keepIn K (.ref f) = true ∧ Binds K fd ps []
theorem pe_own {X : Cx} {k : Nat} {x : Str} {ps : List Str} {sp : Sp} {e : Expr} {es : List Expr} {t : TA} {p pos : Pos} (C : Cal X.prog X.w X.K X.mg X.base k x ps sp) (hr : Room k X.A) (hg : Gl X x) (ha : PA X (e :: es) t)
    (dbg : (x == ("__debug__" : Str)) = false := by decide) (one : starEach (e :: es) X.env = (false, eval e X.env) :: starEach es X.env := by rfl) (star : (backTo pos (starEach es X.env)).any (·.1) = false := by rfl) :
    PE X (.Call (.Name x p) (e :: es) [] pos) (tCall sp [] E0 t) := by
  obtain ⟨f, fd, F, hm, hk, hb⟩ := C
  exact pe_call F hr hg hm hk hb .nil pass0 ha dbg one star
theorem StAt.same {H H' : Hp} {d c : Addr} {t : Int} (h : StAt H d c t) (s : Same H H') : StAt H' d c t :=
  ⟨s _ _ h.dict, let ⟨cs, e, r⟩ := h.cells; ⟨cs, s _ _ e, r⟩, h.pos⟩
theorem Kp.same {H H' : Hp} (d c : Addr) (s : Same H H') : Kp d c H H' := fun b o _ _ e => s b o e
/-- what is made behind the state stays -/
theorem Kp.at {H H' : Hp} {d c a : Addr} {t : Int} {o : HO} (k : Kp d c H H') (S : StAt H d c t) (e : H a = some o) (h1 : ∀ kvs, o ≠ .dK kvs) (h2 : ∀ ns : List Int, o ≠ .lst (ns.map V.int)) : H' a = some o := by
  obtain ⟨cs, ec, _⟩ := S.cells
  refine k a o (fun z => ?_) (fun z => ?_) e
  · rw [z, S.dict] at e
    exact h1 _ (Option.some.inj e).symm
  · rw [z, ec] at e
    exact h2 _ (Option.some.inj e).symm
theorem StAt.upd {H : Hp} {d c l : Addr} {t : Int} {o : HO} (S : StAt H d c t) (h1 : l ≠ d) (h2 : l ≠ c) : StAt (L2.upd H l o) d c t := by
  refine ⟨by rw [upd_ne h1.symm]; exact S.dict, ?_, S.pos⟩
  obtain ⟨cs, ec, r⟩ := S.cells
  exact ⟨cs, by rw [upd_ne h2.symm]; exact ec, r⟩

abbrev sNumber : Stmt := topS 13
theorem scNumber : FnScope ["_law_state", "_law_kind", "_law_found", "_law_turn"] ["_law_state", "_law_kind"] (defScope sNumber) := ⟨rfl, rfl, rfl, by decide +kernel, rfl, by decide +kernel, by decide +kernel⟩
def spNumber : Sp := fun vs H Q _ => ∃ (d c : Addr) (t kd : Int), vs = [.ref d, .int kd] ∧ StAt H d c t ∧ t + 5 < 2 ^ 60 ∧ 0 ≤ kd ∧
  ∀ r t' H', 0 ≤ r → r < 10 ^ 30 → t ≤ t' → t' ≤ t + 5 → StAt H' d c t' → Kp d c H H' → Q (.int r) H'
section
variable {K : PySem.W.Frag} {mg : Str → Option Value} {P : Program} {w : World} {base : Heap}
theorem ok_number {f : Addr} {fd : FuncData} (F : Fun K "_law_number" "_law_number" sNumber f fd) (CT : Cal P w K mg base 1 "_law_take" ["_law_state", "_law_many"] spTake) (mr : mg "range" = none) :
    FnOk P w K mg base CX0 2 f fd ["_law_state", "_law_kind"] spNumber := by
  refine F.ok scNumber (fun vs H Q E h => ?_) (fun cdv A outer s H vs Q E hr h => ?_)
  · obtain ⟨d, c, t, kd, rfl, _⟩ := h
    rfl
  · obtain ⟨d, c, t, kd, rfl, hS, ht, hk, q⟩ := h
    refine ⟨_, pss_cons (ps_if (pt_cmpR op_lt (pv 1) pe_int (nomark _)) (pss_one (ps_ret (pe_own CT hr (by rfl) (pa_cons (pv 0) (pa_cons (pe_ix ix_list (pe_lst (pa_cons pe_int (pa_cons pe_int pa_nil))) (pv 1) (fun _ _ => rfl)) pa_nil))))) pss_nil)
      (pss_cons (ps_set (i := 2) scNumber.nd rfl (.inl rfl) pe_int)
      (pss_cons (ps_for PassesOwn.never rfl (pi_range1 rfl mr (pa_cons pe_int pa_nil)) (pg_name (i := 3) scNumber.nd rfl (.inl rfl))
        (pss_one (ps_set (i := 2) scNumber.nd rfl (.inl rfl) (pe_op op_add (pe_op op_mul (pv 2) (pe_op op_pow pe_int pe_int)) (pe_own CT hr (by rfl) (pa_cons (pv 0) (pa_cons (pe_op op_pow pe_int pe_int) pa_nil)))))))
      (pss_one (ps_ret (pv 2))))), ?_⟩
    refine ⟨_, rfl, _, _, rfl, rfl, _, rfl, ite2 (fun e => ?_) (fun e => ?_)⟩
    · have e' := of_decide_eq_true e
      refine ⟨_, rfl, (by show 2 ≤ sizeLine; decide), fun p np => ?_⟩
      have s1 : Same H (upd H p (.lst [.int 4, .int 1000001])) := same_upd np
      obtain ⟨m, hm0, hm1, hat⟩ : ∃ m : Int, 0 < m ∧ m ≤ 1000001 ∧ atI [V.int 4, V.int 1000001] kd = some (.int m) := by
        have : kd = 0 ∨ kd = 1 := by omega
        rcases this with rfl | rfl
        · exact ⟨4, by decide, by decide, rfl⟩
        · exact ⟨1000001, by decide, by decide, rfl⟩
      refine ⟨_, rfl, p, _, kd, .int m, rfl, rfl, SqL.of upd_same, hat, d, c, t, m, rfl, hS.same s1, by omega, hm0, by omega, fun r H' h0 h1 hS' k' => ?_⟩
      exact q r (t + 1) H' h0 (by omega) (by omega) (by omega) hS' ((Kp.same d c s1).trans k')
    · refine ⟨5, rfl, by decide, by decide, for_range (n := 5) (fun i σ H1 => ∃ (x t' : Int) (y : Option V), σ = [some (.ref d), some (.int kd), some (.int x), y] ∧ 0 ≤ x ∧ x < 10 ^ (6 * i) ∧ t ≤ t' ∧ t' ≤ t + i ∧ StAt H1 d c t' ∧ Kp d c H H1) ⟨0, t, none, rfl, by decide, by decide, by omega, by omega, hS, Kp.refl d c H⟩ (fun i σ H1 hi hP => ?_) (fun σ H1 hP => ?_)⟩
      · obtain ⟨x, t', y, rfl, x0, x1, h0, h1, hS1, k1⟩ := hP
        have x2 : x < 10 ^ 30 := by
          have : i = 0 ∨ i = 1 ∨ i = 2 ∨ i = 3 ∨ i = 4 := by omega
          rcases this with rfl | rfl | rfl | rfl | rfl <;> omega
        refine ⟨_, rfl, 10, 6, rfl, rfl, ⟨by decide, by decide, by decide⟩, x, 10 ^ 6, rfl, rfl, .inr ⟨by decide, by decide⟩, _, rfl, 10, 6, rfl, rfl, ⟨by decide, by decide, by decide⟩, d, c, t', 10 ^ 6, rfl, hS1, by omega, by decide, by decide, fun r H2 r0 r1 hS2 k2 => ?_⟩
        refine ⟨x * 10 ^ 6, r, rfl, rfl, x * 10 ^ 6 + r, t' + 1, _, rfl, by omega, ?_, by omega, by omega, hS2, k1.trans k2⟩
        have : i = 0 ∨ i = 1 ∨ i = 2 ∨ i = 3 ∨ i = 4 := by omega
        rcases this with rfl | rfl | rfl | rfl | rfl <;> omega
      · obtain ⟨x, t', y, rfl, x0, x1, h0, h1, hS1, k1⟩ := hP
        exact ⟨_, rfl, q x t' H1 x0 (by omega) h0 (by omega) hS1 k1⟩
end

theorem _root_.GP.Prs.same {H H' : Hp} {vs : List V} {ps : List (Int × Int)} (h : Prs H vs ps) (s : Same H H') : Prs H' vs ps :=
  ⟨h.1, fun i p e => let ⟨a, e1, e2⟩ := h.2 i p e; ⟨a, e1, s _ _ e2⟩⟩
theorem _root_.GP.Prs.kp {H H' : Hp} {d c : Addr} {t : Int} {vs : List V} {ps : List (Int × Int)} (h : Prs H vs ps) (S : StAt H d c t) (k : Kp d c H H') : Prs H' vs ps :=
  ⟨h.1, fun i p e => let ⟨a, e1, e2⟩ := h.2 i p e; ⟨a, e1, k.at S e2 (fun _ z => nomatch z) (fun _ z => nomatch z)⟩⟩
theorem _root_.GP.Prs.upd_lst {H : Hp} {l : Addr} {xs : List V} {o : HO} {vs : List V} {ps : List (Int × Int)} (h : Prs H vs ps) (hl : H l = some (.lst xs)) : Prs (upd H l o) vs ps :=
  ⟨h.1, fun i p e => let ⟨a, e1, e2⟩ := h.2 i p e; ⟨a, e1, by rw [upd_ne (ne_of e2 hl (fun z => nomatch z))]; exact e2⟩⟩
theorem _root_.GP.Prs.nil {H : Hp} : Prs H [] [] := ⟨rfl, fun i p e => by simp at e⟩
theorem _root_.GP.Prs.snoc {H : Hp} {a : Addr} {x y : Int} {vs : List V} {ps : List (Int × Int)} (h : Prs H vs ps) (e : H a = some (.tup [.int x, .int y])) : Prs H (vs ++ [.ref a]) (ps ++ [(x, y)]) := by
  refine ⟨by simp [h.1], fun i p ep => ?_⟩
  by_cases hi : i < ps.length
  · rw [List.getElem?_append_left hi] at ep
    obtain ⟨b, e1, e2⟩ := h.2 i p ep
    exact ⟨b, by rw [List.getElem?_append_left (by rw [h.1]; exact hi)]; exact e1, e2⟩
  · rw [List.getElem?_append_right (by omega)] at ep
    have hz : i - ps.length = 0 := by
      cases hq : i - ps.length with
      | zero => rfl
      | succ n => rw [hq] at ep; simp at ep
    rw [hz] at ep
    have ep' : (x, y) = p := by simpa using ep
    subst ep'
    refine ⟨a, ?_, e⟩
    rw [List.getElem?_append_right (by rw [h.1]; omega), h.1, hz]
    rfl
/-- rising stretches with gaps, from lo on -/
def Ris : Int → List (Int × Int) → Prop
  | _, [] => True
  | lo, p :: r => lo ≤ p.1 ∧ p.1 ≤ p.2 ∧ Ris (p.2 + 2) r
theorem Ris.snoc : ∀ {lo : Int} {ps : List (Int × Int)} {a b : Int}, Ris lo ps → lo ≤ a → (∀ p ∈ ps, p.2 + 2 ≤ a) → a ≤ b → Ris lo (ps ++ [(a, b)])
  | lo, [], a, b, _, h1, _, h3 => ⟨h1, h3, True.intro⟩
  | lo, p :: r, a, b, h, h1, h2, h3 => ⟨h.1, h.2.1, Ris.snoc h.2.2 (h2 p (List.mem_cons_self ..)) (fun q hq => h2 q (List.mem_cons_of_mem _ hq)) h3⟩
theorem pick2 {x y r : Int} (Pv : Int → Prop) (h0 : 0 ≤ r) (h1 : r < 2) (hx : Pv x) (hy : Pv y) : ∃ v, Pv v ∧ atI [V.int x, V.int y] r = some (.int v) := by
  have : r = 0 ∨ r = 1 := by omega
  rcases this with rfl | rfl
  · exact ⟨x, hx, rfl⟩
  · exact ⟨y, hy, rfl⟩
theorem pick3 {x y z r : Int} (Pv : Int → Prop) (h0 : 0 ≤ r) (h1 : r < 3) (hx : Pv x) (hy : Pv y) (hz : Pv z) : ∃ v, Pv v ∧ atI [V.int x, V.int y, V.int z] r = some (.int v) := by
  have : r = 0 ∨ r = 1 ∨ r = 2 := by omega
  rcases this with rfl | rfl | rfl
  · exact ⟨x, hx, rfl⟩
  · exact ⟨y, hy, rfl⟩
  · exact ⟨z, hz, rfl⟩
/-- a new object stands through the state's change -/
theorem Kp.new {H H' : Hp} {d c l : Addr} {t : Int} {o : HO} (k : Kp d c (upd H l o) H') (S : StAt H d c t) (n : H l = none) : H' l = some o := by
  obtain ⟨cs, ec, _⟩ := S.cells
  exact k l o (ne_of_none S.dict n).symm (ne_of_none ec n).symm upd_same
theorem drop_at {α : Type} {l : List α} {i : Nat} {x : α} (h : l[i]? = some x) : l.drop i = x :: l.drop (i + 1) := by
  obtain ⟨lt, e⟩ := List.getElem?_eq_some_iff.mp h
  rw [← e]
  exact List.drop_eq_getElem_cons lt
theorem prs_at {H : Hp} {vs : List V} {ps : List (Int × Int)} {i : Nat} {x : V} (h : Prs H vs ps) (e : vs[i]? = some x) : ∃ (p : Int × Int) (a : Addr), ps[i]? = some p ∧ x = .ref a ∧ H a = some (.tup [.int p.1, .int p.2]) := by
  obtain ⟨hi, _⟩ := List.getElem?_eq_some_iff.mp e
  have hi2 : i < ps.length := by rw [← h.1]; exact hi
  obtain ⟨a, e1, e2⟩ := h.2 i ps[i] (List.getElem?_eq_getElem hi2)
  rw [e] at e1
  exact ⟨ps[i], a, List.getElem?_eq_getElem hi2, Option.some.inj e1, e2⟩

theorem sumP_append (g : Int → Int → Int) (ps qs : List (Int × Int)) : sumP g (ps ++ qs) = sumP g ps + sumP g qs := by
  unfold sumP
  rw [List.map_append, List.sum_append]
def inB (n a b : Int) : Bool := decide (a ≤ n) && decide (n ≤ b)
theorem Ris.le : ∀ {lo : Int} {ps : List (Int × Int)}, Ris lo ps → ∀ p ∈ ps, lo ≤ p.1 ∧ p.1 ≤ p.2
  | _, [], _, _, hp => nomatch hp
  | lo, q :: r, h, p, hp => by
    rcases List.mem_cons.mp hp with e | e'
    · rw [e]; exact ⟨h.1, h.2.1⟩
    · have := Ris.le h.2.2 p e'
      have := h.2.1
      have := h.1
      omega

abbrev sSet : Stmt := topS 14
theorem scSet : FnScope ["_law_state", "_law_kind", "_law_found", "_law_here", "_law_k", "_law_last"] ["_law_state"] (defScope sSet) := ⟨rfl, rfl, rfl, by decide +kernel, rfl, by decide +kernel, by decide +kernel⟩
def spSet : Sp := fun vs H Q _ => ∃ (d c : Addr) (t : Int), vs = [.ref d] ∧ StAt H d c t ∧ t + 500 < 2 ^ 60 ∧
  ∀ (l : Addr) (us : List V) (ps : List (Int × Int)) (t' : Int) H', H l = none → H' l = some (.lst us) → Prs H' us ps → Ris 0 ps → ps.length ≤ 24 → t ≤ t' → t' ≤ t + 500 → StAt H' d c t' → Kp d c H H' → Q (.ref l) H'
section
variable {K : PySem.W.Frag} {mg : Str → Option Value} {P : Program} {w : World} {base : Heap}
theorem ok_set {f : Addr} {fd : FuncData} (F : Fun K "_law_set" "_law_set" sSet f fd) (CT : Cal P w K mg base 1 "_law_take" ["_law_state", "_law_many"] spTake) (CN : Cal P w K mg base 2 "_law_number" ["_law_state", "_law_kind"] spNumber) (mr : mg "range" = none) :
    FnOk P w K mg base CX0 3 f fd ["_law_state"] spSet := by
  refine F.ok scSet (fun vs H Q E h => ?_) (fun cdv A outer s H vs Q E hr h => ?_)
  · obtain ⟨d, c, t, rfl, _⟩ := h
    rfl
  · obtain ⟨d, c, t, rfl, hS, ht, q⟩ := h
    have hr1 := hr.mono (show 1 ≤ 2 by decide)
    refine ⟨_, pss_cons (ps_par3 rfl scSet.nd (i := 1) (j := 2) (l := 3) rfl rfl rfl (by decide) (by decide) (by decide) rfl rfl rfl
        (pa_cons (pe_own CT hr1 (by rfl) (pa_cons (pv 0) (pa_cons pe_int pa_nil))) (pa_cons (pe_lst pa_nil) (pa_cons (pe_ix ix_list (pe_lst (pa_cons pe_int (pa_cons (pe_own CT hr1 (by rfl) (pa_cons (pv 0) (pa_cons pe_int pa_nil))) pa_nil))) (pe_own CT hr1 (by rfl) (pa_cons (pv 0) (pa_cons pe_int pa_nil))) (fun _ _ => rfl)) pa_nil))) (by rfl))
      (pss_cons (ps_for PassesOwn.never rfl (pi_range1 rfl mr (pa_cons (pe_ix ix_list (pe_lst (pa_cons pe_int (pa_cons (pe_own CT hr1 (by rfl) (pa_cons (pv 0) (pa_cons pe_int pa_nil))) (pa_cons (pe_own CT hr1 (by rfl) (pa_cons (pv 0) (pa_cons pe_int pa_nil))) pa_nil)))) (pe_own CT hr1 (by rfl) (pa_cons (pv 0) (pa_cons pe_int pa_nil))) (fun _ _ => rfl)) pa_nil)) (pg_name (i := 4) scSet.nd rfl (.inl rfl))
        (pss_cons (ps_set (i := 5) scSet.nd rfl (.inl rfl) (pe_op op_add (pv 3) (pe_ix ix_list (pe_lst (pa_cons pe_int (pa_cons (pe_own CT hr1 (by rfl) (pa_cons (pv 0) (pa_cons pe_int pa_nil))) (pa_cons (pe_own CN hr (by rfl) (pa_cons (pv 0) (pa_cons (pv 1) pa_nil))) pa_nil)))) (pe_own CT hr1 (by rfl) (pa_cons (pv 0) (pa_cons pe_int pa_nil))) (fun _ _ => rfl))))
        (pss_cons (ps_expr (pe_bm PySem.F.plainAttrs_list PySem.F.slot_list_append PySem.F.type_list_append mt_append (pv 2) (pa_cons (pe_tup (pa_cons (pv 3) (pa_cons (pv 5) pa_nil))) pa_nil)))
        (pss_one (ps_set (i := 3) scSet.nd rfl (.inl rfl) (pe_op op_add (pe_op op_add (pv 5) pe_int) (pe_ix ix_list (pe_lst (pa_cons pe_int (pa_cons (pe_own CT hr1 (by rfl) (pa_cons (pv 0) (pa_cons pe_int pa_nil))) (pa_cons (pe_own CN hr (by rfl) (pa_cons (pv 0) (pa_cons (pv 1) pa_nil))) pa_nil)))) (pe_own CT hr1 (by rfl) (pa_cons (pv 0) (pa_cons pe_int pa_nil))) (fun _ _ => rfl))))))))
      (pss_one (ps_ret (pv 2)))), ?_⟩
    -- kind, found, here
    refine ⟨.ref d, rfl, d, c, t, 3, rfl, hS, by omega, by decide, by decide, fun kd H1 k0 k1 hS1 p1 => ?_⟩
    refine ⟨Nat.zero_le _, fun l nl => ?_⟩
    have sl := same_upd (o := .lst []) nl
    refine ⟨.ref d, rfl, d, c, t + 1, 9, rfl, hS1.same sl, by omega, by decide, by decide, fun r1 H2 r10 r11 hS2 p2 => ?_⟩
    have el2 : H2 l = some (.lst []) := p2.new hS1 nl
    refine ⟨(by show 2 ≤ sizeLine; decide), fun z1 nz1 => ?_⟩
    have sz1 := same_upd (o := .lst [.int 0, .int r1]) nz1
    refine ⟨.ref d, rfl, d, c, _, 2, rfl, hS2.same sz1, by omega, by decide, by decide, fun r2 H3 r20 r21 hS3 p3 => ?_⟩
    obtain ⟨he, he0, hat⟩ := pick2 (x := 0) (y := r1) (fun v => 0 ≤ v) r20 r21 (by decide) r10
    refine ⟨z1, _, r2, .int he, rfl, rfl, SqL.of (p3.new hS2 nz1), hat, _, _, _, rfl, ?_⟩
    have nlH : H l = none := by
      cases e : H l with
      | none => rfl
      | some o =>
        obtain ⟨cs, ec, _⟩ := hS.cells
        obtain ⟨cs1, ec1, _⟩ := hS1.cells
        have := p1 l o (ne_of_none hS1.dict nl).symm (ne_of_none ec1 nl).symm e
        rw [nl] at this
        cases this
    have nld : l ≠ d := (ne_of_none hS.dict nlH).symm
    have nlc : l ≠ c := by
      obtain ⟨cs, ec, _⟩ := hS.cells
      exact (ne_of_none ec nlH).symm
    have el3 : H3 l = some (.lst []) := p3 l _ nld nlc (sz1 _ _ el2)
    have P3 : Kp d c H H3 := ((p1.trans (Kp.same d c sl)).trans p2).trans ((Kp.same d c sz1).trans p3)
    -- the range
    refine ⟨.ref d, rfl, d, c, _, 25, rfl, hS3, by omega, by decide, by decide, fun r3 H4 r30 r31 hS4 p4 => ?_⟩
    refine ⟨.ref d, rfl, d, c, _, 4, rfl, hS4, by omega, by decide, by decide, fun r4 H5 r40 r41 hS5 p5 => ?_⟩
    refine ⟨(by show 3 ≤ sizeLine; decide), fun z2 nz2 => ?_⟩
    have sz2 := same_upd (o := .lst [.int 24, .int r3, .int r4]) nz2
    refine ⟨.ref d, rfl, d, c, _, 3, rfl, hS5.same sz2, by omega, by decide, by decide, fun r5 H6 r50 r51 hS6 p6 => ?_⟩
    obtain ⟨n, ⟨n0, n1⟩, hat2⟩ := pick3 (x := 24) (y := r3) (z := r4) (fun v => 0 ≤ v ∧ v ≤ 24) r50 r51 (by decide) (by omega) (by omega)
    have el6 : H6 l = some (.lst []) := p6 l _ nld nlc (sz2 _ _ (p5 l _ nld nlc (p4 l _ nld nlc el3)))
    have P6 : Kp d c H H6 := P3.trans ((p4.trans p5).trans ((Kp.same d c sz2).trans p6))
    refine ⟨z2, _, r5, .int n, rfl, rfl, SqL.of (p6.new hS5 nz2), hat2, n, rfl, by omega, by omega, for_range (n := n.toNat) (fun i σ Hx => ∃ (x : Int) (us : List V) (ps : List (Int × Int)) (t' : Int) (y4 y5 : Option V), σ = [some (.ref d), some (.int kd), some (.ref l), some (.int x), y4, y5] ∧
        0 ≤ x ∧ (∀ p ∈ ps, p.2 + 2 ≤ x) ∧ Hx l = some (.lst us) ∧ Prs Hx us ps ∧ Ris 0 ps ∧ ps.length = i ∧ t ≤ t' ∧ t' ≤ t + 10 + 14 * i ∧ StAt Hx d c t' ∧ Kp d c H Hx)
      ⟨he, [], [], _, none, none, rfl, he0, (fun _ h => nomatch h), el6, Prs.nil, True.intro, rfl, by omega, by omega, hS6, P6⟩ (fun i σ Hx hi hP => ?_) (fun σ Hx hP => ?_)⟩
    · obtain ⟨x, us, ps, t', y4, y5, rfl, x0, hx, el, hps, hris, hlen, ht1, ht2, hSx, px⟩ := hP
      refine ⟨_, rfl, .ref d, rfl, d, c, t', 4, rfl, hSx, by omega, by decide, by decide, fun a1 H7 a10 a11 hS7 p7 => ?_⟩
      refine ⟨.ref d, rfl, _, rfl, d, c, _, kd, rfl, hS7, by omega, k0, fun a2 t8 H8 a20 a21 t80 t81 hS8 p8 => ?_⟩
      refine ⟨(by show 3 ≤ sizeLine; decide), fun z3 nz3 => ?_⟩
      have sz3 := same_upd (o := .lst [.int 0, .int a1, .int a2]) nz3
      refine ⟨.ref d, rfl, d, c, _, 3, rfl, hS8.same sz3, by omega, by decide, by decide, fun r6 H9 r60 r61 hS9 p9 => ?_⟩
      obtain ⟨v, v0, hat3⟩ := pick3 (x := 0) (y := a1) (z := a2) (fun v => 0 ≤ v) r60 r61 (by decide) a10 a20
      refine ⟨z3, _, r6, .int v, rfl, rfl, SqL.of (p9.new hS8 nz3), hat3, x, v, rfl, rfl, ?_⟩
      have P9 : Kp d c Hx H9 := (p7.trans p8).trans ((Kp.same d c sz3).trans p9)
      have el9 : H9 l = some (.lst us) := P9 l _ nld nlc el
      have hps9 : Prs H9 us ps := hps.kp hSx P9
      -- found.append((here, last))
      refine ⟨.ref l, rfl, .inl ⟨rfl, _, SqL.of el9⟩, _, rfl, _, rfl, (by show 2 ≤ sizeLine; decide), fun T nT => ?_⟩
      have sT := same_upd (o := .tup [.int x, .int (x + v)]) nT
      have elT := sT _ _ el9
      refine ⟨l, _, _, rfl, rfl, elT, small1000 (by rw [hps.1]; omega), ?_⟩
      have psA : Prs (upd (upd H9 T (.tup [.int x, .int (x + v)])) l (.lst (us ++ [.ref T]))) (us ++ [.ref T]) (ps ++ [(x, x + v)]) := ((hps9.same sT).snoc upd_same).upd_lst elT
      have elA : upd (upd H9 T (.tup [.int x, .int (x + v)])) l (.lst (us ++ [.ref T])) l = some (.lst (us ++ [.ref T])) := upd_same
      have PA : Kp d c H (upd (upd H9 T (.tup [.int x, .int (x + v)])) l (.lst (us ++ [.ref T]))) := fun b o b1 b2 e => by
        rw [upd_ne (ne_of_none e nlH)]
        exact sT b o (P9 b o b1 b2 (px b o b1 b2 e))
      have hSA := (hS9.same sT).upd (o := .lst (us ++ [.ref T])) nld nlc
      revert psA elA PA hSA
      generalize upd (upd H9 T (.tup [.int x, .int (x + v)])) l (.lst (us ++ [.ref T])) = HA
      intro psA elA PA hSA
      -- here = last + 2 + ..
      refine ⟨_, rfl, x + v, 2, rfl, rfl, .ref d, rfl, d, c, _, 3, rfl, hSA, by omega, by decide, by decide, fun b1 H10 b10 b11 hS10 p10 => ?_⟩
      refine ⟨.ref d, rfl, _, rfl, d, c, _, kd, rfl, hS10, by omega, k0, fun b2 t11 H11 b20 b21 t110 t111 hS11 p11 => ?_⟩
      refine ⟨(by show 3 ≤ sizeLine; decide), fun z4 nz4 => ?_⟩
      have sz4 := same_upd (o := .lst [.int 0, .int b1, .int b2]) nz4
      refine ⟨.ref d, rfl, d, c, _, 3, rfl, hS11.same sz4, by omega, by decide, by decide, fun r7 H12 r70 r71 hS12 p12 => ?_⟩
      obtain ⟨u, u0, hat4⟩ := pick3 (x := 0) (y := b1) (z := b2) (fun v => 0 ≤ v) r70 r71 (by decide) b10 b20
      have P12 : Kp d c HA H12 := (p10.trans p11).trans ((Kp.same d c sz4).trans p12)
      refine ⟨z4, _, r7, .int u, rfl, rfl, SqL.of (p12.new hS11 nz4), hat4, x + v + 2, u, rfl, rfl, x + v + 2 + u, us ++ [.ref T], ps ++ [(x, x + v)], _, _, _, rfl, by omega, ?_, P12 l _ nld nlc elA, psA.kp hSA P12, hris.snoc (by omega) (fun p hp => hx p hp) (by omega), by rw [List.length_append, hlen]; rfl, by omega, ?_, hS12, PA.trans P12⟩
      · intro p hp
        rcases List.mem_append.mp hp with old | new
        · have := hx p old
          omega
        · rw [List.mem_singleton.mp new]
          show x + v + 2 ≤ x + v + 2 + u
          omega
      · have ei : ((i + 1 : Nat) : Int) = (i : Int) + 1 := by omega
        rw [ei]
        omega
    · obtain ⟨x, us, ps, t', y4, y5, rfl, x0, hx, el, hps, hris, hlen, ht1, ht2, hSx, px⟩ := hP
      exact ⟨_, rfl, q l us ps t' Hx nlH el hps hris (by omega) ht1 (by omega) hSx px⟩
end

/-! ### walks over a list or a tuple -/
def Sq (K : PySem.W.Frag) (H : Hp) (a : Addr) (xs : List V) : Prop := SqL K H a xs ∨ SqT K H a xs
def iSeq (K : PySem.W.Frag) (tl : TE) : TI := fun σ H R => tl σ H fun x H1 => ∃ a, x = .ref a ∧ (((∃ xs, SqL K H1 a xs) ∧ R (Itl K a) H1) ∨ ((∃ xs, SqT K H1 a xs) ∧ R (Itt K a) H1))
/-- the iterator that was just laid is no one's -/
theorem lone {X : Cx} {pins : List (Addr × Obj)} {σ : L2.St} {H : Hp} {s : Shared} (I : Inv X pins σ H s) : ∀ b ∈ [s.heap.objs.size], FpOk X pins H b := fun b hb => by
  rw [List.mem_singleton.mp hb]
  exact I.fpOk (H' := H) (Nat.le_refl _) (I.hok.fresh (Nat.le_refl _))
theorem pi_seq {X : Cx} {tg l : Expr} {tl : TE} (walked : PE X l tl) : PI X tg l (iSeq X.K tl) := by
  constructor
  intro pins s σ H R I h
  refine thn (walked.run pins s σ H _ I h) fun u s1 had => ?_
  obtain ⟨_, H1, J, rel, a, rfl, had⟩ := had
  cases rel
  have laid : ∀ o, Inv X pins σ H1 { s1 with heap := s1.heap.push o } := fun o => J.kept (t' := s1.toks) fun _ _ e => Heap.get?_push_of_some _ e
  rcases had with ⟨⟨xs, hq⟩, q⟩ | ⟨⟨xs, hq⟩, q⟩
  · obtain ⟨its, _, isL, _⟩ := J.list hq
    exact wpAny_pyIter_list isL.isList ⟨_, _, _, _, H1, rfl, laid _, turn_list a _, ⟨_, Heap.get?_push_size _ rfl, rfl, rfl⟩, lone J, q⟩
  · obtain ⟨its, _, isT, _⟩ := J.tuple hq
    exact wpAny_pyIter_tuple (items := its.toArray) isT ⟨_, _, _, _, H1, rfl, laid _, turn_tuple a _, ⟨_, Heap.get?_push_size _ rfl, rfl, rfl⟩, lone J, q⟩
/-- the walked thing stands as it stood -/
def SqTo (K : PySem.W.Frag) (H H' : Hp) (a : Addr) (xs : List V) : Prop := (SqL K H a xs → SqL K H' a xs) ∧ (SqT K H a xs → SqT K H' a xs)
theorem SqTo.refl {K : PySem.W.Frag} {H : Hp} {a : Addr} {xs : List V} : SqTo K H H a xs := ⟨fun h => h, fun h => h⟩
theorem same_t {K : PySem.W.Frag} {H H' : Hp} {a : Addr} {xs : List V} (s : Same H H') (h : SqT K H a xs) : SqT K H' a xs :=
  h.elim (fun r => .inl (r.elim (fun e => .inl (s a _ e)) fun ⟨o, e⟩ => .inr ⟨o, s a _ e⟩)) .inr
theorem SqTo.same {K : PySem.W.Frag} {H H' : Hp} {a : Addr} {xs : List V} (s : Same H H') : SqTo K H H' a xs := ⟨s.seq, same_t s⟩
theorem Sq.same {K : PySem.W.Frag} {H H' : Hp} {a : Addr} {xs : List V} (h : Sq K H a xs) (s : Same H H') : Sq K H' a xs := h.elim (fun h => .inl (s.seq h)) fun h => .inr (same_t s h)
theorem Sq.list {K : PySem.W.Frag} {H : Hp} {a : Addr} {xs : List V} (h : H a = some (.lst xs)) : Sq K H a xs := .inl (SqL.of h)
theorem Sq.tup {K : PySem.W.Frag} {H : Hp} {a : Addr} {xs : List V} (h : H a = some (.tup xs)) : Sq K H a xs := .inr (.inl (.inl h))
abbrev ForR (J : It) (g : TG) (tb : TS) (D : Ends) (σ : L2.St) (H1 : Hp) : Prop := ∃ W : Nat → Nat → L2.St → Hp → Prop, (∃ m, W 0 m σ H1) ∧ ∀ i m σ H, W i m σ H →
  (J.stop i H ∧ D.nx σ H) ∨ (J.go i H ∧ ∃ N : L2.St → Hp → Prop, (∀ σ' H', N σ' H' → ∃ m', m' < m ∧ W (i + 1) m' σ' H') ∧ ∀ x H', J.yld i H x H' → g x σ H' fun σ2 H2 => tb { D with nx := N, ct := N, bk := D.nx } σ2 H2)
theorem for_seq {K : PySem.W.Frag} {a : Addr} {xs : List V} {g : TG} {tb : TS} {D : Ends} {σ : L2.St} {H1 : Hp} (hq : Sq K H1 a xs) (Pv : Nat → L2.St → Hp → Prop) (h0 : Pv 0 σ H1)
    (hl : ∀ i σ H', i ≤ xs.length → Pv i σ H' → SqTo K H1 H' a xs)
    (turn : ∀ i x σ H, xs[i]? = some x → Pv i σ H → g x σ H fun σ2 H2 => tb { D with nx := Pv (i + 1), ct := Pv (i + 1), bk := D.nx } σ2 H2) (fin : ∀ σ H, Pv xs.length σ H → D.nx σ H) :
    ((∃ xs, SqL K H1 a xs) ∧ ForR (Itl K a) g tb D σ H1) ∨ ((∃ xs, SqT K H1 a xs) ∧ ForR (Itt K a) g tb D σ H1) := by
  rcases hq with h | h
  · exact .inl ⟨⟨xs, h⟩, for_list (xs := xs) Pv h0 (fun i σ H' hi p => (hl i σ H' hi p).1 h) turn fin⟩
  · exact .inr ⟨⟨xs, h⟩, for_tup (xs := xs) Pv h0 (fun i σ H' hi p => (hl i σ H' hi p).2 h) turn fin⟩

/-! ### the table of the def that holds the generator expression -/
theorem tab_at {Pt : Addr} {H H2 : Hp} {b : Addr} {o : HO} (g : GxR.TabG H Pt) (t : GxR.Tabbed Pt H H2) (e : H b = some o) (h : ∀ q, o ≠ .tbl q) : H2 b = some o := by
  obtain ⟨ps, hP, _⟩ := g
  rw [t.2 b (ne_of e hP (h ps))]
  exact e
theorem StAt.tab {Pt : Addr} {H H2 : Hp} {d c : Addr} {t : Int} (S : StAt H d c t) (g : GxR.TabG H Pt) (x : GxR.Tabbed Pt H H2) : StAt H2 d c t :=
  ⟨tab_at g x S.dict (fun _ z => nomatch z), let ⟨cs, e, r⟩ := S.cells; ⟨cs, tab_at g x e (fun _ z => nomatch z), r⟩, S.pos⟩
theorem _root_.GP.Prs.tab {Pt : Addr} {H H2 : Hp} {vs : List V} {ps : List (Int × Int)} (h : Prs H vs ps) (g : GxR.TabG H Pt) (x : GxR.Tabbed Pt H H2) : Prs H2 vs ps :=
  ⟨h.1, fun i p e => let ⟨a, e1, e2⟩ := h.2 i p e; ⟨a, e1, tab_at g x e2 (fun _ z => nomatch z)⟩⟩
theorem tabG_same {Pt : Addr} {H H' : Hp} (g : GxR.TabG H Pt) (s : Same H H') : GxR.TabG H' Pt := let ⟨ps, e, r⟩ := g; ⟨ps, s _ _ e, r⟩
theorem tabG_kp {Pt : Addr} {H H' : Hp} {d c : Addr} {t : Int} (g : GxR.TabG H Pt) (S : StAt H d c t) (k : Kp d c H H') : GxR.TabG H' Pt := let ⟨ps, e, r⟩ := g; ⟨ps, k.at S e (fun _ z => nomatch z) (fun _ z => nomatch z), r⟩
theorem tabG_upd {Pt : Addr} {H : Hp} {l : Addr} {o u : HO} (g : GxR.TabG H Pt) (e : H l = some o) (h : ∀ q, o ≠ .tbl q) : GxR.TabG (upd H l u) Pt := let ⟨ps, eP, r⟩ := g; ⟨ps, by rw [upd_ne (ne_of e eP (h ps)).symm]; exact eP, r⟩
theorem tabbed_free {Pt : Addr} {H H2 : Hp} {p : Addr} (g : GxR.TabG H Pt) (x : GxR.Tabbed Pt H H2) (h : H2 p = none) : H p = none := by
  obtain ⟨ps, e, _⟩ := x.1
  rw [← x.2 p (fun z => by rw [z, e] at h; cases h)]
  exact h

/-! ### d.update([(k, v), ..]) -/
def rUpdP (K : PySem.W.Frag) : V → List V → Hp → VK → Prop := fun x vs H Q => ∃ (d a : Addr) (ps : List Addr) (kvs old : List (Key × V)), x = .ref d ∧ vs = [.ref a] ∧ H d = some (.dK old) ∧ H a = some (.lst (ps.map V.ref)) ∧ Paired (fun p kv => SqT K H p [kV kv.1, kv.2]) ps kvs ∧
  old.length + kvs.length ≤ sizeLine ∧ Q .non (upd H d (.dK (mergeK old kvs)))
theorem mt_update {X : Cx} (calm : X.calm = true) : MtR X "dict.update" (rUpdP X.K) := by
  intro pins s σ H x vs v us Q I rx rv had
  obtain ⟨d, a, ps, kvs, old, rfl, rfl, hd, ha, hp, hz, q⟩ := had
  cases rx
  obtain ⟨u, rfl, ru⟩ := vals1 rv
  cases ru
  obtain ⟨_, its, n, ri, ea⟩ := I.hok a _ ha
  obtain rfl := refs_at ri
  obtain ⟨prs, rel, plen, hpr⟩ := pairs_of I hp
  obtain ⟨_, sys, ws, rw', isD⟩ := I.hok d _ hd
  -- the pairs, by place
  have one : ∀ j : Nat, ∃ (b : Addr) (k : Value), ∀ qv, prs[j]? = some qv → ps[j]? = some b ∧ IsTup s.heap b #[k, qv.2] ∧ keyIs qv.1 k = true := fun j => by
    cases e : prs[j]? with
    | none => exact ⟨0, .none, fun _ z => nomatch z⟩
    | some qv =>
      obtain ⟨b, k, h1, h2, h3⟩ := hpr j qv e
      exact ⟨b, k, fun qv' z => by cases z; exact ⟨h1, h2, h3⟩⟩
  let loc : Nat → Addr := fun j => (one j).choose
  let key : Nat → Value := fun j => (one j).choose_spec.choose
  have spec : ∀ j qv, prs[j]? = some qv → ps[j]? = some (loc j) ∧ IsTup s.heap (loc j) #[key j, qv.2] ∧ keyIs qv.1 (key j) = true := fun j => (one j).choose_spec.choose_spec
  let pv : List (Value × Value) := (List.range prs.length).map fun j => (key j, (prs[j]?.map (·.2)).getD .none)
  have pvl : pv.length = prs.length := by simp [pv]
  have pvat : ∀ j k v, pv[j]? = some (k, v) → ∃ qv, prs[j]? = some qv ∧ k = key j ∧ v = qv.2 := fun j k v e => by
    have hj : j < prs.length := by rw [← pvl]; exact (List.getElem?_eq_some_iff.mp e).1
    have e2 : pv[j]? = some (key j, (prs[j]?.map (·.2)).getD .none) := by simp [pv, hj]
    rw [e2, List.getElem?_eq_getElem hj] at e
    cases e
    exact ⟨_, List.getElem?_eq_getElem hj, rfl, rfl⟩
  have lenk : kvs.length = prs.length := Paired.length rel
  have isL : PlainSeq "list" s.heap a (ps.map Value.ref).toArray := ⟨_, n, ea, rfl, rfl, rfl⟩
  have items : PairItems s.heap (ps.map Value.ref).toArray loc pv := ⟨by rw [List.size_toArray, List.length_map, pvl, plen], fun j k v e => by
    obtain ⟨qv, e1, rfl, rfl⟩ := pvat j k v e
    obtain ⟨h1, h2, _⟩ := spec j qv e1
    refine ⟨?_, .inl h2⟩
    rw [List.getElem?_toArray, List.getElem?_map, h1]
    rfl⟩
  have off : d ∉ a :: (List.range pv.length).map loc := fun z => by
    rcases List.mem_cons.mp z with e | e
    · exact ne_of hd ha (fun z => nomatch z) e
    · obtain ⟨j, hj, e⟩ := List.mem_map.mp e
      have hj' : j < prs.length := by rw [← pvl]; exact List.mem_range.mp hj
      obtain ⟨_, ⟨o, h2, h3, _⟩, _⟩ := spec j prs[j] (List.getElem?_eq_getElem hj')
      obtain ⟨o', _, _, g1, g2, _⟩ := isD
      rw [e, g1] at h2
      have z3 := g2.1
      rw [Option.some.inj h2, h3] at z3
      simp at z3
  have wl : old.length = ws.length := Paired.length rw'
  refine call_update_pairs (knd := mixKind X.prog X.w) (kvs := prs) (PairArg.list a (ps.map Value.ref).toArray loc pv) (I.ok.hd calm) ⟨isL, items⟩ off ⟨pvl.symm, fun i k v e => ?_⟩ isD (by rw [pvl, ← wl, ← lenk]; exact hz) fun h' tk made kept => ?_
  · obtain ⟨qv, e1, rfl, rfl⟩ := pvat i k v e
    exact ⟨qv.1, e1, (spec i qv e1).2.2⟩
  · refine ⟨.non, _, I.write (x := d) (e := d) (by rw [hd]; trivial) (.inl rfl) (fun b u hb e => kept b u hb (fun z => nomatch z) e) ?_ ?_, rfl, q⟩
    · obtain ⟨o, _, _, g1, _⟩ := made
      exact ⟨o, g1⟩
    · refine ⟨Nat.le_trans (length_mergeK kvs old) ?_, sys, merged ws prs, KV.merge rel rw', made⟩
      exact hz

/-! ### pairs as data -/
def pairD (p : Int × Int) : PyData := .tuple [.int p.1, .int p.2]
theorem dp_prs {K : PySem.W.Frag} {H : Hp} : ∀ {us : List V} {ps : List (Int × Int)}, Prs H us ps → DpAll K H us (ps.map pairD)
  | [], [], _ => .nil
  | [], _ :: _, h => nomatch h.1
  | _ :: _, [], h => nomatch h.1
  | u :: us, p :: ps, h => by
    obtain ⟨a, e1, e2⟩ := h.2 0 p rfl
    have eu : u = .ref a := Option.some.inj e1
    subst eu
    refine .cons (.tup (.inl (.inl e2)) (.cons (.int _) (.cons (.int _) .nil))) (dp_prs ⟨Nat.succ.inj h.1, fun i q e => ?_⟩)
    obtain ⟨b, f1, f2⟩ := h.2 (i + 1) q e
    exact ⟨b, f1, f2⟩
theorem lay_prs : ∀ ps : List (Int × Int), PyData.canLayAll0 (ps.map pairD) = true
  | [] => by simp only [List.map_nil, PyData.canLayAll0]
  | p :: r => by
    rw [List.map_cons, PyData.canLayAll0, lay_prs r]
    simp [pairD, PyData.canLay0, PyData.canLayAll0]
theorem depth_prs : ∀ ps : List (Int × Int), PyData.depthAll (ps.map pairD) ≤ 1
  | [] => by simp only [List.map_nil, PyData.depthAll]; omega
  | p :: r => by
    rw [List.map_cons, PyData.depthAll]  -- a pair, then the rest
    have := depth_prs r
    simp [pairD, PyData.depth, PyData.depthAll]
    omega
theorem shaped_prs (ps : List (Int × Int)) : SeqAt.shaped (PyData.list (ps.map pairD)) = true := by
  unfold SeqAt.shaped
  rw [PyData.canLay0, lay_prs, PyData.depth, Bool.true_and]
  exact decide_eq_true (by have := depth_prs ps; omega)
theorem eqv_prs (ps : List (Int × Int)) : PyData.eqv (PyData.list (ps.map pairD)) (PyData.list (ps.map pairD)) = true := SeqAt.eqv_refl _ (by rw [PyData.canLay0]; exact lay_prs ps)
theorem tabG_tabbed {Pt Pu : Addr} {H H2 : Hp} (g : GxR.TabG H Pu) (x : GxR.Tabbed Pt H H2) : GxR.TabG H2 Pu := by
  by_cases e : Pu = Pt
  · rw [e]; exact x.1
  · obtain ⟨ps, h, r⟩ := g
    exact ⟨ps, by rw [x.2 _ e]; exact h, r⟩

/-! ### sets by stretches: the mathematics -/
theorem inB_iff {n a b : Int} : inB n a b = true ↔ a ≤ n ∧ n ≤ b := by
  unfold inB
  rw [Bool.and_eq_true, decide_eq_true_eq (p := a ≤ n), decide_eq_true_eq]
theorem anyP_iff {n : Int} {ps : List (Int × Int)} : anyP (inB n) ps = true ↔ ∃ p ∈ ps, p.1 ≤ n ∧ n ≤ p.2 := by
  unfold anyP
  rw [List.any_eq_true]
  constructor
  · rintro ⟨p, hp, e⟩
    exact ⟨p, hp, inB_iff.mp e⟩
  · rintro ⟨p, hp, e⟩
    exact ⟨p, hp, inB_iff.mpr e⟩
/-- the same numbers -/
def Alike (ps qs : List (Int × Int)) : Prop := ∀ n : Int, (∃ p ∈ ps, p.1 ≤ n ∧ n ≤ p.2) ↔ ∃ p ∈ qs, p.1 ≤ n ∧ n ≤ p.2
theorem Alike.any {ps qs : List (Int × Int)} (h : Alike ps qs) (n : Int) : anyP (inB n) ps = anyP (inB n) qs := by
  rw [Bool.eq_iff_iff, anyP_iff, anyP_iff]
  exact h n
theorem Alike.symm {ps qs : List (Int × Int)} (h : Alike ps qs) : Alike qs ps := fun n => (h n).symm
theorem Alike.trans {ps qs rs : List (Int × Int)} (h : Alike ps qs) (h' : Alike qs rs) : Alike ps rs := fun n => (h n).trans (h' n)
theorem Alike.of_mem {ps qs : List (Int × Int)} (h : ∀ p, p ∈ ps ↔ p ∈ qs) : Alike ps qs := fun n => ⟨fun ⟨p, hp, e⟩ => ⟨p, (h p).mp hp, e⟩, fun ⟨p, hp, e⟩ => ⟨p, (h p).mpr hp, e⟩⟩
/-- of each set of numbers there is just one list -/
theorem ris_one : ∀ {rs rs' : List (Int × Int)} {lo lo' : Int}, Ris lo rs → Ris lo' rs' → Alike rs rs' → rs = rs'
  | [], [], _, _, _, _, _ => by rfl
  | [], q :: r, _, _, _, h', e => by
    obtain ⟨p, hp, _⟩ := (e q.1).mpr ⟨q, List.mem_cons_self .., Int.le_refl _, h'.2.1⟩
    exact nomatch hp
  | q :: r, [], _, _, h, _, e => by
    obtain ⟨p, hp, _⟩ := (e q.1).mp ⟨q, List.mem_cons_self .., Int.le_refl _, h.2.1⟩
    exact nomatch hp
  | (a, b) :: r, (a', b') :: r', lo, lo', h, h', e => by
    have hb : a ≤ b := h.2.1
    have hb' : a' ≤ b' := h'.2.1
    have tl : ∀ p ∈ r, b + 2 ≤ p.1 ∧ p.1 ≤ p.2 := Ris.le h.2.2
    have tl' : ∀ p ∈ r', b' + 2 ≤ p.1 ∧ p.1 ≤ p.2 := Ris.le h'.2.2
    have m1 : a' ≤ a := by
      obtain ⟨p, hp, e1, e2⟩ := (e a).mp ⟨(a, b), List.mem_cons_self .., Int.le_refl _, hb⟩
      rcases List.mem_cons.mp hp with z | z
      · rw [z] at e1; exact e1
      · have := tl' p z; omega
    have m2 : a ≤ a' := by
      obtain ⟨p, hp, e1, e2⟩ := (e a').mpr ⟨(a', b'), List.mem_cons_self .., Int.le_refl _, hb'⟩
      rcases List.mem_cons.mp hp with z | z
      · rw [z] at e1; exact e1
      · have := tl p z; omega
    have ea : a = a' := by omega
    have n1 : ¬ b < b' := fun lt => by
      obtain ⟨p, hp, e1, e2⟩ := (e (b + 1)).mpr ⟨(a', b'), List.mem_cons_self .., by show a' ≤ b + 1; omega, by show b + 1 ≤ b'; omega⟩
      rcases List.mem_cons.mp hp with z | z
      · rw [z] at e2; have : b + 1 ≤ b := e2; omega
      · have := tl p z; omega
    have n2 : ¬ b' < b := fun lt => by
      obtain ⟨p, hp, e1, e2⟩ := (e (b' + 1)).mp ⟨(a, b), List.mem_cons_self .., by show a ≤ b' + 1; omega, by show b' + 1 ≤ b; omega⟩
      rcases List.mem_cons.mp hp with z | z
      · rw [z] at e2; have : b' + 1 ≤ b' := e2; omega
      · have := tl' p z; omega
    have eb : b = b' := by omega
    subst ea eb
    have er : Alike r r' := fun n => by
      constructor
      · rintro ⟨p, hp, e1, e2⟩
        obtain ⟨p', hp', f1, f2⟩ := (e n).mp ⟨p, List.mem_cons_of_mem _ hp, e1, e2⟩
        rcases List.mem_cons.mp hp' with z | z
        · rw [z] at f2
          have : n ≤ b := f2
          have := tl p hp
          omega
        · exact ⟨p', z, f1, f2⟩
      · rintro ⟨p, hp, e1, e2⟩
        obtain ⟨p', hp', f1, f2⟩ := (e n).mpr ⟨p, List.mem_cons_of_mem _ hp, e1, e2⟩
        rcases List.mem_cons.mp hp' with z | z
        · rw [z] at f2
          have : n ≤ b := f2
          have := tl' p hp
          omega
        · exact ⟨p', z, f1, f2⟩
    rw [ris_one h.2.2 h'.2.2 er]
theorem Ris.front : ∀ {lo : Int} {rs : List (Int × Int)} {q : Int × Int}, Ris lo (rs ++ [q]) → Ris lo rs ∧ (∀ r ∈ rs, r.2 + 2 ≤ q.1) ∧ lo ≤ q.1 ∧ q.1 ≤ q.2
  | lo, [], q, h => ⟨True.intro, (fun _ z => nomatch z), h.1, h.2.1⟩
  | lo, r :: rs, q, h => by
    obtain ⟨h1, h2, h3, h4⟩ := Ris.front h.2.2
    refine ⟨⟨h.1, h.2.1, h1⟩, fun x hx => ?_, by have := h.1; have := h.2.1; omega, h4⟩
    rcases List.mem_cons.mp hx with z | z
    · rw [z]; exact h3
    · exact h2 x z
/-- what is told of pairs: a set of just their numbers -/
structure SetLike (ps rs : List (Int × Int)) : Prop where
  ris : ∃ lo, Ris lo rs
  same : Alike rs ps
  len : rs.length ≤ ps.length
/-- between two turns: the pairs so far, rising by their firsts, and what is merged of them -/
structure Mrg (pre rs : List (Int × Int)) : Prop extends SetLike pre rs where
  firsts : ∀ r ∈ rs, ∃ p ∈ pre, p.1 = r.1
theorem alike_snoc {pre : List (Int × Int)} {rs rs' : List (Int × Int)} {p : Int × Int} (h : Alike rs pre) (e : ∀ n, (∃ q ∈ rs', q.1 ≤ n ∧ n ≤ q.2) ↔ (∃ q ∈ rs, q.1 ≤ n ∧ n ≤ q.2) ∨ (p.1 ≤ n ∧ n ≤ p.2)) : Alike rs' (pre ++ [p]) := fun n => by
  rw [e n, h n]
  constructor
  · rintro (⟨q, hq, z⟩ | z)
    · exact ⟨q, List.mem_append_left _ hq, z⟩
    · exact ⟨p, List.mem_append_right _ (List.mem_singleton.mpr rfl), z⟩
  · rintro ⟨q, hq, z⟩
    rcases List.mem_append.mp hq with y | y
    · exact .inl ⟨q, y, z⟩
    · rw [List.mem_singleton.mp y] at z
      exact .inr z
theorem Mrg.join {pre rs : List (Int × Int)} {a b : Int} {p : Int × Int} (m : Mrg pre (rs ++ [(a, b)])) (hp : p.1 ≤ p.2) (ord : ∀ q ∈ pre, q.1 ≤ p.1) (near : p.1 ≤ b + 1) : Mrg (pre ++ [p]) (rs ++ [(a, if p.2 > b then p.2 else b)]) := by
  obtain ⟨lo, hr⟩ := m.ris
  obtain ⟨h1, h2, h3, h4⟩ := Ris.front hr
  obtain ⟨q, hq, eq⟩ := m.firsts (a, b) (List.mem_append_right _ (List.mem_singleton.mpr rfl))
  have hap : a ≤ p.1 := by have := ord q hq; have : q.1 = a := eq; omega
  have hab : a ≤ b := h4
  have big : a ≤ (if p.2 > b then p.2 else b) := by split <;> omega
  refine ⟨⟨⟨lo, h1.snoc h3 h2 big⟩, alike_snoc m.same fun n => ?_, ?_⟩, fun r hr => ?_⟩
  · constructor
    · rintro ⟨q, hq, z⟩
      rcases List.mem_append.mp hq with y | y
      · exact .inl ⟨q, List.mem_append_left _ y, z⟩
      · rw [List.mem_singleton.mp y] at z
        have z1 : a ≤ n := z.1
        have z2 : n ≤ (if p.2 > b then p.2 else b) := z.2
        by_cases c : n ≤ b
        · exact .inl ⟨(a, b), List.mem_append_right _ (List.mem_singleton.mpr rfl), z1, c⟩
        · refine .inr ⟨by omega, ?_⟩
          split at z2 <;> omega
    · rintro (⟨q, hq, z⟩ | z)
      · rcases List.mem_append.mp hq with y | y
        · exact ⟨q, List.mem_append_left _ y, z⟩
        · rw [List.mem_singleton.mp y] at z
          refine ⟨_, List.mem_append_right _ (List.mem_singleton.mpr rfl), z.1, ?_⟩
          have z2 : n ≤ b := z.2
          show n ≤ (if p.2 > b then p.2 else b)
          split <;> omega
      · refine ⟨_, List.mem_append_right _ (List.mem_singleton.mpr rfl), by show a ≤ n; omega, ?_⟩
        show n ≤ (if p.2 > b then p.2 else b)
        split <;> omega
  · have := m.len
    rw [List.length_append, List.length_append] at *
    show rs.length + 1 ≤ pre.length + 1
    have : rs.length + 1 ≤ pre.length := this
    omega
  · rcases List.mem_append.mp hr with y | y
    · obtain ⟨q, hq, e⟩ := m.firsts r (List.mem_append_left _ y)
      exact ⟨q, List.mem_append_left _ hq, e⟩
    · rw [List.mem_singleton.mp y]
      exact ⟨q, List.mem_append_left _ hq, eq⟩
theorem Mrg.new {pre rs : List (Int × Int)} {p : Int × Int} (m : Mrg pre rs) (hp : p.1 ≤ p.2) (ord : ∀ q ∈ pre, q.1 ≤ p.1) (far : ∀ r ∈ rs, r.2 + 2 ≤ p.1) : Mrg (pre ++ [p]) (rs ++ [p]) := by
  obtain ⟨lo, hr⟩ := m.ris
  refine ⟨⟨?_, alike_snoc m.same fun n => ?_, by have := m.len; rw [List.length_append, List.length_append]; show rs.length + 1 ≤ pre.length + 1; omega⟩, fun r hr => ?_⟩
  · cases rs with
    | nil => exact ⟨p.1, Int.le_refl _, hp, True.intro⟩
    | cons q r =>
      refine ⟨lo, hr.snoc ?_ far hp⟩
      have := hr.le q (List.mem_cons_self ..)
      have := far q (List.mem_cons_self ..)
      omega
  · constructor
    · rintro ⟨q, hq, z⟩
      rcases List.mem_append.mp hq with y | y
      · exact .inl ⟨q, y, z⟩
      · rw [List.mem_singleton.mp y] at z; exact .inr z
    · rintro (⟨q, hq, z⟩ | z)
      · exact ⟨q, List.mem_append_left _ hq, z⟩
      · exact ⟨p, List.mem_append_right _ (List.mem_singleton.mpr rfl), z⟩
  · rcases List.mem_append.mp hr with y | y
    · obtain ⟨q, hq, e⟩ := m.firsts r y
      exact ⟨q, List.mem_append_left _ hq, e⟩
    · rw [List.mem_singleton.mp y]
      exact ⟨p, List.mem_append_right _ (List.mem_singleton.mpr rfl), rfl⟩
theorem Mrg.nil : Mrg [] [] := ⟨⟨⟨0, True.intro⟩, fun _ => Iff.rfl, Nat.le_refl _⟩, fun _ z => nomatch z⟩

/-! ### sets put together: the mathematics -/
def InS (ps : List (Int × Int)) (n : Int) : Prop := ∃ p ∈ ps, p.1 ≤ n ∧ n ≤ p.2
theorem inS_nil {n : Int} : ¬ InS [] n := fun ⟨_, h, _⟩ => nomatch h
theorem inS_cons {p : Int × Int} {r : List (Int × Int)} {n : Int} : InS (p :: r) n ↔ (p.1 ≤ n ∧ n ≤ p.2) ∨ InS r n := by
  constructor
  · rintro ⟨q, hq, e⟩
    rcases List.mem_cons.mp hq with z | z
    · rw [z] at e; exact .inl e
    · exact .inr ⟨q, z, e⟩
  · rintro (e | ⟨q, hq, e⟩)
    · exact ⟨p, List.mem_cons_self .., e⟩
    · exact ⟨q, List.mem_cons_of_mem _ hq, e⟩
theorem inS_append {ps qs : List (Int × Int)} {n : Int} : InS (ps ++ qs) n ↔ InS ps n ∨ InS qs n := by
  constructor
  · rintro ⟨q, hq, e⟩
    rcases List.mem_append.mp hq with z | z
    · exact .inl ⟨q, z, e⟩
    · exact .inr ⟨q, z, e⟩
  · rintro (⟨q, hq, e⟩ | ⟨q, hq, e⟩)
    · exact ⟨q, List.mem_append_left _ hq, e⟩
    · exact ⟨q, List.mem_append_right _ hq, e⟩
theorem Ris.low {lo n : Int} {ps : List (Int × Int)} (h : Ris lo ps) (e : InS ps n) : lo ≤ n := by
  obtain ⟨p, hp, e1, e2⟩ := e
  have := h.le p hp
  omega
theorem Ris.mono : ∀ {lo lo' : Int} {ps : List (Int × Int)}, Ris lo ps → lo' ≤ lo → Ris lo' ps
  | _, _, [], _, _ => True.intro
  | _, _, _ :: _, h, e => ⟨Int.le_trans e h.1, h.2⟩
def mxI (i j : Int) : Int := if j > i then j else i
def mnI (i j : Int) : Int := if j < i then j else i
theorem mxI_le {i j n : Int} : mxI i j ≤ n ↔ i ≤ n ∧ j ≤ n := by unfold mxI; split <;> omega
theorem le_mxI {i j n : Int} : n ≤ mxI i j ↔ n ≤ i ∨ n ≤ j := by unfold mxI; split <;> omega
theorem le_mnI {i j n : Int} : n ≤ mnI i j ↔ n ≤ i ∧ n ≤ j := by unfold mnI; split <;> omega
theorem mnI_le {i j n : Int} : mnI i j ≤ n ↔ i ≤ n ∨ j ≤ n := by unfold mnI; split <;> omega
/-- going through both at once -/
def bothF : List (Int × Int) → List (Int × Int) → List (Int × Int)
  | [], _ => []
  | _ :: _, [] => []
  | p :: r, q :: s => (if mxI p.1 q.1 ≤ mnI p.2 q.2 then [(mxI p.1 q.1, mnI p.2 q.2)] else []) ++ (if p.2 < q.2 then bothF r (q :: s) else bothF (p :: r) s)
termination_by ps qs => ps.length + qs.length
theorem bothF_nil (ps : List (Int × Int)) : bothF ps [] = [] := by cases ps <;> rw [bothF]
theorem bothF_ris : ∀ {ps qs : List (Int × Int)} {lo lo' k : Int}, Ris lo ps → Ris lo' qs → (k ≤ lo ∨ k ≤ lo') → Ris k (bothF ps qs)
  | [], _, _, _, _, _, _, _ => by rw [bothF]; exact True.intro
  | _ :: _, [], _, _, _, _, _, _ => by rw [bothF]; exact True.intro
  | p :: r, q :: s, lo, lo', k, h, h', hk => by
    rw [bothF]
    have h1 := h.1
    have h2 := h.2.1
    have h1' := h'.1
    have h2' := h'.2.1
    by_cases c : mxI p.1 q.1 ≤ mnI p.2 q.2
    · rw [if_pos c]
      refine ⟨?_, c, ?_⟩
      · show k ≤ mxI p.1 q.1
        rw [le_mxI]
        omega
      · by_cases d : p.2 < q.2
        · rw [if_pos d]
          refine bothF_ris h.2.2 h' (.inl ?_)
          show mnI p.2 q.2 + 2 ≤ p.2 + 2
          have : mnI p.2 q.2 ≤ p.2 := mnI_le.mpr (.inl (Int.le_refl _))
          omega
        · rw [if_neg d]
          refine bothF_ris h h'.2.2 (.inr ?_)
          show mnI p.2 q.2 + 2 ≤ q.2 + 2
          have : mnI p.2 q.2 ≤ q.2 := mnI_le.mpr (.inr (Int.le_refl _))
          omega
    · rw [if_neg c, List.nil_append]
      by_cases d : p.2 < q.2
      · rw [if_pos d]
        refine bothF_ris h.2.2 h' ?_
        omega
      · rw [if_neg d]
        refine bothF_ris h h'.2.2 ?_
        omega
termination_by ps qs => ps.length + qs.length
theorem bothF_in {n : Int} : ∀ {ps qs : List (Int × Int)} {lo lo' : Int}, Ris lo ps → Ris lo' qs → (InS (bothF ps qs) n ↔ InS ps n ∧ InS qs n)
  | [], _, _, _, _, _ => by rw [bothF]; exact ⟨fun h => absurd h inS_nil, fun h => h.1⟩
  | _ :: _, [], _, _, _, _ => by rw [bothF]; exact ⟨fun h => absurd h inS_nil, fun h => h.2⟩
  | p :: r, q :: s, lo, lo', h, h' => by
    rw [bothF, inS_append, inS_cons, inS_cons]
    have e1 : InS (if mxI p.1 q.1 ≤ mnI p.2 q.2 then [(mxI p.1 q.1, mnI p.2 q.2)] else []) n ↔ (p.1 ≤ n ∧ n ≤ p.2) ∧ (q.1 ≤ n ∧ n ≤ q.2) := by
      by_cases c : mxI p.1 q.1 ≤ mnI p.2 q.2
      · rw [if_pos c, inS_cons]
        show ((mxI p.1 q.1 ≤ n ∧ n ≤ mnI p.2 q.2) ∨ InS [] n) ↔ _
        rw [mxI_le, le_mnI]
        constructor
        · rintro (z | z)
          · omega
          · exact absurd z inS_nil
        · intro z
          exact .inl (by omega)
      · rw [if_neg c]
        constructor
        · exact fun z => absurd z inS_nil
        · intro z
          refine absurd (Int.le_trans (mxI_le.mpr ⟨z.1.1, z.2.1⟩) (le_mnI.mpr ⟨z.1.2, z.2.2⟩)) c
    rw [e1]
    by_cases d : p.2 < q.2
    · rw [if_pos d, bothF_in h.2.2 h', inS_cons]
      have no : InS s n → ¬ n ≤ p.2 := fun z => by
        have := h'.2.2.low z
        omega
      constructor
      · rintro (⟨z1, z2⟩ | ⟨z1, z2⟩)
        · exact ⟨.inl z1, .inl z2⟩
        · exact ⟨.inr z1, z2⟩
      · rintro ⟨z1 | z1, z2 | z2⟩
        · exact .inl ⟨z1, z2⟩
        · exact absurd z1.2 (no z2)
        · exact .inr ⟨z1, .inl z2⟩
        · exact .inr ⟨z1, .inr z2⟩
    · rw [if_neg d, bothF_in h h'.2.2, inS_cons]
      have no : InS r n → ¬ n ≤ q.2 := fun z => by
        have := h.2.2.low z
        omega
      constructor
      · rintro (⟨z1, z2⟩ | ⟨z1, z2⟩)
        · exact ⟨.inl z1, .inl z2⟩
        · exact ⟨z1, .inr z2⟩
      · rintro ⟨z1 | z1, z2 | z2⟩
        · exact .inl ⟨z1, z2⟩
        · exact .inr ⟨.inl z1, z2⟩
        · exact absurd z2.2 (no z1)
        · exact .inr ⟨.inr z1, z2⟩
termination_by ps qs => ps.length + qs.length
/-- what lies between the stretches of a set -/
def gapsF (e : Int) : Int → List (Int × Int) → List (Int × Int)
  | st, [] => [(st, e)]
  | st, p :: r => (st, mnI (p.1 - 1) e) :: gapsF e (mxI st (p.2 + 1)) r
theorem gapsF_length (e : Int) : ∀ (qs : List (Int × Int)) (st : Int), (gapsF e st qs).length = qs.length + 1
  | [], _ => rfl
  | _ :: r, _ => by rw [gapsF, List.length_cons, gapsF_length e r, List.length_cons]
theorem gapsF_in {e n : Int} : ∀ {qs : List (Int × Int)} {lo st : Int}, Ris lo qs → (InS (gapsF e st qs) n ↔ (st ≤ n ∧ n ≤ e) ∧ ¬ InS qs n)
  | [], _, st, _ => by
    rw [gapsF, inS_cons]
    constructor
    · rintro (z | z)
      · exact ⟨z, inS_nil⟩
      · exact absurd z inS_nil
    · exact fun z => .inl z.1
  | p :: r, lo, st, h => by
    rw [gapsF, inS_cons, gapsF_in h.2.2, inS_cons]
    show ((st ≤ n ∧ n ≤ mnI (p.1 - 1) e) ∨ (mxI st (p.2 + 1) ≤ n ∧ n ≤ e) ∧ ¬ InS r n) ↔ _
    rw [le_mnI, mxI_le]
    have h2 := h.2.1
    have no : n ≤ p.2 + 1 → ¬ InS r n := fun z y => by
      have := h.2.2.low y
      omega
    constructor
    · rintro (z | ⟨z, y⟩)
      · refine ⟨by omega, ?_⟩
        rintro (x | x)
        · omega
        · exact no (by omega) x
      · refine ⟨by omega, ?_⟩
        rintro (x | x)
        · omega
        · exact y x
    · rintro ⟨z, y⟩
      by_cases c : n < p.1
      · exact .inl (by omega)
      · refine .inr ⟨?_, fun x => y (.inr x)⟩
        have : ¬ (p.1 ≤ n ∧ n ≤ p.2) := fun x => y (.inl x)
        omega
/-- a set of just the numbers of which pr holds -/
structure Told (pr : Int → Prop) (rs : List (Int × Int)) : Prop where
  ris : ∃ lo, Ris lo rs
  same : ∀ n, InS rs n ↔ pr n
theorem Told.one {pr pr' : Int → Prop} {rs rs' : List (Int × Int)} (h : Told pr rs) (h' : Told pr' rs') (e : ∀ n, pr n ↔ pr' n) : rs = rs' := by
  obtain ⟨lo, r⟩ := h.ris
  obtain ⟨lo', r'⟩ := h'.ris
  exact ris_one r r' fun n => (h.same n).trans ((e n).trans (h'.same n).symm)
theorem Told.of {lo : Int} {rs : List (Int × Int)} (h : Ris lo rs) : Told (InS rs) rs := ⟨⟨lo, h⟩, fun _ => Iff.rfl⟩
theorem SetLike.told {ps rs : List (Int × Int)} (h : SetLike ps rs) : Told (InS ps) rs := ⟨h.ris, h.same⟩
theorem Told.cong {pr pr' : Int → Prop} {rs : List (Int × Int)} (h : Told pr rs) (e : ∀ n, pr n ↔ pr' n) : Told pr' rs := ⟨h.ris, fun n => (h.same n).trans (e n)⟩
theorem Told.nneg {pr : Int → Prop} {rs : List (Int × Int)} (h : Told pr rs) (hn : ∀ n, pr n → 0 ≤ n) : Ris 0 rs := by
  obtain ⟨lo, r⟩ := h.ris
  cases rs with
  | nil => exact True.intro
  | cons p q => exact ⟨hn _ ((h.same _).mp (inS_cons.mpr (.inl ⟨Int.le_refl _, r.2.1⟩))), r.2⟩

theorem cut_back (xs : List V) (m : Nat) : cutV xs (some (m : Int)) none = xs.drop m := by
  unfold cutV
  rw [HT.sIx_none, HT.sIx_nat]
  by_cases h : m ≤ xs.length
  · rw [Nat.min_eq_left h]
    exact List.take_of_length_le (by rw [List.length_drop]; exact Nat.le_refl _)
  · rw [Nat.min_eq_right (by omega), Nat.sub_self, List.take_zero, List.drop_eq_nil_of_le (by omega)]
theorem _root_.GP.Prs.append {H : Hp} {us ws : List V} {ps qs : List (Int × Int)} (h : Prs H us ps) (h' : Prs H ws qs) : Prs H (us ++ ws) (ps ++ qs) := by
  refine ⟨by rw [List.length_append, List.length_append, h.1, h'.1], fun i p e => ?_⟩
  by_cases hi : i < ps.length
  · rw [List.getElem?_append_left hi] at e
    rw [List.getElem?_append_left (by rw [h.1]; exact hi)]
    exact h.2 i p e
  · rw [List.getElem?_append_right (by omega)] at e
    rw [List.getElem?_append_right (by rw [h.1]; omega), h.1]
    exact h'.2 _ p e
theorem _root_.GP.Prs.take {H : Hp} {us : List V} {ps : List (Int × Int)} (h : Prs H us ps) (n : Nat) : Prs H (us.take n) (ps.take n) := by
  refine ⟨by rw [List.length_take, List.length_take, h.1], fun i p e => ?_⟩
  rw [List.getElem?_take] at e ⊢
  split at e
  · rename_i hi
    rw [if_pos hi]
    exact h.2 i p e
  · cases e
theorem _root_.GP.Prs.drop {H : Hp} {us : List V} {ps : List (Int × Int)} (h : Prs H us ps) (n : Nat) : Prs H (us.drop n) (ps.drop n) := by
  refine ⟨by rw [List.length_drop, List.length_drop, h.1], fun i p e => ?_⟩
  rw [List.getElem?_drop] at e ⊢
  exact h.2 _ p e
theorem _root_.GP.Prs.reverse {H : Hp} {us : List V} {ps : List (Int × Int)} (h : Prs H us ps) : Prs H us.reverse ps.reverse := by
  refine ⟨by rw [List.length_reverse, List.length_reverse, h.1], fun i p e => ?_⟩
  have hi : i < ps.length := by
    have z := (List.getElem?_eq_some_iff.mp e).1
    rwa [List.length_reverse] at z
  rw [List.getElem?_reverse hi] at e
  rw [List.getElem?_reverse (by rw [h.1]; exact hi), h.1]
  exact h.2 _ p e

/-! ### is_in, less_in: elements that capture a number -/
section
variable {X : Cx} {s₁ : Shared} {H₁ : Hp} {σ : L2.St} {pins : List (Addr × Obj)} {P : Addr} {sc : Scope} {xa xb y : Str} {i : Nat} {n : Int}
/-- where the expression runs, the captured name is loaded -/
theorem load_cap {L : Addr} {code : Value} {A' : Around} {E' : Value → Shared → Prop} {s₂ : Shared} {p : Pos} {Q : Value → Shared → Prop} (I : Inv X pins σ H₁ s₁) (g : GxR.TabG H₁ P) (hN : X.N[i]? = some y) (hk : X.env.scope.names.lookup y = some .cell) (hv : σ[i]? = some (some (.int n)))
    (hfree : ∀ z ∈ sc.names, z.2 = NameKind.free → ∃ c, X.env.cells.lookup z.1 = some c) (hy : (y, NameKind.free) ∈ sc.names) (ly : sc.names.lookup y = some .free) (kf : sc.kind = .function) (kept : ∀ x o, x ≠ P → s₁.heap.get? x = some o → s₂.heap.get? x = some o)
    (n1 : (y == ("__debug__" : Str)) = false) (n2 : (y == ("__classdict__" : Str)) = false) (fin : ∀ t, Q (.int n t) s₂) :
    wpAny (model X.prog X.w) A' (eval (.Name y p) (genEnv sc (cloFrom X.env.cells sc.names []) L code builtinsNs X.env)) Q E' s₂ := by
  obtain ⟨c, t, e, ⟨o, ho, hd⟩, hc⟩ := captured I hN hk hv g
  exact wpAny_Name (wpAny_loadName_free kf (show sc.names.lookup y = some .free from ly) (NdefX.clo_has hfree hy e) ⟨o, kept c o hc ho, hd⟩ (fin t) n2) n1
theorem load_own {L : Addr} {code : Value} {A' : Around} {E' : Value → Shared → Prop} {s₂ : Shared} {m : Str → Option Value} {x : Str} {p : Pos} {v : Value} {cl : List (Str × Addr)} {Q : Value → Shared → Prop} (kf : sc.kind = .function) (lx : sc.names.lookup x = some .local) (ns : s₂.heap.Ns L m) (e : m x = some v)
    (n1 : (x == ("__debug__" : Str)) = false) (fin : Q v s₂) : wpAny (model X.prog X.w) A' (eval (.Name x p) (genEnv sc cl L code builtinsNs X.env)) Q E' s₂ :=
  wpAny_Name (wpAny_loadName_local kf (show sc.names.lookup x = some .local from lx) ns e fin) n1
theorem elt_in {p1 p2 p3 p4 : Pos} (I : Inv X pins σ H₁ s₁) (g : GxR.TabG H₁ P) (hN : X.N[i]? = some y) (hk : X.env.scope.names.lookup y = some .cell) (hv : σ[i]? = some (some (.int n))) (hfree : ∀ z ∈ sc.names, z.2 = NameKind.free → ∃ c, X.env.cells.lookup z.1 = some c)
    (kf : sc.kind = .function) (la : sc.names.lookup xa = some .local) (lb : sc.names.lookup xb = some .local) (ly : sc.names.lookup y = some .free) (hy : (y, NameKind.free) ∈ sc.names)
    (n1 : (xa == ("__debug__" : Str)) = false := by decide) (n2 : (xb == ("__debug__" : Str)) = false := by decide) (n3 : (y == ("__debug__" : Str)) = false := by decide) (n4 : (y == ("__classdict__" : Str)) = false := by decide) :
    EltAt X s₁ P sc xa xb (.Compare (.Name xa p1) [.LtE, .LtE] [.Name y p2, .Name xb p3] p4) (fun a b v => v = .bool (inB n a b)) := by
  intro L code A' E' a b ta tb s₂ m calm kept ns ea eb
  refine Compare_chain (load_own kf la ns ea n1 (chain_link (load_cap I g hN hk hv hfree hy ly kf kept n3 n4 fun t => PyProof.Rows.le_int (wpAny_truthy_bool ?_))))
  unfold inB
  by_cases h : a ≤ n
  · rw [decide_eq_true h, if_pos rfl]
    refine chain_last (load_own kf lb ns eb n2 (PyProof.Rows.le_int ⟨?_, _, _, rfl, fun _ _ e => e⟩))
    show Value.bool _ = Value.bool (decide (a ≤ n) && decide (n ≤ b))
    rw [decide_eq_true h, Bool.true_and]
  · rw [decide_eq_false h, if_neg (by decide)]
    refine ⟨?_, _, _, rfl, fun _ _ e => e⟩
    show Value.bool _ = Value.bool (decide (a ≤ n) && decide (n ≤ b))
    rw [decide_eq_false h, Bool.false_and]
/-- a built-in called with two arguments -/
theorem call2 {M : Model} {A' : Around} {E' : Value → Shared → Prop} {s : Shared} {env : Env} {id : String} {e1 e2 : Expr} {pos : Pos} {Q : Value → Shared → Prop} (one : starEach [e1, e2] env = [(false, eval e1 env), (false, eval e2 env)]) (one' : starEach [e2] env = [(false, eval e2 env)])
    (h : wpAny M A' (eval e1 env) (fun v s1 => wpAny M A' (eval e2 env) (fun u s2 => wpAny M A' (call (.builtin id) [v, u]) Q E' s2) E' s1) E' s) : wpAny M A' (callWith pos (.builtin id) [] (backTo pos (starEach [e1, e2] env)) []) Q E' s := by
  refine callWith_builtin1 ?_ (by rw [one, one']) (by rw [one']; rfl)
  rw [one]
  exact Calls.spliced_cons (wpAny_mono h (fun v s1 h1 => Calls.spliced_cons (wpAny_mono h1 (fun u s2 h2 => Calls.spliced_nil h2) fun _ _ e => e)) fun _ _ e => e)
def lessI (n a b : Int) : Int := if (if n < b + 1 then n else b + 1) - a > 0 then (if n < b + 1 then n else b + 1) - a else 0
theorem elt_less {p1 p2 p3 p4 p5 p6 p7 p8 p9 q1 q2 : Pos} {j j' : Nat} (gP : mainGlobals ≠ P) (mx : X.mg "max" = none) (mn : X.mg "min" = none) (I : Inv X pins σ H₁ s₁) (g : GxR.TabG H₁ P) (hN : X.N[i]? = some y) (hk : X.env.scope.names.lookup y = some .cell) (hv : σ[i]? = some (some (.int n))) (hfree : ∀ z ∈ sc.names, z.2 = NameKind.free → ∃ c, X.env.cells.lookup z.1 = some c)
    (kf : sc.kind = .function) (la : sc.names.lookup xa = some .local) (lb : sc.names.lookup xb = some .local) (ly : sc.names.lookup y = some .free) (hy : (y, NameKind.free) ∈ sc.names) (lm : sc.names.lookup ("max" : Str) = some NameKind.globalImplicit) (ln : sc.names.lookup ("min" : Str) = some NameKind.globalImplicit)
    (n1 : (xa == ("__debug__" : Str)) = false := by decide) (n2 : (xb == ("__debug__" : Str)) = false := by decide) (n3 : (y == ("__debug__" : Str)) = false := by decide) (n4 : (y == ("__classdict__" : Str)) = false := by decide) :
    EltAt X s₁ P sc xa xb (.Call (.Name "max" p1) [.Constant (.int 0) j p2, .BinOp (.Call (.Name "min" p3) [.BinOp (.Name xb p4) .Add (.Constant (.int 1) j' p5) p6, .Name y p7] [] p8) .Sub (.Name xa p9) q1] [] q2) (fun a b v => ∃ t, v = .int (lessI n a b) t) := by
  intro L code A' E' a b ta tb s₂ m calm kept ns ea eb
  have blt : ∀ (s' : Shared) (x : Str) (id : String) (p : Pos) (Q : Value → Shared → Prop), Keeps s₂ s' → X.mg x = none → bootBuiltins x = some (.builtin id) → x ≠ "__name__" → (x == ("__debug__" : Str)) = false → sc.names.lookup x = some .globalImplicit → Q (.builtin id) s' →
      wpAny (model X.prog X.w) A' (eval (.Name x p) (genEnv sc (cloFrom X.env.cells sc.names []) L code builtinsNs X.env)) Q E' s' := by
    intro s' x id p Q ks hm hb nn nd lx q
    obtain ⟨h', tk, rfl, all⟩ := ks
    obtain ⟨hg, mb, h1, h2⟩ := names_in (s₂ := { s₂ with heap := h', toks := tk }) I g gP fun x o hx e => all x o (kept x o hx e)
    exact Calls.Name_function_global kf (show sc.names.lookup x = some .globalImplicit from lx) (Calls.loadGlobal_builtin (by show Heap.Ns _ X.env.globals X.mg; rw [I.ok.glob]; exact hg) hm h1 ((h2 x nn).trans hb) q) nd
  have refl : Keeps s₂ s₂ := ⟨_, _, rfl, fun _ _ e => e⟩
  refine wpAny_Call_Name_kw (blt s₂ "max" "max" p1 _ refl mx (by decide +kernel) (by decide) (by decide) lm (call2 rfl rfl ?_))
  refine wpAny_Constant_int (wpAny_BinOp (wpAny_Call_Name_kw (blt _ "min" "min" p3 _ ⟨_, _, rfl, fun _ _ e => e⟩ mn (by decide +kernel) (by decide) (by decide) ln (call2 rfl rfl ?_))))
  refine wpAny_BinOp (load_own kf lb ns eb n2 (wpAny_Constant_int (PyProof.Rows.add_int ?_)))
  refine load_cap I g hN hk hv hfree hy ly kf kept n3 n4 fun t => ?_
  refine min_two_ints calm fun h1 tk1 k1 => ?_
  have ns1 : h1.Ns L m := ns.keeps k1
  obtain ⟨tm, em⟩ : ∃ tm, (if n < b + 1 then Value.int n t else Value.int (b + 1) (s₂.toks + 1 + 1)) = .int (if n < b + 1 then n else b + 1) tm := by
    by_cases h : n < b + 1
    · exact ⟨t, by rw [if_pos h, if_pos h]⟩
    · exact ⟨_, by rw [if_neg h, if_neg h]⟩
  rw [em]
  refine load_own kf la ns1 ea n1 (PyProof.Rows.sub_int ?_)
  refine max_two_ints calm fun h2 tk2 k2 => ?_
  refine ⟨?_, h2, tk2, rfl, fun x o e => k2 x o (k1 x o e)⟩
  unfold lessI
  by_cases h : (if n < b + 1 then n else b + 1) - a > 0
  · exact ⟨_, by rw [if_pos h, if_pos h]⟩
  · exact ⟨_, by rw [if_neg h, if_neg h]⟩
end

theorem a_free {sc : Scope} {env : Env} {y : Str} {c : Addr} (h : ∀ z ∈ sc.names, z.2 = NameKind.free → z.1 = y) (e : env.cells.lookup y = some c) : ∀ z ∈ sc.names, z.2 = NameKind.free → ∃ c, env.cells.lookup z.1 = some c := fun z hz hf => ⟨c, by rw [h z hz hf]; exact e⟩
abbrev sIsIn : Stmt := topS 8
abbrev sLessIn : Stmt := topS 9
theorem scIsIn : FnScope ["some", "number"] ["some", "number"] (defScope sIsIn) := ⟨rfl, rfl, rfl, by decide +kernel, rfl, by decide +kernel, by decide +kernel⟩
theorem scLessIn : FnScope ["some", "number"] ["some", "number"] (defScope sLessIn) := ⟨rfl, rfl, rfl, by decide +kernel, rfl, by decide +kernel, by decide +kernel⟩
def spIsIn (K : PySem.W.Frag) (Pt : Addr) : Sp := fun vs H Q _ => ∃ (l : Addr) (us : List V) (ps : List (Int × Int)) (n : Int), vs = [.ref l, .int n] ∧ Sq K H l us ∧ Prs H us ps ∧ GxR.TabG H Pt ∧ ∀ H2, GxR.Tabbed Pt H H2 → Q (.bl (anyP (inB n) ps)) H2
def spLessIn (K : PySem.W.Frag) (Pt : Addr) : Sp := fun vs H Q _ => ∃ (l : Addr) (us : List V) (ps : List (Int × Int)) (n : Int), vs = [.ref l, .int n] ∧ Sq K H l us ∧ Prs H us ps ∧ GxR.TabG H Pt ∧ ∀ H2, GxR.Tabbed Pt H H2 → Q (.int (sumP (lessI n) ps)) H2
section
variable {K : PySem.W.Frag} {mg : Str → Option Value} {P : Program} {w : World} {base : Heap}
theorem ok_isin {f : Addr} {k : Nat} {c Pt : Addr} {oc kV doc pm ct : Value} {od an : Option Addr} {osl : Array (Option Value)}
    (lk : K.lookup f = some ⟨oc, od, .func (PySem.W.fnOf "is_in" "is_in" (defArgs sIsIn) (defBody sIsIn) (defScope sIsIn) .none kV doc pm an (.ref c) ct), osl⟩) (hcd : PySem.W.codeIn K (.ref c) "is_in" = true)
    (TB : GxR.TabB base mg c Pt) (ma : mg "any" = none) :
    FnOk P w K mg base CX0 (k + 1) f (PySem.W.fnOf "is_in" "is_in" (defArgs sIsIn) (defBody sIsIn) (defScope sIsIn) .none kV doc pm an (.ref c) ct) ["some", "number"] (spIsIn K Pt) := by
  refine fn_of lk hcd scIsIn (fun vs H Q E h => ?_) (fun A outer s H vs Q E hr h => ?_)
  · obtain ⟨l, us, ps, n, rfl, _⟩ := h
    rfl
  · obtain ⟨l, us, ps, n, rfl, hl, hp, ht, q⟩ := h
    refine ⟨_, PSs.nox (pss_one (ps_ret (pe_over (Cap := fun σ (n : Int) => σ[1]? = some (some (.int n))) (fun n => takes_any (inB n)) hr (by rfl) ma (by decide +kernel) TB rfl ⟨⟨rfl, rfl, by decide +kernel⟩, ⟨by decide +kernel, by decide +kernel, by decide +kernel⟩, by decide +kernel, a_free (y := "number") (c := _) (by decide +kernel) rfl⟩ (pv 0)
      (fun pins σ s₁ H₁ n I g hv => elt_in (i := 1) I g rfl rfl hv (a_free (y := "number") (c := _) (by decide +kernel) rfl) rfl (by decide +kernel) (by decide +kernel) (by decide +kernel) (by decide +kernel)) (fun _ => rfl)))), ?_⟩
    exact ⟨n, rfl, .ref l, rfl, l, us, ps, rfl, hl, hp, ht, q⟩
theorem ok_lessin {f : Addr} {k : Nat} {c Pt : Addr} {oc kV doc pm ct : Value} {od an : Option Addr} {osl : Array (Option Value)}
    (lk : K.lookup f = some ⟨oc, od, .func (PySem.W.fnOf "less_in" "less_in" (defArgs sLessIn) (defBody sLessIn) (defScope sLessIn) .none kV doc pm an (.ref c) ct), osl⟩) (hcd : PySem.W.codeIn K (.ref c) "less_in" = true)
    (TB : GxR.TabB base mg c Pt) (ms : mg "sum" = none) (mx : mg "max" = none) (mn : mg "min" = none) :
    FnOk P w K mg base CX0 (k + 1) f (PySem.W.fnOf "less_in" "less_in" (defArgs sLessIn) (defBody sLessIn) (defScope sLessIn) .none kV doc pm an (.ref c) ct) ["some", "number"] (spLessIn K Pt) := by
  refine fn_of lk hcd scLessIn (fun vs H Q E h => ?_) (fun A outer s H vs Q E hr h => ?_)
  · obtain ⟨l, us, ps, n, rfl, _⟩ := h
    rfl
  · obtain ⟨l, us, ps, n, rfl, hl, hp, ht, q⟩ := h
    refine ⟨_, PSs.nox (pss_one (ps_ret (pe_over (Cap := fun σ (n : Int) => σ[1]? = some (some (.int n))) (fun n => takes_sum (lessI n)) hr (by rfl) ms (by decide +kernel) TB rfl ⟨⟨rfl, rfl, by decide +kernel⟩, ⟨by decide +kernel, by decide +kernel, by decide +kernel⟩, by decide +kernel, a_free (y := "number") (c := _) (by decide +kernel) rfl⟩ (pv 0)
      (fun pins σ s₁ H₁ n I g hv => elt_less (i := 1) TB.gP mx mn I g rfl rfl hv (a_free (y := "number") (c := _) (by decide +kernel) rfl) rfl (by decide +kernel) (by decide +kernel) (by decide +kernel) (by decide +kernel) (by decide +kernel) (by decide +kernel)) (fun _ => rfl)))), ?_⟩
    exact ⟨n, rfl, .ref l, rfl, l, us, ps, rfl, hl, hp, ht, q⟩
end

/-- how many of a stretch are less, as the law has it -/
def lessO (n a b : Int) : Int := if a < n then (if n - 1 < b then n - 1 else b) + 1 - a else 0
theorem less_eq {n a b : Int} (h : a ≤ b) : lessI n a b = lessO n a b := by
  unfold lessI lessO
  by_cases h1 : a < n
  · rw [if_pos h1]
    by_cases h2 : n < b + 1
    · rw [if_pos h2, if_pos (by omega)]
      by_cases h3 : n - 1 < b
      · rw [if_pos h3]; omega
      · rw [if_neg h3]; omega
    · rw [if_neg h2, if_pos (by omega), if_neg (by omega)]
  · rw [if_neg h1]
    by_cases h2 : n < b + 1
    · rw [if_pos h2, if_neg (by omega)]
    · omega
theorem sumP_congr {g g' : Int → Int → Int} : ∀ {ps : List (Int × Int)}, (∀ p ∈ ps, g p.1 p.2 = g' p.1 p.2) → sumP g ps = sumP g' ps := fun {ps} h => by
  unfold sumP
  rw [List.map_congr_left fun p hp => h p hp]
theorem sumP_cons (g : Int → Int → Int) (p : Int × Int) (r : List (Int × Int)) : sumP g (p :: r) = g p.1 p.2 + sumP g r := by
  unfold sumP
  rw [List.map_cons, List.sum_cons]  -- one stretch, then the rest
/-- a number more is less behind each number of the set, and no other -/
theorem less_step (n : Int) : ∀ {lo : Int} {ps : List (Int × Int)}, Ris lo ps → sumP (lessI (n + 1)) ps = sumP (lessI n) ps + (if anyP (inB n) ps then 1 else 0)
  | _, [], _ => rfl
  | lo, p :: r, h => by
    rw [sumP_cons, sumP_cons, less_step n h.2.2, less_eq h.2.1, less_eq h.2.1]
    have hlr : ∀ q ∈ r, p.2 + 2 ≤ q.1 ∧ q.1 ≤ q.2 := Ris.le h.2.2
    have e : anyP (inB n) (p :: r) = (inB n p.1 p.2 || anyP (inB n) r) := rfl
    rw [e]
    by_cases hin : p.1 ≤ n ∧ n ≤ p.2
    · have e1 : inB n p.1 p.2 = true := by unfold inB; rw [decide_eq_true hin.1, decide_eq_true hin.2]; rfl
      have e2 : anyP (inB n) r = false := by
        unfold anyP
        rw [List.any_eq_false]
        intro q hq
        unfold inB
        have := hlr q hq
        rw [decide_eq_false (show ¬ q.1 ≤ n by omega), Bool.false_and]
        exact Bool.false_ne_true
      rw [e1, e2]
      have up : lessO (n + 1) p.1 p.2 = n + 1 - p.1 := by
        unfold lessO
        rw [if_pos (by omega)]
        by_cases h2 : n + 1 - 1 < p.2
        · rw [if_pos h2]; omega
        · rw [if_neg h2]; omega
      have dn : lessO n p.1 p.2 = n - p.1 := by
        unfold lessO
        by_cases h1 : p.1 < n
        · rw [if_pos h1, if_pos (by omega)]; omega
        · rw [if_neg h1]; omega
      rw [up, dn]
      simp only [Bool.true_or, if_true, Bool.false_eq_true, if_false]
      omega
    · have e1 : inB n p.1 p.2 = false := by
        unfold inB
        by_cases h1 : p.1 ≤ n
        · rw [decide_eq_false (show ¬ n ≤ p.2 from fun z => hin ⟨h1, z⟩), Bool.and_false]
        · rw [decide_eq_false h1, Bool.false_and]
      have e3 : lessO (n + 1) p.1 p.2 = lessO n p.1 p.2 := by
        unfold lessO
        have := h.2.1
        by_cases h1 : p.1 < n
        · have : p.2 < n := by omega
          rw [if_pos h1, if_pos (by omega), if_neg (by omega), if_neg (by omega)]
        · rw [if_neg h1, if_neg (by omega)]
      rw [e1, Bool.false_or, e3]
      omega

abbrev sCount : Stmt := topS 6
theorem scCount : FnScope ["some"] ["some"] (defScope sCount) := ⟨rfl, rfl, rfl, by decide +kernel, rfl, by decide +kernel, by decide +kernel⟩
theorem elt_cnt {X : Cx} {s₁ : Shared} {P : Addr} {scope : Scope} {xa xb : Str} {j : Nat} {p1 p2 p3 p4 p5 : Pos} (hk : scope.kind = .function) (la : scope.names.lookup xa = some .local) (lb : scope.names.lookup xb = some .local)
    (hda : (xa == ("__debug__" : Str)) = false := by decide) (hdb : (xb == ("__debug__" : Str)) = false := by decide) :
    EltAt X s₁ P scope xa xb (.BinOp (.BinOp (.Name xb p1) .Sub (.Name xa p2) p3) .Add (.Constant (.int 1) j p4) p5) (fun a b y => ∃ t, y = .int (b - a + 1) t) := by
  intro L code A' E' a b ta tb s₂ m₂ _ hkp hn hma hmb
  refine wpAny_BinOp (wpAny_BinOp (wpAny_Name (wpAny_loadName_local hk (show scope.names.lookup xb = some .local from lb) hn hmb ?_) hdb))
  refine wpAny_Name (wpAny_loadName_local hk (show scope.names.lookup xa = some .local from la) hn hma ?_) hda
  refine PyProof.Rows.sub_int ?_
  refine wpAny_Constant_int ?_
  exact PyProof.Rows.add_int ⟨⟨_, rfl⟩, ⟨_, _, rfl, fun _ _ e => e⟩⟩
theorem no_free {scope : Scope} {env : Env} (h : ∀ y ∈ scope.names, y.2 ≠ NameKind.free) : ∀ y ∈ scope.names, y.2 = .free → ∃ c, env.cells.lookup y.1 = some c := fun y hy hf => absurd hf (h y hy)
def cnt (a b : Int) : Int := b - a + 1
def spCount (K : PySem.W.Frag) (Pt : Addr) : Sp := fun vs H Q _ => ∃ (l : Addr) (us : List V) (ps : List (Int × Int)), vs = [.ref l] ∧ Sq K H l us ∧ Prs H us ps ∧ GxR.TabG H Pt ∧ ∀ H2, GxR.Tabbed Pt H H2 → Q (.int (sumP cnt ps)) H2
section
variable {K : PySem.W.Frag} {mg : Str → Option Value} {P : Program} {w : World} {base : Heap}
theorem ok_count {f : Addr} {k : Nat} {c Pt : Addr} {oc kV doc pm ct : Value} {od an : Option Addr} {osl : Array (Option Value)}
    (lk : K.lookup f = some ⟨oc, od, .func (PySem.W.fnOf "count_of" "count_of" (defArgs sCount) (defBody sCount) (defScope sCount) .none kV doc pm an (.ref c) ct), osl⟩) (hcd : PySem.W.codeIn K (.ref c) "count_of" = true)
    (TB : GxR.TabB base mg c Pt) (ms : mg "sum" = none) :
    FnOk P w K mg base CX0 (k + 1) f (PySem.W.fnOf "count_of" "count_of" (defArgs sCount) (defBody sCount) (defScope sCount) .none kV doc pm an (.ref c) ct) ["some"] (spCount K Pt) := by
  refine fn_of lk hcd scCount (fun vs H Q E h => ?_) (fun A outer s H vs Q E hr h => ?_)
  · obtain ⟨l, us, ps, rfl, _⟩ := h
    rfl
  · obtain ⟨l, us, ps, rfl, hl, hp, ht, q⟩ := h
    refine ⟨_, PSs.nox (pss_one (ps_ret (pe_over (Cap := fun _ (_ : Unit) => True) (fun _ => takes_sum cnt) hr (by rfl) ms (by decide +kernel) TB rfl ⟨⟨rfl, rfl, by decide +kernel⟩, ⟨by decide +kernel, by decide +kernel, by decide +kernel⟩, by decide +kernel, no_free (by decide +kernel)⟩ (pv 0) (fun pins σ s₁ H₁ _ I _ _ => elt_cnt rfl (by decide +kernel) (by decide +kernel)) (fun _ => rfl)))), ?_⟩
    exact ⟨(), trivial, .ref l, rfl, l, us, ps, rfl, hl, hp, ht, q⟩
end

/-- the program's -/
def nthP : Int → List (Int × Int) → Option Int
  | _, [] => none
  | a, p :: r => if a ≤ p.2 - p.1 then some (p.1 + a) else nthP (a - (p.2 - p.1 + 1)) r
def oV : Option Int → V
  | none => .non
  | some i => .int i

abbrev sNthOf : Stmt := topS 7
theorem scNthOf : FnScope ["some", "n", "ahead", "first", "last"] ["some", "n"] (defScope sNthOf) := ⟨rfl, rfl, rfl, by decide +kernel, rfl, by decide +kernel, by decide +kernel⟩
def spNthOf (K : PySem.W.Frag) : Sp := fun vs H Q _ => ∃ (l : Addr) (us : List V) (ps : List (Int × Int)) (n : Int), vs = [.ref l, .int n] ∧ Sq K H l us ∧ Prs H us ps ∧ Q (oV (nthP n ps)) H
section
variable {K : PySem.W.Frag} {mg : Str → Option Value} {P : Program} {w : World} {base : Heap}
theorem ok_nthof {f : Addr} {fd : FuncData} {k : Nat} (F : Fun K "nth_of" "nth_of" sNthOf f fd) : FnOk P w K mg base CX0 (k + 1) f fd ["some", "n"] (spNthOf K) := by
  refine F.ok scNthOf (fun vs H Q E h => ?_) (fun cdv A outer s H vs Q E hr h => ?_)
  · obtain ⟨l, us, ps, n, rfl, _⟩ := h
    rfl
  · obtain ⟨l, us, ps, n, rfl, hl, hp, q⟩ := h
    refine ⟨_, pss_cons (ps_set (i := 2) scNthOf.nd rfl (.inl rfl) (pv 1))
      (pss_cons (ps_for PassesOwn.never rfl (pi_seq (pv 0)) (pg_tup rfl (pgs_cons (pg_name (i := 3) scNthOf.nd rfl (.inl rfl)) (pgs_cons (pg_name (i := 4) scNthOf.nd rfl (.inl rfl)) pgs_nil)))
        (pss_cons (ps_if (pt_cmpR op_le (pv 2) (pe_op op_sub (pv 4) (pv 3)) (nomark _)) (pss_one (ps_ret (pe_op op_add (pv 3) (pv 2)))) pss_nil)
        (pss_one (ps_aug (i := 2) scNthOf.nd rfl (.inl rfl) (pe_op op_add (pe_op op_sub (pv 4) (pv 3)) pe_int) ip_sub))))
      (pss_one (ps_ret pe_non))), ?_⟩
    refine ⟨_, rfl, .ref l, rfl, l, rfl, for_seq (xs := us) hl (fun i σ H1 => ∃ (a : Int) (y3 y4 : Option V), σ = [some (.ref l), some (.int n), some (.int a), y3, y4] ∧ H1 = H ∧ Q (oV (nthP a (ps.drop i))) H) ⟨n, none, none, rfl, rfl, q⟩
      (fun i σ H1 _ hP => ?_) (fun i x σ H1 hx hP => ?_) (fun σ H1 hP => ?_)⟩
    · obtain ⟨a, y3, y4, rfl, rfl, _⟩ := hP
      exact SqTo.refl
    · obtain ⟨a, y3, y4, rfl, rfl, q⟩ := hP
      obtain ⟨p, T, ep, rfl, eT⟩ := prs_at hp hx
      rw [drop_at ep] at q
      refine ⟨T, _, rfl, .inl (.inl eT), rfl, _, _, rfl, _, _, rfl, rfl, ?_⟩
      refine ⟨_, rfl, _, rfl, _, rfl, p.2, p.1, rfl, rfl, a, _, rfl, rfl, _, rfl, ite2 (fun e => ?_) (fun e => ?_)⟩
      · have e' := of_decide_eq_true e
        refine ⟨_, rfl, _, rfl, p.1, a, rfl, rfl, ?_⟩
        unfold nthP at q
        rw [if_pos e'] at q
        exact q
      · have e' : ¬ (a ≤ p.2 - p.1) := fun z => e (decide_eq_true z)
        refine ⟨_, rfl, _, rfl, _, rfl, p.2, p.1, rfl, rfl, _, _, rfl, rfl, a, _, rfl, rfl, _, _, _, rfl, rfl, ?_⟩
        unfold nthP at q
        rw [if_neg e'] at q
        exact q
    · obtain ⟨a, y3, y4, rfl, rfl, q⟩ := hP
      rw [hp.1, List.drop_length] at q
      exact q
end

/-! ### counts and places: the mathematics -/
theorem anyP_inS {n : Int} {ps : List (Int × Int)} : anyP (inB n) ps = true ↔ InS ps n := anyP_iff
theorem less_low {n : Int} : ∀ {ps : List (Int × Int)}, (∀ p ∈ ps, n ≤ p.1) → sumP (lessI n) ps = 0
  | [], _ => rfl
  | p :: r, h => by
    rw [sumP_cons, less_low fun q hq => h q (List.mem_cons_of_mem _ hq)]
    have h1 := h p (List.mem_cons_self ..)
    have : lessI n p.1 p.2 = 0 := by
      unfold lessI
      rw [if_neg]
      split <;> omega
    rw [this]
    rfl
theorem less_high {n : Int} : ∀ {ps : List (Int × Int)}, (∀ p ∈ ps, p.1 ≤ p.2 ∧ p.2 < n) → sumP (lessI n) ps = sumP cnt ps
  | [], _ => rfl
  | p :: r, h => by
    rw [sumP_cons, sumP_cons, less_high fun q hq => h q (List.mem_cons_of_mem _ hq)]
    have h1 := h p (List.mem_cons_self ..)
    have : lessI n p.1 p.2 = cnt p.1 p.2 := by
      unfold lessI cnt
      rw [if_pos]
      · split <;> omega
      · split <;> omega
    rw [this]
theorem less_pos {n : Int} : ∀ (ps : List (Int × Int)), 0 ≤ sumP (lessI n) ps
  | [] => Int.le_refl _
  | p :: r => by
    rw [sumP_cons]
    have := less_pos (n := n) r
    have : 0 ≤ lessI n p.1 p.2 := by unfold lessI; split <;> omega
    omega
theorem cnt_pos : ∀ {lo : Int} {ps : List (Int × Int)}, Ris lo ps → 0 ≤ sumP cnt ps
  | _, [], _ => Int.le_refl _
  | _, p :: r, h => by
    rw [sumP_cons]
    have := cnt_pos h.2.2
    have := h.2.1
    have : cnt p.1 p.2 = p.2 - p.1 + 1 := rfl
    omega
theorem low_of (ps : List (Int × Int)) : ∃ lo : Int, ∀ p ∈ ps, lo ≤ p.1 := by
  induction ps with
  | nil => exact ⟨0, fun _ z => nomatch z⟩
  | cons p r ih =>
    obtain ⟨lo, h⟩ := ih
    refine ⟨mnI lo p.1, fun q hq => ?_⟩
    rcases List.mem_cons.mp hq with z | z
    · rw [z]; exact mnI_le.mpr (.inr (Int.le_refl _))
    · exact mnI_le.mpr (.inl (h q z))
theorem high_of (ps : List (Int × Int)) : ∃ hi : Int, ∀ p ∈ ps, p.2 < hi := by
  induction ps with
  | nil => exact ⟨0, fun _ z => nomatch z⟩
  | cons p r ih =>
    obtain ⟨hi, h⟩ := ih
    refine ⟨mxI hi (p.2 + 1), fun q hq => ?_⟩
    have e1 : hi ≤ mxI hi (p.2 + 1) := le_mxI.mpr (.inl (Int.le_refl _))
    have e2 : p.2 + 1 ≤ mxI hi (p.2 + 1) := le_mxI.mpr (.inr (Int.le_refl _))
    rcases List.mem_cons.mp hq with z | z
    · rw [z]; omega
    · have := h q z; omega
/-- what both have together: as many as in either and in both -/
theorem cnt_both {ps qs us bs : List (Int × Int)} {l1 l2 l3 l4 : Int} (h1 : Ris l1 ps) (h2 : Ris l2 qs) (h3 : Ris l3 us) (h4 : Ris l4 bs) (hu : ∀ n, InS us n ↔ InS ps n ∨ InS qs n) (hb : ∀ n, InS bs n ↔ InS ps n ∧ InS qs n) :
    sumP cnt ps + sumP cnt qs = sumP cnt us + sumP cnt bs := by
  obtain ⟨a, ha⟩ := low_of (ps ++ (qs ++ (us ++ bs)))
  obtain ⟨b, hb'⟩ := high_of (ps ++ (qs ++ (us ++ bs)))
  have step : ∀ k : Nat, sumP (lessI (a + k)) ps + sumP (lessI (a + k)) qs = sumP (lessI (a + k)) us + sumP (lessI (a + k)) bs := by
    intro k
    induction k with
    | zero =>
      rw [show a + ((0 : Nat) : Int) = a by simp, less_low fun p hp => ha p (by simp [hp]), less_low fun p hp => ha p (by simp [hp]), less_low fun p hp => ha p (by simp [hp]), less_low fun p hp => ha p (by simp [hp])]
    | succ k ih =>
      rw [show a + ((k + 1 : Nat) : Int) = a + k + 1 by omega, less_step _ h1, less_step _ h2, less_step _ h3, less_step _ h4]
      have e1 := hu (a + k)
      have e2 := hb (a + k)
      rw [← anyP_inS, ← anyP_inS, ← anyP_inS] at e1 e2
      cases x1 : anyP (inB (a + k)) ps <;> cases x2 : anyP (inB (a + k)) qs <;> cases x3 : anyP (inB (a + k)) us <;> cases x4 : anyP (inB (a + k)) bs <;> rw [x1, x2, x3] at e1 <;> rw [x1, x2, x4] at e2 <;> simp at e1 e2 <;> simp <;> omega
  have hab : ∃ k : Nat, b ≤ a + k := ⟨(b - a).toNat, by omega⟩
  obtain ⟨k, hk⟩ := hab
  have s := step k
  rw [less_high fun p hp => ⟨(h1.le p hp).2, Int.lt_of_lt_of_le (hb' p (by simp [hp])) hk⟩, less_high fun p hp => ⟨(h2.le p hp).2, Int.lt_of_lt_of_le (hb' p (by simp [hp])) hk⟩,
    less_high fun p hp => ⟨(h3.le p hp).2, Int.lt_of_lt_of_le (hb' p (by simp [hp])) hk⟩, less_high fun p hp => ⟨(h4.le p hp).2, Int.lt_of_lt_of_le (hb' p (by simp [hp])) hk⟩] at s
  exact s
/-- the number at a place: so many are less -/
theorem nth_some : ∀ {lo k m : Int} {ps : List (Int × Int)}, Ris lo ps → 0 ≤ k → nthP k ps = some m → InS ps m ∧ sumP (lessI m) ps = k
  | _, _, _, [], _, _, e => nomatch e
  | lo, k, m, p :: r, h, hk, e => by
    unfold nthP at e
    rw [inS_cons, sumP_cons]
    have h2 := h.2.1
    by_cases c : k ≤ p.2 - p.1
    · rw [if_pos c] at e
      have em : m = p.1 + k := (Option.some.inj e).symm
      refine ⟨.inl (by omega), ?_⟩
      rw [less_low fun q hq => by have := h.2.2.le q hq; omega]
      unfold lessI
      split
      · split <;> omega
      · split at * <;> omega
    · rw [if_neg c] at e
      obtain ⟨g1, g2⟩ := nth_some h.2.2 (by omega) e
      have := h.2.2.low g1
      refine ⟨.inr g1, ?_⟩
      rw [g2]
      unfold lessI
      split
      · split <;> omega
      · split at * <;> omega
theorem nth_in : ∀ {lo n : Int} {ps : List (Int × Int)}, Ris lo ps → InS ps n → nthP (sumP (lessI n) ps) ps = some n
  | _, _, [], _, e => absurd e inS_nil
  | lo, n, p :: r, h, e => by
    have h2 := h.2.1
    rw [sumP_cons]
    rcases inS_cons.mp e with z | z
    · rw [less_low fun q hq => by have := h.2.2.le q hq; omega]
      have : lessI n p.1 p.2 = n - p.1 := by
        unfold lessI
        split
        · split <;> omega
        · split at * <;> omega
      rw [this]
      unfold nthP
      rw [if_pos (by omega)]
      congr 1
      omega
    · have := h.2.2.low z
      have e1 : lessI n p.1 p.2 = p.2 - p.1 + 1 := by
        unfold lessI
        split
        · split <;> omega
        · split at * <;> omega
      have := less_pos (n := n) r
      unfold nthP
      rw [if_neg (by omega), e1, show p.2 - p.1 + 1 + sumP (lessI n) r - (p.2 - p.1 + 1) = sumP (lessI n) r by omega]
      exact nth_in h.2.2 z
theorem nth_all : ∀ {lo : Int} {ps : List (Int × Int)}, Ris lo ps → nthP (sumP cnt ps) ps = none
  | _, [], _ => rfl
  | _, p :: r, h => by
    have := cnt_pos h.2.2
    have e : cnt p.1 p.2 = p.2 - p.1 + 1 := rfl
    rw [sumP_cons]
    unfold nthP
    rw [if_neg (by omega), show cnt p.1 p.2 + sumP cnt r - (p.2 - p.1 + 1) = sumP cnt r by omega]
    exact nth_all h.2.2

/-! ### set_of -/
abbrev LcR (J : It) (g : TG) (tt : TT) (te : TE) (vs : List Nat) (σ : L2.St) (D : Addr) (Qd : Addr → Hp → Prop) (H1 : Hp) : Prop := ∃ W : Nat → Nat → Hp → Prop, (∃ m, W 0 m (upd H1 D (.lst []))) ∧ ∀ i m H, W i m H →
  (J.stop i H ∧ Qd D H) ∨ (J.go i H ∧ ∃ Nx : Hp → Prop, (∀ H', Nx H' → ∃ m', m' < m ∧ W (i + 1) m' H') ∧ ∀ x H', J.yld i H x H' → g x (wipe σ vs) H' fun σ2 H2 => wipe σ2 vs = wipe σ vs ∧ tt σ2 H2 fun b H3 => if b = true then
    te σ2 H3 fun y H4 => ∃ acc, H4 D = some (.lst acc) ∧ acc.length < sizeLine ∧ Nx (upd H4 D (.lst (acc ++ [y]))) else Nx H3)
theorem lc_seq {K : PySem.W.Frag} {a : Addr} {xs : List V} {g : TG} {tt : TT} {te : TE} {vs : List Nat} {σ : L2.St} {H1 : Hp} {Qd : Addr → Hp → Prop} (hq : Sq K H1 a xs) (Pv : Addr → Nat → Hp → Prop) (h0 : ∀ D, H1 D = none → Pv D 0 (upd H1 D (.lst [])))
    (still : ∀ D i H', H1 D = none → Pv D i H' → SqTo K H1 H' a xs)
    (turn : ∀ D i x H', H1 D = none → xs[i]? = some x → Pv D i H' → g x (wipe σ vs) H' fun σ2 H2 => wipe σ2 vs = wipe σ vs ∧ tt σ2 H2 fun b H3 =>
      if b = true then te σ2 H3 fun y H4 => ∃ acc, H4 D = some (.lst acc) ∧ acc.length < sizeLine ∧ Pv D (i + 1) (upd H4 D (.lst (acc ++ [y]))) else Pv D (i + 1) H3) (fin : ∀ D H', H1 D = none → Pv D xs.length H' → Qd D H') :
    ((∃ xs, SqL K H1 a xs) ∧ ∀ D, H1 D = none → LcR (Itl K a) g tt te vs σ D Qd H1) ∨ ((∃ xs, SqT K H1 a xs) ∧ ∀ D, H1 D = none → LcR (Itt K a) g tt te vs σ D Qd H1) := by
  rcases hq with h | h
  · exact .inl ⟨⟨xs, h⟩, fun D nD => lc_list (xs := xs) (Pv D) (h0 D nD) (fun i H' _ p => (still D i H' nD p).1 h) (fun i x H' e p => turn D i x H' nD e p) (fun H' p => fin D H' nD p)⟩
  · exact .inr ⟨⟨xs, h⟩, fun D nD => lc_tup (xs := xs) (Pv D) (h0 D nD) (fun i H' _ p => (still D i H' nD p).2 h) (fun i x H' e p => turn D i x H' nD e p) (fun H' p => fin D H' nD p)⟩
theorem snoc_cases {α : Type} (l : List α) : l = [] ∨ ∃ l' x, l = l' ++ [x] := by
  rcases List.eq_nil_or_concat l with h | ⟨l', x, h⟩
  · exact .inl h
  · exact .inr ⟨l', x, by rw [h]; simp⟩
theorem _root_.GP.Prs.last {H : Hp} {us : List V} {ps : List (Int × Int)} {p : Int × Int} (h : Prs H us (ps ++ [p])) : ∃ us' T, us = us' ++ [.ref T] ∧ H T = some (.tup [.int p.1, .int p.2]) ∧ Prs H us' ps := by
  have hl := h.1
  rw [List.length_append] at hl
  rcases snoc_cases us with e | ⟨us', x, e⟩
  · rw [e] at hl
    simp at hl
  · subst e
    rw [List.length_append] at hl
    have hl' : us'.length = ps.length := Nat.add_right_cancel hl
    obtain ⟨T, e1, e2⟩ := h.2 ps.length p (by rw [List.getElem?_append_right (Nat.le_refl _), Nat.sub_self]; rfl)
    rw [List.getElem?_append_right (by omega), hl', Nat.sub_self] at e1
    refine ⟨us', T, by rw [Option.some.inj e1], e2, hl', fun i q eq => ?_⟩
    have hi : i < ps.length := (List.getElem?_eq_some_iff.mp eq).1
    obtain ⟨b, f1, f2⟩ := h.2 i q (by rw [List.getElem?_append_left hi]; exact eq)
    rw [List.getElem?_append_left (by omega)] at f1
    exact ⟨b, f1, f2⟩
/-- the pair that a tracked tuple holds -/
def pairOf (H : Hp) : V → Int × Int
  | .ref t => (match H t with
    | some (.tup [.int i, .int j]) => (i, j)
    | _ => (0, 0))
  | _ => (0, 0)
theorem pairOf_at {H : Hp} {t : Addr} {p : Int × Int} (e : H t = some (.tup [.int p.1, .int p.2])) : pairOf H (.ref t) = p := by
  show (match H t with | some (.tup [.int i, .int j]) => (i, j) | _ => (0, 0)) = p
  rw [e]
abbrev sSetOf : Stmt := topS 1
theorem scSetOf : FnScope ["pairs", "merged", "first", "last", "low", "high", "pair"] ["pairs"] (defScope sSetOf) := ⟨rfl, rfl, rfl, by decide +kernel, rfl, by decide +kernel, by decide +kernel⟩
def spSetOf (K : PySem.W.Frag) : Sp := fun vs H Q _ => ∃ (a : Addr) (us : List V) (ps : List (Int × Int)), vs = [.ref a] ∧ Sq K H a us ∧ Prs H us ps ∧ ps.length ≤ 900 ∧
  ∀ (l : Addr) (ws : List V) (rs : List (Int × Int)) H', H l = none → H' l = some (.lst ws) → Prs H' ws rs → SetLike ps rs → Same H H' → Q (.ref l) H'
section
variable {K : PySem.W.Frag} {mg : Str → Option Value} {P : Program} {w : World} {base : Heap}
theorem ok_setof {f : Addr} {fd : FuncData} {k : Nat} (F : Fun K "set_of" "set_of" sSetOf f fd) (mso : mg "sorted" = none) (mx : mg "max" = none) : FnOk P w K mg base CX0 (k + 1) f fd ["pairs"] (spSetOf K) := by
  refine F.ok scSetOf (fun vs H Q E h => ?_) (fun cdv A outer s H vs Q E hr h => ?_)
  · obtain ⟨a, us, ps, rfl, _⟩ := h
    rfl
  · obtain ⟨a, us, ps, rfl, hq, hp, hz, q⟩ := h
    refine ⟨_, pss_cons (ps_set (i := 1) scSetOf.nd rfl (.inl rfl) (pe_lst pa_nil))
      (pss_cons (ps_for PassesOwn.never rfl (pi_list (pe_callB cr_sortedPO (by rfl) mso (by decide +kernel) (pa_cons (pe_lc (own := [("pair", 6)]) (g := gName 6) (tt := tTest (tOp (rI0 fun i j => .bl (decide (i ≤ j))) (tOp (rIxT K) (tVar 6) (tC (.int 0))) (tOp (rIxT K) (tVar 6) (tC (.int 1))))) rfl scSetOf.nd (pi_seq (pv 0))
          (blkOk_by (own := [("pair", 6)]) (N := ["pairs", "merged", "first", "last", "low", "high", "pair"]) (sc := defScope sSetOf) (by decide +kernel))
          (fun _ _ _ _ _ => pg_name (i := 6) scSetOf.nd rfl (.inl rfl)) (fun _ _ _ _ _ => pts_one (pt_cmpR op_le (pe_ix ix_tup (pv 6) pe_int (fun _ _ => rfl)) (pe_ix ix_tup (pv 6) pe_int (fun _ _ => rfl)) (nomark _))) (fun _ _ _ _ _ => pv 6)) pa_nil)))
        (pg_tup rfl (pgs_cons (pg_name (i := 2) scSetOf.nd rfl (.inl rfl)) (pgs_cons (pg_name (i := 3) scSetOf.nd rfl (.inl rfl)) pgs_nil)))
        (pss_one (ps_if (PW.pt (pw_and (pt_truth (pv 1) (by intro _; rfl)) (pw_and1 (pt_cmpR op_le (pv 2) (pe_op op_add (pe_ix ix_tup (pe_ix ix_list (pv 1) (pe_un un_neg pe_int) (fun _ _ => rfl)) pe_int (fun _ _ => rfl)) pe_int) (nomark _)))))
          (pss_cons (ps_asg (pe_ix ix_list (pv 1) (pe_un un_neg pe_int) (fun _ _ => rfl)) (pg_tup rfl (pgs_cons (pg_name (i := 4) scSetOf.nd rfl (.inl rfl)) (pgs_cons (pg_name (i := 5) scSetOf.nd rfl (.inl rfl)) pgs_nil))))
          (pss_one (ps_asg (pe_tup (pa_cons (pv 4) (pa_cons (pe_callB (call_max2 rfl) (by rfl) mx (by decide +kernel) (pa_cons (pv 5) (pa_cons (pv 3) pa_nil))) pa_nil))) (pg_sub (pv 1) (pe_un un_neg pe_int) set_list))))
          (pss_one (ps_expr (pe_bm PySem.F.plainAttrs_list PySem.F.slot_list_append PySem.F.type_list_append mt_append (pv 1) (pa_cons (pe_tup (pa_cons (pv 2) (pa_cons (pv 3) pa_nil))) pa_nil)))))))
      (pss_one (ps_ret (pv 1)))), ?_⟩
    -- merged = []
    refine ⟨Nat.zero_le _, fun mg' nm => ?_⟩
    have s1 := same_upd (o := .lst []) nm
    have em1 : upd H mg' (.lst []) mg' = some (.lst []) := upd_same
    revert s1 em1
    generalize upd H mg' (.lst []) = H1
    intro s1 em1
    -- [pair for pair in pairs if ..]
    refine ⟨.ref a, rfl, a, rfl, lc_seq (xs := us) (hq.same s1) (fun D i H' => Same H1 H' ∧ ∃ ys, H' D = some (.lst ys) ∧ Prs H' ys ((ps.take i).filter fun p => decide (p.1 ≤ p.2)) ∧ ys.length ≤ i) (fun D nD => ⟨same_upd nD, [], upd_same, Prs.nil, Nat.le_refl _⟩)
      (fun D i H' nD hP => SqTo.same hP.1) (fun D i x H' nD hx hP => ?_) (fun D H2 nD hP => ?_)⟩
    · obtain ⟨sm, ys, eD, hys, hyl⟩ := hP
      obtain ⟨p, T, ep, rfl, eT⟩ := prs_at hp hx
      have hi : i < us.length := (List.getElem?_eq_some_iff.mp hx).1
      rw [hp.1] at hi
      have eT' := sm _ _ (s1 _ _ eT)
      refine ⟨rfl, _, rfl, T, _, 0, .int p.1, rfl, rfl, .inl (.inl eT'), atI_nat (j := 0) rfl, _, rfl, T, _, 1, .int p.2, rfl, rfl, .inl (.inl eT'), atI_nat (j := 1) rfl, p.1, p.2, rfl, rfl, _, rfl, ?_⟩
      have etake : (ps.take (i + 1)).filter (fun p => decide (p.1 ≤ p.2)) = (ps.take i).filter (fun p => decide (p.1 ≤ p.2)) ++ (if p.1 ≤ p.2 then [p] else []) := by
        rw [List.take_add_one, ep, List.filter_append]
        by_cases c : p.1 ≤ p.2
        · rw [if_pos c]; simp [c]
        · rw [if_neg c]; simp [c]
      refine ite2 (fun c => ?_) (fun c => ?_)
      · have c' := of_decide_eq_true c
        refine ⟨_, rfl, ys, eD, small1000 (by omega), fun b o e => ?_, _, upd_same, ?_, by rw [List.length_append]; show ys.length + 1 ≤ i + 1; omega⟩
        · rw [upd_ne (ne_of_none e nD)]
          exact sm b o e
        · rw [etake, if_pos c']
          exact (hys.snoc eT').upd_lst eD
      · have c' : ¬ p.1 ≤ p.2 := fun z => c (decide_eq_true z)
        refine ⟨sm, ys, eD, ?_, by omega⟩
        rw [etake, if_neg c', List.append_nil]
        exact hys
    · -- sorted
      obtain ⟨sm, ys, eD, hys, hyl⟩ := hP
      rw [hp.1, List.take_length] at hys
      refine ⟨D, ys, pairOf H2, rfl, SqL.of eD, fun x hx => ?_, fun zs g srt stb ng => ?_⟩
      · obtain ⟨i, hi, e⟩ := List.getElem_of_mem hx
        obtain ⟨p, T, _, rfl, eT⟩ := prs_at hys (by rw [List.getElem?_eq_getElem hi, e])
        exact ⟨T, rfl, by rw [pairOf_at eT]; exact eT⟩
      have sg := same_upd (o := .lst zs) ng
      have eg : upd H2 g (.lst zs) g = some (.lst zs) := upd_same
      have s3 : Same H (upd H2 g (.lst zs)) := (s1.trans sm).trans sg
      have em3 := sg _ _ (sm _ _ em1)
      -- the pairs of zs
      have each : ∀ x ∈ zs, ∃ T, x = .ref T ∧ H2 T = some (.tup [.int (pairOf H2 x).1, .int (pairOf H2 x).2]) := fun x hx => by
        obtain ⟨i, hi, e⟩ := List.getElem_of_mem (stb.perm.mem_iff.mp hx)
        obtain ⟨p, T, _, rfl, eT⟩ := prs_at hys (by rw [List.getElem?_eq_getElem hi, e])
        exact ⟨T, rfl, by rw [pairOf_at eT]; exact eT⟩
      have hzs : Prs H2 zs (zs.map (pairOf H2)) := ⟨by rw [List.length_map], fun i p e => by
        rw [List.getElem?_map] at e
        cases h : zs[i]? with
        | none => rw [h] at e; cases e
        | some x =>
          rw [h] at e
          cases e
          obtain ⟨T, rfl, eT⟩ := each x (List.mem_of_getElem? h)
          exact ⟨T, rfl, eT⟩⟩
      have hmap : ys.map (pairOf H2) = ps.filter fun p => decide (p.1 ≤ p.2) := by
        refine List.ext_getElem? fun i => ?_
        rw [List.getElem?_map]
        cases h : ys[i]? with
        | none =>
          have : (ps.filter fun p => decide (p.1 ≤ p.2))[i]? = none := by
            rw [List.getElem?_eq_none_iff] at h ⊢
            rw [← hys.1]
            exact h
          rw [this]
          rfl
        | some x =>
          obtain ⟨p, T, ep, rfl, eT⟩ := prs_at hys h
          rw [ep]
          show some (pairOf H2 (.ref T)) = some p
          rw [pairOf_at eT]
      have hperm : (zs.map (pairOf H2)).Perm (ps.filter fun p => decide (p.1 ≤ p.2)) := hmap ▸ stb.perm.map (pairOf H2)
      have hle : ∀ p ∈ zs.map (pairOf H2), p.1 ≤ p.2 := fun p hp' => by
        have := hperm.mem_iff.mp hp'
        exact of_decide_eq_true (List.mem_filter.mp this).2
      have hord : (zs.map (pairOf H2)).Pairwise fun x y => x.1 ≤ y.1 := by
        rw [List.pairwise_map]
        refine srt.imp fun {x y} h => ?_
        have := SrtO.lexB_no.mp h
        omega
      have hzl : zs.length ≤ 900 := by
        rw [stb.perm.length_eq, hys.1]
        exact Nat.le_trans (List.length_filter_le _ _) hz
      revert hzs hperm hle hord
      generalize zs.map (pairOf H2) = qs
      intro hzs hperm hle hord
      have hzs3 := hzs.same sg
      revert eg s3 em3 hzs3
      generalize upd H2 g (.lst zs) = H3
      intro eg s3 em3 hzs3
      have ngH : H g = none := (s1.trans sm).free ng
      have nmg : mg' ≠ g := ne_of_none (sm _ _ em1) ng
      -- the merging
      refine ⟨g, rfl, ⟨_, SqL.of eg⟩, for_list (xs := zs) (fun i σ H4 => ∃ (ms : List V) (rs : List (Int × Int)) (y2 y3 y4 y5 y6 : Option V), σ = [some (.ref a), some (.ref mg'), y2, y3, y4, y5, y6] ∧ Same H H4 ∧ H4 g = some (.lst zs) ∧ Prs H4 zs qs ∧ H4 mg' = some (.lst ms) ∧ Prs H4 ms rs ∧ Mrg (qs.take i) rs)
        ⟨[], [], _, _, _, _, _, rfl, s3, eg, hzs3, em3, Prs.nil, Mrg.nil⟩ (fun i σ H4 _ hP => ?_) (fun i x σ H4 hx hP => ?_) (fun σ H4 hP => ?_)⟩
      · obtain ⟨_, _, _, _, _, _, _, rfl, _, e, _⟩ := hP
        exact SqL.of e
      · obtain ⟨ms, rs, y2, y3, y4, y5, y6, rfl, sm4, eg4, hz4, em4, hms, m⟩ := hP
        obtain ⟨p, T, ep, rfl, eT⟩ := prs_at hz4 hx
        have hi : i < qs.length := (List.getElem?_eq_some_iff.mp ep).1
        have hp12 : p.1 ≤ p.2 := hle p (List.mem_of_getElem? ep)
        have ord : ∀ q ∈ qs.take i, q.1 ≤ p.1 := fun q hq' => by
          obtain ⟨j, hj, e⟩ := List.getElem_of_mem hq'
          rw [List.length_take] at hj
          rw [List.getElem_take] at e
          obtain ⟨_, e2⟩ := List.getElem?_eq_some_iff.mp ep
          rw [← e, ← e2]
          exact List.pairwise_iff_getElem.mp hord j i (by omega) hi (by omega)
        have etake : qs.take (i + 1) = qs.take i ++ [p] := by rw [List.take_add_one, ep]; rfl
        have hmsl : ms.length ≤ 900 := by
          have := m.len
          rw [List.length_take] at this
          have := hzs.1
          rw [hms.1]
          omega
        refine ⟨T, _, rfl, .inl (.inl eT), rfl, _, _, rfl, _, _, rfl, rfl, ?_⟩
        -- what a new tuple and a change of merged leave
        have grow : ∀ (T2 : Addr) (p2 : Int × Int) (ms2 : List V) (rs2 : List (Int × Int)), H4 T2 = none → Prs (upd H4 T2 (.tup [.int p2.1, .int p2.2])) ms2 rs2 →
            Same H (upd (upd H4 T2 (.tup [.int p2.1, .int p2.2])) mg' (.lst ms2)) ∧ upd (upd H4 T2 (.tup [.int p2.1, .int p2.2])) mg' (.lst ms2) g = some (.lst zs) ∧ Prs (upd (upd H4 T2 (.tup [.int p2.1, .int p2.2])) mg' (.lst ms2)) zs qs ∧ upd (upd H4 T2 (.tup [.int p2.1, .int p2.2])) mg' (.lst ms2) mg' = some (.lst ms2) ∧ Prs (upd (upd H4 T2 (.tup [.int p2.1, .int p2.2])) mg' (.lst ms2)) ms2 rs2 := by
          intro T2 p2 ms2 rs2 n2 h2
          have st := same_upd (o := .tup [.int p2.1, .int p2.2]) n2
          have em5 := st _ _ em4
          refine ⟨fun b o e => ?_, ?_, (hz4.same st).upd_lst em5, upd_same, h2.upd_lst em5⟩
          · rw [upd_ne (ne_of_none e nm)]
            exact st _ _ (sm4 _ _ e)
          · rw [upd_ne nmg.symm]
            exact st _ _ eg4
        -- append
        have app : (∀ r ∈ rs, r.2 + 2 ≤ p.1) → (tDrop (tBM K "list" rAppend (tVar 1) (tCons (tTup (tCons (tVar 2) (tCons (tVar 3) tNil))) tNil))) { nx := fun σ H4 => ∃ (ms : List V) (rs : List (Int × Int)) (y2 y3 y4 y5 y6 : Option V), σ = [some (.ref a), some (.ref mg'), y2, y3, y4, y5, y6] ∧ Same H H4 ∧ H4 g = some (.lst zs) ∧ Prs H4 zs qs ∧ H4 mg' = some (.lst ms) ∧ Prs H4 ms rs ∧ Mrg (qs.take (i + 1)) rs, rt := fun _ _ => False } [some (.ref a), some (.ref mg'), some (.int p.1), some (.int p.2), y4, y5, y6] H4 := by
          intro far
          refine ⟨.ref mg', rfl, .inl ⟨rfl, _, SqL.of em4⟩, _, rfl, _, rfl, (by show 2 ≤ sizeLine; decide), fun T2 n2 => ?_⟩
          have st := same_upd (o := .tup [.int p.1, .int p.2]) n2
          refine ⟨mg', _, _, rfl, rfl, st _ _ em4, small1000 (by omega), ?_⟩
          obtain ⟨g1, g2, g3, g4, g5⟩ := grow T2 p (ms ++ [.ref T2]) (rs ++ [p]) n2 ((hms.same st).snoc upd_same)
          exact ⟨_, _, _, _, _, _, _, rfl, g1, g2, g3, g4, g5, by rw [etake]; exact m.new hp12 ord far⟩
        rcases snoc_cases rs with e0 | ⟨rs', ⟨lo, hi'⟩, e0⟩
        · have e1 : ms = [] := List.eq_nil_of_length_eq_zero (by rw [hms.1, e0]; rfl)
          have em0 : H4 mg' = some (.lst []) := by rw [em4, e1]
          refine ⟨.ref mg', rfl, false, .inl ⟨[], SqL.of em0, rfl⟩, iteF (iteF ?_)⟩
          exact app (by rw [e0]; exact fun _ z => nomatch z)
        · subst e0
          obtain ⟨ms', T0, rfl, eT0, hms'⟩ := hms.last
          refine ⟨.ref mg', rfl, true, .inl ⟨_, SqL.of em4, by simp⟩, iteT ?_⟩
          refine ⟨_, rfl, .ref mg', rfl, 1, rfl, mg', _, -1, .ref T0, rfl, rfl, SqL.of em4, atI_last _ _, T0, _, 1, .int hi', rfl, rfl, .inl (.inl eT0), atI_nat (j := 1) rfl, hi', 1, rfl, rfl, p.1, _, rfl, rfl, _, rfl, ite2 (fun c => ?_) (fun c => ?_)⟩
          · have c' := of_decide_eq_true c
            refine ⟨.ref mg', rfl, 1, rfl, mg', _, -1, .ref T0, rfl, rfl, SqL.of em4, atI_last _ _, T0, _, rfl, .inl (.inl eT0), rfl, _, _, rfl, _, _, rfl, rfl, ?_⟩
            refine ⟨_, rfl, _, rfl, _, rfl, hi', p.2, rfl, (by show 2 ≤ sizeLine; decide), fun T2 n2 => ?_⟩
            have st := same_upd (o := .tup [.int lo, .int (if p.2 > hi' then p.2 else hi')]) n2
            have ei : ixN (ms' ++ [V.ref T0]).length (-1) = some ms'.length := by
              unfold ixN
              rw [if_neg (by decide), List.length_append, if_pos (by show -((ms'.length + 1 : Nat) : Int) ≤ -1; omega)]
              show some ((-1 : Int) + ((ms'.length + 1 : Nat) : Int)).toNat = _
              congr 1
              omega
            refine ⟨.ref mg', rfl, 1, rfl, mg', _, -1, ms'.length, rfl, rfl, st _ _ em4, ei, ?_⟩
            have es : (ms' ++ [V.ref T0]).set ms'.length (.ref T2) = ms' ++ [.ref T2] := by simp
            rw [es]
            obtain ⟨g1, g2, g3, g4, g5⟩ := grow T2 (lo, if p.2 > hi' then p.2 else hi') (ms' ++ [.ref T2]) (rs' ++ [(lo, if p.2 > hi' then p.2 else hi')]) n2 ((hms'.same st).snoc upd_same)
            exact ⟨_, _, _, _, _, _, _, rfl, g1, g2, g3, g4, g5, by rw [etake]; exact m.join hp12 ord c'⟩
          · have c' : ¬ p.1 ≤ hi' + 1 := fun z => c (decide_eq_true z)
            refine app fun r hr' => ?_
            obtain ⟨lo', hR⟩ := m.ris
            obtain ⟨_, h2, _, h4⟩ := Ris.front hR
            have h4' : lo ≤ hi' := h4
            rcases List.mem_append.mp hr' with y | y
            · have : r.2 + 2 ≤ lo := h2 r y
              omega
            · rw [List.mem_singleton.mp y]
              show hi' + 2 ≤ p.1
              omega
      · obtain ⟨ms, rs, y2, y3, y4, y5, y6, rfl, sm4, eg4, hz4, em4, hms, m⟩ := hP
        rw [hzs.1, List.take_length] at m
        refine ⟨_, rfl, q mg' ms rs H4 nm em4 hms ⟨m.ris, m.same.trans fun n => ?_, Nat.le_trans m.len (Nat.le_trans (Nat.le_of_eq hperm.length_eq) (List.length_filter_le _ _))⟩ sm4⟩
        constructor
        · rintro ⟨r, hr', e⟩
          exact ⟨r, (List.mem_filter.mp (hperm.mem_iff.mp hr')).1, e⟩
        · rintro ⟨r, hr', e⟩
          exact ⟨r, hperm.mem_iff.mpr (List.mem_filter.mpr ⟨hr', decide_eq_true (by omega)⟩), e⟩
end

/-! ### what stands where: pairs in a list or a tuple -/
def PrA (K : PySem.W.Frag) (H : Hp) (a : Addr) (ps : List (Int × Int)) : Prop := ∃ us, Sq K H a us ∧ Prs H us ps
def LsA (H : Hp) (a : Addr) (ps : List (Int × Int)) : Prop := ∃ us, H a = some (.lst us) ∧ Prs H us ps
theorem LsA.pr {K : PySem.W.Frag} {H : Hp} {a : Addr} {ps : List (Int × Int)} (h : LsA H a ps) : PrA K H a ps := let ⟨us, e, p⟩ := h; ⟨us, Sq.list e, p⟩
theorem LsA.same {H H' : Hp} {a : Addr} {ps : List (Int × Int)} (h : LsA H a ps) (s : Same H H') : LsA H' a ps := let ⟨us, e, p⟩ := h; ⟨us, s _ _ e, p.same s⟩
theorem PrA.same {K : PySem.W.Frag} {H H' : Hp} {a : Addr} {ps : List (Int × Int)} (h : PrA K H a ps) (s : Same H H') : PrA K H' a ps := let ⟨us, e, p⟩ := h; ⟨us, e.same s, p.same s⟩
theorem LsA.nil {H : Hp} {a : Addr} (e : H a = some (.lst [])) : LsA H a [] := ⟨[], e, Prs.nil⟩
theorem LsA.dp {K : PySem.W.Frag} {H : Hp} {a : Addr} {ps : List (Int × Int)} (h : LsA H a ps) : Dp K H (.ref a) (.list (ps.map pairD)) := let ⟨_, e, p⟩ := h; .lst (SqL.of e) (dp_prs p)
/-- a told set: a new list -/
def TellS (pr : Int → Prop) (m : Nat) (H : Hp) (Q : VK) : Prop := ∀ l rs H', H l = none → LsA H' l rs → Told pr rs → rs.length ≤ m → Same H H' → Q (.ref l) H'
theorem eqv_pr_nil (ps : List (Int × Int)) : PyData.eqv (PyData.list (ps.map pairD)) (PyData.list []) = ps.isEmpty := by
  cases ps with
  | nil => simp [PyData.eqv, PyData.eqvAll]
  | cons p r => simp [PyData.eqv, PyData.eqvAll]
def rIxS (K : PySem.W.Frag) : R2 := fun x y H Q => ∃ p xs i v, x = .ref p ∧ y = .int i ∧ Sq K H p xs ∧ atI xs i = some v ∧ Q v H
theorem ix_seq {X : Cx} : IxR X (rIxS X.K) := by
  intro value slice pins s σ H x y v u Q I rx ry h hs
  obtain ⟨p, xs, i, z, e1, e2, hq, he, q⟩ := h
  rcases hq with hq | hq
  · exact ix_list value slice pins s σ H x y v u Q I rx ry ⟨p, xs, i, z, e1, e2, hq, he, q⟩ hs
  · exact ix_tup value slice pins s σ H x y v u Q I rx ry ⟨p, xs, i, z, e1, e2, hq, he, q⟩ hs
/-! ### either -/
abbrev sEither : Stmt := topS 2
theorem scEither : FnScope ["one", "other"] ["one", "other"] (defScope sEither) := ⟨rfl, rfl, rfl, by decide +kernel, rfl, by decide +kernel, by decide +kernel⟩
def spEither (K : PySem.W.Frag) : Sp := fun vs H Q _ => ∃ (a b : Addr) (ps qs : List (Int × Int)), vs = [.ref a, .ref b] ∧ PrA K H a ps ∧ PrA K H b qs ∧ ps.length + qs.length ≤ 900 ∧ TellS (fun n => InS ps n ∨ InS qs n) (ps.length + qs.length) H Q
section
variable {K : PySem.W.Frag} {mg : Str → Option Value} {P : Program} {w : World} {base : Heap}
theorem ok_either {f : Addr} {fd : FuncData} (F : Fun K "either" "either" sEither f fd) (CO : Cal P w K mg base 1 "set_of" ["pairs"] (spSetOf K)) : FnOk P w K mg base CX0 2 f fd ["one", "other"] (spEither K) := by
  refine F.ok scEither (fun vs H Q E h => ?_) (fun cdv A outer s H vs Q E hr h => ?_)
  · obtain ⟨a, b, ps, qs, rfl, _⟩ := h
    rfl
  · obtain ⟨a, b, ps, qs, rfl, ⟨us, ha, hps⟩, ⟨ws, hb, hqs⟩, hz, q⟩ := h
    refine ⟨_, pss_one (ps_ret (pe_own CO hr (by rfl) (pa_cons (pe_lst (StX.pa_star (pv 0) (StX.pa_star (pv 1) pa_nil))) pa_nil))), ?_⟩
    have el : (us ++ (ws ++ [])).length ≤ 900 := by
      rw [List.append_nil, List.length_append, hps.1, hqs.1]
      exact hz
    refine ⟨_, rfl, a, us, rfl, ha.symm, _, rfl, b, ws, rfl, hb.symm, Nat.le_of_lt (small1000 (Nat.le_trans el (by decide))), fun l nl => ?_⟩
    have sl := same_upd (o := .lst (us ++ (ws ++ []))) nl
    have hp : Prs (upd H l (.lst (us ++ (ws ++ [])))) (us ++ (ws ++ [])) (ps ++ qs) := by
      have z := ((hps.append hqs).same sl)
      rw [List.append_nil] at *
      exact z
    refine ⟨l, _, ps ++ qs, rfl, Sq.list upd_same, hp, by rw [List.length_append]; exact hz, fun l2 w2 rs H2 n2 e2 hrs hset s2 => ?_⟩
    exact q l2 rs H2 (sl.free n2) ⟨_, e2, hrs⟩ (hset.told.cong fun n => inS_append) (by have := hset.len; rwa [List.length_append] at this) (sl.trans s2)
end
/-! ### both_of -/
abbrev sBoth : Stmt := topS 3
theorem scBoth : FnScope ["one", "other", "shared", "at", "to", "first", "last"] ["one", "other"] (defScope sBoth) := ⟨rfl, rfl, rfl, by decide +kernel, rfl, by decide +kernel, by decide +kernel⟩
def spBoth (K : PySem.W.Frag) : Sp := fun vs H Q _ => ∃ (a b : Addr) (ps qs : List (Int × Int)), vs = [.ref a, .ref b] ∧ PrA K H a ps ∧ PrA K H b qs ∧ (∃ lo, Ris lo ps) ∧ (∃ lo, Ris lo qs) ∧ ps.length + qs.length ≤ 900 ∧ TellS (fun n => InS ps n ∧ InS qs n) (ps.length + qs.length) H Q
/-- between two turns -/
def BothW (H : Hp) (a b sh : Addr) (ps qs : List (Int × Int)) (m : Nat) (σ : L2.St) (H1 : Hp) : Prop := ∃ (i j : Nat) (ms : List V) (rs : List (Int × Int)) (y5 y6 : Option V), σ = [some (.ref a), some (.ref b), some (.ref sh), some (.int i), some (.int j), y5, y6] ∧ m = (ps.length - i) + (qs.length - j) ∧ i ≤ ps.length ∧ j ≤ qs.length ∧ Same H H1 ∧
  H1 sh = some (.lst ms) ∧ Prs H1 ms rs ∧ rs.length ≤ i + j ∧ rs ++ bothF (ps.drop i) (qs.drop j) = bothF ps qs
section
variable {K : PySem.W.Frag} {mg : Str → Option Value} {P : Program} {w : World} {base : Heap}
theorem ok_both {f : Addr} {fd : FuncData} {k : Nat} (F : Fun K "both_of" "both_of" sBoth f fd) (ml : mg "len" = none) (mx : mg "max" = none) (mn : mg "min" = none) : FnOk P w K mg base CX0 (k + 1) f fd ["one", "other"] (spBoth K) := by
  refine F.ok scBoth (fun vs H Q E h => ?_) (fun cdv A outer s H vs Q E hr h => ?_)
  · obtain ⟨a, b, ps, qs, rfl, _⟩ := h
    rfl
  · obtain ⟨a, b, ps, qs, rfl, ⟨us, ha, hps⟩, ⟨ws, hb, hqs⟩, ⟨lo, hr1⟩, ⟨lo', hr2⟩, hz, q⟩ := h
    refine ⟨_, pss_cons (ps_set (i := 2) scBoth.nd rfl (.inl rfl) (pe_lst pa_nil))
      (pss_cons (ps_set (i := 3) scBoth.nd rfl (.inl rfl) pe_int)
      (pss_cons (ps_set (i := 4) scBoth.nd rfl (.inl rfl) pe_int)
      (pss_cons (ps_while PassesOwn.never (PW.pt (pw_and (pt_cmpR op_lt (pv 3) (pe_callB call_len_seq (by rfl) ml PySem.boot_len (pa_cons (pv 0) pa_nil)) (nomark _)) (pw_and1 (pt_cmpR op_lt (pv 4) (pe_callB call_len_seq (by rfl) ml PySem.boot_len (pa_cons (pv 1) pa_nil)) (nomark _)))))
        (pss_cons (ps_set (i := 5) scBoth.nd rfl (.inl rfl) (pe_callB (call_max2 rfl) (by rfl) mx (by decide +kernel) (pa_cons (pe_ix ix_tup (pe_ix ix_seq (pv 0) (pv 3) (fun _ _ => rfl)) pe_int (fun _ _ => rfl)) (pa_cons (pe_ix ix_tup (pe_ix ix_seq (pv 1) (pv 4) (fun _ _ => rfl)) pe_int (fun _ _ => rfl)) pa_nil))))
        (pss_cons (ps_set (i := 6) scBoth.nd rfl (.inl rfl) (pe_callB (call_min2 rfl) (by rfl) mn (by decide +kernel) (pa_cons (pe_ix ix_tup (pe_ix ix_seq (pv 0) (pv 3) (fun _ _ => rfl)) pe_int (fun _ _ => rfl)) (pa_cons (pe_ix ix_tup (pe_ix ix_seq (pv 1) (pv 4) (fun _ _ => rfl)) pe_int (fun _ _ => rfl)) pa_nil))))
        (Evl.pss_cut (ps_if (pt_cmpR op_le (pv 5) (pv 6) (nomark _)) (pss_one (ps_expr (pe_bm PySem.F.plainAttrs_list PySem.F.slot_list_append PySem.F.type_list_append mt_append (pv 2) (pa_cons (pe_tup (pa_cons (pv 5) (pa_cons (pv 6) pa_nil))) pa_nil)))) pss_nil)
        (pss_one (ps_if (pt_cmpR op_lt (pe_ix ix_tup (pe_ix ix_seq (pv 0) (pv 3) (fun _ _ => rfl)) pe_int (fun _ _ => rfl)) (pe_ix ix_tup (pe_ix ix_seq (pv 1) (pv 4) (fun _ _ => rfl)) pe_int (fun _ _ => rfl)) (nomark _))
          (pss_one (ps_aug (i := 3) scBoth.nd rfl (.inl rfl) pe_int ip_add)) (pss_one (ps_aug (i := 4) scBoth.nd rfl (.inl rfl) pe_int ip_add))))))))
      (pss_one (ps_ret (pv 2)))))), ?_⟩
    refine ⟨Nat.zero_le _, fun sh nsh => ?_⟩
    have s0 := same_upd (o := .lst []) nsh
    have hl1 := hps.1
    have hl2 := hqs.1
    refine ⟨BothW H a b sh ps qs, ⟨_, 0, 0, [], [], none, none, rfl, rfl, Nat.zero_le _, Nat.zero_le _, s0, upd_same, Prs.nil, Nat.le_refl _, rfl⟩, fun m σ H1 hW => ?_⟩
    obtain ⟨i, j, ms, rs, y5, y6, rfl, rfl, hi, hj, sm, esh, hms, hrl, hbo⟩ := hW
    have ha1 := ha.same sm
    have hb1 := hb.same sm
    -- the end: nothing is left of one
    have fin : bothF (ps.drop i) (qs.drop j) = [] → Q (.ref sh) H1 := by
      intro e
      rw [e, List.append_nil] at hbo
      subst hbo
      exact q sh (bothF ps qs) H1 nsh ⟨ms, esh, hms⟩ ⟨⟨lo, bothF_ris hr1 hr2 (.inl (Int.le_refl _))⟩, fun n => bothF_in hr1 hr2⟩ (by omega) sm
    refine ⟨_, rfl, _, rfl, a, us, rfl, ha1, (i : Int), (us.length : Int), rfl, rfl, _, rfl, ite2 (fun c1 => ?_) (fun c1 => ?_)⟩
    · have c1' := of_decide_eq_true c1
      refine ⟨_, rfl, _, rfl, b, ws, rfl, hb1, (j : Int), (ws.length : Int), rfl, rfl, _, rfl, ite2 (fun c2 => ?_) (fun c2 => ?_)⟩
      · have c2' := of_decide_eq_true c2
        have hi' : i < ps.length := by omega
        have hj' : j < qs.length := by omega
        obtain ⟨T1, g1, e1⟩ := hps.2 i ps[i] (List.getElem?_eq_getElem hi')
        obtain ⟨T2, g2, e2⟩ := hqs.2 j qs[j] (List.getElem?_eq_getElem hj')
        have ed1 := drop_at (List.getElem?_eq_getElem hi')
        have ed2 := drop_at (List.getElem?_eq_getElem hj')
        revert e1 e2 ed1 ed2
        generalize ps[i] = p
        generalize qs[j] = r
        intro e1 e2 ed1 ed2
        have f1 := sm _ _ e1
        have f2 := sm _ _ e2
        rw [ed1, ed2, bothF] at hbo
        refine ⟨fun σ' H' => ∃ m', m' < (ps.length - i) + (qs.length - j) ∧ BothW H a b sh ps qs m' σ' H', fun σ' H' h => h, ?_⟩
        -- first, last
        refine ⟨_, rfl, _, rfl, a, us, i, .ref T1, rfl, rfl, ha1, atI_nat g1, T1, _, 0, .int p.1, rfl, rfl, .inl (.inl f1), atI_nat (j := 0) rfl, _, rfl, _, rfl, b, ws, j, .ref T2, rfl, rfl, hb1, atI_nat g2, T2, _, 0, .int r.1, rfl, rfl, .inl (.inl f2), atI_nat (j := 0) rfl, p.1, r.1, rfl, ?_⟩
        refine ⟨_, rfl, _, rfl, a, us, i, .ref T1, rfl, rfl, ha1, atI_nat g1, T1, _, 1, .int p.2, rfl, rfl, .inl (.inl f1), atI_nat (j := 1) rfl, _, rfl, _, rfl, b, ws, j, .ref T2, rfl, rfl, hb1, atI_nat g2, T2, _, 1, .int r.2, rfl, rfl, .inl (.inl f2), atI_nat (j := 1) rfl, p.2, r.2, rfl, ?_⟩
        refine ⟨fun σ' H2 => ∃ ms2 rs2, σ' = [some (.ref a), some (.ref b), some (.ref sh), some (.int i), some (.int j), some (.int (mxI p.1 r.1)), some (.int (mnI p.2 r.2))] ∧ Same H H2 ∧ H2 sh = some (.lst ms2) ∧ Prs H2 ms2 rs2 ∧ rs2.length ≤ i + j + 1 ∧
          rs2 ++ (if p.2 < r.2 then bothF (ps.drop (i + 1)) (r :: qs.drop (j + 1)) else bothF (p :: ps.drop (i + 1)) (qs.drop (j + 1))) = bothF ps qs, ?_, fun σ' H2 hM => ?_⟩
        · refine ⟨_, rfl, _, rfl, mxI p.1 r.1, mnI p.2 r.2, rfl, rfl, _, rfl, ite2 (fun c => ?_) (fun c => ?_)⟩
          · have c' := of_decide_eq_true c
            rw [if_pos c', ← List.append_assoc] at hbo
            refine ⟨_, rfl, .inl ⟨rfl, _, SqL.of esh⟩, _, rfl, _, rfl, (by show 2 ≤ sizeLine; decide), fun T nT => ?_⟩
            have sT := same_upd (o := .tup [.int (mxI p.1 r.1), .int (mnI p.2 r.2)]) nT
            refine ⟨sh, _, _, rfl, rfl, sT _ _ esh, small1000 (by have := hms.1; omega), ?_⟩
            refine ⟨_, _, rfl, fun b o e => ?_, upd_same, ((hms.same sT).snoc upd_same).upd_lst (sT _ _ esh), by rw [List.length_append]; exact Nat.add_le_add_right hrl 1, hbo⟩
            rw [upd_ne (ne_of_none e nsh)]
            exact sT _ _ (sm b o e)
          · have c' : ¬ mxI p.1 r.1 ≤ mnI p.2 r.2 := fun z => c (decide_eq_true z)
            rw [if_neg c', List.nil_append] at hbo
            exact ⟨ms, rs, rfl, sm, esh, hms, by omega, hbo⟩
        · obtain ⟨ms2, rs2, rfl, sm2, esh2, hms2, hl3, hb3⟩ := hM
          have ha2 := ha.same sm2
          have hb2 := hb.same sm2
          have f1' := sm2 _ _ e1
          have f2' := sm2 _ _ e2
          refine ⟨_, rfl, _, rfl, a, us, i, .ref T1, rfl, rfl, ha2, atI_nat g1, T1, _, 1, .int p.2, rfl, rfl, .inl (.inl f1'), atI_nat (j := 1) rfl, _, rfl, _, rfl, b, ws, j, .ref T2, rfl, rfl, hb2, atI_nat g2, T2, _, 1, .int r.2, rfl, rfl, .inl (.inl f2'), atI_nat (j := 1) rfl, p.2, r.2, rfl, rfl, _, rfl, ite2 (fun c => ?_) (fun c => ?_)⟩
          · have c' := of_decide_eq_true c
            rw [if_pos c', ← ed2] at hb3
            exact ⟨_, rfl, (i : Int), 1, rfl, rfl, _, by omega, i + 1, j, ms2, rs2, _, _, rfl, rfl, by omega, hj, sm2, esh2, hms2, by omega, hb3⟩
          · have c' : ¬ p.2 < r.2 := fun z => c (decide_eq_true z)
            rw [if_neg c', ← ed1] at hb3
            exact ⟨_, rfl, (j : Int), 1, rfl, rfl, _, by omega, i, j + 1, ms2, rs2, _, _, rfl, rfl, hi, by omega, sm2, esh2, hms2, by omega, hb3⟩
      · have c' : ¬ (j : Int) < ws.length := fun z => c2 (decide_eq_true z)
        refine ⟨_, rfl, fin ?_⟩
        rw [List.drop_eq_nil_of_le (by omega : qs.length ≤ j)]
        exact bothF_nil _
    · have c' : ¬ (i : Int) < us.length := fun z => c1 (decide_eq_true z)
      refine ⟨_, rfl, fin ?_⟩
      rw [List.drop_eq_nil_of_le (by omega : ps.length ≤ i), bothF]
end
/-- a walk over what stood before a list was begun -/
theorem for_seqS {K : PySem.W.Frag} {a : Addr} {xs : List V} {g : TG} {tb : TS} {D : Ends} {σ : L2.St} {H0 H1 : Hp} (hq : Sq K H0 a xs) (s1 : Same H0 H1) (Pv : Nat → L2.St → Hp → Prop) (h0 : Pv 0 σ H1)
    (hl : ∀ i σ H', Pv i σ H' → Same H0 H')
    (turn : ∀ i x σ H, xs[i]? = some x → Pv i σ H → g x σ H fun σ2 H2 => tb { D with nx := Pv (i + 1), ct := Pv (i + 1), bk := D.nx } σ2 H2) (fin : ∀ σ H, Pv xs.length σ H → D.nx σ H) :
    ((∃ xs, SqL K H1 a xs) ∧ ForR (Itl K a) g tb D σ H1) ∨ ((∃ xs, SqT K H1 a xs) ∧ ForR (Itt K a) g tb D σ H1) := by
  rcases hq with h | h
  · exact .inl ⟨⟨xs, s1.seq h⟩, for_list (xs := xs) Pv h0 (fun i σ H' _ p => (hl i σ H' p).seq h) turn fin⟩
  · exact .inr ⟨⟨xs, same_t s1 h⟩, for_tup (xs := xs) Pv h0 (fun i σ H' _ p => same_t (hl i σ H' p) h) turn fin⟩
/-! ### gaps_of -/
abbrev sGaps : Stmt := topS 4
theorem scGaps : FnScope ["some", "begin", "end", "gaps", "start", "first", "last"] ["some", "begin", "end"] (defScope sGaps) := ⟨rfl, rfl, rfl, by decide +kernel, rfl, by decide +kernel, by decide +kernel⟩
def spGaps (K : PySem.W.Frag) : Sp := fun vs H Q _ => ∃ (a : Addr) (qs : List (Int × Int)) (x y : Int), vs = [.ref a, .int x, .int y] ∧ PrA K H a qs ∧ (∃ lo, Ris lo qs) ∧ qs.length ≤ 800 ∧ TellS (fun n => (x ≤ n ∧ n ≤ y) ∧ ¬ InS qs n) (qs.length + 1) H Q
section
variable {K : PySem.W.Frag} {mg : Str → Option Value} {P : Program} {w : World} {base : Heap}
theorem ok_gaps {f : Addr} {fd : FuncData} (F : Fun K "gaps_of" "gaps_of" sGaps f fd) (CO : Cal P w K mg base 1 "set_of" ["pairs"] (spSetOf K)) (mx : mg "max" = none) (mn : mg "min" = none) : FnOk P w K mg base CX0 2 f fd ["some", "begin", "end"] (spGaps K) := by
  refine F.ok scGaps (fun vs H Q E h => ?_) (fun cdv A outer s H vs Q E hr h => ?_)
  · obtain ⟨a, qs, x, y, rfl, _⟩ := h
    rfl
  · obtain ⟨a, qs, x, y, rfl, ⟨ws, hb, hqs⟩, ⟨lo, hr2⟩, hz, q⟩ := h
    refine ⟨_, pss_cons (ps_set (i := 3) scGaps.nd rfl (.inl rfl) (pe_lst pa_nil))
      (pss_cons (ps_set (i := 4) scGaps.nd rfl (.inl rfl) (pv 1))
      (pss_cons (ps_for PassesOwn.never rfl (pi_seq (pv 0)) (pg_tup rfl (pgs_cons (pg_name (i := 5) scGaps.nd rfl (.inl rfl)) (pgs_cons (pg_name (i := 6) scGaps.nd rfl (.inl rfl)) pgs_nil)))
        (pss_cons (ps_expr (pe_bm PySem.F.plainAttrs_list PySem.F.slot_list_append PySem.F.type_list_append mt_append (pv 3) (pa_cons (pe_tup (pa_cons (pv 4) (pa_cons (pe_callB (call_min2 rfl) (by rfl) mn (by decide +kernel) (pa_cons (pe_op op_sub (pv 5) pe_int) (pa_cons (pv 2) pa_nil))) pa_nil))) pa_nil)))
        (pss_one (ps_set (i := 4) scGaps.nd rfl (.inl rfl) (pe_callB (call_max2 rfl) (by rfl) mx (by decide +kernel) (pa_cons (pv 4) (pa_cons (pe_op op_add (pv 6) pe_int) pa_nil)))))))
      (pss_cons (ps_expr (pe_bm PySem.F.plainAttrs_list PySem.F.slot_list_append PySem.F.type_list_append mt_append (pv 3) (pa_cons (pe_tup (pa_cons (pv 4) (pa_cons (pv 2) pa_nil))) pa_nil)))
      (pss_one (ps_ret (pe_own CO hr (by rfl) (pa_cons (pv 3) pa_nil))))))), ?_⟩
    refine ⟨Nat.zero_le _, fun g ng => ?_⟩
    have s0 := same_upd (o := .lst []) ng
    have hl2 := hqs.1
    refine ⟨_, rfl, .ref a, rfl, a, rfl, for_seqS (xs := ws) hb s0 (fun i σ H1 => ∃ (st : Int) (ms : List V) (rs : List (Int × Int)) (y5 y6 : Option V), σ = [some (.ref a), some (.int x), some (.int y), some (.ref g), some (.int st), y5, y6] ∧ Same H H1 ∧ H1 g = some (.lst ms) ∧ Prs H1 ms rs ∧ rs.length = i ∧ rs ++ gapsF y st (qs.drop i) = gapsF y x qs)
      ⟨x, [], [], none, none, rfl, s0, upd_same, Prs.nil, rfl, rfl⟩ (fun i σ H1 hP => ?_) (fun i v σ H1 hv hP => ?_) (fun σ H1 hP => ?_)⟩
    · obtain ⟨_, _, _, _, _, rfl, sm, _⟩ := hP
      exact sm
    · obtain ⟨st, ms, rs, y5, y6, rfl, sm, eg, hms, hrl, hgf⟩ := hP
      obtain ⟨p, T, ep, rfl, eT⟩ := prs_at hqs hv
      have eT1 := sm _ _ eT
      have hi : i < qs.length := (List.getElem?_eq_some_iff.mp ep).1
      rw [drop_at ep, gapsF] at hgf
      refine ⟨T, _, rfl, .inl (.inl eT1), rfl, _, _, rfl, _, _, rfl, rfl, ?_⟩
      refine ⟨_, rfl, .inl ⟨rfl, _, SqL.of eg⟩, _, rfl, _, rfl, p.1, 1, rfl, rfl, _, rfl, p.1 - 1, y, rfl, (by show 2 ≤ sizeLine; decide), fun T2 n2 => ?_⟩
      have sT := same_upd (o := .tup [.int st, .int (mnI (p.1 - 1) y)]) n2
      refine ⟨g, _, _, rfl, rfl, sT _ _ eg, small1000 (by have := hms.1; omega), ?_⟩
      refine ⟨_, rfl, _, rfl, p.2, 1, rfl, rfl, st, p.2 + 1, rfl, mxI st (p.2 + 1), _, rs ++ [(st, mnI (p.1 - 1) y)], _, _, rfl, fun b o e => ?_, upd_same, ((hms.same sT).snoc upd_same).upd_lst (sT _ _ eg), by rw [List.length_append, hrl]; rfl, by rw [List.append_assoc]; exact hgf⟩
      rw [upd_ne (ne_of_none e ng)]
      exact sT _ _ (sm b o e)
    · obtain ⟨st, ms, rs, y5, y6, rfl, sm, eg, hms, hrl, hgf⟩ := hP
      rw [hl2, List.drop_length, gapsF] at hgf
      refine ⟨_, rfl, .inl ⟨rfl, _, SqL.of eg⟩, _, rfl, _, rfl, (by show 2 ≤ sizeLine; decide), fun T2 n2 => ?_⟩
      have sT := same_upd (o := .tup [.int st, .int y]) n2
      refine ⟨g, _, _, rfl, rfl, sT _ _ eg, small1000 (by have := hms.1; omega), ?_⟩
      have hp : Prs (upd (upd H1 T2 (.tup [.int st, .int y])) g (.lst (ms ++ [.ref T2]))) (ms ++ [.ref T2]) (gapsF y x qs) := by
        rw [← hgf]
        exact ((hms.same sT).snoc upd_same).upd_lst (sT _ _ eg)
      have s3 : Same H (upd (upd H1 T2 (.tup [.int st, .int y])) g (.lst (ms ++ [.ref T2]))) := fun b o e => by
        rw [upd_ne (ne_of_none e ng)]
        exact sT _ _ (sm b o e)
      refine ⟨_, rfl, g, _, _, rfl, Sq.list upd_same, hp, by rw [gapsF_length]; omega, fun l2 w2 rs2 H2 nl2 e2 hrs hset s2 => ?_⟩
      exact q l2 rs2 H2 (s3.free nl2) ⟨_, e2, hrs⟩ (hset.told.cong fun n => gapsF_in hr2) (by have := hset.len; rwa [gapsF_length] at this) (s3.trans s2)
end
/-! ### without -/
theorem Ris.upto : ∀ {lo n : Int} {ps : List (Int × Int)} {p : Int × Int}, Ris lo (ps ++ [p]) → InS (ps ++ [p]) n → n ≤ p.2 := by
  intro lo n ps p h e
  obtain ⟨h1, h2, h3, h4⟩ := Ris.front h
  rcases inS_append.mp e with z | z
  · obtain ⟨q, hq, z1, z2⟩ := z
    have := h2 q hq
    omega
  · rcases inS_cons.mp z with y | y
    · exact y.2
    · exact absurd y inS_nil
abbrev sWithout : Stmt := topS 5
theorem scWithout : FnScope ["one", "other"] ["one", "other"] (defScope sWithout) := ⟨rfl, rfl, rfl, by decide +kernel, rfl, by decide +kernel, by decide +kernel⟩
def spWithout (K : PySem.W.Frag) : Sp := fun vs H Q _ => ∃ (a b : Addr) (ps qs : List (Int × Int)), vs = [.ref a, .ref b] ∧ PrA K H a ps ∧ PrA K H b qs ∧ (∃ lo, Ris lo ps) ∧ (∃ lo, Ris lo qs) ∧ ps.length + qs.length ≤ 800 ∧ TellS (fun n => InS ps n ∧ ¬ InS qs n) (ps.length + qs.length + 1) H Q
section
variable {K : PySem.W.Frag} {mg : Str → Option Value} {P : Program} {w : World} {base : Heap}
theorem ok_without {f : Addr} {fd : FuncData} (F : Fun K "without" "without" sWithout f fd) (CA : Cal P w K mg base 1 "both_of" ["one", "other"] (spBoth K)) (CG : Cal P w K mg base 2 "gaps_of" ["some", "begin", "end"] (spGaps K)) : FnOk P w K mg base CX0 3 f fd ["one", "other"] (spWithout K) := by
  refine F.ok scWithout (fun vs H Q E h => ?_) (fun cdv A outer s H vs Q E hr h => ?_)
  · obtain ⟨a, b, ps, qs, rfl, _⟩ := h
    rfl
  · obtain ⟨a, b, ps, qs, rfl, ⟨us, ha, hps⟩, hb, ⟨lo, hr1⟩, hr2, hz, q⟩ := h
    have hr1' := hr.mono (show 1 ≤ 2 by decide)
    refine ⟨_, pss_cons (ps_if (pt_not (pt_truth (pv 0) (by intro _; rfl))) (pss_one (ps_ret (pe_lst pa_nil))) pss_nil)
      (pss_one (ps_ret (pe_own CA hr1' (by rfl) (pa_cons (pv 0) (pa_cons (pe_own CG hr (by rfl) (pa_cons (pv 1) (pa_cons (pe_ix ix_tup (pe_ix ix_seq (pv 0) pe_int (fun _ _ => rfl)) pe_int (fun _ _ => rfl)) (pa_cons (pe_ix ix_tup (pe_ix ix_seq (pv 0) (pe_un un_neg pe_int) (fun _ _ => rfl)) pe_int (fun _ _ => rfl)) pa_nil)))) pa_nil))))), ?_⟩
    have tru : ∀ k, k = (!us.isEmpty) → TruV K (.ref a) H k := fun k e => ha.elim (fun h => .inl ⟨us, h, e⟩) fun h => .inr (.inl ⟨us, h, e⟩)
    rcases snoc_cases ps with e0 | ⟨ps', p, e0⟩
    · have e1 : us = [] := List.eq_nil_of_length_eq_zero (by rw [hps.1, e0]; rfl)
      subst e0 e1
      refine ⟨_, rfl, false, tru _ rfl, iteT ?_⟩
      refine ⟨Nat.zero_le _, fun l nl => ?_⟩
      exact q l [] _ nl (LsA.nil upd_same) ⟨⟨0, True.intro⟩, fun n => ⟨fun z => absurd z inS_nil, fun z => z.1⟩⟩ (Nat.zero_le _) (same_upd nl)
    · subst e0
      obtain ⟨us', T0, eus, eT0, hus'⟩ := hps.last
      have hne : us.isEmpty = false := by rw [eus]; simp
      refine ⟨_, rfl, true, tru _ (by rw [hne]; rfl), iteF ?_⟩
      obtain ⟨p0, ep0⟩ : ∃ p0, (ps' ++ [p])[0]? = some p0 := by
        cases ps' with
        | nil => exact ⟨p, rfl⟩
        | cons x r => exact ⟨x, rfl⟩
      obtain ⟨T, g0, eT⟩ := hps.2 0 p0 ep0
      have glast : atI us (-1) = some (.ref T0) := by rw [eus]; exact atI_last _ _
      refine ⟨_, rfl, _, rfl, _, rfl, a, us, 0, .ref T, rfl, rfl, ha, atI_nat (j := 0) g0, T, _, 0, .int p0.1, rfl, rfl, .inl (.inl eT), atI_nat (j := 0) rfl, _, rfl, 1, rfl, a, us, -1, .ref T0, rfl, rfl, ha, glast, T0, _, 1, .int p.2, rfl, rfl, .inl (.inl eT0), atI_nat (j := 1) rfl, ?_⟩
      refine ⟨b, qs, p0.1, p.2, rfl, hb, hr2, by omega, fun l1 rs1 H1 n1 hl1 ht1 hz1 s1 => ?_⟩
      refine ⟨a, l1, ps' ++ [p], rs1, rfl, (PrA.same ⟨us, ha, hps⟩ s1), hl1.pr, ⟨lo, hr1⟩, ht1.ris, by omega, fun l2 rs2 H2 n2 hl2 ht2 hz2 s2 => ?_⟩
      refine q l2 rs2 H2 (s1.free n2) hl2 (ht2.cong fun n => ?_) (by omega) (s1.trans s2)
      rw [ht1.same n]
      constructor
      · exact fun z => ⟨z.1, z.2.2⟩
      · intro z
        refine ⟨z.1, ⟨?_, Ris.upto hr1 z.1⟩, z.2⟩
        have r0 : Ris p0.1 (ps' ++ [p]) := by
          cases ps' with
          | nil =>
            cases ep0
            exact ⟨Int.le_refl _, hr1.2⟩
          | cons x r =>
            cases ep0
            exact ⟨Int.le_refl _, hr1.2⟩
        exact r0.low z.1
end

/-- all keys are whole numbers, at most b of them -/
def KInt (kvs : List (Key × V)) (b : Nat) : Prop := ∃ ks : List Int, kvs.map (·.1) = ks.map Sum.inl ∧ ks.length ≤ b
theorem KInt.mono {kvs : List (Key × V)} {b b' : Nat} (h : KInt kvs b) (hb : b ≤ b') : KInt kvs b' := let ⟨ks, e, l⟩ := h; ⟨ks, e, Nat.le_trans l hb⟩
theorem KInt.put {kvs : List (Key × V)} {b : Nat} (h : KInt kvs b) (k : Int) (v : V) : KInt (putK kvs (.inl k) v) (b + 1) := by
  obtain ⟨ks, e, l⟩ := h
  unfold putK
  by_cases c : (kvs.any fun kv => decide (kv.1 = Sum.inl k)) = true
  · rw [if_pos c]
    refine ⟨ks, ?_, by omega⟩
    rw [List.map_map, ← e]
    refine List.map_congr_left fun kv _ => ?_
    show (if kv.1 = Sum.inl k then (kv.1, v) else kv).1 = kv.1
    split <;> rfl
  · rw [if_neg c]
    exact ⟨ks ++ [k], by rw [List.map_append, List.map_append, e]; rfl, by rw [List.length_append]; exact Nat.add_le_add_right l 1⟩
theorem KInt.four {kvs : List (Key × V)} {b : Nat} (h : KInt kvs b) (k1 k2 k3 k4 : Int) (v : V) : KInt (mergeK kvs [(.inl k1, v), (.inl k2, v), (.inl k3, v), (.inl k4, v)]) (b + 4) := (((h.put k1 v).put k2 v).put k3 v).put k4 v
theorem KInt.length {kvs : List (Key × V)} {b : Nat} (h : KInt kvs b) : kvs.length ≤ b := by
  obtain ⟨ks, e, l⟩ := h
  have z := congrArg List.length e
  rw [List.length_map, List.length_map] at z
  omega
abbrev sProbes : Stmt := topS 16
theorem scProbes : FnScope ["_law_lists", "_law_found", "_law_pairs", "_law_first", "_law_last"] ["_law_lists"] (defScope sProbes) := ⟨rfl, rfl, rfl, by decide +kernel, rfl, by decide +kernel, by decide +kernel⟩
/-- some numbers, whichever: the lists are of pairs -/
def spProbes : Sp := fun vs H Q _ => ∃ (L : Addr) (ls : List (Addr × List V × List (Int × Int))), vs = [.ref L] ∧ H L = some (.lst (ls.map fun x => .ref x.1)) ∧ (∀ x ∈ ls, H x.1 = some (.lst x.2.1) ∧ Prs H x.2.1 x.2.2 ∧ x.2.2.length ≤ 100) ∧ ls.length ≤ 2 ∧
  ∀ p (ns : List Int) H', H p = none → H' p = some (.lst (ns.map V.int)) → ns.length ≤ 1000 → Same H H' → Q (.ref p) H'
section
variable {K : PySem.W.Frag} {mg : Str → Option Value} {P : Program} {w : World} {base : Heap}
theorem ok_probes {f : Addr} {fd : FuncData} {k : Nat} (F : Fun K "_law_probes" "_law_probes" sProbes f fd) (mx : mg "max" = none) (ms : mg "sorted" = none) (ml : mg "list" = none) : FnOk P w K mg base CX0 (k + 1) f fd ["_law_lists"] spProbes := by
  refine F.ok scProbes (fun vs H Q E h => ?_) (fun cdv A outer s H vs Q E hr h => ?_)
  · obtain ⟨L, ls, rfl, _⟩ := h
    rfl
  · obtain ⟨L, ls, rfl, hL, hls, hl2, q⟩ := h
    refine ⟨_, pss_cons (ps_set (i := 1) scProbes.nd rfl (.inl rfl) (pe_disp (pps_cons pe_int pe_bl pps_nil) (by rfl) (by rfl) (fun z => by cases z) (by decide)))
      (pss_cons (ps_for PassesOwn.never rfl (pi_list (pv 0)) (pg_name (i := 2) scProbes.nd rfl (.inl rfl))
        (pss_one (ps_for PassesOwn.never rfl (pi_list (pv 2)) (pg_tup rfl (pgs_cons (pg_name (i := 3) scProbes.nd rfl (.inl rfl)) (pgs_cons (pg_name (i := 4) scProbes.nd rfl (.inl rfl)) pgs_nil)))
          (pss_one (ps_expr (pe_bm PySem.F.plainAttrs_dict PySem.F.slot_dict_update PySem.F.type_dict_update (mt_update rfl) (pv 1) (pa_cons (pe_lst
            (pa_cons (pe_tup (pa_cons (pe_callB (call_max2 rfl) (by rfl) mx (by decide +kernel) (pa_cons pe_int (pa_cons (pe_op op_sub (pv 3) pe_int) pa_nil))) (pa_cons pe_bl pa_nil)))
            (pa_cons (pe_tup (pa_cons (pv 3) (pa_cons pe_bl pa_nil))) (pa_cons (pe_tup (pa_cons (pv 4) (pa_cons pe_bl pa_nil))) (pa_cons (pe_tup (pa_cons (pe_op op_add (pv 4) pe_int) (pa_cons pe_bl pa_nil))) pa_nil))))) pa_nil)))))))
      (pss_one (ps_ret (pe_callB cr_sortedI (by rfl) ms (by decide +kernel) (pa_cons (pe_callTy (call_list_dK rfl) (by rfl) ml (by decide +kernel) (pa_cons (pv 1) pa_nil)) pa_nil))))), ?_⟩
    refine fun d nd => ⟨upd_same, [(.inl 0, .bl true)], rfl, (by show 1 ≤ 15; decide), ?_⟩
    have s0 : Same H (upd (upd H d (.dK [])) d (.dK (mergeK [] [(.inl 0, .bl true)]))) := fun b o e => by
      rw [upd_ne (ne_of_none e nd), upd_ne (ne_of_none e nd)]
      exact e
    refine ⟨.ref L, rfl, L, rfl, ⟨_, SqL.of (s0 _ _ hL)⟩, for_list (xs := ls.map fun x => V.ref x.1) (fun i σ H1 => ∃ (kvs : List (Key × V)) (y2 y3 y4 : Option V), σ = [some (.ref L), some (.ref d), y2, y3, y4] ∧ Same H H1 ∧ H1 d = some (.dK kvs) ∧ KInt kvs (1 + 400 * i))
      ⟨_, none, none, none, rfl, s0, upd_same, ⟨[0], rfl, Nat.le_refl _⟩⟩ (fun i σ H1 _ hP => ?_) (fun i x σ H1 hx hP => ?_) (fun σ H1 hP => ?_)⟩
    · obtain ⟨_, _, _, _, rfl, sm, _⟩ := hP
      exact SqL.of (sm _ _ hL)
    · obtain ⟨kvs, y2, y3, y4, rfl, sm, eD, hk⟩ := hP
      obtain ⟨y, hy, rfl⟩ : ∃ y ∈ ls, x = .ref y.1 := by
        obtain ⟨hi, e⟩ := List.getElem?_eq_some_iff.mp hx
        rw [List.getElem_map] at e
        exact ⟨_, List.getElem_mem _, e.symm⟩
      have hil : i < ls.length := by
        have z := (List.getElem?_eq_some_iff.mp hx).1
        rwa [List.length_map] at z
      obtain ⟨el, hp, hlen⟩ := hls y hy
      refine ⟨.ref y.1, rfl, y.1, rfl, ⟨_, SqL.of (sm _ _ el)⟩, for_list (xs := y.2.1) (fun j σ H2 => ∃ (kvs : List (Key × V)) (y3 y4 : Option V), σ = [some (.ref L), some (.ref d), some (.ref y.1), y3, y4] ∧ Same H H2 ∧ H2 d = some (.dK kvs) ∧ KInt kvs (1 + 400 * i + 4 * j))
        ⟨kvs, _, _, rfl, sm, eD, hk⟩ (fun j σ H2 _ hP => ?_) (fun j x σ H2 hx hP => ?_) (fun σ H2 hP => ?_)⟩
      · obtain ⟨_, _, _, rfl, sm, _⟩ := hP
        exact SqL.of (sm _ _ el)
      · obtain ⟨kvs, y3, y4, rfl, sm, eD, hk⟩ := hP
        obtain ⟨p, T, ep, rfl, eT⟩ := prs_at hp hx
        have hj : j < y.2.2.length := by
          have z := (List.getElem?_eq_some_iff.mp hx).1
          rwa [hp.1] at z
        refine ⟨T, _, rfl, .inl (.inl (sm _ _ eT)), rfl, _, _, rfl, _, _, rfl, rfl, ?_⟩
        refine ⟨.ref d, rfl, ?_, _, rfl, p.1, 1, rfl, rfl, 0, _, rfl, (by show 2 ≤ sizeLine; decide), fun T1 n1 => ⟨_, rfl, (by show 2 ≤ sizeLine; decide), fun T2 n2 => ⟨_, rfl, (by show 2 ≤ sizeLine; decide), fun T3 n3 => ⟨_, rfl, p.2, 1, rfl, rfl, (by show 2 ≤ sizeLine; decide), fun T4 n4 => ⟨(by show 4 ≤ sizeLine; decide), fun z nz => ?_⟩⟩⟩⟩⟩
        · exact .inr (.inr (.inl ⟨rfl, .inl ⟨_, eD⟩⟩))
        · have t1 := same_upd (o := .tup [.int (if p.1 - 1 > 0 then p.1 - 1 else 0), .bl true]) n1
          have t2 := same_upd (o := .tup [.int p.1, .bl true]) n2
          have t3 := same_upd (o := .tup [.int p.2, .bl true]) n3
          have t4 := same_upd (o := .tup [.int (p.2 + 1), .bl true]) n4
          have tz := same_upd (o := .lst [.ref T1, .ref T2, .ref T3, .ref T4]) nz
          have eD' := tz _ _ (t4 _ _ (t3 _ _ (t2 _ _ (t1 _ _ eD))))
          refine ⟨d, z, [T1, T2, T3, T4], [(.inl _, .bl true), (.inl _, .bl true), (.inl _, .bl true), (.inl _, .bl true)], kvs, rfl, rfl, eD', upd_same,
            .cons (.inl (.inl (tz _ _ (t4 _ _ (t3 _ _ (t2 _ _ upd_same)))))) (.cons (.inl (.inl (tz _ _ (t4 _ _ (t3 _ _ upd_same))))) (.cons (.inl (.inl (tz _ _ (t4 _ _ upd_same)))) (.cons (.inl (.inl (tz _ _ upd_same))) .nil))), ?_, ?_⟩
          · have := hk.length
            exact Nat.le_of_lt (small1000 (by show kvs.length + 4 ≤ 1000; omega))
          · refine ⟨_, _, _, rfl, fun b o e => ?_, upd_same, (hk.four _ _ _ _ _).mono (by omega)⟩
            rw [upd_ne (ne_of_none e nd)]
            exact tz _ _ (t4 _ _ (t3 _ _ (t2 _ _ (t1 _ _ (sm _ _ e)))))
      · obtain ⟨kvs, y3, y4, rfl, sm, eD, hk⟩ := hP
        exact ⟨kvs, _, _, _, rfl, sm, eD, hk.mono (by rw [hp.1]; omega)⟩
    · obtain ⟨kvs, y2, y3, y4, rfl, sm, eD, hk⟩ := hP
      rw [List.length_map] at hk
      obtain ⟨ks, ek, hkl⟩ := hk
      refine ⟨.ref d, rfl, d, kvs, rfl, eD, fun g ng => ?_⟩
      have eg : (kvs.map fun kv => kV kv.1) = ks.map V.int := by
        have z : (kvs.map fun kv => kV kv.1) = (kvs.map (·.1)).map kV := by rw [List.map_map]; rfl
        rw [z, ek, List.map_map]
        rfl
      refine ⟨g, ks, rfl, SqL.of (by rw [upd_same, eg]), fun ns p perm _ np => ?_⟩
      have sg := same_upd (o := .lst (kvs.map fun kv => kV kv.1)) ng
      refine q p ns _ (sm.free (sg.free np)) upd_same ?_ ((sm.trans sg).trans (same_upd np))
      rw [perm.length_eq]
      omega
end

theorem Kp.free {H H' : Hp} {d c l : Addr} {t t' : Int} (k : Kp d c H H') (S' : StAt H' d c t') (n : H' l = none) : H l = none := by
  cases e : H l with
  | none => rfl
  | some o =>
    obtain ⟨cs1, ec1, _⟩ := S'.cells
    have z := k l o (ne_of_none S'.dict n).symm (ne_of_none ec1 n).symm e
    rw [n] at z
    cases z
theorem StAt.off {H : Hp} {d c l : Addr} {t : Int} (S : StAt H d c t) (n : H l = none) : l ≠ d ∧ l ≠ c := by
  obtain ⟨cs1, ec1, _⟩ := S.cells
  exact ⟨(ne_of_none S.dict n).symm, (ne_of_none ec1 n).symm⟩
theorem LsA.kp {H H' : Hp} {d c a : Addr} {t : Int} {ps : List (Int × Int)} (h : LsA H a ps) (S : StAt H d c t) (k : Kp d c H H') (n : a ≠ d ∧ a ≠ c) : LsA H' a ps := let ⟨us, e, p⟩ := h; ⟨us, k _ _ n.1 n.2 e, p.kp S k⟩
/-! ### another set near to one -/
abbrev sNear : Stmt := topS 15
theorem scNear : FnScope ["_law_state", "_law_some", "_law_found", "_law_least", "_law_first", "_law_last"] ["_law_state", "_law_some"] (defScope sNear) := ⟨rfl, rfl, rfl, by decide +kernel, rfl, by decide +kernel, by decide +kernel⟩
def spNear : Sp := fun vs H Q _ => ∃ (d c l : Addr) (t : Int) (ps : List (Int × Int)), vs = [.ref d, .ref l] ∧ StAt H d c t ∧ t + 700 < 2 ^ 60 ∧ LsA H l ps ∧ (l ≠ d ∧ l ≠ c) ∧ (∀ p ∈ ps, 0 ≤ p.2) ∧ ps.length ≤ 100 ∧
  ∀ (l' : Addr) (qs : List (Int × Int)) (t' : Int) H', H l' = none → LsA H' l' qs → Ris 0 qs → qs.length ≤ 24 → t ≤ t' → t' ≤ t + 600 → StAt H' d c t' → Kp d c H H' → Q (.ref l') H'
/-- between two turns -/
def NearW (H : Hp) (d c l fo cu : Addr) (us : List V) (t : Int) (i : Nat) (σ : L2.St) (Hx : Hp) : Prop := ∃ (le t' : Int) (ms : List V) (rs : List (Int × Int)) (y4 y5 : Option V), σ = [some (.ref d), some (.ref l), some (.ref fo), some (.int le), y4, y5] ∧ 0 ≤ le ∧ (∀ p ∈ rs, p.2 + 2 ≤ le) ∧ Hx fo = some (.lst ms) ∧ Prs Hx ms rs ∧
  Ris 0 rs ∧ rs.length ≤ i ∧ t ≤ t' ∧ t' ≤ t + 1 + 3 * i ∧ StAt Hx d c t' ∧ Kp d c H Hx ∧ Hx cu = some (.lst (us.take 23))
section
variable {K : PySem.W.Frag} {mg : Str → Option Value} {P : Program} {w : World} {base : Heap}
theorem ok_near {f : Addr} {fd : FuncData} (F : Fun K "_law_near" "_law_near" sNear f fd) (CT : Cal P w K mg base 1 "_law_take" ["_law_state", "_law_many"] spTake) (CS : Cal P w K mg base 3 "_law_set" ["_law_state"] spSet) :
    FnOk P w K mg base CX0 4 f fd ["_law_state", "_law_some"] spNear := by
  refine F.ok scNear (fun vs H Q E h => ?_) (fun cdv A outer s H vs Q E hr h => ?_)
  · obtain ⟨d, c, l, t, ps, rfl, _⟩ := h
    rfl
  · obtain ⟨d, c, l, t, ps, rfl, hS, ht, ⟨us, el, hps⟩, nl, hp0, hpl, q⟩ := h
    have hr1 := hr.mono (show 1 ≤ 3 by decide)
    refine ⟨_, pss_cons (ps_if (PW.pt (pw_or (pt_cmpR (op_eqD hr.units) (pv 1) (pe_lst pa_nil) (nomark _)) (pw_or1 (pt_cmpR op_eq (pe_own CT hr1 (by rfl) (pa_cons (pv 0) (pa_cons pe_int pa_nil))) pe_int (nomark _))))) (pss_one (ps_ret (pe_own CS hr (by rfl) (pa_cons (pv 0) pa_nil)))) pss_nil)
      (pss_cons (ps_par rfl scNear.nd (i := 2) (j := 3) rfl rfl (by decide) rfl rfl (pa_cons (pe_lst pa_nil) (pa_cons pe_int pa_nil)) (by rfl))
      (pss_cons (ps_for PassesOwn.never rfl (pi_list (pe_slice sl_list (pv 1) po_none (po_some pe_int))) (pg_tup rfl (pgs_cons (pg_name (i := 4) scNear.nd rfl (.inl rfl)) (pgs_cons (pg_name (i := 5) scNear.nd rfl (.inl rfl)) pgs_nil)))
        (pss_cons (ps_par rfl scNear.nd (i := 4) (j := 5) rfl rfl (by decide) rfl rfl (pa_cons (pe_op op_sub (pe_op op_add (pv 4) (pe_own CT hr1 (by rfl) (pa_cons (pv 0) (pa_cons pe_int pa_nil)))) pe_int) (pa_cons (pe_op op_sub (pe_op op_add (pv 5) (pe_own CT hr1 (by rfl) (pa_cons (pv 0) (pa_cons pe_int pa_nil)))) pe_int) pa_nil)) (by rfl))
        (pss_one (ps_if (PW.pt (pw_and (pt_cmpR op_ge (pv 4) (pv 3) (nomark _)) (pw_and (pt_cmpR op_ge (pv 5) (pv 4) (nomark _)) (pw_and1 (pt_cmpR op_gt (pe_own CT hr1 (by rfl) (pa_cons (pv 0) (pa_cons pe_int pa_nil))) pe_int (nomark _))))))
          (pss_cons (ps_expr (pe_bm PySem.F.plainAttrs_list PySem.F.slot_list_append PySem.F.type_list_append mt_append (pv 2) (pa_cons (pe_tup (pa_cons (pv 4) (pa_cons (pv 5) pa_nil))) pa_nil)))
          (pss_one (ps_set (i := 3) scNear.nd rfl (.inl rfl) (pe_op op_add (pv 5) pe_int)))) pss_nil))))
      (pss_one (ps_ret (pe_op op_cat (pv 2) (pe_op op_rep (pe_lst (pa_cons (pe_tup (pa_cons (pe_op op_add (pv 3) (pe_ix ix_tup (pe_ix ix_list (pv 1) (pe_un un_neg pe_int) (fun _ _ => rfl)) pe_int (fun _ _ => rfl))) (pa_cons (pe_op op_add (pe_op op_add (pv 3) (pe_ix ix_tup (pe_ix ix_list (pv 1) (pe_un un_neg pe_int) (fun _ _ => rfl)) pe_int (fun _ _ => rfl))) pe_int) pa_nil))) pa_nil)) (pe_own CT hr1 (by rfl) (pa_cons (pv 0) (pa_cons pe_int pa_nil))))))))), ?_⟩
    -- any set
    have any : ∀ (H1 : Hp) (t1 : Int), t ≤ t1 → t1 ≤ t + 1 → StAt H1 d c t1 → Kp d c H H1 → ∀ y2 y3 y4 y5 : Option V, (tRet (tCall spSet [] E0 (tCons (tVar 0) tNil))) { nx := fun _ H' => Q .non H', rt := Q } [some (.ref d), some (.ref l), y2, y3, y4, y5] H1 := by
      intro H1 t1 h1 h2 S1 k1 y2 y3 y4 y5
      refine ⟨_, rfl, d, c, t1, rfl, S1, by omega, fun l2 us2 ps2 t2 H2 n2 e2 hp2 hr2 hl2 ha hb S2 k2 => ?_⟩
      exact q l2 ps2 t2 H2 (Kp.free (t := t) k1 S1 n2) ⟨us2, e2, hp2⟩ hr2 hl2 (by omega) (by omega) S2 (k1.trans k2)
    refine ⟨_, rfl, Nat.zero_le _, fun z nz => ?_⟩
    have sz := same_upd (o := .lst []) nz
    refine ⟨_, _, .lst (SqL.of (sz _ _ el)) (dp_prs (hps.same sz)), .lst (SqL.of upd_same) .nil, shaped_prs ps, shaped_ints [], ?_⟩
    rw [eqv_pr_nil]
    refine ⟨_, rfl, ite2 (fun e0 => ?_) (fun e0 => ?_)⟩
    · exact iteT (any _ t (by omega) (by omega) (hS.same sz) (Kp.same d c sz) _ _ _ _)
    · refine ⟨_, rfl, d, c, t, 3, rfl, hS.same sz, by omega, by decide, by decide, fun r1 H1 r10 r11 hS1 k1' => ?_⟩
      have k1 : Kp d c H H1 := (Kp.same d c sz).trans k1'
      have el1 := k1 l _ nl.1 nl.2 el
      have hps1 := hps.kp hS k1
      refine ⟨rfl, _, rfl, ite2 (fun _ => ?_) (fun _ => ?_)⟩
      · exact any H1 (t + 1) (by omega) (by omega) hS1 k1 _ _ _ _
      · -- found, least
        refine ⟨Nat.zero_le _, fun fo nfo => ?_⟩
        have sf := same_upd (o := .lst []) nfo
        refine ⟨_, _, rfl, ?_⟩
        -- some[:23]
        refine ⟨_, rfl, 23, rfl, l, us, rfl, SqL.of (sf _ _ el1), fun cu ncu => ?_⟩
        have sc := same_upd (o := .lst (cutV us none (some 23))) ncu
        have ecut : cutV us none (some 23) = us.take 23 := cut_front us 23
        have ecu : upd (upd H1 fo (.lst [])) cu (.lst (cutV us none (some 23))) cu = some (.lst (us.take 23)) := by rw [upd_same, ecut]
        have efo := sc _ _ (upd_same (H := H1) (a := fo) (o := .lst []))
        have k2 : Kp d c H (upd (upd H1 fo (.lst [])) cu (.lst (cutV us none (some 23)))) := k1.trans (Kp.same d c (sf.trans sc))
        have hS2 := (hS1.same sf).same sc
        have ncf : cu ≠ fo := (ne_of_none (upd_same (H := H1) (a := fo) (o := .lst [])) ncu).symm
        have nfH : H fo = none := Kp.free (t := t) k1 hS1 nfo
        have offf := hS1.off nfo
        have offc := (hS1.same sf).off ncu
        revert ecu efo k2 hS2
        generalize upd (upd H1 fo (.lst [])) cu (.lst (cutV us none (some 23))) = H2
        intro ecu efo k2 hS2
        have hut : (us.take 23).length ≤ 23 := by rw [List.length_take]; omega
        refine ⟨cu, rfl, ⟨_, SqL.of ecu⟩, for_list (xs := us.take 23) (NearW H d c l fo cu us t)
          ⟨0, t + 1, [], [], none, none, rfl, by decide, (fun _ h => nomatch h), efo, Prs.nil, True.intro, Nat.le_refl _, by omega, by omega, hS2, k2, ecu⟩ (fun i σ Hx _ hP => ?_) (fun i x σ Hx hx hP => ?_) (fun σ Hx hP => ?_)⟩
        · obtain ⟨_, _, _, _, _, _, rfl, _, _, _, _, _, _, _, _, _, _, e⟩ := hP
          exact SqL.of e
        · obtain ⟨le, t', ms, rs, y4, y5, rfl, le0, hle, ef, hms, hris, hrl, t1, t2, hSx, kx, ec⟩ := hP
          have hi : i < 23 := Nat.lt_of_lt_of_le (List.getElem?_eq_some_iff.mp hx).1 hut
          have hx' : us[i]? = some x := by rw [List.getElem?_take, if_pos hi] at hx; exact hx
          obtain ⟨p, T, ep, rfl, eT⟩ := prs_at (hps.kp hS kx) hx'
          refine ⟨T, _, rfl, .inl (.inl eT), rfl, _, _, rfl, _, _, rfl, rfl, ?_⟩
          refine ⟨_, rfl, _, rfl, d, c, t', 3, rfl, hSx, by omega, by decide, by decide, fun a1 H3 a10 a11 hS3 k3 => ⟨p.1, a1, rfl, rfl, _, 1, rfl, rfl, ?_⟩⟩
          refine ⟨_, rfl, _, rfl, d, c, t' + 1, 3, rfl, hS3, by omega, by decide, by decide, fun a2 H4 a20 a21 hS4 k4 => ⟨p.2, a2, rfl, rfl, _, 1, rfl, rfl, ?_⟩⟩
          refine ⟨_, _, rfl, ?_⟩
          have kx4 : Kp d c Hx H4 := k3.trans k4
          -- unchanged but for the state
          have keep : ∀ (H5 : Hp) (t5 : Int) (z4 z5 : Option V), t' ≤ t5 → t5 ≤ t' + 3 → StAt H5 d c t5 → Kp d c Hx H5 → NearW H d c l fo cu us t (i + 1) [some (.ref d), some (.ref l), some (.ref fo), some (.int le), z4, z5] H5 := by
            intro H5 t5 z4 z5 h1 h2 S5 k5
            exact ⟨le, t5, ms, rs, z4, z5, rfl, le0, hle, k5 _ _ offf.1 offf.2 ef, hms.kp hSx k5, hris, by omega, by omega, by omega, S5, kx.trans k5, k5 _ _ offc.1 offc.2 ec⟩
          refine ⟨_, rfl, _, rfl, p.1 + a1 - 1, le, rfl, rfl, _, rfl, ite2 (fun c1 => ?_) (fun c1 => iteF (keep H4 (t' + 1 + 1) _ _ (by omega) (by omega) hS4 kx4))⟩
          have c1' := of_decide_eq_true c1
          refine ⟨_, rfl, _, rfl, p.2 + a2 - 1, p.1 + a1 - 1, rfl, rfl, _, rfl, ite2 (fun c2 => ?_) (fun c2 => iteF (keep H4 (t' + 1 + 1) _ _ (by omega) (by omega) hS4 kx4))⟩
          have c2' := of_decide_eq_true c2
          refine ⟨_, rfl, d, c, t' + 1 + 1, 4, rfl, hS4, by omega, by decide, by decide, fun a3 H5 a30 a31 hS5 k5 => ?_⟩
          have kx5 : Kp d c Hx H5 := kx4.trans k5
          refine ⟨a3, 0, rfl, rfl, _, rfl, ite2 (fun c3 => ?_) (fun c3 => keep H5 (t' + 1 + 1 + 1) _ _ (by omega) (by omega) hS5 kx5)⟩
          have ef5 := kx5 _ _ offf.1 offf.2 ef
          have hms5 := hms.kp hSx kx5
          refine ⟨_, rfl, .inl ⟨rfl, _, SqL.of ef5⟩, _, rfl, _, rfl, (by show 2 ≤ sizeLine; decide), fun T2 n2 => ?_⟩
          have sT := same_upd (o := .tup [.int (p.1 + a1 - 1), .int (p.2 + a2 - 1)]) n2
          have ef6 := sT _ _ ef5
          refine ⟨fo, _, _, rfl, rfl, ef6, small1000 (by have := hms.1; omega), ?_⟩
          have ec5 := sT _ _ (kx5 _ _ offc.1 offc.2 ec)
          refine ⟨_, rfl, p.2 + a2 - 1, 2, rfl, rfl, p.2 + a2 - 1 + 2, t' + 1 + 1 + 1, ms ++ [.ref T2], rs ++ [(p.1 + a1 - 1, p.2 + a2 - 1)], _, _, rfl, by omega, fun r hr' => ?_, upd_same, ((hms5.same sT).snoc upd_same).upd_lst ef6, hris.snoc (by omega) (fun r hr' => by have := hle r hr'; omega) (by omega), by rw [List.length_append]; exact Nat.add_le_add_right hrl 1, by omega, by omega, (hS5.same sT).upd offf.1 offf.2, fun b o b1 b2 e => ?_, by rw [upd_ne ncf]; exact ec5⟩
          · rcases List.mem_append.mp hr' with y | y
            · have := hle r y
              omega
            · rw [List.mem_singleton.mp y]
              exact Int.le_refl _
          · rw [upd_ne (ne_of_none e nfH)]
            exact sT _ _ (kx5 b o b1 b2 (kx b o b1 b2 e))
        · obtain ⟨le, t', ms, rs, y4, y5, rfl, le0, hle, ef, hms, hris, hrl, t1, t2, hSx, kx, ec⟩ := hP
          have hrl' : rs.length ≤ 23 := Nat.le_trans hrl hut
          have ht2 : t' ≤ t + 1 + 3 * 23 := by have : ((us.take 23).length : Int) ≤ 23 := by omega
                                               omega
          have elx := kx l _ nl.1 nl.2 el
          have hpsx := hps.kp hS kx
          rcases snoc_cases ps with z0 | ⟨ps', p, z0⟩
          · rw [z0] at e0
            exact absurd rfl e0
          subst z0
          obtain ⟨us', T0, eus, eT0, hus'⟩ := hpsx.last
          have glast : atI us (-1) = some (.ref T0) := by rw [eus]; exact atI_last _ _
          have hp2 : 0 ≤ p.2 := hp0 p (List.mem_append_right _ (List.mem_singleton.mpr rfl))
          refine ⟨_, rfl, _, rfl, _, rfl, 1, rfl, l, us, -1, .ref T0, rfl, rfl, SqL.of elx, glast, T0, _, 1, .int p.2, rfl, rfl, .inl (.inl eT0), atI_nat (j := 1) rfl, le, p.2, rfl, rfl, ?_⟩
          refine ⟨_, rfl, _, rfl, 1, rfl, l, us, -1, .ref T0, rfl, rfl, SqL.of elx, glast, T0, _, 1, .int p.2, rfl, rfl, .inl (.inl eT0), atI_nat (j := 1) rfl, le, p.2, rfl, rfl, le + p.2, 3, rfl, rfl, (by show 2 ≤ sizeLine; decide), fun T nT => ?_⟩
          have sT := same_upd (o := .tup [.int (le + p.2), .int (le + p.2 + 3)]) nT
          refine ⟨(by show 1 ≤ sizeLine; decide), fun z nz => ?_⟩
          have sz := same_upd (o := .lst [.ref T]) nz
          have sTz := sT.trans sz
          have offz := ((hSx.same sT).off nz)
          have offT := hSx.off nT
          refine ⟨_, rfl, d, c, t', 2, rfl, hSx.same sTz, by omega, by decide, by decide, fun r2 H6 r20 r21 hS6 k6 => ?_⟩
          have ez : H6 z = some (.lst [.ref T]) := k6 _ _ offz.1 offz.2 upd_same
          have eT6 : H6 T = some (.tup [.int (le + p.2), .int (le + p.2 + 3)]) := k6 _ _ offT.1 offT.2 (sz _ _ upd_same)
          have ef6 : H6 fo = some (.lst ms) := k6 _ _ offf.1 offf.2 (sTz _ _ ef)
          have kx6 : Kp d c Hx H6 := (Kp.same d c sTz).trans k6
          refine ⟨z, r2, _, rfl, rfl, ez, by omega, by omega, ?_, fun g ng => ?_⟩
          · have : r2.toNat ≤ 1 := by omega
            exact Nat.le_trans (Nat.mul_le_mul (Nat.le_refl 1) this) (by decide)
          have sg := same_upd (o := .lst (List.replicate r2.toNat [V.ref T]).flatten) ng
          have hpg : Prs (upd H6 g (.lst (List.replicate r2.toNat [V.ref T]).flatten)) (List.replicate r2.toNat [V.ref T]).flatten (List.replicate r2.toNat [(le + p.2, le + p.2 + 3)]).flatten ∧ ((List.replicate r2.toNat [(le + p.2, le + p.2 + 3)]).flatten = [] ∨ (List.replicate r2.toNat [(le + p.2, le + p.2 + 3)]).flatten = [(le + p.2, le + p.2 + 3)]) := by
            have : r2 = 0 ∨ r2 = 1 := by omega
            rcases this with rfl | rfl
            · exact ⟨Prs.nil, .inl rfl⟩
            · exact ⟨Prs.snoc (a := T) Prs.nil (sg _ _ eT6), .inr rfl⟩
          revert hpg
          generalize (List.replicate r2.toNat [(le + p.2, le + p.2 + 3)]).flatten = gs
          generalize (List.replicate r2.toNat [V.ref T]).flatten = gv at sg ⊢
          intro hpg
          obtain ⟨hpg, hgs⟩ := hpg
          have hgl : gs.length ≤ 1 := by rcases hgs with e | e <;> rw [e] <;> simp
          refine ⟨fo, g, _, _, rfl, rfl, sg _ _ ef6, upd_same, Nat.le_of_lt (small1000 (by have := hms.1; have := hpg.1; omega)), fun g2 ng2 => ?_⟩
          have sg2 := same_upd (o := .lst (ms ++ gv)) ng2
          have k7 : Kp d c H (upd (upd H6 g (.lst gv)) g2 (.lst (ms ++ gv))) := (kx.trans kx6).trans (Kp.same d c (sg.trans sg2))
          have hS7 := (hS6.same sg).same sg2
          refine q g2 (rs ++ gs) (t' + 1) _ ?_ ⟨_, upd_same, (((hms.kp hSx kx6).same sg).append hpg).same sg2⟩ ?_ ?_ (by omega) (by omega) hS7 k7
          · exact Kp.free (t := t) (kx.trans (kx6.trans (Kp.same d c sg))) (hS6.same sg) ng2
          · rcases hgs with e | e
            · rw [e, List.append_nil]; exact hris
            · rw [e]
              exact hris.snoc (by omega) (fun r hr' => by have := hle r hr'; omega) (by omega)
          · rw [List.length_append]
            omega
end

/-- all stands but the tables, which stay tables -/
structure Kt (H H' : Hp) : Prop where
  keep : ∀ b o, (∀ q, o ≠ .tbl q) → H b = some o → H' b = some o
  tab : ∀ P, GxR.TabG H P → GxR.TabG H' P
theorem Kt.refl (H : Hp) : Kt H H := ⟨fun _ _ _ e => e, fun _ g => g⟩
theorem Kt.same {H H' : Hp} (s : Same H H') : Kt H H' := ⟨fun b o _ e => s b o e, fun _ g => tabG_same g s⟩
theorem Kt.tabbed {H H' : Hp} {P : Addr} (g : GxR.TabG H P) (x : GxR.Tabbed P H H') : Kt H H' := ⟨fun _ _ h e => tab_at g x e h, fun _ g' => tabG_tabbed g' x⟩
theorem Kt.trans {H H1 H2 : Hp} (a : Kt H H1) (b : Kt H1 H2) : Kt H H2 := ⟨fun x o h e => b.keep x o h (a.keep x o h e), fun P g => b.tab P (a.tab P g)⟩
theorem _root_.GP.Prs.kt {H H' : Hp} {vs : List V} {ps : List (Int × Int)} (h : Prs H vs ps) (k : Kt H H') : Prs H' vs ps := ⟨h.1, fun i p e => let ⟨a, e1, e2⟩ := h.2 i p e; ⟨a, e1, k.keep _ _ (fun _ z => nomatch z) e2⟩⟩
theorem LsA.kt {H H' : Hp} {a : Addr} {ps : List (Int × Int)} (h : LsA H a ps) (k : Kt H H') : LsA H' a ps := let ⟨us, e, p⟩ := h; ⟨us, k.keep _ _ (fun _ z => nomatch z) e, p.kt k⟩
theorem StAt.kt {H H' : Hp} {d c : Addr} {t : Int} (S : StAt H d c t) (k : Kt H H') : StAt H' d c t := ⟨k.keep _ _ (fun _ z => nomatch z) S.dict, let ⟨cs, e, r⟩ := S.cells; ⟨cs, k.keep _ _ (fun _ z => nomatch z) e, r⟩, S.pos⟩

/-! ### two sets beside one another -/
abbrev sTwo : Stmt := topS 17
theorem scTwo : FnScope ["_law_one", "_law_other", "_law_both", "_law_all_of"] ["_law_one", "_law_other"] (defScope sTwo) := ⟨rfl, rfl, rfl, by decide +kernel, rfl, by decide +kernel, by decide +kernel⟩
def spTwo (Pc : Addr) : Sp := fun vs H Q _ => ∃ (a b : Addr) (ps qs : List (Int × Int)), vs = [.ref a, .ref b] ∧ LsA H a ps ∧ LsA H b qs ∧ Ris 0 ps ∧ Ris 0 qs ∧ ps.length ≤ 24 ∧ qs.length ≤ 24 ∧ GxR.TabG H Pc ∧ ∀ H', Kt H H' → Q (.bl true) H'
structure Mid2 (Pc a b bo al : Addr) (ps qs bs us : List (Int × Int)) (H : Hp) : Prop where
  a : LsA H a ps
  b : LsA H b qs
  bo : LsA H bo bs
  al : LsA H al us
  tab : GxR.TabG H Pc
theorem Mid2.kt {Pc a b bo al : Addr} {ps qs bs us : List (Int × Int)} {H H' : Hp} (m : Mid2 Pc a b bo al ps qs bs us H) (k : Kt H H') : Mid2 Pc a b bo al ps qs bs us H' := ⟨m.a.kt k, m.b.kt k, m.bo.kt k, m.al.kt k, k.tab _ m.tab⟩
theorem Mid2.same {Pc a b bo al : Addr} {ps qs bs us : List (Int × Int)} {H H' : Hp} (m : Mid2 Pc a b bo al ps qs bs us H) (s : Same H H') : Mid2 Pc a b bo al ps qs bs us H' := m.kt (.same s)
section
variable {K : PySem.W.Frag} {mg : Str → Option Value} {P : Program} {w : World} {base : Heap}
theorem ok_two {f Pc : Addr} {fd : FuncData} (F : Fun K "_law_two_right" "_law_two_right" sTwo f fd) (CO : Cal P w K mg base 1 "set_of" ["pairs"] (spSetOf K)) (CE : Cal P w K mg base 2 "either" ["one", "other"] (spEither K)) (CA : Cal P w K mg base 1 "both_of" ["one", "other"] (spBoth K)) (CW : Cal P w K mg base 3 "without" ["one", "other"] (spWithout K))
    (CC : Cal P w K mg base 1 "count_of" ["some"] (spCount K Pc)) (ml : mg "len" = none) : FnOk P w K mg base CX0 4 f fd ["_law_one", "_law_other"] (spTwo Pc) := by
  refine F.ok scTwo (fun vs H Q E h => ?_) (fun cdv A outer s H vs Q E hr h => ?_)
  · obtain ⟨a, b, ps, qs, rfl, _⟩ := h
    rfl
  · obtain ⟨a, b, ps, qs, rfl, ha, hb, r1, r2, l1, l2, hT, q⟩ := h
    have hr1 := hr.mono (show 1 ≤ 3 by decide)
    have hr2 := hr.mono (show 2 ≤ 3 by decide)
    refine ⟨_, pss_cons (ps_par rfl scTwo.nd (i := 2) (j := 3) rfl rfl (by decide) rfl rfl (pa_cons (pe_own CA hr1 (by rfl) (pa_cons (pv 0) (pa_cons (pv 1) pa_nil))) (pa_cons (pe_own CE hr2 (by rfl) (pa_cons (pv 0) (pa_cons (pv 1) pa_nil))) pa_nil)) (by rfl))
      (pss_cons (ps_if (PW.pt (pw_or (pt_cmpR (op_neD hr.units) (pe_own CE hr2 (by rfl) (pa_cons (pe_own CW hr (by rfl) (pa_cons (pv 0) (pa_cons (pv 1) pa_nil))) (pa_cons (pv 2) pa_nil))) (pv 0) (nomark _))
          (pw_or1 (pt_cmpR (op_neD hr.units) (pe_own CA hr1 (by rfl) (pa_cons (pe_own CW hr (by rfl) (pa_cons (pv 0) (pa_cons (pv 1) pa_nil))) (pa_cons (pv 1) pa_nil))) (pe_lst pa_nil) (nomark _))))) (pss_one (ps_ret pe_bl)) pss_nil)
      (pss_cons (ps_if (pt_cmpR op_ne (pe_op op_add (pe_own CC hr1 (by rfl) (pa_cons (pv 0) pa_nil)) (pe_own CC hr1 (by rfl) (pa_cons (pv 1) pa_nil))) (pe_op op_add (pe_own CC hr1 (by rfl) (pa_cons (pv 3) pa_nil)) (pe_own CC hr1 (by rfl) (pa_cons (pv 2) pa_nil))) (nomark _)) (pss_one (ps_ret pe_bl)) pss_nil)
      (pss_cons (ps_if (PW.pt (pw_or (pt_cmpR (op_neD hr.units) (pv 2) (pe_own CA hr1 (by rfl) (pa_cons (pv 1) (pa_cons (pv 0) pa_nil))) (nomark _)) (pw_or (pt_cmpR (op_neD hr.units) (pv 3) (pe_own CE hr2 (by rfl) (pa_cons (pv 1) (pa_cons (pv 0) pa_nil))) (nomark _))
          (pw_or1 (pt_cmpR (op_neD hr.units) (pe_own CW hr (by rfl) (pa_cons (pv 0) (pa_cons (pv 0) pa_nil))) (pe_lst pa_nil) (nomark _)))))) (pss_one (ps_ret pe_bl)) pss_nil)
      (Evl.pss_cut (ps_if (PW.pt (pw_and (pt_cmpR op_lt (pe_callB call_len_seq (by rfl) ml PySem.boot_len (pa_cons (pe_op op_cat (pv 0) (pv 1)) pa_nil)) pe_int (nomark _)) (pw_and1 (pt_cmpR (op_neD hr.units) (pe_own CO hr1 (by rfl) (pa_cons (pe_op op_cat (pv 0) (pv 1)) pa_nil)) (pv 3) (nomark _))))) (pss_one (ps_ret pe_bl)) pss_nil)
      (pss_one (ps_ret (pe_cmpR (op_eqD hr.units) (pe_own CW hr (by rfl) (pa_cons (pv 3) (pa_cons (pv 1) pa_nil))) (pe_own CW hr (by rfl) (pa_cons (pv 0) (pa_cons (pv 1) pa_nil))) (nomark _)))))))), ?_⟩
    refine ⟨_, rfl, _, rfl, a, b, ps, qs, rfl, ha.pr, hb.pr, ⟨0, r1⟩, ⟨0, r2⟩, by omega, fun bo bs H1 n1 hbo tbo lbo s1 => ?_⟩
    refine ⟨_, rfl, _, rfl, a, b, ps, qs, rfl, (ha.same s1).pr, (hb.same s1).pr, by omega, fun al us H2 n2 hal tal lal s2 => ?_⟩
    have m2 : Mid2 Pc a b bo al ps qs bs us H2 := ⟨(ha.same s1).same s2, (hb.same s1).same s2, hbo.same s2, hal, tabG_same (tabG_same hT s1) s2⟩
    have k2 : Kt H H2 := .same (s1.trans s2)
    refine ⟨_, _, rfl, ?_⟩
    -- either(without(one, other), both) != one
    refine ⟨_, rfl, _, rfl, a, b, ps, qs, rfl, m2.a.pr, m2.b.pr, ⟨0, r1⟩, ⟨0, r2⟩, by omega, fun g3 rs3 H3 n3 h3 t3 l3 s3 => ?_⟩
    have m3 := m2.same s3
    refine ⟨_, rfl, g3, bo, rs3, bs, rfl, h3.pr, m3.bo.pr, by omega, fun g4 rs4 H4 n4 h4 t4 l4 s4 => ?_⟩
    have m4 := m3.same s4
    have e4 : rs4 = ps := t4.one (Told.of r1) fun n => by
      rw [t3.same n, tbo.same n]
      by_cases x : InS ps n <;> by_cases y : InS qs n <;> simp [x, y]
    subst e4
    refine ⟨_, rfl, _, _, h4.dp, m4.a.dp, shaped_prs _, shaped_prs _, _, rfl, ?_⟩
    rw [eqv_prs]
    refine iteF ?_
    -- both_of(without(one, other), other) != []
    refine ⟨_, rfl, _, rfl, a, b, rs4, qs, rfl, m4.a.pr, m4.b.pr, ⟨0, r1⟩, ⟨0, r2⟩, by omega, fun g5 rs5 H5 n5 h5 t5 l5 s5 => ?_⟩
    have m5 := m4.same s5
    refine ⟨_, rfl, g5, b, rs5, qs, rfl, h5.pr, m5.b.pr, t5.ris, ⟨0, r2⟩, by omega, fun g6 rs6 H6 n6 h6 t6 l6 s6 => ?_⟩
    have m6 := m5.same s6
    have e6 : rs6 = [] := t6.one (Told.of (lo := 0) (rs := []) True.intro) fun n => by
      rw [t5.same n]
      by_cases x : InS qs n <;> simp [x, inS_nil]
    subst e6
    refine ⟨Nat.zero_le _, fun z7 n7 => ?_⟩
    have s7 := same_upd (o := .lst []) n7
    have m7 := m6.same s7
    refine ⟨_, _, (h6.same s7).dp, .lst (SqL.of upd_same) .nil, shaped_prs _, shaped_ints [], _, rfl, iteF ?_⟩
    revert m7
    have k7 : Kt H (upd H6 z7 (.lst [])) := k2.trans (.same (((s3.trans s4).trans (s5.trans s6)).trans s7))
    revert k7
    generalize upd H6 z7 (.lst []) = H7
    intro k7 m7
    -- counts
    obtain ⟨ua, ea, pa⟩ := m7.a
    refine ⟨_, rfl, a, ua, rs4, rfl, Sq.list ea, pa, m7.tab, fun H8 x8 => ?_⟩
    have k8 := Kt.tabbed m7.tab x8
    have m8 := m7.kt k8
    obtain ⟨ub, eb, pb⟩ := m8.b
    refine ⟨_, rfl, b, ub, qs, rfl, Sq.list eb, pb, m8.tab, fun H9 x9 => ⟨_, _, rfl, rfl, ?_⟩⟩
    have k9 := k8.trans (Kt.tabbed m8.tab x9)
    have m9 := m7.kt k9
    obtain ⟨uc, ec, pc⟩ := m9.al
    refine ⟨_, rfl, al, uc, us, rfl, Sq.list ec, pc, m9.tab, fun H10 x10 => ?_⟩
    have k10 := k9.trans (Kt.tabbed m9.tab x10)
    have m10 := m7.kt k10
    obtain ⟨ue, ee, pe⟩ := m10.bo
    refine ⟨_, rfl, bo, ue, bs, rfl, Sq.list ee, pe, m10.tab, fun H11 x11 => ⟨_, _, rfl, rfl, ?_⟩⟩
    have k11 := k10.trans (Kt.tabbed m10.tab x11)
    have m11 := m7.kt k11
    have kk := k7.trans k11
    obtain ⟨lu, ru⟩ := tal.ris
    obtain ⟨lb, rb⟩ := tbo.ris
    refine ⟨rfl, _, rfl, ?_⟩
    dsimp only
    rw [decide_eq_true (congrArg V.int (cnt_both r1 r2 ru rb tal.same tbo.same))]
    refine iteF ?_
    -- both, all_of the other way about
    refine ⟨_, rfl, _, rfl, _, rfl, b, a, qs, rs4, rfl, m11.b.pr, m11.a.pr, ⟨0, r2⟩, ⟨0, r1⟩, by omega, fun g12 rs12 H12 n12 h12 t12 l12 s12 => ?_⟩
    have m12 := m11.same s12
    have e12 : rs12 = bs := t12.one tbo fun n => And.comm
    subst e12
    refine ⟨_, _, m12.bo.dp, h12.dp, shaped_prs _, shaped_prs _, _, rfl, ?_⟩
    rw [eqv_prs]
    refine iteF ?_
    refine ⟨_, rfl, _, rfl, _, rfl, b, a, qs, rs4, rfl, m12.b.pr, m12.a.pr, by omega, fun g13 rs13 H13 n13 h13 t13 l13 s13 => ?_⟩
    have m13 := m12.same s13
    have e13 : rs13 = us := t13.one tal fun n => Or.comm
    subst e13
    refine ⟨_, _, m13.al.dp, h13.dp, shaped_prs _, shaped_prs _, _, rfl, ?_⟩
    rw [eqv_prs]
    refine iteF ?_
    refine ⟨_, rfl, _, rfl, a, a, rs4, rs4, rfl, m13.a.pr, m13.a.pr, ⟨0, r1⟩, ⟨0, r1⟩, by omega, fun g14 rs14 H14 n14 h14 t14 l14 s14 => ?_⟩
    have m14 := m13.same s14
    have e14 : rs14 = [] := t14.one (Told.of (lo := 0) (rs := []) True.intro) fun n => by
      by_cases x : InS rs4 n <;> simp [x, inS_nil]
    subst e14
    refine ⟨Nat.zero_le _, fun z15 n15 => ?_⟩
    have s15 := same_upd (o := .lst []) n15
    have m15 := m14.same s15
    refine ⟨_, _, (h14.same s15).dp, .lst (SqL.of upd_same) .nil, shaped_prs _, shaped_ints [], _, rfl, iteF ?_⟩
    have k15 : Kt H (upd H14 z15 (.lst [])) := kk.trans (.same ((s12.trans s13).trans (s14.trans s15)))
    revert m15 k15
    generalize upd H14 z15 (.lst []) = H15
    intro m15 k15
    -- set_of(one + other)
    refine ⟨fun σ H' => σ = [some (.ref a), some (.ref b), some (.ref bo), some (.ref al)] ∧ Mid2 Pc a b bo al rs4 qs rs12 rs13 H' ∧ Kt H H', ?_, fun σ H16 hM => ?_⟩
    · obtain ⟨ua, ea, pa⟩ := m15.a
      obtain ⟨ub, eb, pb⟩ := m15.b
      have hlen : ua.length + ub.length ≤ 48 := by have := pa.1; have := pb.1; omega
      refine ⟨_, rfl, _, rfl, a, b, ua, ub, rfl, rfl, ea, eb, Nat.le_of_lt (small1000 (by omega)), fun g16 n16 => ?_⟩
      have s16 := same_upd (o := .lst (ua ++ ub)) n16
      have m16 := m15.same s16
      refine ⟨g16, _, rfl, Sq.list upd_same, _, 41, rfl, rfl, _, rfl, ite2 (fun c => ?_) (fun c => iteF ⟨rfl, m16, k15.trans (.same s16)⟩)⟩
      have ea' := s16 _ _ ea
      have eb' := s16 _ _ eb
      refine ⟨_, rfl, _, rfl, a, b, ua, ub, rfl, rfl, ea', eb', Nat.le_of_lt (small1000 (by omega)), fun g17 n17 => ?_⟩
      have s17 := same_upd (o := .lst (ua ++ ub)) n17
      refine ⟨g17, _, rs4 ++ qs, rfl, Sq.list upd_same, ((pa.append pb).same s16).same s17, by rw [List.length_append]; omega, fun g18 w18 rs18 H18 n18 e18 p18 set18 s18 => ?_⟩
      have m18 := (m16.same s17).same s18
      have e19 : rs18 = rs13 := set18.told.one tal fun n => inS_append
      subst e19
      have h18 : LsA H18 g18 rs18 := ⟨_, e18, p18⟩
      refine ⟨_, rfl, _, _, h18.dp, m18.al.dp, shaped_prs _, shaped_prs _, _, rfl, ?_⟩
      rw [eqv_prs]
      exact iteF ⟨rfl, m18, k15.trans (.same (s16.trans (s17.trans s18)))⟩
    · obtain ⟨rfl, m16, k16⟩ := hM
      refine ⟨_, rfl, _, rfl, al, b, rs13, qs, rfl, m16.al.pr, m16.b.pr, tal.ris, ⟨0, r2⟩, by omega, fun g17 rs17 H17 n17 h17 t17 l17 s17 => ?_⟩
      have m17 := m16.same s17
      refine ⟨_, rfl, _, rfl, a, b, rs4, qs, rfl, m17.a.pr, m17.b.pr, ⟨0, r1⟩, ⟨0, r2⟩, by omega, fun g18 rs18 H18 n18 h18 t18 l18 s18 => ?_⟩
      have e18 : rs17 = rs18 := t17.one t18 fun n => by
        rw [tal.same n]
        by_cases x : InS rs4 n <;> by_cases y : InS qs n <;> simp [x, y]
      subst e18
      refine ⟨_, _, (h17.same s18).dp, h18.dp, shaped_prs _, shaped_prs _, ?_⟩
      rw [eqv_prs]
      exact q _ (k16.trans (.same (s17.trans s18)))
end
/-! ### three -/
abbrev sThree : Stmt := topS 18
theorem scThree : FnScope ["_law_one", "_law_other", "_law_third"] ["_law_one", "_law_other", "_law_third"] (defScope sThree) := ⟨rfl, rfl, rfl, by decide +kernel, rfl, by decide +kernel, by decide +kernel⟩
def spThree : Sp := fun vs H Q _ => ∃ (a b c : Addr) (ps qs ts : List (Int × Int)), vs = [.ref a, .ref b, .ref c] ∧ LsA H a ps ∧ LsA H b qs ∧ LsA H c ts ∧ Ris 0 ps ∧ Ris 0 qs ∧ Ris 0 ts ∧ ps.length ≤ 24 ∧ qs.length ≤ 24 ∧ ts.length ≤ 24 ∧ ∀ H', Same H H' → Q (.bl true) H'
section
variable {K : PySem.W.Frag} {mg : Str → Option Value} {P : Program} {w : World} {base : Heap}
theorem ok_three {f : Addr} {fd : FuncData} (F : Fun K "_law_three_right" "_law_three_right" sThree f fd) (CE : Cal P w K mg base 2 "either" ["one", "other"] (spEither K)) (CA : Cal P w K mg base 1 "both_of" ["one", "other"] (spBoth K)) (CW : Cal P w K mg base 3 "without" ["one", "other"] (spWithout K)) :
    FnOk P w K mg base CX0 4 f fd ["_law_one", "_law_other", "_law_third"] spThree := by
  refine F.ok scThree (fun vs H Q E h => ?_) (fun cdv A outer s H vs Q E hr h => ?_)
  · obtain ⟨a, b, c, ps, qs, ts, rfl, _⟩ := h
    rfl
  · obtain ⟨a, b, c, ps, qs, ts, rfl, ha, hb, hc, r1, r2, r3, l1, l2, l3, q⟩ := h
    have hr1 := hr.mono (show 1 ≤ 3 by decide)
    have hr2 := hr.mono (show 2 ≤ 3 by decide)
    have pr : ∀ {H' : Hp}, Same H H' → PrA K H' a ps ∧ PrA K H' b qs ∧ PrA K H' c ts := fun s => ⟨(ha.same s).pr, (hb.same s).pr, (hc.same s).pr⟩
    refine ⟨_, pss_cons (ps_if (pt_cmpR (op_neD hr.units) (pe_own CE hr2 (by rfl) (pa_cons (pe_own CE hr2 (by rfl) (pa_cons (pv 0) (pa_cons (pv 1) pa_nil))) (pa_cons (pv 2) pa_nil))) (pe_own CE hr2 (by rfl) (pa_cons (pv 0) (pa_cons (pe_own CE hr2 (by rfl) (pa_cons (pv 1) (pa_cons (pv 2) pa_nil))) pa_nil))) (nomark _)) (pss_one (ps_ret pe_bl)) pss_nil)
      (pss_cons (ps_if (pt_cmpR (op_neD hr.units) (pe_own CA hr1 (by rfl) (pa_cons (pe_own CA hr1 (by rfl) (pa_cons (pv 0) (pa_cons (pv 1) pa_nil))) (pa_cons (pv 2) pa_nil))) (pe_own CA hr1 (by rfl) (pa_cons (pv 0) (pa_cons (pe_own CA hr1 (by rfl) (pa_cons (pv 1) (pa_cons (pv 2) pa_nil))) pa_nil))) (nomark _)) (pss_one (ps_ret pe_bl)) pss_nil)
      (pss_cons (ps_if (pt_cmpR (op_neD hr.units) (pe_own CA hr1 (by rfl) (pa_cons (pv 0) (pa_cons (pe_own CE hr2 (by rfl) (pa_cons (pv 1) (pa_cons (pv 2) pa_nil))) pa_nil))) (pe_own CE hr2 (by rfl) (pa_cons (pe_own CA hr1 (by rfl) (pa_cons (pv 0) (pa_cons (pv 1) pa_nil))) (pa_cons (pe_own CA hr1 (by rfl) (pa_cons (pv 0) (pa_cons (pv 2) pa_nil))) pa_nil))) (nomark _)) (pss_one (ps_ret pe_bl)) pss_nil)
      (pss_one (ps_ret (pe_cmpR (op_eqD hr.units) (pe_own CW hr (by rfl) (pa_cons (pe_own CW hr (by rfl) (pa_cons (pv 0) (pa_cons (pv 1) pa_nil))) (pa_cons (pv 2) pa_nil))) (pe_own CW hr (by rfl) (pa_cons (pv 0) (pa_cons (pe_own CE hr2 (by rfl) (pa_cons (pv 1) (pa_cons (pv 2) pa_nil))) pa_nil))) (nomark _)))))), ?_⟩
    have z0 : Same H H := Same.refl H
    -- either
    refine ⟨_, rfl, _, rfl, a, b, ps, qs, rfl, (pr z0).1, (pr z0).2.1, by omega, fun g1 x1 H1 n1 h1 t1 m1 s1 => ?_⟩
    refine ⟨_, rfl, g1, c, x1, ts, rfl, h1.pr, (pr s1).2.2, by omega, fun g2 x2 H2 n2 h2 t2 m2 s2 => ?_⟩
    have S2 := s1.trans s2
    refine ⟨_, rfl, _, rfl, _, rfl, b, c, qs, ts, rfl, (pr S2).2.1, (pr S2).2.2, by omega, fun g3 x3 H3 n3 h3 t3 m3 s3 => ?_⟩
    have S3 := S2.trans s3
    refine ⟨a, g3, ps, x3, rfl, (pr S3).1, h3.pr, by omega, fun g4 x4 H4 n4 h4 t4 m4 s4 => ?_⟩
    have S4 := S3.trans s4
    have e4 : x2 = x4 := t2.one t4 fun n => by rw [t1.same n, t3.same n]; exact or_assoc
    subst e4
    refine ⟨_, _, ((h2.same s3).same s4).dp, h4.dp, shaped_prs _, shaped_prs _, _, rfl, ?_⟩
    rw [eqv_prs]
    refine iteF ?_
    -- both_of
    refine ⟨_, rfl, _, rfl, a, b, ps, qs, rfl, (pr S4).1, (pr S4).2.1, ⟨0, r1⟩, ⟨0, r2⟩, by omega, fun g5 x5 H5 n5 h5 t5 m5 s5 => ?_⟩
    have S5 := S4.trans s5
    refine ⟨_, rfl, g5, c, x5, ts, rfl, h5.pr, (pr S5).2.2, t5.ris, ⟨0, r3⟩, by omega, fun g6 x6 H6 n6 h6 t6 m6 s6 => ?_⟩
    have S6 := S5.trans s6
    refine ⟨_, rfl, _, rfl, _, rfl, b, c, qs, ts, rfl, (pr S6).2.1, (pr S6).2.2, ⟨0, r2⟩, ⟨0, r3⟩, by omega, fun g7 x7 H7 n7 h7 t7 m7 s7 => ?_⟩
    have S7 := S6.trans s7
    refine ⟨a, g7, ps, x7, rfl, (pr S7).1, h7.pr, ⟨0, r1⟩, t7.ris, by omega, fun g8 x8 H8 n8 h8 t8 m8 s8 => ?_⟩
    have S8 := S7.trans s8
    have e8 : x6 = x8 := t6.one t8 fun n => by rw [t5.same n, t7.same n]; exact and_assoc
    subst e8
    refine ⟨_, _, ((h6.same s7).same s8).dp, h8.dp, shaped_prs _, shaped_prs _, _, rfl, ?_⟩
    rw [eqv_prs]
    refine iteF ?_
    -- both_of goes through either
    refine ⟨_, rfl, _, rfl, _, rfl, b, c, qs, ts, rfl, (pr S8).2.1, (pr S8).2.2, by omega, fun g9 x9 H9 n9 h9 t9 m9 s9 => ?_⟩
    have S9 := S8.trans s9
    refine ⟨a, g9, ps, x9, rfl, (pr S9).1, h9.pr, ⟨0, r1⟩, t9.ris, by omega, fun g10 x10 H10 n10 h10 t10 m10 s10 => ?_⟩
    have S10 := S9.trans s10
    refine ⟨_, rfl, _, rfl, a, b, ps, qs, rfl, (pr S10).1, (pr S10).2.1, ⟨0, r1⟩, ⟨0, r2⟩, by omega, fun g11 x11 H11 n11 h11 t11 m11 s11 => ?_⟩
    have S11 := S10.trans s11
    refine ⟨_, rfl, _, rfl, a, c, ps, ts, rfl, (pr S11).1, (pr S11).2.2, ⟨0, r1⟩, ⟨0, r3⟩, by omega, fun g12 x12 H12 n12 h12 t12 m12 s12 => ?_⟩
    have S12 := S11.trans s12
    refine ⟨g11, g12, x11, x12, rfl, (h11.same s12).pr, h12.pr, by omega, fun g13 x13 H13 n13 h13 t13 m13 s13 => ?_⟩
    have S13 := S12.trans s13
    have e13 : x10 = x13 := t10.one t13 fun n => by rw [t9.same n, t11.same n, t12.same n]; exact and_or_left
    subst e13
    refine ⟨_, _, ((h10.same s11).same (s12.trans s13)).dp, h13.dp, shaped_prs _, shaped_prs _, _, rfl, ?_⟩
    rw [eqv_prs]
    refine iteF ?_
    -- without
    refine ⟨_, rfl, _, rfl, a, b, ps, qs, rfl, (pr S13).1, (pr S13).2.1, ⟨0, r1⟩, ⟨0, r2⟩, by omega, fun g14 x14 H14 n14 h14 t14 m14 s14 => ?_⟩
    have S14 := S13.trans s14
    refine ⟨_, rfl, g14, c, x14, ts, rfl, h14.pr, (pr S14).2.2, t14.ris, ⟨0, r3⟩, by omega, fun g15 x15 H15 n15 h15 t15 m15 s15 => ?_⟩
    have S15 := S14.trans s15
    refine ⟨_, rfl, _, rfl, _, rfl, b, c, qs, ts, rfl, (pr S15).2.1, (pr S15).2.2, by omega, fun g16 x16 H16 n16 h16 t16 m16 s16 => ?_⟩
    have S16 := S15.trans s16
    refine ⟨a, g16, ps, x16, rfl, (pr S16).1, h16.pr, ⟨0, r1⟩, t16.ris, by omega, fun g17 x17 H17 n17 h17 t17 m17 s17 => ?_⟩
    have S17 := S16.trans s17
    have e17 : x15 = x17 := t15.one t17 fun n => by
      rw [t14.same n, t16.same n]
      by_cases u : InS ps n <;> by_cases v : InS qs n <;> by_cases x : InS ts n <;> simp [u, v, x]
    subst e17
    refine ⟨_, _, ((h15.same s16).same s17).dp, h17.dp, shaped_prs _, shaped_prs _, ?_⟩
    rw [eqv_prs]
    exact q _ S17
end
/-! ### numbers by their places -/
abbrev sPlaces : Stmt := topS 19
theorem scPlaces : FnScope ["_law_some", "_law_number_here", "_law_there"] ["_law_some"] (defScope sPlaces) := ⟨rfl, rfl, rfl, by decide +kernel, rfl, by decide +kernel, by decide +kernel⟩
def spPlaces (Pc Pi Pl : Addr) : Sp := fun vs H Q _ => ∃ (l : Addr) (rs : List (Int × Int)), vs = [.ref l] ∧ LsA H l rs ∧ (∃ lo, Ris lo rs) ∧ rs.length ≤ 100 ∧ GxR.TabG H Pc ∧ GxR.TabG H Pi ∧ GxR.TabG H Pl ∧ ∀ H', Kt H H' → Q (.bl true) H'
section
variable {K : PySem.W.Frag} {mg : Str → Option Value} {P : Program} {w : World} {base : Heap}
theorem ok_places {f Pc Pi Pl : Addr} {fd : FuncData} (F : Fun K "_law_places_right" "_law_places_right" sPlaces f fd) (CP : Cal P w K mg base 1 "_law_probes" ["_law_lists"] spProbes) (CC : Cal P w K mg base 1 "count_of" ["some"] (spCount K Pc)) (CN : Cal P w K mg base 1 "nth_of" ["some", "n"] (spNthOf K))
    (CI : Cal P w K mg base 1 "is_in" ["some", "number"] (spIsIn K Pi)) (CL : Cal P w K mg base 1 "less_in" ["some", "number"] (spLessIn K Pl)) : FnOk P w K mg base CX0 2 f fd ["_law_some"] (spPlaces Pc Pi Pl) := by
  refine F.ok scPlaces (fun vs H Q E h => ?_) (fun cdv A outer s H vs Q E hr h => ?_)
  · obtain ⟨l, rs, rfl, _⟩ := h
    rfl
  · obtain ⟨l, rs, rfl, ⟨us, el, hps⟩, ⟨lo, hris⟩, hlen, hTc, hTi, hTl, q⟩ := h
    refine ⟨_, pss_cons (ps_for PassesOwn.never rfl (pi_list (pe_own CP hr (by rfl) (pa_cons (pe_lst (pa_cons (pv 0) pa_nil)) pa_nil))) (pg_name (i := 1) scPlaces.nd rfl (.inl rfl))
        (pss_cons (ps_set (i := 2) scPlaces.nd rfl (.inl rfl) (pe_own CN hr (by rfl) (pa_cons (pv 0) (pa_cons (pe_own CL hr (by rfl) (pa_cons (pv 0) (pa_cons (pv 1) pa_nil))) pa_nil))))
        (pss_cons (ps_if (pt_cmpR op_ne (pe_own CI hr (by rfl) (pa_cons (pv 0) (pa_cons (pv 1) pa_nil))) (pe_cmpR op_eq (pv 2) (pv 1) (nomark _)) (nomark _)) (pss_one (ps_ret pe_bl)) pss_nil)
        (pss_one (ps_if (PW.pt (pw_and (pt_cmpR op_notN (pv 2) pe_non (nomark _)) (pw_and1 (pt_cmpR op_ne (pe_own CL hr (by rfl) (pa_cons (pv 0) (pa_cons (pv 2) pa_nil))) (pe_own CL hr (by rfl) (pa_cons (pv 0) (pa_cons (pv 1) pa_nil))) (nomark _))))) (pss_one (ps_ret pe_bl)) pss_nil)))))
      (pss_one (ps_ret (pe_cmpR op_isN (pe_own CN hr (by rfl) (pa_cons (pv 0) (pa_cons (pe_own CC hr (by rfl) (pa_cons (pv 0) pa_nil)) pa_nil))) pe_non (nomark _)))), ?_⟩
    refine ⟨_, rfl, (by show 1 ≤ sizeLine; decide), fun L nL => ?_⟩
    have sL := same_upd (o := .lst [.ref l]) nL
    refine ⟨L, [(l, us, rs)], rfl, upd_same, fun x hx => ?_, (by show 1 ≤ 2; decide), fun g pn H1 ng eg hpn sg => ?_⟩
    · rw [List.mem_singleton.mp hx]
      exact ⟨sL _ _ el, hps.same sL, hlen⟩
    have k1 : Kt H H1 := .same (sL.trans sg)
    refine ⟨g, rfl, ⟨_, SqL.of eg⟩, for_list (xs := pn.map V.int) (fun i σ Hx => ∃ (y1 y2 : Option V), σ = [some (.ref l), y1, y2] ∧ Kt H Hx ∧ Hx g = some (.lst (pn.map V.int))) ⟨_, _, rfl, k1, eg⟩ (fun i σ Hx _ hP => ?_) (fun i x σ Hx hx hP => ?_) (fun σ Hx hP => ?_)⟩
    · obtain ⟨_, _, rfl, _, e⟩ := hP
      exact SqL.of e
    · obtain ⟨y1, y2, rfl, kx, egx⟩ := hP
      obtain ⟨n, rfl⟩ : ∃ n, x = .int n := by
        rw [List.getElem?_map] at hx
        cases h : pn[i]? with
        | none => rw [h] at hx; cases hx
        | some n => rw [h] at hx; exact ⟨n, (Option.some.inj hx).symm⟩
      have at_ : ∀ {H' : Hp}, Kt H H' → Sq K H' l us ∧ Prs H' us rs := fun k => ⟨Sq.list (k.keep _ _ (fun _ z => nomatch z) el), hps.kt k⟩
      have gl := kx.tab _ hTl
      -- there
      refine ⟨_, rfl, _, rfl, _, rfl, l, us, rs, n, rfl, (at_ kx).1, (at_ kx).2, gl, fun H2 x2 => ?_⟩
      have kx2 := Kt.tabbed gl x2
      have k2 := kx.trans kx2
      refine ⟨l, us, rs, _, rfl, (at_ k2).1, (at_ k2).2, ?_⟩
      -- is_in(some, n) != (there == n)
      have gi := k2.tab _ hTi
      refine ⟨_, rfl, _, rfl, l, us, rs, n, rfl, (at_ k2).1, (at_ k2).2, gi, fun H3 x3 => ?_⟩
      have k3 := k2.trans (Kt.tabbed gi x3)
      have egx3 : H3 g = some (.lst (pn.map V.int)) := (kx2.trans (Kt.tabbed gi x3)).keep _ _ (fun _ z => nomatch z) egx
      have nth : (∃ m, nthP (sumP (lessI n) rs) rs = some m ∧ sumP (lessI m) rs = sumP (lessI n) rs ∧ (anyP (inB n) rs = decide (V.int m = V.int n))) ∨ (nthP (sumP (lessI n) rs) rs = none ∧ anyP (inB n) rs = false) := by
        cases e : nthP (sumP (lessI n) rs) rs with
        | none =>
          refine .inr ⟨rfl, ?_⟩
          rw [Bool.eq_false_iff]
          intro z
          rw [nth_in hris (anyP_inS.mp z)] at e
          cases e
        | some m =>
          obtain ⟨i1, i2⟩ := nth_some hris (less_pos rs) e
          refine .inl ⟨m, rfl, i2, ?_⟩
          by_cases z : InS rs n
          · rw [nth_in hris z] at e
            cases e
            rw [anyP_inS.mpr z, decide_eq_true rfl]
          · rw [Bool.eq_false_iff.mpr fun y => z (anyP_inS.mp y), decide_eq_false]
            intro y
            cases y
            exact z i1
      rcases nth with ⟨m, e1, e2, e3⟩ | ⟨e1, e3⟩
      · rw [e1, e3]
        refine ⟨_, rfl, _, rfl, rfl, rfl, false, congrArg V.bl (by rw [show oV (some m) = V.int m from rfl, decide_eq_true rfl]; rfl), iteF ?_⟩
        refine ⟨_, rfl, rfl, _, rfl, iteT ?_⟩
        have gl3 := k3.tab _ hTl
        refine ⟨_, rfl, _, rfl, l, us, rs, m, rfl, (at_ k3).1, (at_ k3).2, gl3, fun H4 x4 => ?_⟩
        have kx4 := Kt.tabbed gl3 x4
        have k4 := k3.trans kx4
        have gl4 := k4.tab _ hTl
        refine ⟨_, rfl, _, rfl, l, us, rs, n, rfl, (at_ k4).1, (at_ k4).2, gl4, fun H5 x5 => ?_⟩
        have kx5 := Kt.tabbed gl4 x5
        refine ⟨rfl, _, rfl, ?_⟩
        rw [decide_eq_true (congrArg V.int e2)]
        exact iteF ⟨_, _, rfl, k4.trans kx5, (kx4.trans kx5).keep _ _ (fun _ z => nomatch z) egx3⟩
      · rw [e1, e3]
        refine ⟨_, rfl, _, rfl, rfl, rfl, _, rfl, ?_⟩
        refine iteF ?_
        exact ⟨_, rfl, rfl, _, rfl, iteF ⟨_, _, rfl, k3, egx3⟩⟩
    · obtain ⟨y1, y2, rfl, kx, egx⟩ := hP
      have gc := kx.tab _ hTc
      have at_ : ∀ {H' : Hp}, Kt H H' → Sq K H' l us ∧ Prs H' us rs := fun k => ⟨Sq.list (k.keep _ _ (fun _ z => nomatch z) el), hps.kt k⟩
      refine ⟨_, rfl, _, rfl, l, us, rs, rfl, (at_ kx).1, (at_ kx).2, gc, fun H2 x2 => ?_⟩
      have k2 := kx.trans (Kt.tabbed gc x2)
      refine ⟨l, us, rs, _, rfl, (at_ k2).1, (at_ k2).2, ?_⟩
      rw [nth_all hris]
      exact ⟨rfl, q _ k2⟩
end

/-! ### the law -/
abbrev sLaw : Stmt := topS 20
theorem scLaw : FnScope ["_law_script", "_law_state", "_law_turn", "_law_one", "_law_other", "_law_third"] ["_law_script"] (defScope sLaw) := ⟨rfl, rfl, rfl, by decide +kernel, rfl, by decide +kernel, by decide +kernel⟩
def spLaw (K : PySem.W.Frag) (Pc Pi Pl : Addr) : Sp := fun vs H Q _ => ∃ (a : Addr) (ns : List Int), vs = [.ref a] ∧ SqL K H a (ns.map V.int) ∧ ns.length ≤ 63 ∧ GxR.TabG H Pc ∧ GxR.TabG H Pi ∧ GxR.TabG H Pl ∧ ∀ H', Q (.bl true) H'
theorem Ris.nn {ps : List (Int × Int)} (h : Ris 0 ps) : ∀ p ∈ ps, 0 ≤ p.2 := fun p hp => by
  have := h.le p hp
  omega
section
variable {K : PySem.W.Frag} {mg : Str → Option Value} {P : Program} {w : World} {base : Heap}
theorem ok_law {f Pc Pi Pl : Addr} {fd : FuncData} (F : Fun K "law" "law" sLaw f fd) (CB : Cal P w K mg base 1 "_law_begin" ["_law_script"] (spBegin K)) (CS : Cal P w K mg base 3 "_law_set" ["_law_state"] spSet) (CR : Cal P w K mg base 4 "_law_near" ["_law_state", "_law_some"] spNear)
    (C2 : Cal P w K mg base 4 "_law_two_right" ["_law_one", "_law_other"] (spTwo Pc)) (C3 : Cal P w K mg base 4 "_law_three_right" ["_law_one", "_law_other", "_law_third"] spThree) (CQ : Cal P w K mg base 2 "_law_places_right" ["_law_some"] (spPlaces Pc Pi Pl))
    (CE : Cal P w K mg base 2 "either" ["one", "other"] (spEither K)) (CW : Cal P w K mg base 3 "without" ["one", "other"] (spWithout K)) (mr : mg "range" = none) : FnOk P w K mg base CX0 5 f fd ["_law_script"] (spLaw K Pc Pi Pl) := by
  refine F.ok scLaw (fun vs H Q E h => ?_) (fun cdv A outer s H vs Q E hr h => ?_)
  · obtain ⟨a, ns, rfl, _⟩ := h
    rfl
  · obtain ⟨a, ns, rfl, hS, hlen, hTc, hTi, hTl, q⟩ := h
    have hr1 := hr.mono (show 1 ≤ 4 by decide)
    have hr2 := hr.mono (show 2 ≤ 4 by decide)
    have hr3 := hr.mono (show 3 ≤ 4 by decide)
    refine ⟨_, pss_cons (ps_set (i := 1) scLaw.nd rfl (.inl rfl) (pe_own CB hr1 (by rfl) (pa_cons (pv 0) pa_nil)))
      (pss_cons (ps_for PassesOwn.never rfl (pi_range1 rfl mr (pa_cons pe_int pa_nil)) (pg_name (i := 2) scLaw.nd rfl (.inl rfl))
        (pss_cons (ps_set (i := 3) scLaw.nd rfl (.inl rfl) (pe_own CS hr3 (by rfl) (pa_cons (pv 1) pa_nil)))
        (pss_cons (ps_par rfl scLaw.nd (i := 4) (j := 5) rfl rfl (by decide) rfl rfl (pa_cons (pe_own CR hr (by rfl) (pa_cons (pv 1) (pa_cons (pv 3) pa_nil))) (pa_cons (pe_own CR hr (by rfl) (pa_cons (pv 1) (pa_cons (pv 3) pa_nil))) pa_nil)) (by rfl))
        (pss_cons (ps_if (PW.pt (pw_or (pt_not (pt_val (pe_own C2 hr (by rfl) (pa_cons (pv 3) (pa_cons (pv 4) pa_nil))))) (pw_or1 (pt_not (pt_val (pe_own C2 hr (by rfl) (pa_cons (pv 4) (pa_cons (pv 5) pa_nil)))))))) (pss_one (ps_ret pe_bl)) pss_nil)
        (pss_one (ps_if (PW.pt (pw_or (pt_not (pt_val (pe_own C3 hr (by rfl) (pa_cons (pv 3) (pa_cons (pv 4) (pa_cons (pv 5) pa_nil)))))) (pw_or1 (pt_not (pt_val (pe_own CQ hr2 (by rfl) (pa_cons (pe_own CW hr3 (by rfl) (pa_cons (pe_own CE hr2 (by rfl) (pa_cons (pv 3) (pa_cons (pv 4) pa_nil))) (pa_cons (pv 5) pa_nil))) pa_nil))))))) (pss_one (ps_ret pe_bl)) pss_nil))))))
      (pss_one (ps_ret pe_bl))), ?_⟩
    refine ⟨.ref a, rfl, a, ns, rfl, hS, hlen, fun d c H1 s1 nd nc hS1 => ?_⟩
    refine ⟨3, rfl, by decide, by decide, for_range (n := 3) (fun i σ Hx => ∃ (t : Int) (y2 y3 y4 y5 : Option V), σ = [some (.ref a), some (.ref d), y2, y3, y4, y5] ∧ 0 ≤ t ∧ t ≤ 2000 * i ∧ StAt Hx d c t ∧ GxR.TabG Hx Pc ∧ GxR.TabG Hx Pi ∧ GxR.TabG Hx Pl)
      ⟨0, _, _, _, _, rfl, by decide, by decide, hS1, tabG_same hTc s1, tabG_same hTi s1, tabG_same hTl s1⟩ (fun i σ Hx hi hP => ?_) (fun σ Hx hP => ?_)⟩
    · obtain ⟨t, y2, y3, y4, y5, rfl, t0, t1, hSx, hc, hj, hl⟩ := hP
      refine ⟨.ref d, rfl, d, c, t, rfl, hSx, by omega, fun l us ps t2 H2 nl el hps hris hpl ht20 ht21 hS2 k2 => ?_⟩
      have offl := hSx.off nl
      have a2 : LsA H2 l ps := ⟨us, el, hps⟩
      refine ⟨_, rfl, _, rfl, d, c, l, t2, ps, rfl, hS2, by omega, a2, offl, hris.nn, by omega, fun l3 qs t3 H3 n3 b3 rb lb t30 t31 hS3 k3 => ?_⟩
      have offb := hS2.off n3
      have a3 := a2.kp hS2 k3 offl
      refine ⟨_, rfl, _, rfl, d, c, l, t3, ps, rfl, hS3, by omega, a3, offl, hris.nn, by omega, fun l4 ts t4 H4 n4 c4 rc lc t40 t41 hS4 k4 => ?_⟩
      have a4 := a3.kp hS3 k4 offl
      have b4 := b3.kp hS3 k4 offb
      have T4 : ∀ {Pv : Addr}, GxR.TabG Hx Pv → GxR.TabG H4 Pv := fun g => tabG_kp (tabG_kp (tabG_kp g hSx k2) hS2 k3) hS3 k4
      refine ⟨_, _, rfl, ?_⟩
      -- two_right
      refine ⟨_, rfl, _, rfl, l, l3, ps, qs, rfl, a4, b4, hris, rb, hpl, lb, T4 hc, fun H5 k5 => ⟨_, rfl, iteF ?_⟩⟩
      refine ⟨_, rfl, _, rfl, l3, l4, qs, ts, rfl, b4.kt k5, c4.kt k5, rb, rc, lb, lc, k5.tab _ (T4 hc), fun H6 k6' => ⟨_, rfl, iteF ?_⟩⟩
      have k6 := k5.trans k6'
      -- three_right, places_right
      refine ⟨_, rfl, _, rfl, _, rfl, l, l3, l4, ps, qs, ts, rfl, a4.kt k6, b4.kt k6, c4.kt k6, hris, rb, rc, hpl, lb, lc, fun H7 s7 => ⟨_, rfl, iteF ?_⟩⟩
      have k7 := k6.trans (.same s7)
      refine ⟨_, rfl, _, rfl, l, l3, ps, qs, rfl, (a4.kt k7).pr, (b4.kt k7).pr, by omega, fun g8 x8 H8 n8 h8 t8 m8 s8 => ?_⟩
      have k8 := k7.trans (.same s8)
      refine ⟨_, rfl, g8, l4, x8, ts, rfl, h8.pr, (c4.kt k8).pr, t8.ris, ⟨0, rc⟩, by omega, fun g9 x9 H9 n9 h9 t9 m9 s9 => ?_⟩
      have k9 := k8.trans (.same s9)
      refine ⟨g9, x9, rfl, h9, t9.ris, by omega, k9.tab _ (T4 hc), k9.tab _ (T4 hj), k9.tab _ (T4 hl), fun H10 k10' => ⟨_, rfl, iteF ?_⟩⟩
      have k10 := k9.trans k10'
      have ei : ((i + 1 : Nat) : Int) = (i : Int) + 1 := by omega
      exact ⟨t4, _, _, _, _, rfl, by omega, by rw [ei]; omega, hS4.kt k10, k10.tab _ (T4 hc), k10.tab _ (T4 hj), k10.tab _ (T4 hl)⟩
    · exact q _
end

/-! ### the end: what the top has left, the tables of code objects among it -/
/-- each def of the text has a code object with an empty table -/
def Tabs (q : Program) (mg : Str → Option Value) (h : Heap) : Prop := ∀ dr ∈ recsOf q, ∃ (f : Addr) (o : Obj) (fd : FuncData) (c P : Addr), mg dr.name = some (.ref f) ∧ h.get? f = some o ∧ o.data = .func fd ∧ fd.code = .ref c ∧ PySem.W.CodeHd h c P ∧ h.get? P = some (PySem.W.tabObj #[])
theorem tab_in {q : Program} {mg : Str → Option Value} {h : Heap} {K : PySem.W.Frag} {y : Str} {f c P : Addr} {oc e : Value} {od dd : Option Addr} {fd : FuncData} {osl sl : Array (Option Value)} {vs : Array Value} (TT : Tabs q mg h) (X : K.In h) (rec : ((recsOf q).any fun r => r.name == y) = true)
    (g : mg y = some (.ref f)) (lf : K.lookup f = some ⟨oc, od, .func fd, osl⟩) (hc : fd.code = .ref c) (lc : K.lookup c = some ⟨e, dd, .fields vs, sl⟩) (v : vs[11]? = some (.ref P)) : PySem.W.CodeHd h c P ∧ h.get? P = some (PySem.W.tabObj #[]) := by
  obtain ⟨dr, mem, nm⟩ := List.any_eq_true.mp rec
  obtain ⟨f', o', fd', c', P', t1, t2, t3, t4, t5, t6⟩ := TT dr mem
  have ef : f' = f := by
    rw [beq_iff_eq.mp nm, g] at t1
    exact (Value.ref.inj (Option.some.inj t1)).symm
  rw [ef, X _ _ lf] at t2
  rw [← Option.some.inj t2] at t3
  have efd : fd = fd' := Data.func.inj t3
  rw [← efd, hc] at t4
  have ec : c = c' := Value.ref.inj t4
  rw [← ec] at t5
  have t5' := t5
  obtain ⟨oc', us, _, _, _, _, _, _, _, u1, _, u3, u4, _⟩ := t5'
  rw [X _ _ lc] at u1
  rw [← Option.some.inj u1] at u3
  have eu : vs = us := Data.fields.inj u3
  rw [← eu, v] at u4
  have eP : P = P' := Value.ref.inj (Option.some.inj u4)
  rw [eP]
  exact ⟨t5, t6⟩
theorem law_end {l : PySem.W.OpenLaw} {k : Nat} {q : Program} {loose : List Str} {XP : (Str → Option Value) → Heap → Prop} {YP : World → Heap → Prop} {d : DefRec} {K : Params → PySem.W.Frag} (most : l.most = some 63) (plain : d.params.defaults = []) (room : Room k callerA)
    (part : ∀ w h, YP w h → (K w.params).In h) (made : ∀ (w : World) (mg : Str → Option Value) (f : Addr) (h : Heap), (K w.params).In h → h.Ns mainGlobals mg → mg d.name = some (.ref f) → Tabs q mg h → LamX.LawAtS l w (K w.params) CX0 k 63 "_law_script" mg f h) : PySem.W.WalkO q loose XP YP l.row.toRowW d [] (fun f vs => PySem.call f vs) := by
  refine Att.attach_callB most plain ?_
  intro w _ s₁ mg _ f _ _ _ _ a vs ns ground said _ _ _ name script nums len size still
  have X := part w _ said
  have tabs : Tabs q mg s₁.heap := fun dr mem => by
    obtain ⟨f', o', fd', c', P', t1, t2, t3, t4, t5, t6⟩ := ground.T.tab dr mem
    exact ⟨f', o', fd', c', P', t1, t2, t3, t4, PySem.W.CodeHd.of t5 t6, t6.2⟩
  obtain ⟨fd, cs, sp, e1, e2, e3, e4, e5, e6⟩ := made w mg f _ X ground.T.g name tabs
  exact LamX.law_callTs X ground.T.g ground.T.b ground.T.builtins ground.T.nolimit still e1 e2 e3 ground.T.bmain script nums (Nat.le_trans len (by decide)) room e6 e4 (fun H z1 z2 => e5 H a ns len size z1 z2) fun _ _ _ z => z

theorem all_mk {l : PySem.W.OpenLaw} {q : Program} {w : World} {K : PySem.W.Frag} {h : Heap} {mg : Str → Option Value} {fa f0 f1 f2 f3 f4 f5 f6 f7 f8 f9 f10 f11 f12 f13 f14 f15 f16 f17 f18 : Addr} {c5 P5 c7 P7 c8 P8 : Addr} (X : K.In h) (G : h.Ns mainGlobals mg) (hfa : mg "law" = some (.ref fa)) (TT : Tabs q mg h)
    {od0 an0 od1 an1 od2 an2 od3 an3 od4 an4 od5 an5 od6 an6 od7 an7 od8 an8 od9 an9 od10 an10 od11 an11 od12 an12 od13 an13 od14 an14 od15 an15 od16 an16 od17 an17 od18 an18 : Option Addr} {sl0 sl1 sl2 sl3 sl4 sl5 sl6 sl7 sl8 sl9 sl10 sl11 sl12 sl13 sl14 sl15 sl16 sl17 sl18 : Array (Option Value)} {oc0 kV0 dc0 pm0 ct0 cd0 oc1 kV1 dc1 pm1 ct1 cd1 oc2 kV2 dc2 pm2 ct2 cd2 oc3 kV3 dc3 pm3 ct3 cd3 oc4 kV4 dc4 pm4 ct4 cd4 oc5 kV5 dc5 pm5 ct5 oc6 kV6 dc6 pm6 ct6 cd6 oc7 kV7 dc7 pm7 ct7 oc8 kV8 dc8 pm8 ct8 oc9 kV9 dc9 pm9 ct9 cd9 oc10 kV10 dc10 pm10 ct10 cd10 oc11 kV11 dc11 pm11 ct11 cd11 oc12 kV12 dc12 pm12 ct12 cd12 oc13 kV13 dc13 pm13 ct13 cd13 oc14 kV14 dc14 pm14 ct14 cd14 oc15 kV15 dc15 pm15 ct15 cd15 oc16 kV16 dc16 pm16 ct16 cd16 oc17 kV17 dc17 pm17 ct17 cd17 oc18 kV18 dc18 pm18 ct18 cd18 : Value}
    {e5 : Value} {dd5 : Option Addr} {vs5 : Array Value} {sc5 : Array (Option Value)} {e7 : Value} {dd7 : Option Addr} {vs7 : Array Value} {sc7 : Array (Option Value)} {e8 : Value} {dd8 : Option Addr} {vs8 : Array Value} {sc8 : Array (Option Value)}
    (a0 : PySem.W.nsIn K mainGlobals "set_of" = some (some (.ref f0))) (l0 : K.lookup f0 = some ⟨oc0, od0, .func (PySem.W.fnOf "set_of" "set_of" (defArgs sSetOf) (defBody sSetOf) (defScope sSetOf) .none kV0 dc0 pm0 an0 cd0 ct0), sl0⟩) (c0' : PySem.W.codeIn K cd0 "set_of" = true) (k0 : PySem.W.keepIn K (.ref f0) = true)
    (a1 : PySem.W.nsIn K mainGlobals "either" = some (some (.ref f1))) (l1 : K.lookup f1 = some ⟨oc1, od1, .func (PySem.W.fnOf "either" "either" (defArgs sEither) (defBody sEither) (defScope sEither) .none kV1 dc1 pm1 an1 cd1 ct1), sl1⟩) (c1' : PySem.W.codeIn K cd1 "either" = true) (k1 : PySem.W.keepIn K (.ref f1) = true)
    (a2 : PySem.W.nsIn K mainGlobals "both_of" = some (some (.ref f2))) (l2 : K.lookup f2 = some ⟨oc2, od2, .func (PySem.W.fnOf "both_of" "both_of" (defArgs sBoth) (defBody sBoth) (defScope sBoth) .none kV2 dc2 pm2 an2 cd2 ct2), sl2⟩) (c2' : PySem.W.codeIn K cd2 "both_of" = true) (k2 : PySem.W.keepIn K (.ref f2) = true)
    (a3 : PySem.W.nsIn K mainGlobals "gaps_of" = some (some (.ref f3))) (l3 : K.lookup f3 = some ⟨oc3, od3, .func (PySem.W.fnOf "gaps_of" "gaps_of" (defArgs sGaps) (defBody sGaps) (defScope sGaps) .none kV3 dc3 pm3 an3 cd3 ct3), sl3⟩) (c3' : PySem.W.codeIn K cd3 "gaps_of" = true) (k3 : PySem.W.keepIn K (.ref f3) = true)
    (a4 : PySem.W.nsIn K mainGlobals "without" = some (some (.ref f4))) (l4 : K.lookup f4 = some ⟨oc4, od4, .func (PySem.W.fnOf "without" "without" (defArgs sWithout) (defBody sWithout) (defScope sWithout) .none kV4 dc4 pm4 an4 cd4 ct4), sl4⟩) (c4' : PySem.W.codeIn K cd4 "without" = true) (k4 : PySem.W.keepIn K (.ref f4) = true)
    (a5 : PySem.W.nsIn K mainGlobals "count_of" = some (some (.ref f5))) (l5 : K.lookup f5 = some ⟨oc5, od5, .func (PySem.W.fnOf "count_of" "count_of" (defArgs sCount) (defBody sCount) (defScope sCount) .none kV5 dc5 pm5 an5 (.ref c5) ct5), sl5⟩) (c5' : PySem.W.codeIn K (.ref c5) "count_of" = true) (k5 : PySem.W.keepIn K (.ref f5) = true)
    (a6 : PySem.W.nsIn K mainGlobals "nth_of" = some (some (.ref f6))) (l6 : K.lookup f6 = some ⟨oc6, od6, .func (PySem.W.fnOf "nth_of" "nth_of" (defArgs sNthOf) (defBody sNthOf) (defScope sNthOf) .none kV6 dc6 pm6 an6 cd6 ct6), sl6⟩) (c6' : PySem.W.codeIn K cd6 "nth_of" = true) (k6 : PySem.W.keepIn K (.ref f6) = true)
    (a7 : PySem.W.nsIn K mainGlobals "is_in" = some (some (.ref f7))) (l7 : K.lookup f7 = some ⟨oc7, od7, .func (PySem.W.fnOf "is_in" "is_in" (defArgs sIsIn) (defBody sIsIn) (defScope sIsIn) .none kV7 dc7 pm7 an7 (.ref c7) ct7), sl7⟩) (c7' : PySem.W.codeIn K (.ref c7) "is_in" = true) (k7 : PySem.W.keepIn K (.ref f7) = true)
    (a8 : PySem.W.nsIn K mainGlobals "less_in" = some (some (.ref f8))) (l8 : K.lookup f8 = some ⟨oc8, od8, .func (PySem.W.fnOf "less_in" "less_in" (defArgs sLessIn) (defBody sLessIn) (defScope sLessIn) .none kV8 dc8 pm8 an8 (.ref c8) ct8), sl8⟩) (c8' : PySem.W.codeIn K (.ref c8) "less_in" = true) (k8 : PySem.W.keepIn K (.ref f8) = true)
    (a9 : PySem.W.nsIn K mainGlobals "_law_begin" = some (some (.ref f9))) (l9 : K.lookup f9 = some ⟨oc9, od9, .func (PySem.W.fnOf "_law_begin" "_law_begin" (defArgs sBegin) (defBody sBegin) (defScope sBegin) .none kV9 dc9 pm9 an9 cd9 ct9), sl9⟩) (c9' : PySem.W.codeIn K cd9 "_law_begin" = true) (k9 : PySem.W.keepIn K (.ref f9) = true)
    (a10 : PySem.W.nsIn K mainGlobals "_law_take" = some (some (.ref f10))) (l10 : K.lookup f10 = some ⟨oc10, od10, .func (PySem.W.fnOf "_law_take" "_law_take" (defArgs sTake) (defBody sTake) (defScope sTake) .none kV10 dc10 pm10 an10 cd10 ct10), sl10⟩) (c10' : PySem.W.codeIn K cd10 "_law_take" = true) (k10 : PySem.W.keepIn K (.ref f10) = true)
    (a11 : PySem.W.nsIn K mainGlobals "_law_number" = some (some (.ref f11))) (l11 : K.lookup f11 = some ⟨oc11, od11, .func (PySem.W.fnOf "_law_number" "_law_number" (defArgs sNumber) (defBody sNumber) (defScope sNumber) .none kV11 dc11 pm11 an11 cd11 ct11), sl11⟩) (c11' : PySem.W.codeIn K cd11 "_law_number" = true) (k11 : PySem.W.keepIn K (.ref f11) = true)
    (a12 : PySem.W.nsIn K mainGlobals "_law_set" = some (some (.ref f12))) (l12 : K.lookup f12 = some ⟨oc12, od12, .func (PySem.W.fnOf "_law_set" "_law_set" (defArgs sSet) (defBody sSet) (defScope sSet) .none kV12 dc12 pm12 an12 cd12 ct12), sl12⟩) (c12' : PySem.W.codeIn K cd12 "_law_set" = true) (k12 : PySem.W.keepIn K (.ref f12) = true)
    (a13 : PySem.W.nsIn K mainGlobals "_law_near" = some (some (.ref f13))) (l13 : K.lookup f13 = some ⟨oc13, od13, .func (PySem.W.fnOf "_law_near" "_law_near" (defArgs sNear) (defBody sNear) (defScope sNear) .none kV13 dc13 pm13 an13 cd13 ct13), sl13⟩) (c13' : PySem.W.codeIn K cd13 "_law_near" = true) (k13 : PySem.W.keepIn K (.ref f13) = true)
    (a14 : PySem.W.nsIn K mainGlobals "_law_probes" = some (some (.ref f14))) (l14 : K.lookup f14 = some ⟨oc14, od14, .func (PySem.W.fnOf "_law_probes" "_law_probes" (defArgs sProbes) (defBody sProbes) (defScope sProbes) .none kV14 dc14 pm14 an14 cd14 ct14), sl14⟩) (c14' : PySem.W.codeIn K cd14 "_law_probes" = true) (k14 : PySem.W.keepIn K (.ref f14) = true)
    (a15 : PySem.W.nsIn K mainGlobals "_law_two_right" = some (some (.ref f15))) (l15 : K.lookup f15 = some ⟨oc15, od15, .func (PySem.W.fnOf "_law_two_right" "_law_two_right" (defArgs sTwo) (defBody sTwo) (defScope sTwo) .none kV15 dc15 pm15 an15 cd15 ct15), sl15⟩) (c15' : PySem.W.codeIn K cd15 "_law_two_right" = true) (k15 : PySem.W.keepIn K (.ref f15) = true)
    (a16 : PySem.W.nsIn K mainGlobals "_law_three_right" = some (some (.ref f16))) (l16 : K.lookup f16 = some ⟨oc16, od16, .func (PySem.W.fnOf "_law_three_right" "_law_three_right" (defArgs sThree) (defBody sThree) (defScope sThree) .none kV16 dc16 pm16 an16 cd16 ct16), sl16⟩) (c16' : PySem.W.codeIn K cd16 "_law_three_right" = true) (k16 : PySem.W.keepIn K (.ref f16) = true)
    (a17 : PySem.W.nsIn K mainGlobals "_law_places_right" = some (some (.ref f17))) (l17 : K.lookup f17 = some ⟨oc17, od17, .func (PySem.W.fnOf "_law_places_right" "_law_places_right" (defArgs sPlaces) (defBody sPlaces) (defScope sPlaces) .none kV17 dc17 pm17 an17 cd17 ct17), sl17⟩) (c17' : PySem.W.codeIn K cd17 "_law_places_right" = true) (k17 : PySem.W.keepIn K (.ref f17) = true)
    (a18 : PySem.W.nsIn K mainGlobals "law" = some (some (.ref f18))) (l18 : K.lookup f18 = some ⟨oc18, od18, .func (PySem.W.fnOf "law" "law" (defArgs sLaw) (defBody sLaw) (defScope sLaw) .none kV18 dc18 pm18 an18 cd18 ct18), sl18⟩) (c18' : PySem.W.codeIn K cd18 "law" = true) (k18 : PySem.W.keepIn K (.ref f18) = true)
    (lc5 : K.lookup c5 = some ⟨e5, dd5, .fields vs5, sc5⟩) (v5 : vs5[11]? = some (.ref P5)) (nP5 : K.lookup P5 = none) (r5 : ((recsOf q).any fun e => e.name == ("count_of" : Str)) = true)
    (lc7 : K.lookup c7 = some ⟨e7, dd7, .fields vs7, sc7⟩) (v7 : vs7[11]? = some (.ref P7)) (nP7 : K.lookup P7 = none) (r7 : ((recsOf q).any fun e => e.name == ("is_in" : Str)) = true)
    (lc8 : K.lookup c8 = some ⟨e8, dd8, .fields vs8, sc8⟩) (v8 : vs8[11]? = some (.ref P8)) (nP8 : K.lookup P8 = none) (r8 : ((recsOf q).any fun e => e.name == ("less_in" : Str)) = true)
    (z_sum : PySem.W.nsIn K mainGlobals "sum" = some none) (z_any : PySem.W.nsIn K mainGlobals "any" = some none) (z_list : PySem.W.nsIn K mainGlobals "list" = some none) (z_len : PySem.W.nsIn K mainGlobals "len" = some none) (z_divmod : PySem.W.nsIn K mainGlobals "divmod" = some none) (z_range : PySem.W.nsIn K mainGlobals "range" = some none) (z_max : PySem.W.nsIn K mainGlobals "max" = some none) (z_min : PySem.W.nsIn K mainGlobals "min" = some none) (z_sorted : PySem.W.nsIn K mainGlobals "sorted" = some none) :
    LamX.LawAtS l w K CX0 5 63 "_law_script" mg fa h := by
  cases hfa.symm.trans (PySem.W.mg_of X G a18)
  have F0 := fun_mk (st := sSetOf) l0 c0' k0
  have b0 := F0.binds (ps := ["pairs"]) fun _ _ _ _ _ _ us hl => match us, hl with | [_], _ => rfl
  have F1 := fun_mk (st := sEither) l1 c1' k1
  have b1 := F1.binds (ps := ["one", "other"]) fun _ _ _ _ _ _ us hl => match us, hl with | [_, _], _ => rfl
  have F2 := fun_mk (st := sBoth) l2 c2' k2
  have b2 := F2.binds (ps := ["one", "other"]) fun _ _ _ _ _ _ us hl => match us, hl with | [_, _], _ => rfl
  have F3 := fun_mk (st := sGaps) l3 c3' k3
  have b3 := F3.binds (ps := ["some", "begin", "end"]) fun _ _ _ _ _ _ us hl => match us, hl with | [_, _, _], _ => rfl
  have F4 := fun_mk (st := sWithout) l4 c4' k4
  have b4 := F4.binds (ps := ["one", "other"]) fun _ _ _ _ _ _ us hl => match us, hl with | [_, _], _ => rfl
  have F5 := fun_mk (st := sCount) l5 c5' k5
  have b5 := F5.binds (ps := ["some"]) fun _ _ _ _ _ _ us hl => match us, hl with | [_], _ => rfl
  have F6 := fun_mk (st := sNthOf) l6 c6' k6
  have b6 := F6.binds (ps := ["some", "n"]) fun _ _ _ _ _ _ us hl => match us, hl with | [_, _], _ => rfl
  have F7 := fun_mk (st := sIsIn) l7 c7' k7
  have b7 := F7.binds (ps := ["some", "number"]) fun _ _ _ _ _ _ us hl => match us, hl with | [_, _], _ => rfl
  have F8 := fun_mk (st := sLessIn) l8 c8' k8
  have b8 := F8.binds (ps := ["some", "number"]) fun _ _ _ _ _ _ us hl => match us, hl with | [_, _], _ => rfl
  have F9 := fun_mk (st := sBegin) l9 c9' k9
  have b9 := F9.binds (ps := ["_law_script"]) fun _ _ _ _ _ _ us hl => match us, hl with | [_], _ => rfl
  have F10 := fun_mk (st := sTake) l10 c10' k10
  have b10 := F10.binds (ps := ["_law_state", "_law_many"]) fun _ _ _ _ _ _ us hl => match us, hl with | [_, _], _ => rfl
  have F11 := fun_mk (st := sNumber) l11 c11' k11
  have b11 := F11.binds (ps := ["_law_state", "_law_kind"]) fun _ _ _ _ _ _ us hl => match us, hl with | [_, _], _ => rfl
  have F12 := fun_mk (st := sSet) l12 c12' k12
  have b12 := F12.binds (ps := ["_law_state"]) fun _ _ _ _ _ _ us hl => match us, hl with | [_], _ => rfl
  have F13 := fun_mk (st := sNear) l13 c13' k13
  have b13 := F13.binds (ps := ["_law_state", "_law_some"]) fun _ _ _ _ _ _ us hl => match us, hl with | [_, _], _ => rfl
  have F14 := fun_mk (st := sProbes) l14 c14' k14
  have b14 := F14.binds (ps := ["_law_lists"]) fun _ _ _ _ _ _ us hl => match us, hl with | [_], _ => rfl
  have F15 := fun_mk (st := sTwo) l15 c15' k15
  have b15 := F15.binds (ps := ["_law_one", "_law_other"]) fun _ _ _ _ _ _ us hl => match us, hl with | [_, _], _ => rfl
  have F16 := fun_mk (st := sThree) l16 c16' k16
  have b16 := F16.binds (ps := ["_law_one", "_law_other", "_law_third"]) fun _ _ _ _ _ _ us hl => match us, hl with | [_, _, _], _ => rfl
  have F17 := fun_mk (st := sPlaces) l17 c17' k17
  have b17 := F17.binds (ps := ["_law_some"]) fun _ _ _ _ _ _ us hl => match us, hl with | [_], _ => rfl
  have F18 := fun_mk (st := sLaw) l18 c18' k18
  have m_sum := PySem.W.mg_none_of X G z_sum
  have m_any := PySem.W.mg_none_of X G z_any
  have m_list := PySem.W.mg_none_of X G z_list
  have m_len := PySem.W.mg_none_of X G z_len
  have m_divmod := PySem.W.mg_none_of X G z_divmod
  have m_range := PySem.W.mg_none_of X G z_range
  have m_max := PySem.W.mg_none_of X G z_max
  have m_min := PySem.W.mg_none_of X G z_min
  have m_sorted := PySem.W.mg_none_of X G z_sorted
  have tb5 := tab_in TT X r5 (PySem.W.mg_of X G a5) l5 rfl lc5 v5
  have tb7 := tab_in TT X r7 (PySem.W.mg_of X G a7) l7 rfl lc7 v7
  have tb8 := tab_in TT X r8 (PySem.W.mg_of X G a8) l8 rfl lc8 v8
  refine ⟨PySem.W.fnOf "law" "law" (defArgs sLaw) (defBody sLaw) (defScope sLaw) .none kV18 dc18 pm18 an18 cd18 ct18, [(c5, P5), (c7, P7), (c8, P8)], spLaw K P5 P7 P8, List.forall_mem_cons.mpr ⟨tb5.2, List.forall_mem_cons.mpr ⟨tb7.2, List.forall_mem_cons.mpr ⟨tb8.2, fun _ z => nomatch z⟩⟩⟩, List.forall_mem_cons.mpr ⟨nP5, List.forall_mem_cons.mpr ⟨nP7, List.forall_mem_cons.mpr ⟨nP8, fun _ z => nomatch z⟩⟩⟩, List.forall_mem_cons.mpr ⟨tb5.1, List.forall_mem_cons.mpr ⟨tb7.1, List.forall_mem_cons.mpr ⟨tb8.1, fun _ z => nomatch z⟩⟩⟩, fun s v => .of_eq rfl, fun H a ns hl _ hH hS => ?_, fun base _ _ TB => ?_⟩
  · have hT5 : GxR.TabG H P5 := ⟨#[], hH (c5, P5) (List.mem_cons_self ..), trivial⟩; have hT7 : GxR.TabG H P7 := ⟨#[], hH (c7, P7) (List.mem_cons_of_mem _ (List.mem_cons_self ..)), trivial⟩; have hT8 : GxR.TabG H P8 := ⟨#[], hH (c8, P8) (List.mem_cons_of_mem _ (List.mem_cons_of_mem _ (List.mem_cons_self ..))), trivial⟩; exact ⟨a, ns, rfl, hS, hl, hT5, hT7, hT8, fun _ => rfl⟩
  · have g := fun {x : Str} {f : Addr} (a : PySem.W.nsIn K mainGlobals x = some (some (.ref f))) => PySem.W.mg_of X G a
    have T5 : GxR.TabB base mg c5 P5 := let t := TB (c5, P5) (List.mem_cons_self ..); ⟨t.code, t.bm, t.gP⟩
    have T7 : GxR.TabB base mg c7 P7 := let t := TB (c7, P7) (List.mem_cons_of_mem _ (List.mem_cons_self ..)); ⟨t.code, t.bm, t.gP⟩
    have T8 : GxR.TabB base mg c8 P8 := let t := TB (c8, P8) (List.mem_cons_of_mem _ (List.mem_cons_of_mem _ (List.mem_cons_self ..))); ⟨t.code, t.bm, t.gP⟩
    have CT : Cal l.prog w K mg base 1 "_law_take" ["_law_state", "_law_many"] spTake := ⟨_, _, ok_take F10 m_len m_divmod, g a10, k10, b10⟩
    have CB : Cal l.prog w K mg base 1 "_law_begin" ["_law_script"] (spBegin K) := ⟨_, _, ok_begin F9 m_list, g a9, k9, b9⟩
    have CU : Cal l.prog w K mg base 2 "_law_number" ["_law_state", "_law_kind"] spNumber := ⟨_, _, ok_number F11 CT m_range, g a11, k11, b11⟩
    have CS : Cal l.prog w K mg base 3 "_law_set" ["_law_state"] spSet := ⟨_, _, ok_set F12 CT CU m_range, g a12, k12, b12⟩
    have CR : Cal l.prog w K mg base 4 "_law_near" ["_law_state", "_law_some"] spNear := ⟨_, _, ok_near F13 CT CS, g a13, k13, b13⟩
    have CP : Cal l.prog w K mg base 1 "_law_probes" ["_law_lists"] spProbes := ⟨_, _, ok_probes F14 m_max m_sorted m_list, g a14, k14, b14⟩
    have CO : Cal l.prog w K mg base 1 "set_of" ["pairs"] (spSetOf K) := ⟨_, _, ok_setof F0 m_sorted m_max, g a0, k0, b0⟩
    have CE : Cal l.prog w K mg base 2 "either" ["one", "other"] (spEither K) := ⟨_, _, ok_either F1 CO, g a1, k1, b1⟩
    have CA : Cal l.prog w K mg base 1 "both_of" ["one", "other"] (spBoth K) := ⟨_, _, ok_both F2 m_len m_max m_min, g a2, k2, b2⟩
    have CG : Cal l.prog w K mg base 2 "gaps_of" ["some", "begin", "end"] (spGaps K) := ⟨_, _, ok_gaps F3 CO m_max m_min, g a3, k3, b3⟩
    have CW : Cal l.prog w K mg base 3 "without" ["one", "other"] (spWithout K) := ⟨_, _, ok_without F4 CA CG, g a4, k4, b4⟩
    have CC : Cal l.prog w K mg base 1 "count_of" ["some"] (spCount K P5) := ⟨_, _, ok_count l5 c5' T5 m_sum, g a5, k5, b5⟩
    have CN : Cal l.prog w K mg base 1 "nth_of" ["some", "n"] (spNthOf K) := ⟨_, _, ok_nthof F6, g a6, k6, b6⟩
    have CI : Cal l.prog w K mg base 1 "is_in" ["some", "number"] (spIsIn K P7) := ⟨_, _, ok_isin l7 c7' T7 m_any, g a7, k7, b7⟩
    have CL : Cal l.prog w K mg base 1 "less_in" ["some", "number"] (spLessIn K P8) := ⟨_, _, ok_lessin l8 c8' T8 m_sum m_max m_min, g a8, k8, b8⟩
    have C2 : Cal l.prog w K mg base 4 "_law_two_right" ["_law_one", "_law_other"] (spTwo P5) := ⟨_, _, ok_two F15 CO CE CA CW CC m_len, g a15, k15, b15⟩
    have C3 : Cal l.prog w K mg base 4 "_law_three_right" ["_law_one", "_law_other", "_law_third"] spThree := ⟨_, _, ok_three F16 CE CA CW, g a16, k16, b16⟩
    have CQ : Cal l.prog w K mg base 2 "_law_places_right" ["_law_some"] (spPlaces P5 P7 P8) := ⟨_, _, ok_places F17 CP CC CN CI CL, g a17, k17, b17⟩
    exact ok_law F18 CB CS CR C2 C3 CQ CE CW m_range
end TK
open PySem PySem.W PyProof.Rows
set_option maxHeartbeats 0 in
theorem PySem.Challenge.cw_tinrecall_k05_sets_beside_one_another_holds : PySem.Challenge.rw_tinrecall_k05_sets_beside_one_another.Holds := by
  w_on; o_law; k_head; (case hw => w_witness2)
  k_fill
  refine TK.law_end (l := PySem.Challenge.rw_tinrecall_k05_sets_beside_one_another) (k := 5) rfl rfl ⟨rfl, by decide, by decide⟩ (fun w h Y => PySem.W.kIn_of Y) ?made
  case made =>
    intro w mg f h KX G hmg TT
    refine' TK.all_mk KX G hmg TT ?a0 ?l0 ?c0 ?k0 ?a1 ?l1 ?c1 ?k1 ?a2 ?l2 ?c2 ?k2 ?a3 ?l3 ?c3 ?k3 ?a4 ?l4 ?c4 ?k4 ?a5 ?l5 ?c5 ?k5 ?a6 ?l6 ?c6 ?k6 ?a7 ?l7 ?c7 ?k7 ?a8 ?l8 ?c8 ?k8 ?a9 ?l9 ?c9 ?k9 ?a10 ?l10 ?c10 ?k10 ?a11 ?l11 ?c11 ?k11 ?a12 ?l12 ?c12 ?k12 ?a13 ?l13 ?c13 ?k13 ?a14 ?l14 ?c14 ?k14 ?a15 ?l15 ?c15 ?k15 ?a16 ?l16 ?c16 ?k16 ?a17 ?l17 ?c17 ?k17 ?a18 ?l18 ?c18 ?k18 ?lc5 ?v5 ?nP5 ?r5 ?lc7 ?v7 ?nP7 ?r7 ?lc8 ?v8 ?nP8 ?r8 ?z_sum ?z_any ?z_list ?z_len ?z_divmod ?z_range ?z_max ?z_min ?z_sorted
    (case a0 => k_is); (case l0 => k_is); (case c0 => k_is); (case k0 => k_is)
    (case a1 => k_is); (case l1 => k_is); (case c1 => k_is); (case k1 => k_is)
    (case a2 => k_is); (case l2 => k_is); (case c2 => k_is); (case k2 => k_is)
    (case a3 => k_is); (case l3 => k_is); (case c3 => k_is); (case k3 => k_is)
    (case a4 => k_is); (case l4 => k_is); (case c4 => k_is); (case k4 => k_is)
    (case a5 => k_is); (case l5 => k_is); (case c5 => k_is); (case k5 => k_is)
    (case a6 => k_is); (case l6 => k_is); (case c6 => k_is); (case k6 => k_is)
    (case a7 => k_is); (case l7 => k_is); (case c7 => k_is); (case k7 => k_is)
    (case a8 => k_is); (case l8 => k_is); (case c8 => k_is); (case k8 => k_is)
    (case a9 => k_is); (case l9 => k_is); (case c9 => k_is); (case k9 => k_is)
    (case a10 => k_is); (case l10 => k_is); (case c10 => k_is); (case k10 => k_is)
    (case a11 => k_is); (case l11 => k_is); (case c11 => k_is); (case k11 => k_is)
    (case a12 => k_is); (case l12 => k_is); (case c12 => k_is); (case k12 => k_is)
    (case a13 => k_is); (case l13 => k_is); (case c13 => k_is); (case k13 => k_is)
    (case a14 => k_is); (case l14 => k_is); (case c14 => k_is); (case k14 => k_is)
    (case a15 => k_is); (case l15 => k_is); (case c15 => k_is); (case k15 => k_is)
    (case a16 => k_is); (case l16 => k_is); (case c16 => k_is); (case k16 => k_is)
    (case a17 => k_is); (case l17 => k_is); (case c17 => k_is); (case k17 => k_is)
    (case a18 => k_is); (case l18 => k_is); (case c18 => k_is); (case k18 => k_is)
    (case lc5 => k_is); (case v5 => exact rfl); (case nP5 => exact rfl); (case r5 => decide +kernel)
    (case lc7 => k_is); (case v7 => exact rfl); (case nP7 => exact rfl); (case r7 => decide +kernel)
    (case lc8 => k_is); (case v8 => exact rfl); (case nP8 => exact rfl); (case r8 => decide +kernel)
    (case z_sum => k_is); (case z_any => k_is); (case z_list => k_is); (case z_len => k_is); (case z_divmod => k_is); (case z_range => k_is); (case z_max => k_is); (case z_min => k_is); (case z_sorted => k_is)

