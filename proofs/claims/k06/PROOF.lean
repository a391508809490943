import PyProof.Rows.All
import Wide.All
import OpenK.AllK
import Wide.FinOn
import HandS.ForMost
import HandS.WideBits
import HandS.IsInst
import HandS.Style
import HandS.AnyAll
import HandS.Nested
import HandS.Walk
import HandS.Evl
import HandS.EndTab
import HandS.SortInts
import HandS.SortRule
import HandS.Conv
import HandS.Star
import HandS.Zip
import HandS.More
import KE.KDictPairs
import PyProof.SumAny
import PyProof.WalksPairs
import PyProof.GenCompT
import PySem.Challenge.RW_tinrecall_k06_small_sets_number_by_numbe
set_option Elab.async false
set_option linter.all false
set_option maxRecDepth 100000
set_option maxHeartbeats 5000000
/-! ## sum(.. for a, b in ..): a generator expression over a list or a tuple of pairs of whole numbers -/
namespace GP
open PySem PySem.Spec PyProof.Rows L2 GxR

/-- a walk whose items are tuples that stand still -/
theorem asTuples {prog : Program} {w : World} {A : Around} {it : Addr} {foot : List Addr} {n : Nat} {Item : Nat → Value → Prop} {At : Nat → Heap → Prop} (W : Walks prog w A it foot [it] n Item At) (loc : Nat → Addr) (held : Nat → Array Value)
    (isT : ∀ j v, j < n → Item j v → v = .ref (loc j)) (apt : ∀ j, j < n → loc j ≠ it)
    (letGo : ∀ (es : List Expr) (k : Nat) (pos : Pos) (j : Nat) (T : Addr) (s : Shared) (Q : Unit → Shared → Prop) (E : Value → Shared → Prop), At j s.heap → Q () s → wpAny (model prog w) A (letOwnedTupleGo (.Tuple es k pos) (.ref it) (.ref T)) Q E s) :
    WalksU prog w A it (foot ++ (List.range n).map loc) [it] n (fun j xs => xs = held j) (fun j h => At j h ∧ ∀ m, m < n → h.IsTuple (loc m) (held m))
      (fun j T h => (j < n ∧ T = loc j) ∧ At (j + 1) h ∧ ∀ m, m < n → h.IsTuple (loc m) (held m)) := by
  have inFoot : ∀ m, m < n → loc m ∈ foot ++ (List.range n).map loc := fun m hm => List.mem_append.mpr (.inr (List.mem_map.mpr ⟨m, List.mem_range.mpr hm, rfl⟩))
  constructor
  case sub => exact fun b hb => List.mem_append.mpr (.inl (W.sub b hb))
  case frame =>
    intro j h h' ⟨a1, a2⟩ kept
    refine ⟨W.frame j h h' a1 fun b hb => kept b (List.mem_append.mpr (.inl hb)), fun m hm => ?_⟩
    obtain ⟨o, e, r⟩ := a2 m hm
    exact ⟨o, kept _ (inFoot m hm) o e, r⟩
  case item =>
    intro j s Q E hj ⟨a1, a2⟩ fin
    refine W.item j s Q E hj a1 fun v h' tk hv a1' kept => ?_
    have still : ∀ m, m < n → h'.IsTuple (loc m) (held m) := fun m hm => by
      obtain ⟨o, e, r⟩ := a2 m hm
      exact ⟨o, kept _ o (fun z => apt m hm (List.mem_singleton.mp z)) e, r⟩
    rw [isT j v hj hv]
    exact fin (loc j) (held j) h' tk rfl (still j hj) ⟨⟨hj, rfl⟩, a1', still⟩ kept
  case go =>
    intro es k pos j T s Q E hm fin
    exact letGo es k pos (j + 1) T s Q E hm.2.1 (fin s.heap hm.2 fun _ _ _ e => e)
  case apart =>
    intro j T h hm z
    rw [hm.1.2] at z
    exact apt j hm.1.1 (List.mem_singleton.mp z)
  case done => exact fun s Q E a fin => W.done s Q E a.1 fin
  case self => exact fun j s Q E a fin => W.self j s Q E a.1 fin

/-- the values vs are tuples that hold the pairs ps -/
def Prs (H : Hp) (vs : List V) (ps : List (Int × Int)) : Prop := vs.length = ps.length ∧ ∀ (i : Nat) p, ps[i]? = some p → ∃ a, vs[i]? = some (.ref a) ∧ H a = some (.tup [.int p.1, .int p.2])

/-- what is asked of the expression's own scope: the two names are its locals, its captured names are the def's -/
def OwnScope (env : Env) (sc : Scope) (xa xb : Str) : Prop :=
  (sc.kind = .function ∧ sc.isCoroutine = false ∧ xa ≠ xb) ∧ (sc.names.lookup (".0" : Str) = some .local ∧ sc.names.lookup xa = some .local ∧ sc.names.lookup xb = some .local) ∧
  (∀ y ∈ sc.names, y.2 ≠ NameKind.cell) ∧ ∀ y ∈ sc.names, y.2 = NameKind.free → ∃ c, env.cells.lookup y.1 = some c

section
variable {X : Cx} {s : Shared} {H : Hp} {σ : L2.St} {pins : List (Addr × Obj)}
/-- a tracked pair in the machine's heap -/
theorem pair_in {T : Addr} {p : Int × Int} (I : Inv X pins σ H s) (e : H T = some (.tup [.int p.1, .int p.2])) : ∃ ta tb, s.heap.IsTuple T #[.int p.1 ta, .int p.2 tb] := by
  obtain ⟨_, its, r, t⟩ := I.hok T _ e
  cases r with
  | cons q1 r =>
    cases r with
    | cons q2 r =>
      cases r
      obtain ⟨ta, rfl⟩ := q1
      obtain ⟨tb, rfl⟩ := q2
      exact ⟨ta, tb, t⟩
/-- the pairs by place: where they stand and what they hold -/
theorem pairs_in {vs : List V} {ps : List (Int × Int)} {its : List Value} (I : Inv X pins σ H s) (hp : Prs H vs ps) (r : Vals vs its) :
    ∃ (loc : Nat → Addr) (held : Nat → Array Value), ∀ j, j < ps.length → its[j]? = some (.ref (loc j)) ∧ s.heap.IsTuple (loc j) (held j) ∧ ∃ p ta tb, ps[j]? = some p ∧ held j = #[.int p.1 ta, .int p.2 tb] := by
  have one : ∀ j, ∃ (T : Addr) (xs : Array Value), j < ps.length → its[j]? = some (.ref T) ∧ s.heap.IsTuple T xs ∧ ∃ p ta tb, ps[j]? = some p ∧ xs = #[.int p.1 ta, .int p.2 tb] := fun j => by
    by_cases hj : j < ps.length
    · obtain ⟨T, e1, e2⟩ := hp.2 j ps[j] (List.getElem?_eq_getElem hj)
      obtain ⟨u, eu, ru⟩ := r.get e1
      cases ru
      obtain ⟨ta, tb, t⟩ := pair_in I e2
      exact ⟨T, _, fun _ => ⟨eu, t, ps[j], ta, tb, List.getElem?_eq_getElem hj, rfl⟩⟩
    · exact ⟨0, #[], fun z => absurd z hj⟩
  exact ⟨fun j => (one j).choose, fun j => (one j).choose_spec.choose, fun j hj => (one j).choose_spec.choose_spec hj⟩

/-- what a walk over the pairs is, begun at the new iterator that o is -/
def Begun (X : Cx) (s : Shared) (P : Addr) (ps : List (Int × Int)) (o : Obj) : Prop :=
  ∃ (foot : List Addr) (Hold : Nat → Array Value → Prop) (At : Nat → Heap → Prop) (Mid : Nat → Addr → Heap → Prop),
    (∀ A' : Around, A'.handled = none → WalksU X.prog X.w A' s.heap.objs.size foot [s.heap.objs.size] ps.length (fun j xs => j < ps.length ∧ Hold j xs) At Mid) ∧
    (∀ j xs, j < ps.length → Hold j xs → ∃ p ta tb, ps[j]? = some p ∧ xs = #[.int p.1 ta, .int p.2 tb]) ∧ At 0 (s.heap.push o) ∧ ∀ b ∈ foot, b < s.heap.objs.size + 1 ∧ b ≠ P
theorem begin_pairs {a P : Addr} {vs : List V} {ps : List (Int × Int)} {tb : Array Value} {Q' : Value → Shared → Prop} (I : Inv X pins σ H s) (hS : SqL X.K H a vs ∨ SqT X.K H a vs) (hp : Prs H vs ps) (hP : H P = some (.tbl tb))
    (fin : ∀ o, Begun X s P ps o → Q' (.ref s.heap.objs.size) { s with heap := s.heap.push o }) : wpAny (model X.prog X.w) X.A (pyIter (.ref a)) Q' X.xe s := by
  have hPo : s.heap.get? P = some { cls := .none, data := .fields tb } := I.hok P _ hP
  have notP : ∀ (b : Addr) (o : Obj) (xs : Array Value) (n : Nat), s.heap.get? b = some o → o.data = .seq xs n → b ≠ P := fun b o xs n e d z => by
    rw [z, hPo] at e
    rw [← Option.some.inj e] at d
    cases d
  have newP : s.heap.objs.size ≠ P := fun z => Nat.lt_irrefl _ (Nat.lt_of_lt_of_eq (Heap.lt_size hPo) z)
  -- from a walk over the items to the pairs
  have mk : ∀ (its : List Value) (o : Obj) (At : Nat → Heap → Prop), Vals vs its → a < s.heap.objs.size → a ≠ P → At 0 (s.heap.push o) →
      (∀ A' : Around, A'.handled = none → Walks X.prog X.w A' s.heap.objs.size [s.heap.objs.size, a] [s.heap.objs.size] its.toArray.size (fun i v => its.toArray[i]? = some v) At) →
      (∀ (A' : Around) (es : List Expr) (k : Nat) (pos : Pos) (j : Nat) (T : Addr) (s' : Shared) (Q : Unit → Shared → Prop) (E : Value → Shared → Prop), At j s'.heap → Q () s' → wpAny (model X.prog X.w) A' (letOwnedTupleGo (.Tuple es k pos) (.ref s.heap.objs.size) (.ref T)) Q E s') →
      Begun X s P ps o := by
    intro its o At r ha haP a0 W go
    obtain ⟨loc, held, hl⟩ := pairs_in I hp r
    have ln : its.toArray.size = ps.length := by rw [List.size_toArray, ← r.length, hp.1]
    have below : ∀ m, m < ps.length → loc m < s.heap.objs.size ∧ loc m ≠ P := fun m hm => by
      obtain ⟨_, ⟨ob, e, _, n, d⟩, _⟩ := hl m hm
      exact ⟨Heap.lt_size e, notP _ _ _ _ e d⟩
    refine ⟨_, _, _, _, fun A' hA => (asTuples (ln ▸ W A' hA) loc held (fun j v hj e => ?_) (fun j hj => Nat.ne_of_lt (below j hj).1) (fun es k pos j T s' Q E => go A' es k pos j T s' Q E)).bound, fun j xs hj e => ?_, ⟨a0, fun m hm => ?_⟩, fun b hb => ?_⟩
    · have e2 : its[j]? = some v := by simpa using e
      rw [(hl j hj).1] at e2
      exact (Option.some.inj e2).symm
    · obtain ⟨_, _, p, ta, tb', e1, e2⟩ := hl j hj
      exact ⟨p, ta, tb', e1, (show xs = held j from e).trans e2⟩
    · obtain ⟨_, ⟨ob, e, rest⟩, _⟩ := hl m hm
      exact ⟨ob, Heap.get?_push_of_some _ e, rest⟩
    · rcases List.mem_append.mp hb with z | z
      · rcases List.mem_cons.mp z with e | e
        · rw [e]; exact ⟨Nat.lt_succ_self _, newP⟩
        · rw [List.mem_singleton.mp e]; exact ⟨Nat.lt_succ_of_lt ha, haP⟩
      · obtain ⟨m, hm, e⟩ := List.mem_map.mp z
        obtain ⟨h1, h2⟩ := below m (List.mem_range.mp hm)
        rw [← e]; exact ⟨Nat.lt_succ_of_lt h1, h2⟩
  rcases hS with hS | hS
  · obtain ⟨its, r, hl, _⟩ := I.list hS
    obtain ⟨o, e, c, n, d⟩ := hl.isList
    refine wpAny_pyIter_list hl.isList (fin _ (mk its _ _ r (Heap.lt_size e) (notP _ _ _ _ e d) ⟨⟨_, Heap.get?_push_size _ rfl, rfl, rfl⟩, ⟨o, Heap.get?_push_of_some _ e, c, n, d⟩⟩ (fun A' hA => Walks.list hA _ a (Nat.ne_of_lt (Heap.lt_size e)) its.toArray) ?_))
    exact fun A' es k pos j T s' Q E at_ q => wpAny_letOwnedTupleGo_listiter at_.1 q
  · obtain ⟨its, r, ⟨o, e, c, n, d⟩, _⟩ := I.tuple hS
    refine wpAny_pyIter_tuple (items := its.toArray) ⟨o, e, c, n, d⟩ (fin _ (mk its _ _ r (Heap.lt_size e) (notP _ _ _ _ e d) ⟨⟨_, Heap.get?_push_size _ rfl, rfl, rfl⟩, ⟨o, Heap.get?_push_of_some _ e, c, n, d⟩⟩ (fun A' hA => Walks.tuple hA _ a (Nat.ne_of_lt (Heap.lt_size e)) its.toArray) ?_))
    exact fun A' es k pos j T s' Q E at_ q => letGo_tupleiter at_.1 q

/-- the expression's code object is made, or found: the table may grow, all else stands -/
theorem code_there {c P : Addr} {gpos : Pos} {qual : Str} {sc : Scope} {tb : Array Value} {Q' : Value → Shared → Prop} {E : Value → Shared → Prop} (hcode : X.env.code = .ref c) (C : PySem.W.CodeHd s.heap c P) (hP : s.heap.get? P = some { cls := .none, data := .fields tb }) (ok : TriplesOk tb.toList)
    (fin : ∀ (code : Value) (h' : Heap) (tk : Nat) (more : Array Value), Heap.ExtBut P s.heap h' → s.heap.objs.size ≤ h'.objs.size → h'.get? P = some { cls := .none, data := .fields (tb ++ more) } → TriplesOk (tb ++ more).toList → Q' code { s with heap := h', toks := tk }) :
    wpAny (model X.prog X.w) X.A (genexprCode X.env gpos qual sc) Q' E s := by
  cases found : codeAmong gpos tb.toList with
  | some old =>
    refine wpAny_genexprCode_hit hcode (C.code hP ok) found ?_
    have e : tb ++ #[] = tb := by simp
    exact fin old s.heap s.toks #[] (Heap.ExtBut.refl _ _) (Nat.le_refl _) (by rw [e]; exact hP) (by rw [e]; exact ok)
  | none =>
    refine wpAny_genexprCodeX hcode (C.code hP ok) (C.tab hP) found fun c' h' tk ext le lt isC _ tab _ => ?_
    obtain ⟨_, _, _, _, _, _, _, _, _, _, _, _, _, _, _, _, _, _, _, okT, _⟩ := isC
    exact fin _ h' tk _ ext (Nat.le_trans le (Nat.le_of_lt lt)) tab.2 okT

/-- the element at a pair of whole numbers: what it gives, wherever the expression runs later -/
def EltAt (X : Cx) (s₁ : Shared) (P : Addr) (sc : Scope) (xa xb : Str) (elt : Expr) (Gives : Int → Int → Value → Prop) : Prop :=
  ∀ (L : Addr) (code : Value) (A' : Around) (E' : Value → Shared → Prop) (a b : Int) (ta tb : Tok) (s₂ : Shared) (m : Str → Option Value), A'.handled = none →
    (∀ x o, x ≠ P → s₁.heap.get? x = some o → s₂.heap.get? x = some o) → s₂.heap.Ns L m → m xa = some (.int a ta) → m xb = some (.int b tb) →
    wpAny (model X.prog X.w) A' (eval elt (genEnv sc (cloFrom X.env.cells sc.names []) L code builtinsNs X.env)) (fun y s₃ => Gives a b y ∧ Keeps s₂ s₃) E' s₂

/-- the generator at g, in the state s₅, before its first item; H₁: what was held when it was made -/
def Fresh (X : Cx) (pins : List (Addr × Obj)) (σ : L2.St) (H₁ : Hp) (P : Addr) (ps : List (Int × Int)) (Gives : Int → Int → Value → Prop) (g : Addr) (s₅ : Shared) : Prop :=
  ∃ (foot writes : List Addr) (Gens : Array GenState → Array GenState → Prop) (Item : Nat → Value → Prop) (At : Nat → Shared → Prop),
    (WalksS X.prog X.w X.A.in1 g foot writes Gens ps.length Item At ∧ At 0 s₅ ∧ ∀ b ∈ foot, b < s₅.heap.objs.size) ∧
    (∀ j v, Item j v → ∃ p, ps[j]? = some p ∧ Gives p.1 p.2 v) ∧ ∀ s₆, Moved writes Gens s₅ s₆ → ∃ H₂, Tabbed P H₁ H₂ ∧ Inv X pins σ H₂ s₆

theorem gen_made {c P : Addr} {elt iter : Expr} {xa xb : Str} {pa pb pt gpos : Pos} {kt : Nat} {sc : Scope} {te : TE} {k : Nat} {Q' : Value → Shared → Prop} {Want : List (Int × Int) → Hp → Prop} {Gives : Int → Int → Value → Prop}
    (room : Room k X.A) (TB : TabB X.base X.mg c P) (hcode : X.env.code = .ref c) (own : OwnScope X.env sc xa xb) (walked : PE X iter te) (plain : ∀ v, genFold iter X.env v = pure v) (I : Inv X pins σ H s)
    (each : ∀ s₁ H₁, Inv X pins σ H₁ s₁ → TabG H₁ P → EltAt X s₁ P sc xa xb elt Gives)
    (h : te σ H fun v H₁ => ∃ (a : Addr) (vs : List V) (ps : List (Int × Int)), v = .ref a ∧ (SqL X.K H₁ a vs ∨ SqT X.K H₁ a vs) ∧ Prs H₁ vs ps ∧ TabG H₁ P ∧ Want ps H₁)
    (fin : ∀ ps H₁ g s₅, Want ps H₁ → Fresh X pins σ H₁ P ps Gives g s₅ → Q' (.ref g) s₅) :
    wpAny (model X.prog X.w) X.A (eval (.GeneratorExp elt [⟨.Tuple [.Name xa pa, .Name xb pb] kt pt, iter, [], 0⟩] sc gpos) X.env) Q' X.xe s := by
  obtain ⟨⟨o1, o2, o3⟩, ⟨o4, o5, o6⟩, o7, o8⟩ := own
  have deep : X.A.depth < recursionLimit := by have := room.dp; omega
  refine wpAny_GeneratorExp_walksQT room.hd o2 (closure_ok o8) o7 o4 o5 o6 o3 o1 deep (thn (walked.run pins s σ H _ I h) fun u s₁ had => ?_) plain
  obtain ⟨_, H₁, I₁, rel, a, vs, ps, rfl, hS, hp, ⟨tb, hP, ok⟩, want⟩ := had
  cases rel
  have tabAt : s₁.heap.get? P = some { cls := .none, data := .fields tb } := I₁.hok P _ hP
  refine begin_pairs I₁ hS hp hP fun o beg => ?_
  obtain ⟨foot, Hold, At, Mid, W, holds, at0, low⟩ := beg
  have statics : cStatics < s₁.heap.objs.size ∧ cStatics ≠ P := by
    obtain ⟨_, ns, _⟩ := I₁.nolimit
    refine ⟨ns.lt, fun z => ?_⟩
    obtain ⟨ob, _, _, e, d, _⟩ := ns
    rw [z, tabAt] at e
    rw [← Option.some.inj e] at d
    cases d
  have quiet : (s₁.heap.push o).NoLimit := I₁.nolimit.push o
  refine ⟨quiet, code_there hcode (TB.code.keeps fun b u e => Heap.get?_push_of_some _ (I₁.bk b u e)) (Heap.get?_push_of_some _ tabAt) ok fun code h₃ tk more ext le tab₃ ok₃ => ?_⟩
  rw [Heap.size_push] at le
  have stays : ∀ b u, b ≠ P → s₁.heap.get? b = some u → h₃.get? b = some u := fun b u hb e => ext b u hb (Heap.get?_push_of_some _ e)
  obtain ⟨bm, ob, f1, f2, f3, f4, f5, f6, f7, f8⟩ := TB.bm
  have globals : Heap.Ns h₃ X.env.globals X.mg := by
    rw [I₁.ok.glob]
    exact ((I₁.mod.glob.keeps I₁.bk).push o).extBut ext TB.gP
  refine wpAny_builtinsFor (m := X.mg) globals f1 f2 (stays bm ob f4 (I₁.bk bm ob f5)) f6 f7 f8 ?_
  have later : ∀ b u, s₁.heap.get? b = some u → b ∉ [h₃.objs.size, s₁.heap.objs.size] := fun b u e z => by
    have lt := Heap.lt_size e
    rcases List.mem_cons.mp z with z' | z'
    · exact Nat.lt_irrefl _ (Nat.lt_of_lt_of_le (z' ▸ lt) (Nat.le_of_succ_le le))
    · exact Nat.lt_irrefl _ (List.mem_singleton.mp z' ▸ lt)
  refine ⟨_, _, _, _, _, _, _, fun _ => true, fun i y => i < ps.length → ∃ p, ps[i]? = some p ∧ Gives p.1 p.2 y, rfl, W, fun i xs hx => ?_, ?_, fun b hb => Nat.lt_of_lt_of_le (low b hb).1 le, quiet.extBut ext statics.2, fun z => Nat.ne_of_lt statics.1 (List.mem_singleton.mp z), fun ref kept => ⟨?_, ?_⟩, ?_⟩
  · obtain ⟨p, ta, tb', _, e⟩ := holds i xs hx.1 hx.2
    exact ⟨_, _, e⟩
  · exact (W X.A room.hd).frame _ _ _ at0 fun b hb u e => ext b u (low b hb).2 e
  · intro A' E' i va vb s₂ m _ _ _ _ _ _
    rw [List.forIn_nil]
    exact wpAny_pure ⟨rfl, _, _, rfl, fun _ _ e => e⟩
  · intro A' E' i va vb s₂ m calm hx _ ns ea eb still
    obtain ⟨p, ta, tb', ep, e⟩ := holds i _ hx.1 hx.2
    have e1 : va = .int p.1 ta := by have z := congrArg (·[0]?) e; simpa using z
    have e2 : vb = .int p.2 tb' := by have z := congrArg (·[1]?) e; simpa using z
    subst e1 e2
    refine wpAny_mono (each s₁ H₁ I₁ ⟨tb, hP, ok⟩ _ code A' E' p.1 p.2 ta tb' s₂ m calm (fun b u hb q => ?_) ns ea eb) (fun y s₃ r => ⟨fun _ => ⟨p, ep, r.1⟩, r.2⟩) fun _ _ q => q
    have q3 := stays b u hb q
    exact still b (List.mem_range.mpr (Heap.lt_size q3)) (fun z => later b u q (List.mem_cons_of_mem _ z)) u (kept b u q3)
  · intro g h₅ tk₅ gs bare above size kept W₅ at₅
    rw [GxR.passing_true, List.length_range] at W₅
    have above' : h₃.objs.size < g := above
    have size' : h₅.objs.size = g + 1 := size
    refine fin ps H₁ g _ want ⟨_, _, _, _, _, ⟨W₅.in4_1, at₅, fun b hb => ?_⟩, fun j v it => ?_, fun s₆ mv => ?_⟩
    · show b < h₅.objs.size
      rw [size']
      rcases List.mem_cons.mp hb with eg | e
      · rw [eg]; exact Nat.lt_succ_self g
      · refine Nat.lt_succ_of_le (Nat.le_trans ?_ (Nat.le_of_lt above'))
        rcases List.mem_cons.mp e with e' | e'
        · rw [e']; exact Nat.le_refl _
        · exact Nat.le_of_lt (List.mem_range.mp e')
    · obtain ⟨i, ei, hg⟩ := it
      have lt : j < ps.length := by
        have z := (List.getElem?_eq_some_iff.mp ei).1
        rwa [List.length_range] at z
      rw [List.getElem?_range lt] at ei
      cases ei
      exact hg lt
    · have all : ∀ b u, b ≠ P → s₁.heap.get? b = some u → s₆.heap.get? b = some u := fun b u hb e => mv.heap b u (later b u e) (kept b u (stays b u hb e))
      have tab₆ := mv.heap P _ (later P _ tabAt) (kept P _ tab₃)
      have J := inv_tab (more := more) (d' := s₆.drawn) (t' := s₆.toks) I₁ hP all tab₆ (AllBare.movedS (I₁.bare.push bare) mv)
      rw [sh_eta s₁ s₆ mv.os] at J
      exact ⟨_, ⟨⟨tb ++ more, upd_same, ok₃⟩, fun b hb => upd_ne hb⟩, J⟩

/-- the sum of g over the pairs -/
def sumP (g : Int → Int → Int) (ps : List (Int × Int)) : Int := (ps.map fun p => g p.1 p.2).sum
theorem preSum_is (g : Int → Int → Int) (ps : List (Int × Int)) (val : Nat → Int) (h : ∀ i p, ps[i]? = some p → val i = g p.1 p.2) : ∀ n, n ≤ ps.length → preSum val n = sumP g (ps.take n)
  | 0, _ => rfl
  | n + 1, hn => by
    have e : ps[n]? = some ps[n] := List.getElem?_eq_getElem hn
    show preSum val n + val n = _
    rw [preSum_is g ps val h n (by omega), h n _ e]
    unfold sumP
    rw [List.take_add_one, e, List.map_append, List.sum_append]
    show _ = _ + (g ps[n].1 ps[n].2 + 0)
    rw [Int.add_zero]
/-- what the reading of sum(..), any(..) over pairs asks: what is captured (Cap), the pairs, the table; then the answer -/
def tOver {α : Type} (K : PySem.W.Frag) (P : Addr) (Cap : L2.St → α → Prop) (ans : α → List (Int × Int) → V) (te : TE) : TE := fun σ H Q => ∃ x : α, Cap σ x ∧ te σ H fun v H₁ => ∃ (a : Addr) (vs : List V) (ps : List (Int × Int)), v = .ref a ∧ (SqL K H₁ a vs ∨ SqT K H₁ a vs) ∧ Prs H₁ vs ps ∧ TabG H₁ P ∧
  ∀ H₂, Tabbed P H₁ H₂ → Q (ans x ps) H₂
/-- how a built-in takes a generator over pairs -/
def Takes2 (X : Cx) (name : String) (Gives : Int → Int → Value → Prop) (ans : List (Int × Int) → V) : Prop :=
  ∀ (pins : List (Addr × Obj)) (σ : L2.St) (P : Addr) (ps : List (Int × Int)) (H₁ : Hp) (gen : Addr) (s₅ : Shared) (Q : VK), Fresh X pins σ H₁ P ps Gives gen s₅ → (∀ H₂, Tabbed P H₁ H₂ → Q (ans ps) H₂) →
    wpAny (model X.prog X.w) X.A (call (.builtin name) [.ref gen]) (EP X pins σ Q) X.xe s₅
theorem pe_over {α : Type} {name : String} {x : Str} {c P : Addr} {elt iter : Expr} {xa xb : Str} {pa pb pt p pos gpos : Pos} {kt : Nat} {sc : Scope} {Cap : L2.St → α → Prop} {Gives : α → Int → Int → Value → Prop} {ans : α → List (Int × Int) → V} {te : TE} {k : Nat} (takes : ∀ y, Takes2 X name (Gives y) (ans y))
    (room : Room k X.A) (glob : Gl X x) (free : X.mg x = none) (bltn : bootBuiltins x = some (.builtin name)) (TB : TabB X.base X.mg c P) (hcode : X.env.code = .ref c) (own : OwnScope X.env sc xa xb) (walked : PE X iter te)
    (each : ∀ pins σ s₁ H₁ y, Inv X pins σ H₁ s₁ → TabG H₁ P → Cap σ y → EltAt X s₁ P sc xa xb elt (Gives y)) (plain : ∀ v, genFold iter X.env v = pure v) (n1 : x ≠ "__name__" := by decide) (n2 : (x == ("__debug__" : Str)) = false := by decide)
    (one : starEach [.GeneratorExp elt [⟨.Tuple [.Name xa pa, .Name xb pb] kt pt, iter, [], 0⟩] sc gpos] X.env = [(false, eval (.GeneratorExp elt [⟨.Tuple [.Name xa pa, .Name xb pb] kt pt, iter, [], 0⟩] sc gpos) X.env)] := by rfl) :
    PE X (.Call (.Name x p) [.GeneratorExp elt [⟨.Tuple [.Name xa pa, .Name xb pb] kt pt, iter, [], 0⟩] sc gpos] [] pos) (tOver X.K P Cap ans te) := by
  constructor
  intro pins s σ H Q I h
  obtain ⟨y, cap, h⟩ := h
  refine wpAny_Call_Name_kw (ld_blt I glob free bltn (callWith_builtin1 ?_ one (by rfl)) n1 n2)
  rw [one]
  refine Calls.spliced_cons (gen_made (Want := fun ps H₁ => ∀ H₂, Tabbed P H₁ H₂ → Q (ans y ps) H₂) (Gives := Gives y) room TB hcode own walked plain I (fun s₁ H₁ J g => each pins σ s₁ H₁ y J g cap) h fun ps H₁ gen s₅ want fresh => Calls.spliced_nil ?_)
  exact takes y pins σ P ps H₁ gen s₅ Q fresh want
theorem takes_sum (g : Int → Int → Int) : Takes2 X "sum" (fun a b y => ∃ t, y = .int (g a b) t) (fun ps => .int (sumP g ps)) := by
  intro pins σ P ps H₁ gen s₅ Q fresh want
  obtain ⟨foot, writes, Gens, Item, At, ⟨W, a0, low⟩, items, behind⟩ := fresh
  let val : Nat → Int := fun i => (ps[i]?.map fun p => g p.1 p.2).getD 0
  have hv : ∀ i p, ps[i]? = some p → val i = g p.1 p.2 := fun i p e => by show (ps[i]?.map _).getD 0 = _; rw [e]; rfl
  refine call_sum_walkAnyS (W.self 0 _ _ _ a0 ⟨gen, foot, writes, Gens, ps.length, Item, At, val, rfl, W, a0, low, fun i v it => ?_, fun s₆ t mv => ?_⟩)
  · obtain ⟨p, e, t, ev⟩ := items i v it
    exact ⟨t, by rw [hv i p e]; exact ev⟩
  · obtain ⟨H₂, tabbed, J⟩ := behind s₆ mv
    refine ⟨.int (preSum val ps.length), H₂, J, ⟨t, rfl⟩, ?_⟩
    rw [preSum_is g ps val hv ps.length (Nat.le_refl _), List.take_length]
    exact want H₂ tabbed
def anyP (g : Int → Int → Bool) (ps : List (Int × Int)) : Bool := ps.any fun p => g p.1 p.2
theorem any_is {α : Type} (ps : List α) (f : α → Bool) (tr : Nat → Bool) (h : ∀ i p, ps[i]? = some p → tr i = f p) : (List.range ps.length).any tr = ps.any f := by
  rw [Bool.eq_iff_iff, List.any_eq_true (l := List.range _), List.any_eq_true]
  constructor
  · rintro ⟨i, hi, e⟩
    have lt := List.mem_range.mp hi
    exact ⟨ps[i], List.getElem_mem lt, by rw [← h i _ (List.getElem?_eq_getElem lt)]; exact e⟩
  · rintro ⟨p, hp, e⟩
    obtain ⟨i, lt, rfl⟩ := List.getElem_of_mem hp
    exact ⟨i, List.mem_range.mpr lt, by rw [h i _ (List.getElem?_eq_getElem lt)]; exact e⟩
theorem takes_any (g : Int → Int → Bool) : Takes2 X "any" (fun a b y => y = .bool (g a b)) (fun ps => .bl (anyP g ps)) := by
  intro pins σ P ps H₁ gen s₅ Q fresh want
  obtain ⟨foot, writes, Gens, Item, At, ⟨W, a0, low⟩, items, behind⟩ := fresh
  let tr : Nat → Bool := fun i => (ps[i]?.map fun p => g p.1 p.2).getD false
  have ht : ∀ i p, ps[i]? = some p → tr i = g p.1 p.2 := fun i p e => by show (ps[i]?.map _).getD false = _; rw [e]; rfl
  refine call_any_walkS (W.self 0 _ _ _ a0 ⟨gen, foot, writes, Gens, ps.length, Item, At, tr, rfl, W, a0, fun i v s' Q' E' it q => ?_, fun s₆ mv => ?_⟩)
  · obtain ⟨p, e, rfl⟩ := items i v it
    rw [ht i p e] at q
    exact wpAny_truthy_bool q
  · obtain ⟨H₂, tabbed, J⟩ := behind s₆ mv
    refine ⟨.bl _, H₂, J, rfl, ?_⟩
    rw [any_is ps (fun p => g p.1 p.2) tr ht]
    exact want H₂ tabbed
/-- a whole number that the expression captures, as its cell has it -/
theorem captured {i : Nat} {y : Str} {n : Int} {P : Addr} (I : Inv X pins σ H s) (hN : X.N[i]? = some y) (hk : X.env.scope.names.lookup y = some .cell) (hv : σ[i]? = some (some (.int n))) (g : TabG H P) :
    ∃ c t, X.env.cells.lookup y = some c ∧ s.heap.IsCell c (some (.int n t)) ∧ c ≠ P := by
  obtain ⟨tb, hP, _⟩ := g
  obtain ⟨m, _, look⟩ := I.loc
  obtain ⟨u, ⟨t, rfl⟩, l⟩ := look i y _ hN hv (.inr (.inl hk))
  rcases l with ⟨z, _⟩ | ⟨_, c, e, o, ho, hd⟩
  · rw [show X.env.kindOf y = some .cell from hk] at z
    cases z
  · refine ⟨c, t, e, ⟨o, ho, hd⟩, fun z => ?_⟩
    rw [z, I.hok P _ hP] at ho
    rw [← Option.some.inj ho] at hd
    cases hd
/-- the names of the module and the built-in ones, where the expression runs -/
theorem names_in {P : Addr} {s₂ : Shared} (I : Inv X pins σ H s) (g : TabG H P) (gP : mainGlobals ≠ P) (kept : ∀ x o, x ≠ P → s.heap.get? x = some o → s₂.heap.get? x = some o) :
    s₂.heap.Ns mainGlobals X.mg ∧ ∃ mb, s₂.heap.Ns builtinsNs mb ∧ ∀ x : Str, x ≠ "__name__" → mb x = bootBuiltins x := by
  obtain ⟨tb, hP, _⟩ := g
  obtain ⟨mb, b1, b2⟩ := I.mod.blt
  have at_ : ∀ b m, b ≠ P → s.heap.Ns b m → s₂.heap.Ns b m := fun b m hb ⟨o, es, ep, ho, r⟩ => ⟨o, es, ep, kept b o hb ho, r⟩
  refine ⟨at_ _ _ gP (I.mod.glob.keeps I.bk), mb, at_ _ _ (fun z => ?_) (b1.keeps I.bk), b2⟩
  obtain ⟨o, es, ep, ho, hd, _⟩ := b1.keeps I.bk
  rw [z, I.hok P _ hP] at ho
  rw [← Option.some.inj ho] at hd
  cases hd
end
end GP

namespace TK
open PySem PySem.Spec PyProof.Rows L2 GP
def topS (i : Nat) : Stmt := PySem.Challenge.pw_tinrecall_k06_small_sets_number_by_numbe.main.body.getD i (.Pass ⟨0, 0, 0, 0⟩)

/-- the draws' state: its dict at d, its cells at c -/
structure StAt (H : Hp) (d c : Addr) (t : Int) : Prop where
  dict : H d = some (.dK [(.inr "cells", .ref c), (.inr "turn", .int t)])
  cells : ∃ cs : List Int, H c = some (.lst (cs.map V.int)) ∧ cs ≠ [] ∧ cs.length ≤ 63
  pos : 0 ≤ t
theorem StAt.ne {H : Hp} {d c : Addr} {t : Int} (h : StAt H d c t) : d ≠ c := by
  obtain ⟨cs, hc, _⟩ := h.cells
  exact ne_of h.dict hc (by intro z; cases z)
/-- all but the state is as it was -/
def Kp (d c : Addr) (H H' : Hp) : Prop := ∀ b o, b ≠ d → b ≠ c → H b = some o → H' b = some o
theorem Kp.refl (d c : Addr) (H : Hp) : Kp d c H H := fun _ _ _ _ h => h
theorem Kp.trans {d c : Addr} {H H1 H2 : Hp} (a : Kp d c H H1) (b : Kp d c H1 H2) : Kp d c H H2 := fun x o h1 h2 h => b x o h1 h2 (a x o h1 h2 h)

theorem ixN_of {n j : Nat} (h : j < n) : ixN n (j : Int) = some j := by
  unfold ixN
  rw [if_pos (Int.natCast_nonneg j), if_pos (by omega), Int.toNat_natCast]
def spTake : Sp := fun vs H Q _ => ∃ (d c : Addr) (t m : Int), vs = [.ref d, .int m] ∧ StAt H d c t ∧ t < 2 ^ 60 ∧ 0 < m ∧ m.natAbs < 2 ^ 200 ∧
  ∀ r H', 0 ≤ r → r < m → StAt H' d c (t + 1) → Kp d c H H' → Q (.int r) H'

abbrev sTake : Stmt := topS 12
theorem scTake : FnScope ["_law_state", "_law_many", "_law_turn", "_law_place", "_law_cell", "_law_digit", "_law_mixed"] ["_law_state", "_law_many"] (defScope sTake) := ⟨rfl, rfl, rfl, by decide +kernel, rfl, by decide +kernel, by decide +kernel⟩
section
variable {K : PySem.W.Frag} {mg : Str → Option Value} {P : Program} {w : World} {base : Heap}
theorem ok_take {f : Addr} {fd : FuncData} {k : Nat} (F : Fun K "_law_take" "_law_take" sTake f fd) (ml : mg "len" = none) (md : mg "divmod" = none) : FnOk P w K mg base CX0 (k + 1) f fd ["_law_state", "_law_many"] spTake := by
  refine F.ok scTake (fun vs H Q E h => ?_) (fun cdv A outer s H vs Q E hr h => ?_)
  · obtain ⟨d, c, t, m, rfl, _⟩ := h
    rfl
  · obtain ⟨d, c, t, m, rfl, hS, ht, hm, hm2, q⟩ := h
    refine ⟨_, pss_cons (ps_set (i := 2) scTake.nd rfl (.inl rfl) (pe_op op_add (pe_dget (hu_of hr) (pv 0) pe_str (fun _ _ => rfl)) pe_int))
      (pss_cons (ps_dput (hu_of hr) (pv 0) pe_str (pv 2) rfl)
      (pss_cons (ps_set (i := 3) scTake.nd rfl (.inl rfl) (pe_op op_mod (pv 2) (pe_callB call_len_seq (by rfl) ml PySem.boot_len (pa_cons (pe_dget (hu_of hr) (pv 0) pe_str (fun _ _ => rfl)) pa_nil))))
      (pss_cons (ps_set (i := 4) scTake.nd rfl (.inl rfl) (pe_ix ix_list (pe_dget (hu_of hr) (pv 0) pe_str (fun _ _ => rfl)) (pv 3) (fun _ _ => rfl)))
      (pss_cons (ps_if (pt_cmpR op_ge (pv 4) (pe_op op_pow pe_int pe_int) (nomark _))
        (pss_cons (ps_asg (pe_callB call_divmodW (by rfl) md (by decide +kernel) (pa_cons (pv 4) (pa_cons (pv 1) pa_nil)))
            (pg_tup rfl (pgs_cons (pg_sub (pe_dget (hu_of hr) (pv 0) pe_str (fun _ _ => rfl)) (pv 3) set_list) (pgs_cons (pg_name (i := 5) scTake.nd rfl (.inl rfl)) pgs_nil))))
          (pss_one (ps_ret (pv 5)))) pss_nil)
      (pss_cons (ps_set (i := 6) scTake.nd rfl (.inl rfl) (pe_op op_mod (pe_op op_mul (pe_op op_add (pe_op op_add (pe_op op_mod (pv 4) pe_int) (pe_op op_mul (pe_op op_mul (pv 2) (pv 2)) pe_int)) pe_int) pe_int) pe_int))
      (pss_cons (ps_set (i := 6) scTake.nd rfl (.inl rfl) (pe_op op_mod (pe_op op_mul (pv 6) (pv 6)) pe_int))
      (pss_one (ps_ret (pe_op op_mod (pe_op op_fdiv (pe_op op_mod (pe_op op_mul (pe_op op_add (pv 6) (pe_op op_mul (pv 2) pe_int)) pe_int) pe_int) pe_int) (pv 1)))))))))), ?_⟩
    obtain ⟨hd, ⟨cs, hc, hne, hlen⟩, hpos⟩ := hS
    have ndc : d ≠ c := ne_of hd hc (by intro z; cases z)
    -- turn = state['turn'] + 1
    refine ⟨.ref d, rfl, d, .int t, rfl, DGet.k (k := Sum.inr "turn") hd, t, 1, rfl, rfl, ?_⟩
    -- state['turn'] = turn
    refine ⟨_, rfl, .ref d, rfl, d, _, rfl, DPut.k (k := Sum.inr "turn") hd (by show 2 < sizeLine; decide), ?_⟩
    have hput : putK [((.inr "cells" : Key), V.ref c), (.inr "turn", .int t)] (.inr "turn") (.int (t + 1)) = [(.inr "cells", .ref c), (.inr "turn", .int (t + 1))] := rfl
    rw [show (.int (t + 1) : V) = V.int (t + 1) from rfl] at *
    rw [hput]
    generalize hH1 : upd H d (.dK [((.inr "cells" : Key), V.ref c), (.inr "turn", .int (t + 1))]) = H1
    have hd1 : H1 d = some (.dK [(.inr "cells", .ref c), (.inr "turn", .int (t + 1))]) := by rw [← hH1]; exact upd_same
    have hc1 : H1 c = some (.lst (cs.map V.int)) := by rw [← hH1, upd_ne ndc.symm]; exact hc
    have k1 : Kp d c H H1 := fun b o h1 h2 e => by rw [← hH1, upd_ne h1]; exact e
    have hlp : 0 < cs.length := List.length_pos_iff.mpr hne
    -- place = turn % len(state['cells'])
    refine ⟨_, rfl, .ref d, rfl, d, .ref c, rfl, DGet.k (k := Sum.inr "cells") hd1, c, _, rfl, .inl (SqL.of hc1), _, _, rfl, rfl, (by show (0 : Int) < ((cs.map V.int).length : Int); rw [List.length_map]; omega), ?_⟩
    dsimp only
    rw [List.length_map]
    have hj0 : 0 ≤ (t + 1) % (cs.length : Int) := Int.emod_nonneg _ (by omega)
    have hj1 : (t + 1) % (cs.length : Int) < cs.length := Int.emod_lt_of_pos _ (by omega)
    obtain ⟨j, hj⟩ := Int.eq_ofNat_of_zero_le hj0
    have hjl : j < cs.length := by omega
    rw [hj]
    have gj : (cs.map V.int)[j]? = some (.int cs[j]) := by rw [List.getElem?_map, List.getElem?_eq_getElem hjl]; rfl
    -- cell = state['cells'][place]
    refine ⟨.ref d, rfl, d, .ref c, rfl, DGet.k (k := Sum.inr "cells") hd1, _, rfl, c, _, _, .int cs[j], rfl, rfl, SqL.of hc1, atI_nat gj, ?_⟩
    generalize cs[j] = x
    -- if cell >= 10 ** 18
    refine ⟨_, rfl, 10, 18, rfl, rfl, ⟨by decide, by decide, by decide⟩, _, _, rfl, rfl, _, rfl, ite2 (fun e => ?_) (fun e => ?_)⟩
    · have hdp : CDivP x m := ⟨hm, PyProof.noPylong_of_log2 (Nat.lt_trans (PySem.Flt.log2_lt_of (by decide) hm2) (by decide))⟩
      refine ⟨_, rfl, _, rfl, x, m, rfl, hdp, fun p hp => ?_⟩
      have npd : d ≠ p := ne_of_none hd1 hp
      have npc : c ≠ p := ne_of_none hc1 hp
      have hd2 : upd H1 p (.tup [.int (x / m), .int (x % m)]) d = some (.dK [(.inr "cells", .ref c), (.inr "turn", .int (t + 1))]) := by rw [upd_ne npd]; exact hd1
      have hc2 : upd H1 p (.tup [.int (x / m), .int (x % m)]) c = some (.lst (cs.map V.int)) := by rw [upd_ne npc]; exact hc1
      refine ⟨p, _, rfl, .inl (.inl upd_same), rfl, _, _, rfl, .ref d, rfl, d, .ref c, rfl, DGet.k (k := Sum.inr "cells") hd2, _, rfl, c, _, _, j, rfl, rfl, hc2, ixN_of (by rw [List.length_map]; exact hjl), _, _, rfl, rfl, ?_⟩
      refine ⟨_, rfl, ?_⟩
      refine q _ _ (Int.emod_nonneg _ (by omega)) (Int.emod_lt_of_pos _ hm) ⟨?_, ⟨cs.set j (x / m), ?_, ?_, ?_⟩, by omega⟩ ?_
      · rw [upd_ne ndc]; exact hd2
      · rw [upd_same, List.map_set]
      · intro z
        have z2 : (cs.set j (x / m)).length = 0 := by rw [z]; rfl
        rw [List.length_set] at z2
        omega
      · rw [List.length_set]; exact hlen
      · intro b o h1 h2 e
        rw [upd_ne h2, upd_ne (ne_of_none (k1 b o h1 h2 e) hp)]
        exact k1 b o h1 h2 e
    · have t1 : t + 1 < 2 ^ 61 := by omega
      -- mixed
      refine ⟨_, rfl, _, _, rfl, rfl, (show (0 : Int) < 2147483629 by decide), _, rfl, _, rfl, t + 1, t + 1, rfl, rfl, .inl ⟨by omega, by omega⟩, _, _, rfl, rfl, .inr ⟨by decide, by decide⟩, _, _, rfl, rfl, _, _, rfl, rfl, _, _, rfl, rfl, .inr ⟨by decide, by decide⟩, _, 2147483647, rfl, rfl, (show (0 : Int) < 2147483647 by decide), ?_⟩
      dsimp only
      generalize hy : ((x % 2147483629 + (t + 1) * (t + 1) * 7919 + 11) * 48271) = y
      have y0 : 0 ≤ y % 2147483647 := Int.emod_nonneg _ (by decide)
      have y1 : y % 2147483647 < 2147483647 := Int.emod_lt_of_pos _ (by decide)
      refine ⟨_, rfl, _, rfl, y % 2147483647, y % 2147483647, rfl, rfl, .inl ⟨by omega, by omega⟩, _, 2147483587, rfl, rfl, (show (0 : Int) < 2147483587 by decide), ?_⟩
      refine ⟨_, rfl, _, rfl, t + 1, 104729, rfl, rfl, .inr ⟨by decide, by decide⟩, _, _, rfl, rfl, _, _, rfl, rfl, .inr ⟨by decide, by decide⟩, _, 2147483629, rfl, rfl, (show (0 : Int) < 2147483629 by decide), _, 64, rfl, rfl, ⟨by decide, by decide⟩, _, rfl, _, m, rfl, rfl, hm, ?_⟩
      exact q _ _ (Int.emod_nonneg _ (by omega)) (Int.emod_lt_of_pos _ hm) ⟨hd1, ⟨cs, hc1, hne, hlen⟩, by omega⟩ k1
end

abbrev sBegin : Stmt := topS 11
theorem scBegin : FnScope ["_law_script", "_law_cells"] ["_law_script"] (defScope sBegin) := ⟨rfl, rfl, rfl, by decide +kernel, rfl, by decide +kernel, by decide +kernel⟩
theorem same_upd {H : Hp} {p : Addr} {o : HO} (h : H p = none) : Same H (upd H p o) := fun b x e => by
  rw [upd_ne (ne_of_none e h)]
  exact e
theorem cut_front (xs : List V) (m : Nat) : cutV xs none (some (m : Int)) = xs.take m := by
  unfold cutV
  rw [HT.sIx_none, HT.sIx_nat]
  show List.take (min m xs.length - 0) (xs.drop 0) = xs.take m
  rw [Nat.sub_zero, List.drop_zero]
  by_cases h : m ≤ xs.length
  · rw [Nat.min_eq_left h]
  · rw [Nat.min_eq_right (by omega), List.take_length, List.take_of_length_le (by omega)]
theorem dp_ints {K : PySem.W.Frag} {H : Hp} : ∀ ns : List Int, DpAll K H (ns.map V.int) (ns.map PyData.int)
  | [] => .nil
  | n :: r => .cons (.int n) (dp_ints r)
theorem lay_ints : ∀ ns : List Int, PyData.canLayAll0 (ns.map PyData.int) = true
  | [] => by simp only [List.map_nil, PyData.canLayAll0]
  | n :: r => by
    rw [List.map_cons, PyData.canLayAll0, lay_ints r]
    simp [PyData.canLay0]
theorem depth_ints : ∀ ns : List Int, PyData.depthAll (ns.map PyData.int) = 0
  | [] => by simp only [List.map_nil, PyData.depthAll]
  | n :: r => by
    rw [List.map_cons, PyData.depthAll, depth_ints r]
    simp [PyData.depth]
theorem shaped_ints (ns : List Int) : SeqAt.shaped (PyData.list (ns.map PyData.int)) = true := by
  unfold SeqAt.shaped
  rw [PyData.canLay0, lay_ints, PyData.depth, depth_ints]
  rfl
theorem eqv_nil (n : Int) (r : List Int) : PyData.eqv (PyData.list ((n :: r).map PyData.int)) (PyData.list []) = false := by
  simp [PyData.eqv, PyData.eqvAll]
theorem eqv_nil0 : PyData.eqv (PyData.list (([] : List Int).map PyData.int)) (PyData.list []) = true := by
  simp [PyData.eqv, PyData.eqvAll]
def spBegin (K : PySem.W.Frag) : Sp := fun vs H Q _ => ∃ (a : Addr) (ns : List Int), vs = [.ref a] ∧ SqL K H a (ns.map V.int) ∧ ns.length ≤ 63 ∧
  ∀ d c H', Same H H' → H d = none → H c = none → StAt H' d c 0 → Q (.ref d) H'
section
variable {K : PySem.W.Frag} {mg : Str → Option Value} {P : Program} {w : World} {base : Heap}
theorem ok_begin {f : Addr} {fd : FuncData} {k : Nat} (F : Fun K "_law_begin" "_law_begin" sBegin f fd) (ml : mg "list" = none) : FnOk P w K mg base CX0 (k + 1) f fd ["_law_script"] (spBegin K) := by
  refine F.ok scBegin (fun vs H Q E h => ?_) (fun cdv A outer s H vs Q E hr h => ?_)
  · obtain ⟨a, ns, rfl, _⟩ := h
    rfl
  · obtain ⟨a, ns, rfl, hS, hlen, q⟩ := h
    refine ⟨_, pss_cons (ps_set (i := 1) scBegin.nd rfl (.inl rfl) (pe_callTy call_list_of (by rfl) ml (by decide +kernel) (pa_cons (pe_slice sl_list (pv 0) po_none (po_some pe_int)) pa_nil)))
      (pss_cons (ps_if (pt_cmpR (op_eqD hr.units) (pv 1) (pe_lst pa_nil) (nomark _)) (pss_one (ps_set (i := 1) scBegin.nd rfl (.inl rfl) (pe_lst (pa_cons pe_int pa_nil)))) pss_nil)
      (pss_one (ps_ret (pe_disp (pps_cons pe_str (pv 1) (pps_cons pe_str pe_int pps_nil)) (by rfl) (by rfl) (fun z => by cases z) (by decide))))), ?_⟩
    -- the end: a dict of what stands at the cells' place
    have fin : ∀ (H1 : Hp) (c : Addr) (cs : List Int) (y : Option V), Same H H1 → H c = none → H1 c = some (.lst (cs.map V.int)) → cs ≠ [] → cs.length ≤ 63 →
        (tRet (tDisp [(tC (.str "cells"), tVar 1), (tC (.str "turn"), tC (.int 0))])) { nx := fun _ H' => Q .non H', rt := Q } [some (.ref a), some (.ref c)] H1 := by
      intro H1 c cs y s1 nc ec hne hl
      refine fun d nd => ⟨_, rfl, upd_same, [(.inr "cells", .ref c), (.inr "turn", .int 0)], rfl, (by show 2 ≤ 15; decide), ?_⟩
      have ndc : c ≠ d := ne_of_none ec nd
      refine q d c _ (fun b o e => ?_) (s1.free nd) nc ⟨?_, ⟨cs, ?_, hne, hl⟩, by decide⟩
      · have nb : b ≠ d := ne_of_none (s1 b o e) nd
        rw [upd_ne nb, upd_ne nb]
        exact s1 b o e
      · exact upd_same
      · rw [upd_ne ndc, upd_ne ndc]
        exact ec
    refine ⟨.ref a, rfl, 63, rfl, a, ns.map V.int, rfl, hS, fun p np => ?_⟩
    have s1 : Same H (upd H p (.lst (cutV (ns.map V.int) none (some 63)))) := same_upd np
    refine ⟨p, _, rfl, .inl (SqL.of upd_same), fun l nl => ?_⟩
    have s2 := s1.trans (same_upd (o := .lst (cutV (ns.map V.int) none (some 63))) nl)
    have ecut : cutV (ns.map V.int) none (some 63) = ns.map V.int := by
      have e := cut_front (ns.map V.int) 63
      have e2 : cutV (ns.map V.int) none (some 63) = (ns.map V.int).take 63 := e
      rw [e2, List.take_of_length_le (by rw [List.length_map]; exact hlen)]
    have el : upd (upd H p (.lst (cutV (ns.map V.int) none (some 63)))) l (.lst (cutV (ns.map V.int) none (some 63))) l = some (.lst (ns.map V.int)) := by
      rw [upd_same, ecut]
    revert s2 el
    generalize upd (upd H p (.lst (cutV (ns.map V.int) none (some 63)))) l (.lst (cutV (ns.map V.int) none (some 63))) = H2
    intro s2 el
    have nlH : H l = none := s1.free nl
    -- if cells == []
    refine ⟨.ref l, rfl, Nat.zero_le _, fun z nz => ?_⟩
    have s3 := s2.trans (same_upd (o := .lst []) nz)
    have nlz : l ≠ z := ne_of_none el nz
    have el3 : upd H2 z (.lst []) l = some (.lst (ns.map V.int)) := by rw [upd_ne nlz]; exact el
    refine ⟨.list (ns.map PyData.int), .list [], .lst (SqL.of el3) (dp_ints ns), .lst (SqL.of upd_same) .nil, shaped_ints ns, shaped_ints [], ?_⟩
    cases ns with
    | nil =>
      refine ⟨true, by rw [eqv_nil0], iteT ?_⟩
      refine ⟨(by show 1 ≤ sizeLine; decide), fun c nc => ?_⟩
      exact fin _ c [_] none (s3.trans (same_upd nc)) (s3.free nc) upd_same (by simp) (by decide)
    | cons n r =>
      refine ⟨false, by rw [eqv_nil], iteF ?_⟩
      exact fin _ l (n :: r) none s3 nlH el3 (by simp) hlen
end

/-- a def of the text that keeps a promise, as its callers see it -/
def Cal (P : Program) (w : World) (K : PySem.W.Frag) (mg : Str → Option Value) (base : Heap) (k : Nat) (x : Str) (ps : List Str) (sp : Sp) : Prop :=
  ∃ f fd, FnOk P w K mg base CX0 k f fd ps sp ∧ mg x = some (.ref f) ∧ PySem.W.keepIn K (.ref f) = true ∧ Binds K fd ps []
theorem pe_own {X : Cx} {k : Nat} {x : Str} {ps : List Str} {sp : Sp} {e : Expr} {es : List Expr} {t : TA} {p pos : Pos} (C : Cal X.prog X.w X.K X.mg X.base k x ps sp) (hr : Room k X.A) (hg : Gl X x) (ha : PA X (e :: es) t)
    (dbg : (x == ("__debug__" : Str)) = false := by decide) (one : starEach (e :: es) X.env = (false, eval e X.env) :: starEach es X.env := by rfl) (star : (backTo pos (starEach es X.env)).any (·.1) = false := by rfl) :
    PE X (.Call (.Name x p) (e :: es) [] pos) (tCall sp [] E0 t) := by
  obtain ⟨f, fd, F, hm, hk, hb⟩ := C
  exact pe_call F hr hg hm hk hb .nil pass0 ha dbg one star
theorem StAt.same {H H' : Hp} {d c : Addr} {t : Int} (h : StAt H d c t) (s : Same H H') : StAt H' d c t :=
  ⟨s _ _ h.dict, let ⟨cs, e, r⟩ := h.cells; ⟨cs, s _ _ e, r⟩, h.pos⟩
theorem Kp.same {H H' : Hp} (d c : Addr) (s : Same H H') : Kp d c H H' := fun b o _ _ e => s b o e
/-- what is made behind the state stays -/
theorem Kp.at {H H' : Hp} {d c a : Addr} {t : Int} {o : HO} (k : Kp d c H H') (S : StAt H d c t) (e : H a = some o) (h1 : ∀ kvs, o ≠ .dK kvs) (h2 : ∀ ns : List Int, o ≠ .lst (ns.map V.int)) : H' a = some o := by
  obtain ⟨cs, ec, _⟩ := S.cells
  refine k a o (fun z => ?_) (fun z => ?_) e
  · rw [z, S.dict] at e
    exact h1 _ (Option.some.inj e).symm
  · rw [z, ec] at e
    exact h2 _ (Option.some.inj e).symm
theorem StAt.upd {H : Hp} {d c l : Addr} {t : Int} {o : HO} (S : StAt H d c t) (h1 : l ≠ d) (h2 : l ≠ c) : StAt (L2.upd H l o) d c t := by
  refine ⟨by rw [upd_ne h1.symm]; exact S.dict, ?_, S.pos⟩
  obtain ⟨cs, ec, r⟩ := S.cells
  exact ⟨cs, by rw [upd_ne h2.symm]; exact ec, r⟩

theorem _root_.GP.Prs.same {H H' : Hp} {vs : List V} {ps : List (Int × Int)} (h : Prs H vs ps) (s : Same H H') : Prs H' vs ps :=
  ⟨h.1, fun i p e => let ⟨a, e1, e2⟩ := h.2 i p e; ⟨a, e1, s _ _ e2⟩⟩
theorem _root_.GP.Prs.kp {H H' : Hp} {d c : Addr} {t : Int} {vs : List V} {ps : List (Int × Int)} (h : Prs H vs ps) (S : StAt H d c t) (k : Kp d c H H') : Prs H' vs ps :=
  ⟨h.1, fun i p e => let ⟨a, e1, e2⟩ := h.2 i p e; ⟨a, e1, k.at S e2 (fun _ z => nomatch z) (fun _ z => nomatch z)⟩⟩
theorem _root_.GP.Prs.upd_lst {H : Hp} {l : Addr} {xs : List V} {o : HO} {vs : List V} {ps : List (Int × Int)} (h : Prs H vs ps) (hl : H l = some (.lst xs)) : Prs (upd H l o) vs ps :=
  ⟨h.1, fun i p e => let ⟨a, e1, e2⟩ := h.2 i p e; ⟨a, e1, by rw [upd_ne (ne_of e2 hl (fun z => nomatch z))]; exact e2⟩⟩
theorem _root_.GP.Prs.nil {H : Hp} : Prs H [] [] := ⟨rfl, fun i p e => by simp at e⟩
theorem _root_.GP.Prs.snoc {H : Hp} {a : Addr} {x y : Int} {vs : List V} {ps : List (Int × Int)} (h : Prs H vs ps) (e : H a = some (.tup [.int x, .int y])) : Prs H (vs ++ [.ref a]) (ps ++ [(x, y)]) := by
  refine ⟨by simp [h.1], fun i p ep => ?_⟩
  by_cases hi : i < ps.length
  · rw [List.getElem?_append_left hi] at ep
    obtain ⟨b, e1, e2⟩ := h.2 i p ep
    exact ⟨b, by rw [List.getElem?_append_left (by rw [h.1]; exact hi)]; exact e1, e2⟩
  · rw [List.getElem?_append_right (by omega)] at ep
    have hz : i - ps.length = 0 := by
      cases hq : i - ps.length with
      | zero => rfl
      | succ n => rw [hq] at ep; simp at ep
    rw [hz] at ep
    have ep' : (x, y) = p := by simpa using ep
    subst ep'
    refine ⟨a, ?_, e⟩
    rw [List.getElem?_append_right (by rw [h.1]; omega), h.1, hz]
    rfl
/-- rising stretches with gaps, from lo on -/
def Ris : Int → List (Int × Int) → Prop
  | _, [] => True
  | lo, p :: r => lo ≤ p.1 ∧ p.1 ≤ p.2 ∧ Ris (p.2 + 2) r
theorem Ris.snoc : ∀ {lo : Int} {ps : List (Int × Int)} {a b : Int}, Ris lo ps → lo ≤ a → (∀ p ∈ ps, p.2 + 2 ≤ a) → a ≤ b → Ris lo (ps ++ [(a, b)])
  | lo, [], a, b, _, h1, _, h3 => ⟨h1, h3, True.intro⟩
  | lo, p :: r, a, b, h, h1, h2, h3 => ⟨h.1, h.2.1, Ris.snoc h.2.2 (h2 p (List.mem_cons_self ..)) (fun q hq => h2 q (List.mem_cons_of_mem _ hq)) h3⟩
theorem pick2 {x y r : Int} (Pv : Int → Prop) (h0 : 0 ≤ r) (h1 : r < 2) (hx : Pv x) (hy : Pv y) : ∃ v, Pv v ∧ atI [V.int x, V.int y] r = some (.int v) := by
  have : r = 0 ∨ r = 1 := by omega
  rcases this with rfl | rfl
  · exact ⟨x, hx, rfl⟩
  · exact ⟨y, hy, rfl⟩
theorem pick3 {x y z r : Int} (Pv : Int → Prop) (h0 : 0 ≤ r) (h1 : r < 3) (hx : Pv x) (hy : Pv y) (hz : Pv z) : ∃ v, Pv v ∧ atI [V.int x, V.int y, V.int z] r = some (.int v) := by
  have : r = 0 ∨ r = 1 ∨ r = 2 := by omega
  rcases this with rfl | rfl | rfl
  · exact ⟨x, hx, rfl⟩
  · exact ⟨y, hy, rfl⟩
  · exact ⟨z, hz, rfl⟩
/-- a new object stands through the state's change -/
theorem Kp.new {H H' : Hp} {d c l : Addr} {t : Int} {o : HO} (k : Kp d c (upd H l o) H') (S : StAt H d c t) (n : H l = none) : H' l = some o := by
  obtain ⟨cs, ec, _⟩ := S.cells
  exact k l o (ne_of_none S.dict n).symm (ne_of_none ec n).symm upd_same
theorem drop_at {α : Type} {l : List α} {i : Nat} {x : α} (h : l[i]? = some x) : l.drop i = x :: l.drop (i + 1) := by
  obtain ⟨lt, e⟩ := List.getElem?_eq_some_iff.mp h
  rw [← e]
  exact List.drop_eq_getElem_cons lt
theorem prs_at {H : Hp} {vs : List V} {ps : List (Int × Int)} {i : Nat} {x : V} (h : Prs H vs ps) (e : vs[i]? = some x) : ∃ (p : Int × Int) (a : Addr), ps[i]? = some p ∧ x = .ref a ∧ H a = some (.tup [.int p.1, .int p.2]) := by
  obtain ⟨hi, _⟩ := List.getElem?_eq_some_iff.mp e
  have hi2 : i < ps.length := by rw [← h.1]; exact hi
  obtain ⟨a, e1, e2⟩ := h.2 i ps[i] (List.getElem?_eq_getElem hi2)
  rw [e] at e1
  exact ⟨ps[i], a, List.getElem?_eq_getElem hi2, Option.some.inj e1, e2⟩

theorem sumP_append (g : Int → Int → Int) (ps qs : List (Int × Int)) : sumP g (ps ++ qs) = sumP g ps + sumP g qs := by
  unfold sumP
  rw [List.map_append, List.sum_append]
def inB (n a b : Int) : Bool := decide (a ≤ n) && decide (n ≤ b)
theorem Ris.le : ∀ {lo : Int} {ps : List (Int × Int)}, Ris lo ps → ∀ p ∈ ps, lo ≤ p.1 ∧ p.1 ≤ p.2
  | _, [], _, _, hp => nomatch hp
  | lo, q :: r, h, p, hp => by
    rcases List.mem_cons.mp hp with e | e'
    · rw [e]; exact ⟨h.1, h.2.1⟩
    · have := Ris.le h.2.2 p e'
      have := h.2.1
      have := h.1
      omega

/-! ### walks over a list or a tuple -/
def Sq (K : PySem.W.Frag) (H : Hp) (a : Addr) (xs : List V) : Prop := SqL K H a xs ∨ SqT K H a xs
def iSeq (K : PySem.W.Frag) (tl : TE) : TI := fun σ H R => tl σ H fun x H1 => ∃ a, x = .ref a ∧ (((∃ xs, SqL K H1 a xs) ∧ R (Itl K a) H1) ∨ ((∃ xs, SqT K H1 a xs) ∧ R (Itt K a) H1))
/-- the iterator that was just laid is no one's -/
theorem lone {X : Cx} {pins : List (Addr × Obj)} {σ : L2.St} {H : Hp} {s : Shared} (I : Inv X pins σ H s) : ∀ b ∈ [s.heap.objs.size], FpOk X pins H b := fun b hb => by
  rw [List.mem_singleton.mp hb]
  exact I.fpOk (H' := H) (Nat.le_refl _) (I.hok.fresh (Nat.le_refl _))
theorem pi_seq {X : Cx} {tg l : Expr} {tl : TE} (walked : PE X l tl) : PI X tg l (iSeq X.K tl) := by
  constructor
  intro pins s σ H R I h
  refine thn (walked.run pins s σ H _ I h) fun u s1 had => ?_
  obtain ⟨_, H1, J, rel, a, rfl, had⟩ := had
  cases rel
  have laid : ∀ o, Inv X pins σ H1 { s1 with heap := s1.heap.push o } := fun o => J.kept (t' := s1.toks) fun _ _ e => Heap.get?_push_of_some _ e
  rcases had with ⟨⟨xs, hq⟩, q⟩ | ⟨⟨xs, hq⟩, q⟩
  · obtain ⟨its, _, isL, _⟩ := J.list hq
    exact wpAny_pyIter_list isL.isList ⟨_, _, _, _, H1, rfl, laid _, turn_list a _, ⟨_, Heap.get?_push_size _ rfl, rfl, rfl⟩, lone J, q⟩
  · obtain ⟨its, _, isT, _⟩ := J.tuple hq
    exact wpAny_pyIter_tuple (items := its.toArray) isT ⟨_, _, _, _, H1, rfl, laid _, turn_tuple a _, ⟨_, Heap.get?_push_size _ rfl, rfl, rfl⟩, lone J, q⟩
/-- the walked thing stands as it stood -/
def SqTo (K : PySem.W.Frag) (H H' : Hp) (a : Addr) (xs : List V) : Prop := (SqL K H a xs → SqL K H' a xs) ∧ (SqT K H a xs → SqT K H' a xs)
theorem SqTo.refl {K : PySem.W.Frag} {H : Hp} {a : Addr} {xs : List V} : SqTo K H H a xs := ⟨fun h => h, fun h => h⟩
theorem same_t {K : PySem.W.Frag} {H H' : Hp} {a : Addr} {xs : List V} (s : Same H H') (h : SqT K H a xs) : SqT K H' a xs :=
  h.elim (fun r => .inl (r.elim (fun e => .inl (s a _ e)) fun ⟨o, e⟩ => .inr ⟨o, s a _ e⟩)) .inr
theorem SqTo.same {K : PySem.W.Frag} {H H' : Hp} {a : Addr} {xs : List V} (s : Same H H') : SqTo K H H' a xs := ⟨s.seq, same_t s⟩
theorem Sq.same {K : PySem.W.Frag} {H H' : Hp} {a : Addr} {xs : List V} (h : Sq K H a xs) (s : Same H H') : Sq K H' a xs := h.elim (fun h => .inl (s.seq h)) fun h => .inr (same_t s h)
theorem Sq.list {K : PySem.W.Frag} {H : Hp} {a : Addr} {xs : List V} (h : H a = some (.lst xs)) : Sq K H a xs := .inl (SqL.of h)
theorem Sq.tup {K : PySem.W.Frag} {H : Hp} {a : Addr} {xs : List V} (h : H a = some (.tup xs)) : Sq K H a xs := .inr (.inl (.inl h))
abbrev ForR (J : It) (g : TG) (tb : TS) (D : Ends) (σ : L2.St) (H1 : Hp) : Prop := ∃ W : Nat → Nat → L2.St → Hp → Prop, (∃ m, W 0 m σ H1) ∧ ∀ i m σ H, W i m σ H →
  (J.stop i H ∧ D.nx σ H) ∨ (J.go i H ∧ ∃ N : L2.St → Hp → Prop, (∀ σ' H', N σ' H' → ∃ m', m' < m ∧ W (i + 1) m' σ' H') ∧ ∀ x H', J.yld i H x H' → g x σ H' fun σ2 H2 => tb { D with nx := N, ct := N, bk := D.nx } σ2 H2)
theorem for_seq {K : PySem.W.Frag} {a : Addr} {xs : List V} {g : TG} {tb : TS} {D : Ends} {σ : L2.St} {H1 : Hp} (hq : Sq K H1 a xs) (Pv : Nat → L2.St → Hp → Prop) (h0 : Pv 0 σ H1)
    (hl : ∀ i σ H', i ≤ xs.length → Pv i σ H' → SqTo K H1 H' a xs)
    (turn : ∀ i x σ H, xs[i]? = some x → Pv i σ H → g x σ H fun σ2 H2 => tb { D with nx := Pv (i + 1), ct := Pv (i + 1), bk := D.nx } σ2 H2) (fin : ∀ σ H, Pv xs.length σ H → D.nx σ H) :
    ((∃ xs, SqL K H1 a xs) ∧ ForR (Itl K a) g tb D σ H1) ∨ ((∃ xs, SqT K H1 a xs) ∧ ForR (Itt K a) g tb D σ H1) := by
  rcases hq with h | h
  · exact .inl ⟨⟨xs, h⟩, for_list (xs := xs) Pv h0 (fun i σ H' hi p => (hl i σ H' hi p).1 h) turn fin⟩
  · exact .inr ⟨⟨xs, h⟩, for_tup (xs := xs) Pv h0 (fun i σ H' hi p => (hl i σ H' hi p).2 h) turn fin⟩

/-! ### the table of the def that holds the generator expression -/
theorem tab_at {Pt : Addr} {H H2 : Hp} {b : Addr} {o : HO} (g : GxR.TabG H Pt) (t : GxR.Tabbed Pt H H2) (e : H b = some o) (h : ∀ q, o ≠ .tbl q) : H2 b = some o := by
  obtain ⟨ps, hP, _⟩ := g
  rw [t.2 b (ne_of e hP (h ps))]
  exact e
theorem StAt.tab {Pt : Addr} {H H2 : Hp} {d c : Addr} {t : Int} (S : StAt H d c t) (g : GxR.TabG H Pt) (x : GxR.Tabbed Pt H H2) : StAt H2 d c t :=
  ⟨tab_at g x S.dict (fun _ z => nomatch z), let ⟨cs, e, r⟩ := S.cells; ⟨cs, tab_at g x e (fun _ z => nomatch z), r⟩, S.pos⟩
theorem _root_.GP.Prs.tab {Pt : Addr} {H H2 : Hp} {vs : List V} {ps : List (Int × Int)} (h : Prs H vs ps) (g : GxR.TabG H Pt) (x : GxR.Tabbed Pt H H2) : Prs H2 vs ps :=
  ⟨h.1, fun i p e => let ⟨a, e1, e2⟩ := h.2 i p e; ⟨a, e1, tab_at g x e2 (fun _ z => nomatch z)⟩⟩
theorem tabG_same {Pt : Addr} {H H' : Hp} (g : GxR.TabG H Pt) (s : Same H H') : GxR.TabG H' Pt := let ⟨ps, e, r⟩ := g; ⟨ps, s _ _ e, r⟩
theorem tabG_kp {Pt : Addr} {H H' : Hp} {d c : Addr} {t : Int} (g : GxR.TabG H Pt) (S : StAt H d c t) (k : Kp d c H H') : GxR.TabG H' Pt := let ⟨ps, e, r⟩ := g; ⟨ps, k.at S e (fun _ z => nomatch z) (fun _ z => nomatch z), r⟩
theorem tabG_upd {Pt : Addr} {H : Hp} {l : Addr} {o u : HO} (g : GxR.TabG H Pt) (e : H l = some o) (h : ∀ q, o ≠ .tbl q) : GxR.TabG (upd H l u) Pt := let ⟨ps, eP, r⟩ := g; ⟨ps, by rw [upd_ne (ne_of e eP (h ps)).symm]; exact eP, r⟩
theorem tabbed_free {Pt : Addr} {H H2 : Hp} {p : Addr} (g : GxR.TabG H Pt) (x : GxR.Tabbed Pt H H2) (h : H2 p = none) : H p = none := by
  obtain ⟨ps, e, _⟩ := x.1
  rw [← x.2 p (fun z => by rw [z, e] at h; cases h)]
  exact h

/-! ### d.update([(k, v), ..]) -/
def rUpdP (K : PySem.W.Frag) : V → List V → Hp → VK → Prop := fun x vs H Q => ∃ (d a : Addr) (ps : List Addr) (kvs old : List (Key × V)), x = .ref d ∧ vs = [.ref a] ∧ H d = some (.dK old) ∧ H a = some (.lst (ps.map V.ref)) ∧ Paired (fun p kv => SqT K H p [kV kv.1, kv.2]) ps kvs ∧
  old.length + kvs.length ≤ sizeLine ∧ Q .non (upd H d (.dK (mergeK old kvs)))
theorem mt_update {X : Cx} (calm : X.calm = true) : MtR X "dict.update" (rUpdP X.K) := by
  intro pins s σ H x vs v us Q I rx rv had
  obtain ⟨d, a, ps, kvs, old, rfl, rfl, hd, ha, hp, hz, q⟩ := had
  cases rx
  obtain ⟨u, rfl, ru⟩ := vals1 rv
  cases ru
  obtain ⟨_, its, n, ri, ea⟩ := I.hok a _ ha
  obtain rfl := refs_at ri
  obtain ⟨prs, rel, plen, hpr⟩ := pairs_of I hp
  obtain ⟨_, sys, ws, rw', isD⟩ := I.hok d _ hd
  -- the pairs, by place
  have one : ∀ j : Nat, ∃ (b : Addr) (k : Value), ∀ qv, prs[j]? = some qv → ps[j]? = some b ∧ IsTup s.heap b #[k, qv.2] ∧ keyIs qv.1 k = true := fun j => by
    cases e : prs[j]? with
    | none => exact ⟨0, .none, fun _ z => nomatch z⟩
    | some qv =>
      obtain ⟨b, k, h1, h2, h3⟩ := hpr j qv e
      exact ⟨b, k, fun qv' z => by cases z; exact ⟨h1, h2, h3⟩⟩
  let loc : Nat → Addr := fun j => (one j).choose
  let key : Nat → Value := fun j => (one j).choose_spec.choose
  have spec : ∀ j qv, prs[j]? = some qv → ps[j]? = some (loc j) ∧ IsTup s.heap (loc j) #[key j, qv.2] ∧ keyIs qv.1 (key j) = true := fun j => (one j).choose_spec.choose_spec
  let pv : List (Value × Value) := (List.range prs.length).map fun j => (key j, (prs[j]?.map (·.2)).getD .none)
  have pvl : pv.length = prs.length := by simp [pv]
  have pvat : ∀ j k v, pv[j]? = some (k, v) → ∃ qv, prs[j]? = some qv ∧ k = key j ∧ v = qv.2 := fun j k v e => by
    have hj : j < prs.length := by rw [← pvl]; exact (List.getElem?_eq_some_iff.mp e).1
    have e2 : pv[j]? = some (key j, (prs[j]?.map (·.2)).getD .none) := by simp [pv, hj]
    rw [e2, List.getElem?_eq_getElem hj] at e
    cases e
    exact ⟨_, List.getElem?_eq_getElem hj, rfl, rfl⟩
  have lenk : kvs.length = prs.length := Paired.length rel
  have isL : PlainSeq "list" s.heap a (ps.map Value.ref).toArray := ⟨_, n, ea, rfl, rfl, rfl⟩
  have items : PairItems s.heap (ps.map Value.ref).toArray loc pv := ⟨by rw [List.size_toArray, List.length_map, pvl, plen], fun j k v e => by
    obtain ⟨qv, e1, rfl, rfl⟩ := pvat j k v e
    obtain ⟨h1, h2, _⟩ := spec j qv e1
    refine ⟨?_, .inl h2⟩
    rw [List.getElem?_toArray, List.getElem?_map, h1]
    rfl⟩
  have off : d ∉ a :: (List.range pv.length).map loc := fun z => by
    rcases List.mem_cons.mp z with e | e
    · exact ne_of hd ha (fun z => nomatch z) e
    · obtain ⟨j, hj, e⟩ := List.mem_map.mp e
      have hj' : j < prs.length := by rw [← pvl]; exact List.mem_range.mp hj
      obtain ⟨_, ⟨o, h2, h3, _⟩, _⟩ := spec j prs[j] (List.getElem?_eq_getElem hj')
      obtain ⟨o', _, _, g1, g2, _⟩ := isD
      rw [e, g1] at h2
      have z3 := g2.1
      rw [Option.some.inj h2, h3] at z3
      simp at z3
  have wl : old.length = ws.length := Paired.length rw'
  refine call_update_pairs (knd := mixKind X.prog X.w) (kvs := prs) (PairArg.list a (ps.map Value.ref).toArray loc pv) (I.ok.hd calm) ⟨isL, items⟩ off ⟨pvl.symm, fun i k v e => ?_⟩ isD (by rw [pvl, ← wl, ← lenk]; exact hz) fun h' tk made kept => ?_
  · obtain ⟨qv, e1, rfl, rfl⟩ := pvat i k v e
    exact ⟨qv.1, e1, (spec i qv e1).2.2⟩
  · refine ⟨.non, _, I.write (x := d) (e := d) (by rw [hd]; trivial) (.inl rfl) (fun b u hb e => kept b u hb (fun z => nomatch z) e) ?_ ?_, rfl, q⟩
    · obtain ⟨o, _, _, g1, _⟩ := made
      exact ⟨o, g1⟩
    · refine ⟨Nat.le_trans (length_mergeK kvs old) ?_, sys, merged ws prs, KV.merge rel rw', made⟩
      exact hz

/-! ### pairs as data -/
def pairD (p : Int × Int) : PyData := .tuple [.int p.1, .int p.2]
theorem dp_prs {K : PySem.W.Frag} {H : Hp} : ∀ {us : List V} {ps : List (Int × Int)}, Prs H us ps → DpAll K H us (ps.map pairD)
  | [], [], _ => .nil
  | [], _ :: _, h => nomatch h.1
  | _ :: _, [], h => nomatch h.1
  | u :: us, p :: ps, h => by
    obtain ⟨a, e1, e2⟩ := h.2 0 p rfl
    have eu : u = .ref a := Option.some.inj e1
    subst eu
    refine .cons (.tup (.inl (.inl e2)) (.cons (.int _) (.cons (.int _) .nil))) (dp_prs ⟨Nat.succ.inj h.1, fun i q e => ?_⟩)
    obtain ⟨b, f1, f2⟩ := h.2 (i + 1) q e
    exact ⟨b, f1, f2⟩
theorem lay_prs : ∀ ps : List (Int × Int), PyData.canLayAll0 (ps.map pairD) = true
  | [] => by simp only [List.map_nil, PyData.canLayAll0]
  | p :: r => by
    rw [List.map_cons, PyData.canLayAll0, lay_prs r]
    simp [pairD, PyData.canLay0, PyData.canLayAll0]
theorem depth_prs : ∀ ps : List (Int × Int), PyData.depthAll (ps.map pairD) ≤ 1
  | [] => by simp only [List.map_nil, PyData.depthAll]; omega
  | p :: r => by
    rw [List.map_cons, PyData.depthAll]  -- a pair, then the rest
    have := depth_prs r
    simp [pairD, PyData.depth, PyData.depthAll]
    omega
theorem shaped_prs (ps : List (Int × Int)) : SeqAt.shaped (PyData.list (ps.map pairD)) = true := by
  unfold SeqAt.shaped
  rw [PyData.canLay0, lay_prs, PyData.depth, Bool.true_and]
  exact decide_eq_true (by have := depth_prs ps; omega)
theorem eqv_prs (ps : List (Int × Int)) : PyData.eqv (PyData.list (ps.map pairD)) (PyData.list (ps.map pairD)) = true := SeqAt.eqv_refl _ (by rw [PyData.canLay0]; exact lay_prs ps)
theorem tabG_tabbed {Pt Pu : Addr} {H H2 : Hp} (g : GxR.TabG H Pu) (x : GxR.Tabbed Pt H H2) : GxR.TabG H2 Pu := by
  by_cases e : Pu = Pt
  · rw [e]; exact x.1
  · obtain ⟨ps, h, r⟩ := g
    exact ⟨ps, by rw [x.2 _ e]; exact h, r⟩

/-! ### sets by stretches: the mathematics -/
theorem inB_iff {n a b : Int} : inB n a b = true ↔ a ≤ n ∧ n ≤ b := by
  unfold inB
  rw [Bool.and_eq_true, decide_eq_true_eq (p := a ≤ n), decide_eq_true_eq]
theorem anyP_iff {n : Int} {ps : List (Int × Int)} : anyP (inB n) ps = true ↔ ∃ p ∈ ps, p.1 ≤ n ∧ n ≤ p.2 := by
  unfold anyP
  rw [List.any_eq_true]
  constructor
  · rintro ⟨p, hp, e⟩
    exact ⟨p, hp, inB_iff.mp e⟩
  · rintro ⟨p, hp, e⟩
    exact ⟨p, hp, inB_iff.mpr e⟩
/-- the same numbers -/
def Alike (ps qs : List (Int × Int)) : Prop := ∀ n : Int, (∃ p ∈ ps, p.1 ≤ n ∧ n ≤ p.2) ↔ ∃ p ∈ qs, p.1 ≤ n ∧ n ≤ p.2
theorem Alike.any {ps qs : List (Int × Int)} (h : Alike ps qs) (n : Int) : anyP (inB n) ps = anyP (inB n) qs := by
  rw [Bool.eq_iff_iff, anyP_iff, anyP_iff]
  exact h n
theorem Alike.symm {ps qs : List (Int × Int)} (h : Alike ps qs) : Alike qs ps := fun n => (h n).symm
theorem Alike.trans {ps qs rs : List (Int × Int)} (h : Alike ps qs) (h' : Alike qs rs) : Alike ps rs := fun n => (h n).trans (h' n)
theorem Alike.of_mem {ps qs : List (Int × Int)} (h : ∀ p, p ∈ ps ↔ p ∈ qs) : Alike ps qs := fun n => ⟨fun ⟨p, hp, e⟩ => ⟨p, (h p).mp hp, e⟩, fun ⟨p, hp, e⟩ => ⟨p, (h p).mpr hp, e⟩⟩
/-- of each set of numbers there is just one list -/
theorem ris_one : ∀ {rs rs' : List (Int × Int)} {lo lo' : Int}, Ris lo rs → Ris lo' rs' → Alike rs rs' → rs = rs'
  | [], [], _, _, _, _, _ => by rfl
  | [], q :: r, _, _, _, h', e => by
    obtain ⟨p, hp, _⟩ := (e q.1).mpr ⟨q, List.mem_cons_self .., Int.le_refl _, h'.2.1⟩
    exact nomatch hp
  | q :: r, [], _, _, h, _, e => by
    obtain ⟨p, hp, _⟩ := (e q.1).mp ⟨q, List.mem_cons_self .., Int.le_refl _, h.2.1⟩
    exact nomatch hp
  | (a, b) :: r, (a', b') :: r', lo, lo', h, h', e => by
    have hb : a ≤ b := h.2.1
    have hb' : a' ≤ b' := h'.2.1
    have tl : ∀ p ∈ r, b + 2 ≤ p.1 ∧ p.1 ≤ p.2 := Ris.le h.2.2
    have tl' : ∀ p ∈ r', b' + 2 ≤ p.1 ∧ p.1 ≤ p.2 := Ris.le h'.2.2
    have m1 : a' ≤ a := by
      obtain ⟨p, hp, e1, e2⟩ := (e a).mp ⟨(a, b), List.mem_cons_self .., Int.le_refl _, hb⟩
      rcases List.mem_cons.mp hp with z | z
      · rw [z] at e1; exact e1
      · have := tl' p z; omega
    have m2 : a ≤ a' := by
      obtain ⟨p, hp, e1, e2⟩ := (e a').mpr ⟨(a', b'), List.mem_cons_self .., Int.le_refl _, hb'⟩
      rcases List.mem_cons.mp hp with z | z
      · rw [z] at e1; exact e1
      · have := tl p z; omega
    have ea : a = a' := by omega
    have n1 : ¬ b < b' := fun lt => by
      obtain ⟨p, hp, e1, e2⟩ := (e (b + 1)).mpr ⟨(a', b'), List.mem_cons_self .., by show a' ≤ b + 1; omega, by show b + 1 ≤ b'; omega⟩
      rcases List.mem_cons.mp hp with z | z
      · rw [z] at e2; have : b + 1 ≤ b := e2; omega
      · have := tl p z; omega
    have n2 : ¬ b' < b := fun lt => by
      obtain ⟨p, hp, e1, e2⟩ := (e (b' + 1)).mp ⟨(a, b), List.mem_cons_self .., by show a ≤ b' + 1; omega, by show b' + 1 ≤ b; omega⟩
      rcases List.mem_cons.mp hp with z | z
      · rw [z] at e2; have : b' + 1 ≤ b' := e2; omega
      · have := tl' p z; omega
    have eb : b = b' := by omega
    subst ea eb
    have er : Alike r r' := fun n => by
      constructor
      · rintro ⟨p, hp, e1, e2⟩
        obtain ⟨p', hp', f1, f2⟩ := (e n).mp ⟨p, List.mem_cons_of_mem _ hp, e1, e2⟩
        rcases List.mem_cons.mp hp' with z | z
        · rw [z] at f2
          have : n ≤ b := f2
          have := tl p hp
          omega
        · exact ⟨p', z, f1, f2⟩
      · rintro ⟨p, hp, e1, e2⟩
        obtain ⟨p', hp', f1, f2⟩ := (e n).mpr ⟨p, List.mem_cons_of_mem _ hp, e1, e2⟩
        rcases List.mem_cons.mp hp' with z | z
        · rw [z] at f2
          have : n ≤ b := f2
          have := tl' p hp
          omega
        · exact ⟨p', z, f1, f2⟩
    rw [ris_one h.2.2 h'.2.2 er]
theorem Ris.front : ∀ {lo : Int} {rs : List (Int × Int)} {q : Int × Int}, Ris lo (rs ++ [q]) → Ris lo rs ∧ (∀ r ∈ rs, r.2 + 2 ≤ q.1) ∧ lo ≤ q.1 ∧ q.1 ≤ q.2
  | lo, [], q, h => ⟨True.intro, (fun _ z => nomatch z), h.1, h.2.1⟩
  | lo, r :: rs, q, h => by
    obtain ⟨h1, h2, h3, h4⟩ := Ris.front h.2.2
    refine ⟨⟨h.1, h.2.1, h1⟩, fun x hx => ?_, by have := h.1; have := h.2.1; omega, h4⟩
    rcases List.mem_cons.mp hx with z | z
    · rw [z]; exact h3
    · exact h2 x z
/-- what is told of pairs: a set of just their numbers -/
structure SetLike (ps rs : List (Int × Int)) : Prop where
  ris : ∃ lo, Ris lo rs
  same : Alike rs ps
  len : rs.length ≤ ps.length
/-- between two turns: the pairs so far, rising by their firsts, and what is merged of them -/
structure Mrg (pre rs : List (Int × Int)) : Prop extends SetLike pre rs where
  firsts : ∀ r ∈ rs, ∃ p ∈ pre, p.1 = r.1
theorem alike_snoc {pre : List (Int × Int)} {rs rs' : List (Int × Int)} {p : Int × Int} (h : Alike rs pre) (e : ∀ n, (∃ q ∈ rs', q.1 ≤ n ∧ n ≤ q.2) ↔ (∃ q ∈ rs, q.1 ≤ n ∧ n ≤ q.2) ∨ (p.1 ≤ n ∧ n ≤ p.2)) : Alike rs' (pre ++ [p]) := fun n => by
  rw [e n, h n]
  constructor
  · rintro (⟨q, hq, z⟩ | z)
    · exact ⟨q, List.mem_append_left _ hq, z⟩
    · exact ⟨p, List.mem_append_right _ (List.mem_singleton.mpr rfl), z⟩
  · rintro ⟨q, hq, z⟩
    rcases List.mem_append.mp hq with y | y
    · exact .inl ⟨q, y, z⟩
    · rw [List.mem_singleton.mp y] at z
      exact .inr z
theorem Mrg.join {pre rs : List (Int × Int)} {a b : Int} {p : Int × Int} (m : Mrg pre (rs ++ [(a, b)])) (hp : p.1 ≤ p.2) (ord : ∀ q ∈ pre, q.1 ≤ p.1) (near : p.1 ≤ b + 1) : Mrg (pre ++ [p]) (rs ++ [(a, if p.2 > b then p.2 else b)]) := by
  obtain ⟨lo, hr⟩ := m.ris
  obtain ⟨h1, h2, h3, h4⟩ := Ris.front hr
  obtain ⟨q, hq, eq⟩ := m.firsts (a, b) (List.mem_append_right _ (List.mem_singleton.mpr rfl))
  have hap : a ≤ p.1 := by have := ord q hq; have : q.1 = a := eq; omega
  have hab : a ≤ b := h4
  have big : a ≤ (if p.2 > b then p.2 else b) := by split <;> omega
  refine ⟨⟨⟨lo, h1.snoc h3 h2 big⟩, alike_snoc m.same fun n => ?_, ?_⟩, fun r hr => ?_⟩
  · constructor
    · rintro ⟨q, hq, z⟩
      rcases List.mem_append.mp hq with y | y
      · exact .inl ⟨q, List.mem_append_left _ y, z⟩
      · rw [List.mem_singleton.mp y] at z
        have z1 : a ≤ n := z.1
        have z2 : n ≤ (if p.2 > b then p.2 else b) := z.2
        by_cases c : n ≤ b
        · exact .inl ⟨(a, b), List.mem_append_right _ (List.mem_singleton.mpr rfl), z1, c⟩
        · refine .inr ⟨by omega, ?_⟩
          split at z2 <;> omega
    · rintro (⟨q, hq, z⟩ | z)
      · rcases List.mem_append.mp hq with y | y
        · exact ⟨q, List.mem_append_left _ y, z⟩
        · rw [List.mem_singleton.mp y] at z
          refine ⟨_, List.mem_append_right _ (List.mem_singleton.mpr rfl), z.1, ?_⟩
          have z2 : n ≤ b := z.2
          show n ≤ (if p.2 > b then p.2 else b)
          split <;> omega
      · refine ⟨_, List.mem_append_right _ (List.mem_singleton.mpr rfl), by show a ≤ n; omega, ?_⟩
        show n ≤ (if p.2 > b then p.2 else b)
        split <;> omega
  · have := m.len
    rw [List.length_append, List.length_append] at *
    show rs.length + 1 ≤ pre.length + 1
    have : rs.length + 1 ≤ pre.length := this
    omega
  · rcases List.mem_append.mp hr with y | y
    · obtain ⟨q, hq, e⟩ := m.firsts r (List.mem_append_left _ y)
      exact ⟨q, List.mem_append_left _ hq, e⟩
    · rw [List.mem_singleton.mp y]
      exact ⟨q, List.mem_append_left _ hq, eq⟩
theorem Mrg.new {pre rs : List (Int × Int)} {p : Int × Int} (m : Mrg pre rs) (hp : p.1 ≤ p.2) (ord : ∀ q ∈ pre, q.1 ≤ p.1) (far : ∀ r ∈ rs, r.2 + 2 ≤ p.1) : Mrg (pre ++ [p]) (rs ++ [p]) := by
  obtain ⟨lo, hr⟩ := m.ris
  refine ⟨⟨?_, alike_snoc m.same fun n => ?_, by have := m.len; rw [List.length_append, List.length_append]; show rs.length + 1 ≤ pre.length + 1; omega⟩, fun r hr => ?_⟩
  · cases rs with
    | nil => exact ⟨p.1, Int.le_refl _, hp, True.intro⟩
    | cons q r =>
      refine ⟨lo, hr.snoc ?_ far hp⟩
      have := hr.le q (List.mem_cons_self ..)
      have := far q (List.mem_cons_self ..)
      omega
  · constructor
    · rintro ⟨q, hq, z⟩
      rcases List.mem_append.mp hq with y | y
      · exact .inl ⟨q, y, z⟩
      · rw [List.mem_singleton.mp y] at z; exact .inr z
    · rintro (⟨q, hq, z⟩ | z)
      · exact ⟨q, List.mem_append_left _ hq, z⟩
      · exact ⟨p, List.mem_append_right _ (List.mem_singleton.mpr rfl), z⟩
  · rcases List.mem_append.mp hr with y | y
    · obtain ⟨q, hq, e⟩ := m.firsts r y
      exact ⟨q, List.mem_append_left _ hq, e⟩
    · rw [List.mem_singleton.mp y]
      exact ⟨p, List.mem_append_right _ (List.mem_singleton.mpr rfl), rfl⟩
theorem Mrg.nil : Mrg [] [] := ⟨⟨⟨0, True.intro⟩, fun _ => Iff.rfl, Nat.le_refl _⟩, fun _ z => nomatch z⟩

/-! ### sets put together: the mathematics -/
def InS (ps : List (Int × Int)) (n : Int) : Prop := ∃ p ∈ ps, p.1 ≤ n ∧ n ≤ p.2
theorem inS_nil {n : Int} : ¬ InS [] n := fun ⟨_, h, _⟩ => nomatch h
theorem inS_cons {p : Int × Int} {r : List (Int × Int)} {n : Int} : InS (p :: r) n ↔ (p.1 ≤ n ∧ n ≤ p.2) ∨ InS r n := by
  constructor
  · rintro ⟨q, hq, e⟩
    rcases List.mem_cons.mp hq with z | z
    · rw [z] at e; exact .inl e
    · exact .inr ⟨q, z, e⟩
  · rintro (e | ⟨q, hq, e⟩)
    · exact ⟨p, List.mem_cons_self .., e⟩
    · exact ⟨q, List.mem_cons_of_mem _ hq, e⟩
theorem inS_append {ps qs : List (Int × Int)} {n : Int} : InS (ps ++ qs) n ↔ InS ps n ∨ InS qs n := by
  constructor
  · rintro ⟨q, hq, e⟩
    rcases List.mem_append.mp hq with z | z
    · exact .inl ⟨q, z, e⟩
    · exact .inr ⟨q, z, e⟩
  · rintro (⟨q, hq, e⟩ | ⟨q, hq, e⟩)
    · exact ⟨q, List.mem_append_left _ hq, e⟩
    · exact ⟨q, List.mem_append_right _ hq, e⟩
theorem Ris.low {lo n : Int} {ps : List (Int × Int)} (h : Ris lo ps) (e : InS ps n) : lo ≤ n := by
  obtain ⟨p, hp, e1, e2⟩ := e
  have := h.le p hp
  omega
theorem Ris.mono : ∀ {lo lo' : Int} {ps : List (Int × Int)}, Ris lo ps → lo' ≤ lo → Ris lo' ps
  | _, _, [], _, _ => True.intro
  | _, _, _ :: _, h, e => ⟨Int.le_trans e h.1, h.2⟩
def mxI (i j : Int) : Int := if j > i then j else i
def mnI (i j : Int) : Int := if j < i then j else i
theorem mxI_le {i j n : Int} : mxI i j ≤ n ↔ i ≤ n ∧ j ≤ n := by unfold mxI; split <;> omega
theorem le_mxI {i j n : Int} : n ≤ mxI i j ↔ n ≤ i ∨ n ≤ j := by unfold mxI; split <;> omega
theorem le_mnI {i j n : Int} : n ≤ mnI i j ↔ n ≤ i ∧ n ≤ j := by unfold mnI; split <;> omega
theorem mnI_le {i j n : Int} : mnI i j ≤ n ↔ i ≤ n ∨ j ≤ n := by unfold mnI; split <;> omega
/-- going through both at once -/
def bothF : List (Int × Int) → List (Int × Int) → List (Int × Int)
  | [], _ => []
  | _ :: _, [] => []
  | p :: r, q :: s => (if mxI p.1 q.1 ≤ mnI p.2 q.2 then [(mxI p.1 q.1, mnI p.2 q.2)] else []) ++ (if p.2 < q.2 then bothF r (q :: s) else bothF (p :: r) s)
termination_by ps qs => ps.length + qs.length
theorem bothF_nil (ps : List (Int × Int)) : bothF ps [] = [] := by cases ps <;> rw [bothF]
theorem bothF_ris : ∀ {ps qs : List (Int × Int)} {lo lo' k : Int}, Ris lo ps → Ris lo' qs → (k ≤ lo ∨ k ≤ lo') → Ris k (bothF ps qs)
  | [], _, _, _, _, _, _, _ => by rw [bothF]; exact True.intro
  | _ :: _, [], _, _, _, _, _, _ => by rw [bothF]; exact True.intro
  | p :: r, q :: s, lo, lo', k, h, h', hk => by
    rw [bothF]
    have h1 := h.1
    have h2 := h.2.1
    have h1' := h'.1
    have h2' := h'.2.1
    by_cases c : mxI p.1 q.1 ≤ mnI p.2 q.2
    · rw [if_pos c]
      refine ⟨?_, c, ?_⟩
      · show k ≤ mxI p.1 q.1
        rw [le_mxI]
        omega
      · by_cases d : p.2 < q.2
        · rw [if_pos d]
          refine bothF_ris h.2.2 h' (.inl ?_)
          show mnI p.2 q.2 + 2 ≤ p.2 + 2
          have : mnI p.2 q.2 ≤ p.2 := mnI_le.mpr (.inl (Int.le_refl _))
          omega
        · rw [if_neg d]
          refine bothF_ris h h'.2.2 (.inr ?_)
          show mnI p.2 q.2 + 2 ≤ q.2 + 2
          have : mnI p.2 q.2 ≤ q.2 := mnI_le.mpr (.inr (Int.le_refl _))
          omega
    · rw [if_neg c, List.nil_append]
      by_cases d : p.2 < q.2
      · rw [if_pos d]
        refine bothF_ris h.2.2 h' ?_
        omega
      · rw [if_neg d]
        refine bothF_ris h h'.2.2 ?_
        omega
termination_by ps qs => ps.length + qs.length
theorem bothF_in {n : Int} : ∀ {ps qs : List (Int × Int)} {lo lo' : Int}, Ris lo ps → Ris lo' qs → (InS (bothF ps qs) n ↔ InS ps n ∧ InS qs n)
  | [], _, _, _, _, _ => by rw [bothF]; exact ⟨fun h => absurd h inS_nil, fun h => h.1⟩
  | _ :: _, [], _, _, _, _ => by rw [bothF]; exact ⟨fun h => absurd h inS_nil, fun h => h.2⟩
  | p :: r, q :: s, lo, lo', h, h' => by
    rw [bothF, inS_append, inS_cons, inS_cons]
    have e1 : InS (if mxI p.1 q.1 ≤ mnI p.2 q.2 then [(mxI p.1 q.1, mnI p.2 q.2)] else []) n ↔ (p.1 ≤ n ∧ n ≤ p.2) ∧ (q.1 ≤ n ∧ n ≤ q.2) := by
      by_cases c : mxI p.1 q.1 ≤ mnI p.2 q.2
      · rw [if_pos c, inS_cons]
        show ((mxI p.1 q.1 ≤ n ∧ n ≤ mnI p.2 q.2) ∨ InS [] n) ↔ _
        rw [mxI_le, le_mnI]
        constructor
        · rintro (z | z)
          · omega
          · exact absurd z inS_nil
        · intro z
          exact .inl (by omega)
      · rw [if_neg c]
        constructor
        · exact fun z => absurd z inS_nil
        · intro z
          refine absurd (Int.le_trans (mxI_le.mpr ⟨z.1.1, z.2.1⟩) (le_mnI.mpr ⟨z.1.2, z.2.2⟩)) c
    rw [e1]
    by_cases d : p.2 < q.2
    · rw [if_pos d, bothF_in h.2.2 h', inS_cons]
      have no : InS s n → ¬ n ≤ p.2 := fun z => by
        have := h'.2.2.low z
        omega
      constructor
      · rintro (⟨z1, z2⟩ | ⟨z1, z2⟩)
        · exact ⟨.inl z1, .inl z2⟩
        · exact ⟨.inr z1, z2⟩
      · rintro ⟨z1 | z1, z2 | z2⟩
        · exact .inl ⟨z1, z2⟩
        · exact absurd z1.2 (no z2)
        · exact .inr ⟨z1, .inl z2⟩
        · exact .inr ⟨z1, .inr z2⟩
    · rw [if_neg d, bothF_in h h'.2.2, inS_cons]
      have no : InS r n → ¬ n ≤ q.2 := fun z => by
        have := h.2.2.low z
        omega
      constructor
      · rintro (⟨z1, z2⟩ | ⟨z1, z2⟩)
        · exact ⟨.inl z1, .inl z2⟩
        · exact ⟨z1, .inr z2⟩
      · rintro ⟨z1 | z1, z2 | z2⟩
        · exact .inl ⟨z1, z2⟩
        · exact .inr ⟨.inl z1, z2⟩
        · exact absurd z2.2 (no z1)
        · exact .inr ⟨.inr z1, z2⟩
termination_by ps qs => ps.length + qs.length
/-- what lies between the stretches of a set -/
def gapsF (e : Int) : Int → List (Int × Int) → List (Int × Int)
  | st, [] => [(st, e)]
  | st, p :: r => (st, mnI (p.1 - 1) e) :: gapsF e (mxI st (p.2 + 1)) r
theorem gapsF_length (e : Int) : ∀ (qs : List (Int × Int)) (st : Int), (gapsF e st qs).length = qs.length + 1
  | [], _ => rfl
  | _ :: r, _ => by rw [gapsF, List.length_cons, gapsF_length e r, List.length_cons]
theorem gapsF_in {e n : Int} : ∀ {qs : List (Int × Int)} {lo st : Int}, Ris lo qs → (InS (gapsF e st qs) n ↔ (st ≤ n ∧ n ≤ e) ∧ ¬ InS qs n)
  | [], _, st, _ => by
    rw [gapsF, inS_cons]
    constructor
    · rintro (z | z)
      · exact ⟨z, inS_nil⟩
      · exact absurd z inS_nil
    · exact fun z => .inl z.1
  | p :: r, lo, st, h => by
    rw [gapsF, inS_cons, gapsF_in h.2.2, inS_cons]
    show ((st ≤ n ∧ n ≤ mnI (p.1 - 1) e) ∨ (mxI st (p.2 + 1) ≤ n ∧ n ≤ e) ∧ ¬ InS r n) ↔ _
    rw [le_mnI, mxI_le]
    have h2 := h.2.1
    have no : n ≤ p.2 + 1 → ¬ InS r n := fun z y => by
      have := h.2.2.low y
      omega
    constructor
    · rintro (z | ⟨z, y⟩)
      · refine ⟨by omega, ?_⟩
        rintro (x | x)
        · omega
        · exact no (by omega) x
      · refine ⟨by omega, ?_⟩
        rintro (x | x)
        · omega
        · exact y x
    · rintro ⟨z, y⟩
      by_cases c : n < p.1
      · exact .inl (by omega)
      · refine .inr ⟨?_, fun x => y (.inr x)⟩
        have : ¬ (p.1 ≤ n ∧ n ≤ p.2) := fun x => y (.inl x)
        omega
/-- a set of just the numbers of which pr holds -/
structure Told (pr : Int → Prop) (rs : List (Int × Int)) : Prop where
  ris : ∃ lo, Ris lo rs
  same : ∀ n, InS rs n ↔ pr n
theorem Told.one {pr pr' : Int → Prop} {rs rs' : List (Int × Int)} (h : Told pr rs) (h' : Told pr' rs') (e : ∀ n, pr n ↔ pr' n) : rs = rs' := by
  obtain ⟨lo, r⟩ := h.ris
  obtain ⟨lo', r'⟩ := h'.ris
  exact ris_one r r' fun n => (h.same n).trans ((e n).trans (h'.same n).symm)
theorem Told.of {lo : Int} {rs : List (Int × Int)} (h : Ris lo rs) : Told (InS rs) rs := ⟨⟨lo, h⟩, fun _ => Iff.rfl⟩
theorem SetLike.told {ps rs : List (Int × Int)} (h : SetLike ps rs) : Told (InS ps) rs := ⟨h.ris, h.same⟩
theorem Told.cong {pr pr' : Int → Prop} {rs : List (Int × Int)} (h : Told pr rs) (e : ∀ n, pr n ↔ pr' n) : Told pr' rs := ⟨h.ris, fun n => (h.same n).trans (e n)⟩
theorem Told.nneg {pr : Int → Prop} {rs : List (Int × Int)} (h : Told pr rs) (hn : ∀ n, pr n → 0 ≤ n) : Ris 0 rs := by
  obtain ⟨lo, r⟩ := h.ris
  cases rs with
  | nil => exact True.intro
  | cons p q => exact ⟨hn _ ((h.same _).mp (inS_cons.mpr (.inl ⟨Int.le_refl _, r.2.1⟩))), r.2⟩

theorem cut_back (xs : List V) (m : Nat) : cutV xs (some (m : Int)) none = xs.drop m := by
  unfold cutV
  rw [HT.sIx_none, HT.sIx_nat]
  by_cases h : m ≤ xs.length
  · rw [Nat.min_eq_left h]
    exact List.take_of_length_le (by rw [List.length_drop]; exact Nat.le_refl _)
  · rw [Nat.min_eq_right (by omega), Nat.sub_self, List.take_zero, List.drop_eq_nil_of_le (by omega)]
theorem _root_.GP.Prs.append {H : Hp} {us ws : List V} {ps qs : List (Int × Int)} (h : Prs H us ps) (h' : Prs H ws qs) : Prs H (us ++ ws) (ps ++ qs) := by
  refine ⟨by rw [List.length_append, List.length_append, h.1, h'.1], fun i p e => ?_⟩
  by_cases hi : i < ps.length
  · rw [List.getElem?_append_left hi] at e
    rw [List.getElem?_append_left (by rw [h.1]; exact hi)]
    exact h.2 i p e
  · rw [List.getElem?_append_right (by omega)] at e
    rw [List.getElem?_append_right (by rw [h.1]; omega), h.1]
    exact h'.2 _ p e
theorem _root_.GP.Prs.take {H : Hp} {us : List V} {ps : List (Int × Int)} (h : Prs H us ps) (n : Nat) : Prs H (us.take n) (ps.take n) := by
  refine ⟨by rw [List.length_take, List.length_take, h.1], fun i p e => ?_⟩
  rw [List.getElem?_take] at e ⊢
  split at e
  · rename_i hi
    rw [if_pos hi]
    exact h.2 i p e
  · cases e
theorem _root_.GP.Prs.drop {H : Hp} {us : List V} {ps : List (Int × Int)} (h : Prs H us ps) (n : Nat) : Prs H (us.drop n) (ps.drop n) := by
  refine ⟨by rw [List.length_drop, List.length_drop, h.1], fun i p e => ?_⟩
  rw [List.getElem?_drop] at e ⊢
  exact h.2 _ p e
theorem _root_.GP.Prs.reverse {H : Hp} {us : List V} {ps : List (Int × Int)} (h : Prs H us ps) : Prs H us.reverse ps.reverse := by
  refine ⟨by rw [List.length_reverse, List.length_reverse, h.1], fun i p e => ?_⟩
  have hi : i < ps.length := by
    have z := (List.getElem?_eq_some_iff.mp e).1
    rwa [List.length_reverse] at z
  rw [List.getElem?_reverse hi] at e
  rw [List.getElem?_reverse (by rw [h.1]; exact hi), h.1]
  exact h.2 _ p e

/-! ### is_in, less_in: elements that capture a number -/
section
variable {X : Cx} {s₁ : Shared} {H₁ : Hp} {σ : L2.St} {pins : List (Addr × Obj)} {P : Addr} {sc : Scope} {xa xb y : Str} {i : Nat} {n : Int}
/-- where the expression runs, the captured name is loaded -/
theorem load_cap {L : Addr} {code : Value} {A' : Around} {E' : Value → Shared → Prop} {s₂ : Shared} {p : Pos} {Q : Value → Shared → Prop} (I : Inv X pins σ H₁ s₁) (g : GxR.TabG H₁ P) (hN : X.N[i]? = some y) (hk : X.env.scope.names.lookup y = some .cell) (hv : σ[i]? = some (some (.int n)))
    (hfree : ∀ z ∈ sc.names, z.2 = NameKind.free → ∃ c, X.env.cells.lookup z.1 = some c) (hy : (y, NameKind.free) ∈ sc.names) (ly : sc.names.lookup y = some .free) (kf : sc.kind = .function) (kept : ∀ x o, x ≠ P → s₁.heap.get? x = some o → s₂.heap.get? x = some o)
    (n1 : (y == ("__debug__" : Str)) = false) (n2 : (y == ("__classdict__" : Str)) = false) (fin : ∀ t, Q (.int n t) s₂) :
    wpAny (model X.prog X.w) A' (eval (.Name y p) (genEnv sc (cloFrom X.env.cells sc.names []) L code builtinsNs X.env)) Q E' s₂ := by
  obtain ⟨c, t, e, ⟨o, ho, hd⟩, hc⟩ := captured I hN hk hv g
  exact wpAny_Name (wpAny_loadName_free kf (show sc.names.lookup y = some .free from ly) (NdefX.clo_has hfree hy e) ⟨o, kept c o hc ho, hd⟩ (fin t) n2) n1
theorem load_own {L : Addr} {code : Value} {A' : Around} {E' : Value → Shared → Prop} {s₂ : Shared} {m : Str → Option Value} {x : Str} {p : Pos} {v : Value} {cl : List (Str × Addr)} {Q : Value → Shared → Prop} (kf : sc.kind = .function) (lx : sc.names.lookup x = some .local) (ns : s₂.heap.Ns L m) (e : m x = some v)
    (n1 : (x == ("__debug__" : Str)) = false) (fin : Q v s₂) : wpAny (model X.prog X.w) A' (eval (.Name x p) (genEnv sc cl L code builtinsNs X.env)) Q E' s₂ :=
  wpAny_Name (wpAny_loadName_local kf (show sc.names.lookup x = some .local from lx) ns e fin) n1
theorem elt_in {p1 p2 p3 p4 : Pos} (I : Inv X pins σ H₁ s₁) (g : GxR.TabG H₁ P) (hN : X.N[i]? = some y) (hk : X.env.scope.names.lookup y = some .cell) (hv : σ[i]? = some (some (.int n))) (hfree : ∀ z ∈ sc.names, z.2 = NameKind.free → ∃ c, X.env.cells.lookup z.1 = some c)
    (kf : sc.kind = .function) (la : sc.names.lookup xa = some .local) (lb : sc.names.lookup xb = some .local) (ly : sc.names.lookup y = some .free) (hy : (y, NameKind.free) ∈ sc.names)
    (n1 : (xa == ("__debug__" : Str)) = false := by decide) (n2 : (xb == ("__debug__" : Str)) = false := by decide) (n3 : (y == ("__debug__" : Str)) = false := by decide) (n4 : (y == ("__classdict__" : Str)) = false := by decide) :
    EltAt X s₁ P sc xa xb (.Compare (.Name xa p1) [.LtE, .LtE] [.Name y p2, .Name xb p3] p4) (fun a b v => v = .bool (inB n a b)) := by
  intro L code A' E' a b ta tb s₂ m calm kept ns ea eb
  refine Compare_chain (load_own kf la ns ea n1 (chain_link (load_cap I g hN hk hv hfree hy ly kf kept n3 n4 fun t => PyProof.Rows.le_int (wpAny_truthy_bool ?_))))
  unfold inB
  by_cases h : a ≤ n
  · rw [decide_eq_true h, if_pos rfl]
    refine chain_last (load_own kf lb ns eb n2 (PyProof.Rows.le_int ⟨?_, _, _, rfl, fun _ _ e => e⟩))
    show Value.bool _ = Value.bool (decide (a ≤ n) && decide (n ≤ b))
    rw [decide_eq_true h, Bool.true_and]
  · rw [decide_eq_false h, if_neg (by decide)]
    refine ⟨?_, _, _, rfl, fun _ _ e => e⟩
    show Value.bool _ = Value.bool (decide (a ≤ n) && decide (n ≤ b))
    rw [decide_eq_false h, Bool.false_and]
/-- a built-in called with two arguments -/
theorem call2 {M : Model} {A' : Around} {E' : Value → Shared → Prop} {s : Shared} {env : Env} {id : String} {e1 e2 : Expr} {pos : Pos} {Q : Value → Shared → Prop} (one : starEach [e1, e2] env = [(false, eval e1 env), (false, eval e2 env)]) (one' : starEach [e2] env = [(false, eval e2 env)])
    (h : wpAny M A' (eval e1 env) (fun v s1 => wpAny M A' (eval e2 env) (fun u s2 => wpAny M A' (call (.builtin id) [v, u]) Q E' s2) E' s1) E' s) : wpAny M A' (callWith pos (.builtin id) [] (backTo pos (starEach [e1, e2] env)) []) Q E' s := by
  refine callWith_builtin1 ?_ (by rw [one, one']) (by rw [one']; rfl)
  rw [one]
  exact Calls.spliced_cons (wpAny_mono h (fun v s1 h1 => Calls.spliced_cons (wpAny_mono h1 (fun u s2 h2 => Calls.spliced_nil h2) fun _ _ e => e)) fun _ _ e => e)
def lessI (n a b : Int) : Int := if (if n < b + 1 then n else b + 1) - a > 0 then (if n < b + 1 then n else b + 1) - a else 0
theorem elt_less {p1 p2 p3 p4 p5 p6 p7 p8 p9 q1 q2 : Pos} {j j' : Nat} (gP : mainGlobals ≠ P) (mx : X.mg "max" = none) (mn : X.mg "min" = none) (I : Inv X pins σ H₁ s₁) (g : GxR.TabG H₁ P) (hN : X.N[i]? = some y) (hk : X.env.scope.names.lookup y = some .cell) (hv : σ[i]? = some (some (.int n))) (hfree : ∀ z ∈ sc.names, z.2 = NameKind.free → ∃ c, X.env.cells.lookup z.1 = some c)
    (kf : sc.kind = .function) (la : sc.names.lookup xa = some .local) (lb : sc.names.lookup xb = some .local) (ly : sc.names.lookup y = some .free) (hy : (y, NameKind.free) ∈ sc.names) (lm : sc.names.lookup ("max" : Str) = some NameKind.globalImplicit) (ln : sc.names.lookup ("min" : Str) = some NameKind.globalImplicit)
    (n1 : (xa == ("__debug__" : Str)) = false := by decide) (n2 : (xb == ("__debug__" : Str)) = false := by decide) (n3 : (y == ("__debug__" : Str)) = false := by decide) (n4 : (y == ("__classdict__" : Str)) = false := by decide) :
    EltAt X s₁ P sc xa xb (.Call (.Name "max" p1) [.Constant (.int 0) j p2, .BinOp (.Call (.Name "min" p3) [.BinOp (.Name xb p4) .Add (.Constant (.int 1) j' p5) p6, .Name y p7] [] p8) .Sub (.Name xa p9) q1] [] q2) (fun a b v => ∃ t, v = .int (lessI n a b) t) := by
  intro L code A' E' a b ta tb s₂ m calm kept ns ea eb
  have blt : ∀ (s' : Shared) (x : Str) (id : String) (p : Pos) (Q : Value → Shared → Prop), Keeps s₂ s' → X.mg x = none → bootBuiltins x = some (.builtin id) → x ≠ "__name__" → (x == ("__debug__" : Str)) = false → sc.names.lookup x = some .globalImplicit → Q (.builtin id) s' →
      wpAny (model X.prog X.w) A' (eval (.Name x p) (genEnv sc (cloFrom X.env.cells sc.names []) L code builtinsNs X.env)) Q E' s' := by
    intro s' x id p Q ks hm hb nn nd lx q
    obtain ⟨h', tk, rfl, all⟩ := ks
    obtain ⟨hg, mb, h1, h2⟩ := names_in (s₂ := { s₂ with heap := h', toks := tk }) I g gP fun x o hx e => all x o (kept x o hx e)
    exact Calls.Name_function_global kf (show sc.names.lookup x = some .globalImplicit from lx) (Calls.loadGlobal_builtin (by show Heap.Ns _ X.env.globals X.mg; rw [I.ok.glob]; exact hg) hm h1 ((h2 x nn).trans hb) q) nd
  have refl : Keeps s₂ s₂ := ⟨_, _, rfl, fun _ _ e => e⟩
  refine wpAny_Call_Name_kw (blt s₂ "max" "max" p1 _ refl mx (by decide +kernel) (by decide) (by decide) lm (call2 rfl rfl ?_))
  refine wpAny_Constant_int (wpAny_BinOp (wpAny_Call_Name_kw (blt _ "min" "min" p3 _ ⟨_, _, rfl, fun _ _ e => e⟩ mn (by decide +kernel) (by decide) (by decide) ln (call2 rfl rfl ?_))))
  refine wpAny_BinOp (load_own kf lb ns eb n2 (wpAny_Constant_int (PyProof.Rows.add_int ?_)))
  refine load_cap I g hN hk hv hfree hy ly kf kept n3 n4 fun t => ?_
  refine min_two_ints calm fun h1 tk1 k1 => ?_
  have ns1 : h1.Ns L m := ns.keeps k1
  obtain ⟨tm, em⟩ : ∃ tm, (if n < b + 1 then Value.int n t else Value.int (b + 1) (s₂.toks + 1 + 1)) = .int (if n < b + 1 then n else b + 1) tm := by
    by_cases h : n < b + 1
    · exact ⟨t, by rw [if_pos h, if_pos h]⟩
    · exact ⟨_, by rw [if_neg h, if_neg h]⟩
  rw [em]
  refine load_own kf la ns1 ea n1 (PyProof.Rows.sub_int ?_)
  refine max_two_ints calm fun h2 tk2 k2 => ?_
  refine ⟨?_, h2, tk2, rfl, fun x o e => k2 x o (k1 x o e)⟩
  unfold lessI
  by_cases h : (if n < b + 1 then n else b + 1) - a > 0
  · exact ⟨_, by rw [if_pos h, if_pos h]⟩
  · exact ⟨_, by rw [if_neg h, if_neg h]⟩
end

theorem a_free {sc : Scope} {env : Env} {y : Str} {c : Addr} (h : ∀ z ∈ sc.names, z.2 = NameKind.free → z.1 = y) (e : env.cells.lookup y = some c) : ∀ z ∈ sc.names, z.2 = NameKind.free → ∃ c, env.cells.lookup z.1 = some c := fun z hz hf => ⟨c, by rw [h z hz hf]; exact e⟩
abbrev sIsIn : Stmt := topS 8
abbrev sLessIn : Stmt := topS 9
theorem scIsIn : FnScope ["some", "number"] ["some", "number"] (defScope sIsIn) := ⟨rfl, rfl, rfl, by decide +kernel, rfl, by decide +kernel, by decide +kernel⟩
theorem scLessIn : FnScope ["some", "number"] ["some", "number"] (defScope sLessIn) := ⟨rfl, rfl, rfl, by decide +kernel, rfl, by decide +kernel, by decide +kernel⟩
def spIsIn (K : PySem.W.Frag) (Pt : Addr) : Sp := fun vs H Q _ => ∃ (l : Addr) (us : List V) (ps : List (Int × Int)) (n : Int), vs = [.ref l, .int n] ∧ Sq K H l us ∧ Prs H us ps ∧ GxR.TabG H Pt ∧ ∀ H2, GxR.Tabbed Pt H H2 → Q (.bl (anyP (inB n) ps)) H2
def spLessIn (K : PySem.W.Frag) (Pt : Addr) : Sp := fun vs H Q _ => ∃ (l : Addr) (us : List V) (ps : List (Int × Int)) (n : Int), vs = [.ref l, .int n] ∧ Sq K H l us ∧ Prs H us ps ∧ GxR.TabG H Pt ∧ ∀ H2, GxR.Tabbed Pt H H2 → Q (.int (sumP (lessI n) ps)) H2
section
variable {K : PySem.W.Frag} {mg : Str → Option Value} {P : Program} {w : World} {base : Heap}
theorem ok_isin {f : Addr} {k : Nat} {c Pt : Addr} {oc kV doc pm ct : Value} {od an : Option Addr} {osl : Array (Option Value)}
    (lk : K.lookup f = some ⟨oc, od, .func (PySem.W.fnOf "is_in" "is_in" (defArgs sIsIn) (defBody sIsIn) (defScope sIsIn) .none kV doc pm an (.ref c) ct), osl⟩) (hcd : PySem.W.codeIn K (.ref c) "is_in" = true)
    (TB : GxR.TabB base mg c Pt) (ma : mg "any" = none) :
    FnOk P w K mg base CX0 (k + 1) f (PySem.W.fnOf "is_in" "is_in" (defArgs sIsIn) (defBody sIsIn) (defScope sIsIn) .none kV doc pm an (.ref c) ct) ["some", "number"] (spIsIn K Pt) := by
  refine fn_of lk hcd scIsIn (fun vs H Q E h => ?_) (fun A outer s H vs Q E hr h => ?_)
  · obtain ⟨l, us, ps, n, rfl, _⟩ := h
    rfl
  · obtain ⟨l, us, ps, n, rfl, hl, hp, ht, q⟩ := h
    refine ⟨_, PSs.nox (pss_one (ps_ret (pe_over (Cap := fun σ (n : Int) => σ[1]? = some (some (.int n))) (fun n => takes_any (inB n)) hr (by rfl) ma (by decide +kernel) TB rfl ⟨⟨rfl, rfl, by decide +kernel⟩, ⟨by decide +kernel, by decide +kernel, by decide +kernel⟩, by decide +kernel, a_free (y := "number") (c := _) (by decide +kernel) rfl⟩ (pv 0)
      (fun pins σ s₁ H₁ n I g hv => elt_in (i := 1) I g rfl rfl hv (a_free (y := "number") (c := _) (by decide +kernel) rfl) rfl (by decide +kernel) (by decide +kernel) (by decide +kernel) (by decide +kernel)) (fun _ => rfl)))), ?_⟩
    exact ⟨n, rfl, .ref l, rfl, l, us, ps, rfl, hl, hp, ht, q⟩
theorem ok_lessin {f : Addr} {k : Nat} {c Pt : Addr} {oc kV doc pm ct : Value} {od an : Option Addr} {osl : Array (Option Value)}
    (lk : K.lookup f = some ⟨oc, od, .func (PySem.W.fnOf "less_in" "less_in" (defArgs sLessIn) (defBody sLessIn) (defScope sLessIn) .none kV doc pm an (.ref c) ct), osl⟩) (hcd : PySem.W.codeIn K (.ref c) "less_in" = true)
    (TB : GxR.TabB base mg c Pt) (ms : mg "sum" = none) (mx : mg "max" = none) (mn : mg "min" = none) :
    FnOk P w K mg base CX0 (k + 1) f (PySem.W.fnOf "less_in" "less_in" (defArgs sLessIn) (defBody sLessIn) (defScope sLessIn) .none kV doc pm an (.ref c) ct) ["some", "number"] (spLessIn K Pt) := by
  refine fn_of lk hcd scLessIn (fun vs H Q E h => ?_) (fun A outer s H vs Q E hr h => ?_)
  · obtain ⟨l, us, ps, n, rfl, _⟩ := h
    rfl
  · obtain ⟨l, us, ps, n, rfl, hl, hp, ht, q⟩ := h
    refine ⟨_, PSs.nox (pss_one (ps_ret (pe_over (Cap := fun σ (n : Int) => σ[1]? = some (some (.int n))) (fun n => takes_sum (lessI n)) hr (by rfl) ms (by decide +kernel) TB rfl ⟨⟨rfl, rfl, by decide +kernel⟩, ⟨by decide +kernel, by decide +kernel, by decide +kernel⟩, by decide +kernel, a_free (y := "number") (c := _) (by decide +kernel) rfl⟩ (pv 0)
      (fun pins σ s₁ H₁ n I g hv => elt_less (i := 1) TB.gP mx mn I g rfl rfl hv (a_free (y := "number") (c := _) (by decide +kernel) rfl) rfl (by decide +kernel) (by decide +kernel) (by decide +kernel) (by decide +kernel) (by decide +kernel) (by decide +kernel)) (fun _ => rfl)))), ?_⟩
    exact ⟨n, rfl, .ref l, rfl, l, us, ps, rfl, hl, hp, ht, q⟩
end

/-- how many of a stretch are less, as the law has it -/
def lessO (n a b : Int) : Int := if a < n then (if n - 1 < b then n - 1 else b) + 1 - a else 0
theorem less_eq {n a b : Int} (h : a ≤ b) : lessI n a b = lessO n a b := by
  unfold lessI lessO
  by_cases h1 : a < n
  · rw [if_pos h1]
    by_cases h2 : n < b + 1
    · rw [if_pos h2, if_pos (by omega)]
      by_cases h3 : n - 1 < b
      · rw [if_pos h3]; omega
      · rw [if_neg h3]; omega
    · rw [if_neg h2, if_pos (by omega), if_neg (by omega)]
  · rw [if_neg h1]
    by_cases h2 : n < b + 1
    · rw [if_pos h2, if_neg (by omega)]
    · omega
theorem sumP_congr {g g' : Int → Int → Int} : ∀ {ps : List (Int × Int)}, (∀ p ∈ ps, g p.1 p.2 = g' p.1 p.2) → sumP g ps = sumP g' ps := fun {ps} h => by
  unfold sumP
  rw [List.map_congr_left fun p hp => h p hp]
theorem sumP_cons (g : Int → Int → Int) (p : Int × Int) (r : List (Int × Int)) : sumP g (p :: r) = g p.1 p.2 + sumP g r := by
  unfold sumP
  rw [List.map_cons, List.sum_cons]  -- one stretch, then the rest
/-- a number more is less behind each number of the set, and no other -/
theorem less_step (n : Int) : ∀ {lo : Int} {ps : List (Int × Int)}, Ris lo ps → sumP (lessI (n + 1)) ps = sumP (lessI n) ps + (if anyP (inB n) ps then 1 else 0)
  | _, [], _ => rfl
  | lo, p :: r, h => by
    rw [sumP_cons, sumP_cons, less_step n h.2.2, less_eq h.2.1, less_eq h.2.1]
    have hlr : ∀ q ∈ r, p.2 + 2 ≤ q.1 ∧ q.1 ≤ q.2 := Ris.le h.2.2
    have e : anyP (inB n) (p :: r) = (inB n p.1 p.2 || anyP (inB n) r) := rfl
    rw [e]
    by_cases hin : p.1 ≤ n ∧ n ≤ p.2
    · have e1 : inB n p.1 p.2 = true := by unfold inB; rw [decide_eq_true hin.1, decide_eq_true hin.2]; rfl
      have e2 : anyP (inB n) r = false := by
        unfold anyP
        rw [List.any_eq_false]
        intro q hq
        unfold inB
        have := hlr q hq
        rw [decide_eq_false (show ¬ q.1 ≤ n by omega), Bool.false_and]
        exact Bool.false_ne_true
      rw [e1, e2]
      have up : lessO (n + 1) p.1 p.2 = n + 1 - p.1 := by
        unfold lessO
        rw [if_pos (by omega)]
        by_cases h2 : n + 1 - 1 < p.2
        · rw [if_pos h2]; omega
        · rw [if_neg h2]; omega
      have dn : lessO n p.1 p.2 = n - p.1 := by
        unfold lessO
        by_cases h1 : p.1 < n
        · rw [if_pos h1, if_pos (by omega)]; omega
        · rw [if_neg h1]; omega
      rw [up, dn]
      simp only [Bool.true_or, if_true, Bool.false_eq_true, if_false]
      omega
    · have e1 : inB n p.1 p.2 = false := by
        unfold inB
        by_cases h1 : p.1 ≤ n
        · rw [decide_eq_false (show ¬ n ≤ p.2 from fun z => hin ⟨h1, z⟩), Bool.and_false]
        · rw [decide_eq_false h1, Bool.false_and]
      have e3 : lessO (n + 1) p.1 p.2 = lessO n p.1 p.2 := by
        unfold lessO
        have := h.2.1
        by_cases h1 : p.1 < n
        · have : p.2 < n := by omega
          rw [if_pos h1, if_pos (by omega), if_neg (by omega), if_neg (by omega)]
        · rw [if_neg h1, if_neg (by omega)]
      rw [e1, Bool.false_or, e3]
      omega

abbrev sCount : Stmt := topS 6
theorem scCount : FnScope ["some"] ["some"] (defScope sCount) := ⟨rfl, rfl, rfl, by decide +kernel, rfl, by decide +kernel, by decide +kernel⟩
theorem elt_cnt {X : Cx} {s₁ : Shared} {P : Addr} {scope : Scope} {xa xb : Str} {j : Nat} {p1 p2 p3 p4 p5 : Pos} (hk : scope.kind = .function) (la : scope.names.lookup xa = some .local) (lb : scope.names.lookup xb = some .local)
    (hda : (xa == ("__debug__" : Str)) = false := by decide) (hdb : (xb == ("__debug__" : Str)) = false := by decide) :
    EltAt X s₁ P scope xa xb (.BinOp (.BinOp (.Name xb p1) .Sub (.Name xa p2) p3) .Add (.Constant (.int 1) j p4) p5) (fun a b y => ∃ t, y = .int (b - a + 1) t) := by
  intro L code A' E' a b ta tb s₂ m₂ _ hkp hn hma hmb
  refine wpAny_BinOp (wpAny_BinOp (wpAny_Name (wpAny_loadName_local hk (show scope.names.lookup xb = some .local from lb) hn hmb ?_) hdb))
  refine wpAny_Name (wpAny_loadName_local hk (show scope.names.lookup xa = some .local from la) hn hma ?_) hda
  refine PyProof.Rows.sub_int ?_
  refine wpAny_Constant_int ?_
  exact PyProof.Rows.add_int ⟨⟨_, rfl⟩, ⟨_, _, rfl, fun _ _ e => e⟩⟩
theorem no_free {scope : Scope} {env : Env} (h : ∀ y ∈ scope.names, y.2 ≠ NameKind.free) : ∀ y ∈ scope.names, y.2 = .free → ∃ c, env.cells.lookup y.1 = some c := fun y hy hf => absurd hf (h y hy)
def cnt (a b : Int) : Int := b - a + 1
def spCount (K : PySem.W.Frag) (Pt : Addr) : Sp := fun vs H Q _ => ∃ (l : Addr) (us : List V) (ps : List (Int × Int)), vs = [.ref l] ∧ Sq K H l us ∧ Prs H us ps ∧ GxR.TabG H Pt ∧ ∀ H2, GxR.Tabbed Pt H H2 → Q (.int (sumP cnt ps)) H2
section
variable {K : PySem.W.Frag} {mg : Str → Option Value} {P : Program} {w : World} {base : Heap}
theorem ok_count {f : Addr} {k : Nat} {c Pt : Addr} {oc kV doc pm ct : Value} {od an : Option Addr} {osl : Array (Option Value)}
    (lk : K.lookup f = some ⟨oc, od, .func (PySem.W.fnOf "count_of" "count_of" (defArgs sCount) (defBody sCount) (defScope sCount) .none kV doc pm an (.ref c) ct), osl⟩) (hcd : PySem.W.codeIn K (.ref c) "count_of" = true)
    (TB : GxR.TabB base mg c Pt) (ms : mg "sum" = none) :
    FnOk P w K mg base CX0 (k + 1) f (PySem.W.fnOf "count_of" "count_of" (defArgs sCount) (defBody sCount) (defScope sCount) .none kV doc pm an (.ref c) ct) ["some"] (spCount K Pt) := by
  refine fn_of lk hcd scCount (fun vs H Q E h => ?_) (fun A outer s H vs Q E hr h => ?_)
  · obtain ⟨l, us, ps, rfl, _⟩ := h
    rfl
  · obtain ⟨l, us, ps, rfl, hl, hp, ht, q⟩ := h
    refine ⟨_, PSs.nox (pss_one (ps_ret (pe_over (Cap := fun _ (_ : Unit) => True) (fun _ => takes_sum cnt) hr (by rfl) ms (by decide +kernel) TB rfl ⟨⟨rfl, rfl, by decide +kernel⟩, ⟨by decide +kernel, by decide +kernel, by decide +kernel⟩, by decide +kernel, no_free (by decide +kernel)⟩ (pv 0) (fun pins σ s₁ H₁ _ I _ _ => elt_cnt rfl (by decide +kernel) (by decide +kernel)) (fun _ => rfl)))), ?_⟩
    exact ⟨(), trivial, .ref l, rfl, l, us, ps, rfl, hl, hp, ht, q⟩
end

/-- the program's -/
def nthP : Int → List (Int × Int) → Option Int
  | _, [] => none
  | a, p :: r => if a ≤ p.2 - p.1 then some (p.1 + a) else nthP (a - (p.2 - p.1 + 1)) r
def oV : Option Int → V
  | none => .non
  | some i => .int i

abbrev sNthOf : Stmt := topS 7
theorem scNthOf : FnScope ["some", "n", "ahead", "first", "last"] ["some", "n"] (defScope sNthOf) := ⟨rfl, rfl, rfl, by decide +kernel, rfl, by decide +kernel, by decide +kernel⟩
def spNthOf (K : PySem.W.Frag) : Sp := fun vs H Q _ => ∃ (l : Addr) (us : List V) (ps : List (Int × Int)) (n : Int), vs = [.ref l, .int n] ∧ Sq K H l us ∧ Prs H us ps ∧ Q (oV (nthP n ps)) H
section
variable {K : PySem.W.Frag} {mg : Str → Option Value} {P : Program} {w : World} {base : Heap}
theorem ok_nthof {f : Addr} {fd : FuncData} {k : Nat} (F : Fun K "nth_of" "nth_of" sNthOf f fd) : FnOk P w K mg base CX0 (k + 1) f fd ["some", "n"] (spNthOf K) := by
  refine F.ok scNthOf (fun vs H Q E h => ?_) (fun cdv A outer s H vs Q E hr h => ?_)
  · obtain ⟨l, us, ps, n, rfl, _⟩ := h
    rfl
  · obtain ⟨l, us, ps, n, rfl, hl, hp, q⟩ := h
    refine ⟨_, pss_cons (ps_set (i := 2) scNthOf.nd rfl (.inl rfl) (pv 1))
      (pss_cons (ps_for PassesOwn.never rfl (pi_seq (pv 0)) (pg_tup rfl (pgs_cons (pg_name (i := 3) scNthOf.nd rfl (.inl rfl)) (pgs_cons (pg_name (i := 4) scNthOf.nd rfl (.inl rfl)) pgs_nil)))
        (pss_cons (ps_if (pt_cmpR op_le (pv 2) (pe_op op_sub (pv 4) (pv 3)) (nomark _)) (pss_one (ps_ret (pe_op op_add (pv 3) (pv 2)))) pss_nil)
        (pss_one (ps_aug (i := 2) scNthOf.nd rfl (.inl rfl) (pe_op op_add (pe_op op_sub (pv 4) (pv 3)) pe_int) ip_sub))))
      (pss_one (ps_ret pe_non))), ?_⟩
    refine ⟨_, rfl, .ref l, rfl, l, rfl, for_seq (xs := us) hl (fun i σ H1 => ∃ (a : Int) (y3 y4 : Option V), σ = [some (.ref l), some (.int n), some (.int a), y3, y4] ∧ H1 = H ∧ Q (oV (nthP a (ps.drop i))) H) ⟨n, none, none, rfl, rfl, q⟩
      (fun i σ H1 _ hP => ?_) (fun i x σ H1 hx hP => ?_) (fun σ H1 hP => ?_)⟩
    · obtain ⟨a, y3, y4, rfl, rfl, _⟩ := hP
      exact SqTo.refl
    · obtain ⟨a, y3, y4, rfl, rfl, q⟩ := hP
      obtain ⟨p, T, ep, rfl, eT⟩ := prs_at hp hx
      rw [drop_at ep] at q
      refine ⟨T, _, rfl, .inl (.inl eT), rfl, _, _, rfl, _, _, rfl, rfl, ?_⟩
      refine ⟨_, rfl, _, rfl, _, rfl, p.2, p.1, rfl, rfl, a, _, rfl, rfl, _, rfl, ite2 (fun e => ?_) (fun e => ?_)⟩
      · have e' := of_decide_eq_true e
        refine ⟨_, rfl, _, rfl, p.1, a, rfl, rfl, ?_⟩
        unfold nthP at q
        rw [if_pos e'] at q
        exact q
      · have e' : ¬ (a ≤ p.2 - p.1) := fun z => e (decide_eq_true z)
        refine ⟨_, rfl, _, rfl, _, rfl, p.2, p.1, rfl, rfl, _, _, rfl, rfl, a, _, rfl, rfl, _, _, _, rfl, rfl, ?_⟩
        unfold nthP at q
        rw [if_neg e'] at q
        exact q
    · obtain ⟨a, y3, y4, rfl, rfl, q⟩ := hP
      rw [hp.1, List.drop_length] at q
      exact q
end

/-! ### counts and places: the mathematics -/
theorem anyP_inS {n : Int} {ps : List (Int × Int)} : anyP (inB n) ps = true ↔ InS ps n := anyP_iff
theorem less_low {n : Int} : ∀ {ps : List (Int × Int)}, (∀ p ∈ ps, n ≤ p.1) → sumP (lessI n) ps = 0
  | [], _ => rfl
  | p :: r, h => by
    rw [sumP_cons, less_low fun q hq => h q (List.mem_cons_of_mem _ hq)]
    have h1 := h p (List.mem_cons_self ..)
    have : lessI n p.1 p.2 = 0 := by
      unfold lessI
      rw [if_neg]
      split <;> omega
    rw [this]
    rfl
theorem less_high {n : Int} : ∀ {ps : List (Int × Int)}, (∀ p ∈ ps, p.1 ≤ p.2 ∧ p.2 < n) → sumP (lessI n) ps = sumP cnt ps
  | [], _ => rfl
  | p :: r, h => by
    rw [sumP_cons, sumP_cons, less_high fun q hq => h q (List.mem_cons_of_mem _ hq)]
    have h1 := h p (List.mem_cons_self ..)
    have : lessI n p.1 p.2 = cnt p.1 p.2 := by
      unfold lessI cnt
      rw [if_pos]
      · split <;> omega
      · split <;> omega
    rw [this]
theorem less_pos {n : Int} : ∀ (ps : List (Int × Int)), 0 ≤ sumP (lessI n) ps
  | [] => Int.le_refl _
  | p :: r => by
    rw [sumP_cons]
    have := less_pos (n := n) r
    have : 0 ≤ lessI n p.1 p.2 := by unfold lessI; split <;> omega
    omega
theorem cnt_pos : ∀ {lo : Int} {ps : List (Int × Int)}, Ris lo ps → 0 ≤ sumP cnt ps
  | _, [], _ => Int.le_refl _
  | _, p :: r, h => by
    rw [sumP_cons]
    have := cnt_pos h.2.2
    have := h.2.1
    have : cnt p.1 p.2 = p.2 - p.1 + 1 := rfl
    omega
theorem low_of (ps : List (Int × Int)) : ∃ lo : Int, ∀ p ∈ ps, lo ≤ p.1 := by
  induction ps with
  | nil => exact ⟨0, fun _ z => nomatch z⟩
  | cons p r ih =>
    obtain ⟨lo, h⟩ := ih
    refine ⟨mnI lo p.1, fun q hq => ?_⟩
    rcases List.mem_cons.mp hq with z | z
    · rw [z]; exact mnI_le.mpr (.inr (Int.le_refl _))
    · exact mnI_le.mpr (.inl (h q z))
theorem high_of (ps : List (Int × Int)) : ∃ hi : Int, ∀ p ∈ ps, p.2 < hi := by
  induction ps with
  | nil => exact ⟨0, fun _ z => nomatch z⟩
  | cons p r ih =>
    obtain ⟨hi, h⟩ := ih
    refine ⟨mxI hi (p.2 + 1), fun q hq => ?_⟩
    have e1 : hi ≤ mxI hi (p.2 + 1) := le_mxI.mpr (.inl (Int.le_refl _))
    have e2 : p.2 + 1 ≤ mxI hi (p.2 + 1) := le_mxI.mpr (.inr (Int.le_refl _))
    rcases List.mem_cons.mp hq with z | z
    · rw [z]; omega
    · have := h q z; omega
/-- what both have together: as many as in either and in both -/
theorem cnt_both {ps qs us bs : List (Int × Int)} {l1 l2 l3 l4 : Int} (h1 : Ris l1 ps) (h2 : Ris l2 qs) (h3 : Ris l3 us) (h4 : Ris l4 bs) (hu : ∀ n, InS us n ↔ InS ps n ∨ InS qs n) (hb : ∀ n, InS bs n ↔ InS ps n ∧ InS qs n) :
    sumP cnt ps + sumP cnt qs = sumP cnt us + sumP cnt bs := by
  obtain ⟨a, ha⟩ := low_of (ps ++ (qs ++ (us ++ bs)))
  obtain ⟨b, hb'⟩ := high_of (ps ++ (qs ++ (us ++ bs)))
  have step : ∀ k : Nat, sumP (lessI (a + k)) ps + sumP (lessI (a + k)) qs = sumP (lessI (a + k)) us + sumP (lessI (a + k)) bs := by
    intro k
    induction k with
    | zero =>
      rw [show a + ((0 : Nat) : Int) = a by simp, less_low fun p hp => ha p (by simp [hp]), less_low fun p hp => ha p (by simp [hp]), less_low fun p hp => ha p (by simp [hp]), less_low fun p hp => ha p (by simp [hp])]
    | succ k ih =>
      rw [show a + ((k + 1 : Nat) : Int) = a + k + 1 by omega, less_step _ h1, less_step _ h2, less_step _ h3, less_step _ h4]
      have e1 := hu (a + k)
      have e2 := hb (a + k)
      rw [← anyP_inS, ← anyP_inS, ← anyP_inS] at e1 e2
      cases x1 : anyP (inB (a + k)) ps <;> cases x2 : anyP (inB (a + k)) qs <;> cases x3 : anyP (inB (a + k)) us <;> cases x4 : anyP (inB (a + k)) bs <;> rw [x1, x2, x3] at e1 <;> rw [x1, x2, x4] at e2 <;> simp at e1 e2 <;> simp <;> omega
  have hab : ∃ k : Nat, b ≤ a + k := ⟨(b - a).toNat, by omega⟩
  obtain ⟨k, hk⟩ := hab
  have s := step k
  rw [less_high fun p hp => ⟨(h1.le p hp).2, Int.lt_of_lt_of_le (hb' p (by simp [hp])) hk⟩, less_high fun p hp => ⟨(h2.le p hp).2, Int.lt_of_lt_of_le (hb' p (by simp [hp])) hk⟩,
    less_high fun p hp => ⟨(h3.le p hp).2, Int.lt_of_lt_of_le (hb' p (by simp [hp])) hk⟩, less_high fun p hp => ⟨(h4.le p hp).2, Int.lt_of_lt_of_le (hb' p (by simp [hp])) hk⟩] at s
  exact s
/-- the number at a place: so many are less -/
theorem nth_some : ∀ {lo k m : Int} {ps : List (Int × Int)}, Ris lo ps → 0 ≤ k → nthP k ps = some m → InS ps m ∧ sumP (lessI m) ps = k
  | _, _, _, [], _, _, e => nomatch e
  | lo, k, m, p :: r, h, hk, e => by
    unfold nthP at e
    rw [inS_cons, sumP_cons]
    have h2 := h.2.1
    by_cases c : k ≤ p.2 - p.1
    · rw [if_pos c] at e
      have em : m = p.1 + k := (Option.some.inj e).symm
      refine ⟨.inl (by omega), ?_⟩
      rw [less_low fun q hq => by have := h.2.2.le q hq; omega]
      unfold lessI
      split
      · split <;> omega
      · split at * <;> omega
    · rw [if_neg c] at e
      obtain ⟨g1, g2⟩ := nth_some h.2.2 (by omega) e
      have := h.2.2.low g1
      refine ⟨.inr g1, ?_⟩
      rw [g2]
      unfold lessI
      split
      · split <;> omega
      · split at * <;> omega
theorem nth_in : ∀ {lo n : Int} {ps : List (Int × Int)}, Ris lo ps → InS ps n → nthP (sumP (lessI n) ps) ps = some n
  | _, _, [], _, e => absurd e inS_nil
  | lo, n, p :: r, h, e => by
    have h2 := h.2.1
    rw [sumP_cons]
    rcases inS_cons.mp e with z | z
    · rw [less_low fun q hq => by have := h.2.2.le q hq; omega]
      have : lessI n p.1 p.2 = n - p.1 := by
        unfold lessI
        split
        · split <;> omega
        · split at * <;> omega
      rw [this]
      unfold nthP
      rw [if_pos (by omega)]
      congr 1
      omega
    · have := h.2.2.low z
      have e1 : lessI n p.1 p.2 = p.2 - p.1 + 1 := by
        unfold lessI
        split
        · split <;> omega
        · split at * <;> omega
      have := less_pos (n := n) r
      unfold nthP
      rw [if_neg (by omega), e1, show p.2 - p.1 + 1 + sumP (lessI n) r - (p.2 - p.1 + 1) = sumP (lessI n) r by omega]
      exact nth_in h.2.2 z
theorem nth_all : ∀ {lo : Int} {ps : List (Int × Int)}, Ris lo ps → nthP (sumP cnt ps) ps = none
  | _, [], _ => rfl
  | _, p :: r, h => by
    have := cnt_pos h.2.2
    have e : cnt p.1 p.2 = p.2 - p.1 + 1 := rfl
    rw [sumP_cons]
    unfold nthP
    rw [if_neg (by omega), show cnt p.1 p.2 + sumP cnt r - (p.2 - p.1 + 1) = sumP cnt r by omega]
    exact nth_all h.2.2

/-! ### set_of -/
abbrev LcR (J : It) (g : TG) (tt : TT) (te : TE) (vs : List Nat) (σ : L2.St) (D : Addr) (Qd : Addr → Hp → Prop) (H1 : Hp) : Prop := ∃ W : Nat → Nat → Hp → Prop, (∃ m, W 0 m (upd H1 D (.lst []))) ∧ ∀ i m H, W i m H →
  (J.stop i H ∧ Qd D H) ∨ (J.go i H ∧ ∃ Nx : Hp → Prop, (∀ H', Nx H' → ∃ m', m' < m ∧ W (i + 1) m' H') ∧ ∀ x H', J.yld i H x H' → g x (wipe σ vs) H' fun σ2 H2 => wipe σ2 vs = wipe σ vs ∧ tt σ2 H2 fun b H3 => if b = true then
    te σ2 H3 fun y H4 => ∃ acc, H4 D = some (.lst acc) ∧ acc.length < sizeLine ∧ Nx (upd H4 D (.lst (acc ++ [y]))) else Nx H3)
theorem lc_seq {K : PySem.W.Frag} {a : Addr} {xs : List V} {g : TG} {tt : TT} {te : TE} {vs : List Nat} {σ : L2.St} {H1 : Hp} {Qd : Addr → Hp → Prop} (hq : Sq K H1 a xs) (Pv : Addr → Nat → Hp → Prop) (h0 : ∀ D, H1 D = none → Pv D 0 (upd H1 D (.lst [])))
    (still : ∀ D i H', H1 D = none → Pv D i H' → SqTo K H1 H' a xs)
    (turn : ∀ D i x H', H1 D = none → xs[i]? = some x → Pv D i H' → g x (wipe σ vs) H' fun σ2 H2 => wipe σ2 vs = wipe σ vs ∧ tt σ2 H2 fun b H3 =>
      if b = true then te σ2 H3 fun y H4 => ∃ acc, H4 D = some (.lst acc) ∧ acc.length < sizeLine ∧ Pv D (i + 1) (upd H4 D (.lst (acc ++ [y]))) else Pv D (i + 1) H3) (fin : ∀ D H', H1 D = none → Pv D xs.length H' → Qd D H') :
    ((∃ xs, SqL K H1 a xs) ∧ ∀ D, H1 D = none → LcR (Itl K a) g tt te vs σ D Qd H1) ∨ ((∃ xs, SqT K H1 a xs) ∧ ∀ D, H1 D = none → LcR (Itt K a) g tt te vs σ D Qd H1) := by
  rcases hq with h | h
  · exact .inl ⟨⟨xs, h⟩, fun D nD => lc_list (xs := xs) (Pv D) (h0 D nD) (fun i H' _ p => (still D i H' nD p).1 h) (fun i x H' e p => turn D i x H' nD e p) (fun H' p => fin D H' nD p)⟩
  · exact .inr ⟨⟨xs, h⟩, fun D nD => lc_tup (xs := xs) (Pv D) (h0 D nD) (fun i H' _ p => (still D i H' nD p).2 h) (fun i x H' e p => turn D i x H' nD e p) (fun H' p => fin D H' nD p)⟩
theorem snoc_cases {α : Type} (l : List α) : l = [] ∨ ∃ l' x, l = l' ++ [x] := by
  rcases List.eq_nil_or_concat l with h | ⟨l', x, h⟩
  · exact .inl h
  · exact .inr ⟨l', x, by rw [h]; simp⟩
theorem _root_.GP.Prs.last {H : Hp} {us : List V} {ps : List (Int × Int)} {p : Int × Int} (h : Prs H us (ps ++ [p])) : ∃ us' T, us = us' ++ [.ref T] ∧ H T = some (.tup [.int p.1, .int p.2]) ∧ Prs H us' ps := by
  have hl := h.1
  rw [List.length_append] at hl
  rcases snoc_cases us with e | ⟨us', x, e⟩
  · rw [e] at hl
    simp at hl
  · subst e
    rw [List.length_append] at hl
    have hl' : us'.length = ps.length := Nat.add_right_cancel hl
    obtain ⟨T, e1, e2⟩ := h.2 ps.length p (by rw [List.getElem?_append_right (Nat.le_refl _), Nat.sub_self]; rfl)
    rw [List.getElem?_append_right (by omega), hl', Nat.sub_self] at e1
    refine ⟨us', T, by rw [Option.some.inj e1], e2, hl', fun i q eq => ?_⟩
    have hi : i < ps.length := (List.getElem?_eq_some_iff.mp eq).1
    obtain ⟨b, f1, f2⟩ := h.2 i q (by rw [List.getElem?_append_left hi]; exact eq)
    rw [List.getElem?_append_left (by omega)] at f1
    exact ⟨b, f1, f2⟩
/-- the pair that a tracked tuple holds -/
def pairOf (H : Hp) : V → Int × Int
  | .ref t => (match H t with
    | some (.tup [.int i, .int j]) => (i, j)
    | _ => (0, 0))
  | _ => (0, 0)
theorem pairOf_at {H : Hp} {t : Addr} {p : Int × Int} (e : H t = some (.tup [.int p.1, .int p.2])) : pairOf H (.ref t) = p := by
  show (match H t with | some (.tup [.int i, .int j]) => (i, j) | _ => (0, 0)) = p
  rw [e]
abbrev sSetOf : Stmt := topS 1
theorem scSetOf : FnScope ["pairs", "merged", "first", "last", "low", "high", "pair"] ["pairs"] (defScope sSetOf) := ⟨rfl, rfl, rfl, by decide +kernel, rfl, by decide +kernel, by decide +kernel⟩
def spSetOf (K : PySem.W.Frag) : Sp := fun vs H Q _ => ∃ (a : Addr) (us : List V) (ps : List (Int × Int)), vs = [.ref a] ∧ Sq K H a us ∧ Prs H us ps ∧ ps.length ≤ 900 ∧
  ∀ (l : Addr) (ws : List V) (rs : List (Int × Int)) H', H l = none → H' l = some (.lst ws) → Prs H' ws rs → SetLike ps rs → Same H H' → Q (.ref l) H'
section
variable {K : PySem.W.Frag} {mg : Str → Option Value} {P : Program} {w : World} {base : Heap}
theorem ok_setof {f : Addr} {fd : FuncData} {k : Nat} (F : Fun K "set_of" "set_of" sSetOf f fd) (mso : mg "sorted" = none) (mx : mg "max" = none) : FnOk P w K mg base CX0 (k + 1) f fd ["pairs"] (spSetOf K) := by
  refine F.ok scSetOf (fun vs H Q E h => ?_) (fun cdv A outer s H vs Q E hr h => ?_)
  · obtain ⟨a, us, ps, rfl, _⟩ := h
    rfl
  · obtain ⟨a, us, ps, rfl, hq, hp, hz, q⟩ := h
    refine ⟨_, pss_cons (ps_set (i := 1) scSetOf.nd rfl (.inl rfl) (pe_lst pa_nil))
      (pss_cons (ps_for PassesOwn.never rfl (pi_list (pe_callB cr_sortedPO (by rfl) mso (by decide +kernel) (pa_cons (pe_lc (own := [("pair", 6)]) (g := gName 6) (tt := tTest (tOp (rI0 fun i j => .bl (decide (i ≤ j))) (tOp (rIxT K) (tVar 6) (tC (.int 0))) (tOp (rIxT K) (tVar 6) (tC (.int 1))))) rfl scSetOf.nd (pi_seq (pv 0))
          (blkOk_by (own := [("pair", 6)]) (N := ["pairs", "merged", "first", "last", "low", "high", "pair"]) (sc := defScope sSetOf) (by decide +kernel))
          (fun _ _ _ _ _ => pg_name (i := 6) scSetOf.nd rfl (.inl rfl)) (fun _ _ _ _ _ => pts_one (pt_cmpR op_le (pe_ix ix_tup (pv 6) pe_int (fun _ _ => rfl)) (pe_ix ix_tup (pv 6) pe_int (fun _ _ => rfl)) (nomark _))) (fun _ _ _ _ _ => pv 6)) pa_nil)))
        (pg_tup rfl (pgs_cons (pg_name (i := 2) scSetOf.nd rfl (.inl rfl)) (pgs_cons (pg_name (i := 3) scSetOf.nd rfl (.inl rfl)) pgs_nil)))
        (pss_one (ps_if (PW.pt (pw_and (pt_truth (pv 1) (by intro _; rfl)) (pw_and1 (pt_cmpR op_le (pv 2) (pe_op op_add (pe_ix ix_tup (pe_ix ix_list (pv 1) (pe_un un_neg pe_int) (fun _ _ => rfl)) pe_int (fun _ _ => rfl)) pe_int) (nomark _)))))
          (pss_cons (ps_asg (pe_ix ix_list (pv 1) (pe_un un_neg pe_int) (fun _ _ => rfl)) (pg_tup rfl (pgs_cons (pg_name (i := 4) scSetOf.nd rfl (.inl rfl)) (pgs_cons (pg_name (i := 5) scSetOf.nd rfl (.inl rfl)) pgs_nil))))
          (pss_one (ps_asg (pe_tup (pa_cons (pv 4) (pa_cons (pe_callB (call_max2 rfl) (by rfl) mx (by decide +kernel) (pa_cons (pv 5) (pa_cons (pv 3) pa_nil))) pa_nil))) (pg_sub (pv 1) (pe_un un_neg pe_int) set_list))))
          (pss_one (ps_expr (pe_bm PySem.F.plainAttrs_list PySem.F.slot_list_append PySem.F.type_list_append mt_append (pv 1) (pa_cons (pe_tup (pa_cons (pv 2) (pa_cons (pv 3) pa_nil))) pa_nil)))))))
      (pss_one (ps_ret (pv 1)))), ?_⟩
    -- merged = []
    refine ⟨Nat.zero_le _, fun mg' nm => ?_⟩
    have s1 := same_upd (o := .lst []) nm
    have em1 : upd H mg' (.lst []) mg' = some (.lst []) := upd_same
    revert s1 em1
    generalize upd H mg' (.lst []) = H1
    intro s1 em1
    -- [pair for pair in pairs if ..]
    refine ⟨.ref a, rfl, a, rfl, lc_seq (xs := us) (hq.same s1) (fun D i H' => Same H1 H' ∧ ∃ ys, H' D = some (.lst ys) ∧ Prs H' ys ((ps.take i).filter fun p => decide (p.1 ≤ p.2)) ∧ ys.length ≤ i) (fun D nD => ⟨same_upd nD, [], upd_same, Prs.nil, Nat.le_refl _⟩)
      (fun D i H' nD hP => SqTo.same hP.1) (fun D i x H' nD hx hP => ?_) (fun D H2 nD hP => ?_)⟩
    · obtain ⟨sm, ys, eD, hys, hyl⟩ := hP
      obtain ⟨p, T, ep, rfl, eT⟩ := prs_at hp hx
      have hi : i < us.length := (List.getElem?_eq_some_iff.mp hx).1
      rw [hp.1] at hi
      have eT' := sm _ _ (s1 _ _ eT)
      refine ⟨rfl, _, rfl, T, _, 0, .int p.1, rfl, rfl, .inl (.inl eT'), atI_nat (j := 0) rfl, _, rfl, T, _, 1, .int p.2, rfl, rfl, .inl (.inl eT'), atI_nat (j := 1) rfl, p.1, p.2, rfl, rfl, _, rfl, ?_⟩
      have etake : (ps.take (i + 1)).filter (fun p => decide (p.1 ≤ p.2)) = (ps.take i).filter (fun p => decide (p.1 ≤ p.2)) ++ (if p.1 ≤ p.2 then [p] else []) := by
        rw [List.take_add_one, ep, List.filter_append]
        by_cases c : p.1 ≤ p.2
        · rw [if_pos c]; simp [c]
        · rw [if_neg c]; simp [c]
      refine ite2 (fun c => ?_) (fun c => ?_)
      · have c' := of_decide_eq_true c
        refine ⟨_, rfl, ys, eD, small1000 (by omega), fun b o e => ?_, _, upd_same, ?_, by rw [List.length_append]; show ys.length + 1 ≤ i + 1; omega⟩
        · rw [upd_ne (ne_of_none e nD)]
          exact sm b o e
        · rw [etake, if_pos c']
          exact (hys.snoc eT').upd_lst eD
      · have c' : ¬ p.1 ≤ p.2 := fun z => c (decide_eq_true z)
        refine ⟨sm, ys, eD, ?_, by omega⟩
        rw [etake, if_neg c', List.append_nil]
        exact hys
    · -- sorted
      obtain ⟨sm, ys, eD, hys, hyl⟩ := hP
      rw [hp.1, List.take_length] at hys
      refine ⟨D, ys, pairOf H2, rfl, SqL.of eD, fun x hx => ?_, fun zs g srt stb ng => ?_⟩
      · obtain ⟨i, hi, e⟩ := List.getElem_of_mem hx
        obtain ⟨p, T, _, rfl, eT⟩ := prs_at hys (by rw [List.getElem?_eq_getElem hi, e])
        exact ⟨T, rfl, by rw [pairOf_at eT]; exact eT⟩
      have sg := same_upd (o := .lst zs) ng
      have eg : upd H2 g (.lst zs) g = some (.lst zs) := upd_same
      have s3 : Same H (upd H2 g (.lst zs)) := (s1.trans sm).trans sg
      have em3 := sg _ _ (sm _ _ em1)
      -- the pairs of zs
      have each : ∀ x ∈ zs, ∃ T, x = .ref T ∧ H2 T = some (.tup [.int (pairOf H2 x).1, .int (pairOf H2 x).2]) := fun x hx => by
        obtain ⟨i, hi, e⟩ := List.getElem_of_mem (stb.perm.mem_iff.mp hx)
        obtain ⟨p, T, _, rfl, eT⟩ := prs_at hys (by rw [List.getElem?_eq_getElem hi, e])
        exact ⟨T, rfl, by rw [pairOf_at eT]; exact eT⟩
      have hzs : Prs H2 zs (zs.map (pairOf H2)) := ⟨by rw [List.length_map], fun i p e => by
        rw [List.getElem?_map] at e
        cases h : zs[i]? with
        | none => rw [h] at e; cases e
        | some x =>
          rw [h] at e
          cases e
          obtain ⟨T, rfl, eT⟩ := each x (List.mem_of_getElem? h)
          exact ⟨T, rfl, eT⟩⟩
      have hmap : ys.map (pairOf H2) = ps.filter fun p => decide (p.1 ≤ p.2) := by
        refine List.ext_getElem? fun i => ?_
        rw [List.getElem?_map]
        cases h : ys[i]? with
        | none =>
          have : (ps.filter fun p => decide (p.1 ≤ p.2))[i]? = none := by
            rw [List.getElem?_eq_none_iff] at h ⊢
            rw [← hys.1]
            exact h
          rw [this]
          rfl
        | some x =>
          obtain ⟨p, T, ep, rfl, eT⟩ := prs_at hys h
          rw [ep]
          show some (pairOf H2 (.ref T)) = some p
          rw [pairOf_at eT]
      have hperm : (zs.map (pairOf H2)).Perm (ps.filter fun p => decide (p.1 ≤ p.2)) := hmap ▸ stb.perm.map (pairOf H2)
      have hle : ∀ p ∈ zs.map (pairOf H2), p.1 ≤ p.2 := fun p hp' => by
        have := hperm.mem_iff.mp hp'
        exact of_decide_eq_true (List.mem_filter.mp this).2
      have hord : (zs.map (pairOf H2)).Pairwise fun x y => x.1 ≤ y.1 := by
        rw [List.pairwise_map]
        refine srt.imp fun {x y} h => ?_
        have := SrtO.lexB_no.mp h
        omega
      have hzl : zs.length ≤ 900 := by
        rw [stb.perm.length_eq, hys.1]
        exact Nat.le_trans (List.length_filter_le _ _) hz
      revert hzs hperm hle hord
      generalize zs.map (pairOf H2) = qs
      intro hzs hperm hle hord
      have hzs3 := hzs.same sg
      revert eg s3 em3 hzs3
      generalize upd H2 g (.lst zs) = H3
      intro eg s3 em3 hzs3
      have ngH : H g = none := (s1.trans sm).free ng
      have nmg : mg' ≠ g := ne_of_none (sm _ _ em1) ng
      -- the merging
      refine ⟨g, rfl, ⟨_, SqL.of eg⟩, for_list (xs := zs) (fun i σ H4 => ∃ (ms : List V) (rs : List (Int × Int)) (y2 y3 y4 y5 y6 : Option V), σ = [some (.ref a), some (.ref mg'), y2, y3, y4, y5, y6] ∧ Same H H4 ∧ H4 g = some (.lst zs) ∧ Prs H4 zs qs ∧ H4 mg' = some (.lst ms) ∧ Prs H4 ms rs ∧ Mrg (qs.take i) rs)
        ⟨[], [], _, _, _, _, _, rfl, s3, eg, hzs3, em3, Prs.nil, Mrg.nil⟩ (fun i σ H4 _ hP => ?_) (fun i x σ H4 hx hP => ?_) (fun σ H4 hP => ?_)⟩
      · obtain ⟨_, _, _, _, _, _, _, rfl, _, e, _⟩ := hP
        exact SqL.of e
      · obtain ⟨ms, rs, y2, y3, y4, y5, y6, rfl, sm4, eg4, hz4, em4, hms, m⟩ := hP
        obtain ⟨p, T, ep, rfl, eT⟩ := prs_at hz4 hx
        have hi : i < qs.length := (List.getElem?_eq_some_iff.mp ep).1
        have hp12 : p.1 ≤ p.2 := hle p (List.mem_of_getElem? ep)
        have ord : ∀ q ∈ qs.take i, q.1 ≤ p.1 := fun q hq' => by
          obtain ⟨j, hj, e⟩ := List.getElem_of_mem hq'
          rw [List.length_take] at hj
          rw [List.getElem_take] at e
          obtain ⟨_, e2⟩ := List.getElem?_eq_some_iff.mp ep
          rw [← e, ← e2]
          exact List.pairwise_iff_getElem.mp hord j i (by omega) hi (by omega)
        have etake : qs.take (i + 1) = qs.take i ++ [p] := by rw [List.take_add_one, ep]; rfl
        have hmsl : ms.length ≤ 900 := by
          have := m.len
          rw [List.length_take] at this
          have := hzs.1
          rw [hms.1]
          omega
        refine ⟨T, _, rfl, .inl (.inl eT), rfl, _, _, rfl, _, _, rfl, rfl, ?_⟩
        -- what a new tuple and a change of merged leave
        have grow : ∀ (T2 : Addr) (p2 : Int × Int) (ms2 : List V) (rs2 : List (Int × Int)), H4 T2 = none → Prs (upd H4 T2 (.tup [.int p2.1, .int p2.2])) ms2 rs2 →
            Same H (upd (upd H4 T2 (.tup [.int p2.1, .int p2.2])) mg' (.lst ms2)) ∧ upd (upd H4 T2 (.tup [.int p2.1, .int p2.2])) mg' (.lst ms2) g = some (.lst zs) ∧ Prs (upd (upd H4 T2 (.tup [.int p2.1, .int p2.2])) mg' (.lst ms2)) zs qs ∧ upd (upd H4 T2 (.tup [.int p2.1, .int p2.2])) mg' (.lst ms2) mg' = some (.lst ms2) ∧ Prs (upd (upd H4 T2 (.tup [.int p2.1, .int p2.2])) mg' (.lst ms2)) ms2 rs2 := by
          intro T2 p2 ms2 rs2 n2 h2
          have st := same_upd (o := .tup [.int p2.1, .int p2.2]) n2
          have em5 := st _ _ em4
          refine ⟨fun b o e => ?_, ?_, (hz4.same st).upd_lst em5, upd_same, h2.upd_lst em5⟩
          · rw [upd_ne (ne_of_none e nm)]
            exact st _ _ (sm4 _ _ e)
          · rw [upd_ne nmg.symm]
            exact st _ _ eg4
        -- append
        have app : (∀ r ∈ rs, r.2 + 2 ≤ p.1) → (tDrop (tBM K "list" rAppend (tVar 1) (tCons (tTup (tCons (tVar 2) (tCons (tVar 3) tNil))) tNil))) { nx := fun σ H4 => ∃ (ms : List V) (rs : List (Int × Int)) (y2 y3 y4 y5 y6 : Option V), σ = [some (.ref a), some (.ref mg'), y2, y3, y4, y5, y6] ∧ Same H H4 ∧ H4 g = some (.lst zs) ∧ Prs H4 zs qs ∧ H4 mg' = some (.lst ms) ∧ Prs H4 ms rs ∧ Mrg (qs.take (i + 1)) rs, rt := fun _ _ => False } [some (.ref a), some (.ref mg'), some (.int p.1), some (.int p.2), y4, y5, y6] H4 := by
          intro far
          refine ⟨.ref mg', rfl, .inl ⟨rfl, _, SqL.of em4⟩, _, rfl, _, rfl, (by show 2 ≤ sizeLine; decide), fun T2 n2 => ?_⟩
          have st := same_upd (o := .tup [.int p.1, .int p.2]) n2
          refine ⟨mg', _, _, rfl, rfl, st _ _ em4, small1000 (by omega), ?_⟩
          obtain ⟨g1, g2, g3, g4, g5⟩ := grow T2 p (ms ++ [.ref T2]) (rs ++ [p]) n2 ((hms.same st).snoc upd_same)
          exact ⟨_, _, _, _, _, _, _, rfl, g1, g2, g3, g4, g5, by rw [etake]; exact m.new hp12 ord far⟩
        rcases snoc_cases rs with e0 | ⟨rs', ⟨lo, hi'⟩, e0⟩
        · have e1 : ms = [] := List.eq_nil_of_length_eq_zero (by rw [hms.1, e0]; rfl)
          have em0 : H4 mg' = some (.lst []) := by rw [em4, e1]
          refine ⟨.ref mg', rfl, false, .inl ⟨[], SqL.of em0, rfl⟩, iteF (iteF ?_)⟩
          exact app (by rw [e0]; exact fun _ z => nomatch z)
        · subst e0
          obtain ⟨ms', T0, rfl, eT0, hms'⟩ := hms.last
          refine ⟨.ref mg', rfl, true, .inl ⟨_, SqL.of em4, by simp⟩, iteT ?_⟩
          refine ⟨_, rfl, .ref mg', rfl, 1, rfl, mg', _, -1, .ref T0, rfl, rfl, SqL.of em4, atI_last _ _, T0, _, 1, .int hi', rfl, rfl, .inl (.inl eT0), atI_nat (j := 1) rfl, hi', 1, rfl, rfl, p.1, _, rfl, rfl, _, rfl, ite2 (fun c => ?_) (fun c => ?_)⟩
          · have c' := of_decide_eq_true c
            refine ⟨.ref mg', rfl, 1, rfl, mg', _, -1, .ref T0, rfl, rfl, SqL.of em4, atI_last _ _, T0, _, rfl, .inl (.inl eT0), rfl, _, _, rfl, _, _, rfl, rfl, ?_⟩
            refine ⟨_, rfl, _, rfl, _, rfl, hi', p.2, rfl, (by show 2 ≤ sizeLine; decide), fun T2 n2 => ?_⟩
            have st := same_upd (o := .tup [.int lo, .int (if p.2 > hi' then p.2 else hi')]) n2
            have ei : ixN (ms' ++ [V.ref T0]).length (-1) = some ms'.length := by
              unfold ixN
              rw [if_neg (by decide), List.length_append, if_pos (by show -((ms'.length + 1 : Nat) : Int) ≤ -1; omega)]
              show some ((-1 : Int) + ((ms'.length + 1 : Nat) : Int)).toNat = _
              congr 1
              omega
            refine ⟨.ref mg', rfl, 1, rfl, mg', _, -1, ms'.length, rfl, rfl, st _ _ em4, ei, ?_⟩
            have es : (ms' ++ [V.ref T0]).set ms'.length (.ref T2) = ms' ++ [.ref T2] := by simp
            rw [es]
            obtain ⟨g1, g2, g3, g4, g5⟩ := grow T2 (lo, if p.2 > hi' then p.2 else hi') (ms' ++ [.ref T2]) (rs' ++ [(lo, if p.2 > hi' then p.2 else hi')]) n2 ((hms'.same st).snoc upd_same)
            exact ⟨_, _, _, _, _, _, _, rfl, g1, g2, g3, g4, g5, by rw [etake]; exact m.join hp12 ord c'⟩
          · have c' : ¬ p.1 ≤ hi' + 1 := fun z => c (decide_eq_true z)
            refine app fun r hr' => ?_
            obtain ⟨lo', hR⟩ := m.ris
            obtain ⟨_, h2, _, h4⟩ := Ris.front hR
            have h4' : lo ≤ hi' := h4
            rcases List.mem_append.mp hr' with y | y
            · have : r.2 + 2 ≤ lo := h2 r y
              omega
            · rw [List.mem_singleton.mp y]
              show hi' + 2 ≤ p.1
              omega
      · obtain ⟨ms, rs, y2, y3, y4, y5, y6, rfl, sm4, eg4, hz4, em4, hms, m⟩ := hP
        rw [hzs.1, List.take_length] at m
        refine ⟨_, rfl, q mg' ms rs H4 nm em4 hms ⟨m.ris, m.same.trans fun n => ?_, Nat.le_trans m.len (Nat.le_trans (Nat.le_of_eq hperm.length_eq) (List.length_filter_le _ _))⟩ sm4⟩
        constructor
        · rintro ⟨r, hr', e⟩
          exact ⟨r, (List.mem_filter.mp (hperm.mem_iff.mp hr')).1, e⟩
        · rintro ⟨r, hr', e⟩
          exact ⟨r, hperm.mem_iff.mpr (List.mem_filter.mpr ⟨hr', decide_eq_true (by omega)⟩), e⟩
end

/-! ### what stands where: pairs in a list or a tuple -/
def PrA (K : PySem.W.Frag) (H : Hp) (a : Addr) (ps : List (Int × Int)) : Prop := ∃ us, Sq K H a us ∧ Prs H us ps
def LsA (H : Hp) (a : Addr) (ps : List (Int × Int)) : Prop := ∃ us, H a = some (.lst us) ∧ Prs H us ps
theorem LsA.pr {K : PySem.W.Frag} {H : Hp} {a : Addr} {ps : List (Int × Int)} (h : LsA H a ps) : PrA K H a ps := let ⟨us, e, p⟩ := h; ⟨us, Sq.list e, p⟩
theorem LsA.same {H H' : Hp} {a : Addr} {ps : List (Int × Int)} (h : LsA H a ps) (s : Same H H') : LsA H' a ps := let ⟨us, e, p⟩ := h; ⟨us, s _ _ e, p.same s⟩
theorem PrA.same {K : PySem.W.Frag} {H H' : Hp} {a : Addr} {ps : List (Int × Int)} (h : PrA K H a ps) (s : Same H H') : PrA K H' a ps := let ⟨us, e, p⟩ := h; ⟨us, e.same s, p.same s⟩
theorem LsA.nil {H : Hp} {a : Addr} (e : H a = some (.lst [])) : LsA H a [] := ⟨[], e, Prs.nil⟩
theorem LsA.dp {K : PySem.W.Frag} {H : Hp} {a : Addr} {ps : List (Int × Int)} (h : LsA H a ps) : Dp K H (.ref a) (.list (ps.map pairD)) := let ⟨_, e, p⟩ := h; .lst (SqL.of e) (dp_prs p)
/-- a told set: a new list -/
def TellS (pr : Int → Prop) (m : Nat) (H : Hp) (Q : VK) : Prop := ∀ l rs H', H l = none → LsA H' l rs → Told pr rs → rs.length ≤ m → Same H H' → Q (.ref l) H'
theorem eqv_pr_nil (ps : List (Int × Int)) : PyData.eqv (PyData.list (ps.map pairD)) (PyData.list []) = ps.isEmpty := by
  cases ps with
  | nil => simp [PyData.eqv, PyData.eqvAll]
  | cons p r => simp [PyData.eqv, PyData.eqvAll]
def rIxS (K : PySem.W.Frag) : R2 := fun x y H Q => ∃ p xs i v, x = .ref p ∧ y = .int i ∧ Sq K H p xs ∧ atI xs i = some v ∧ Q v H
theorem ix_seq {X : Cx} : IxR X (rIxS X.K) := by
  intro value slice pins s σ H x y v u Q I rx ry h hs
  obtain ⟨p, xs, i, z, e1, e2, hq, he, q⟩ := h
  rcases hq with hq | hq
  · exact ix_list value slice pins s σ H x y v u Q I rx ry ⟨p, xs, i, z, e1, e2, hq, he, q⟩ hs
  · exact ix_tup value slice pins s σ H x y v u Q I rx ry ⟨p, xs, i, z, e1, e2, hq, he, q⟩ hs
/-! ### either -/
abbrev sEither : Stmt := topS 2
theorem scEither : FnScope ["one", "other"] ["one", "other"] (defScope sEither) := ⟨rfl, rfl, rfl, by decide +kernel, rfl, by decide +kernel, by decide +kernel⟩
def spEither (K : PySem.W.Frag) : Sp := fun vs H Q _ => ∃ (a b : Addr) (ps qs : List (Int × Int)), vs = [.ref a, .ref b] ∧ PrA K H a ps ∧ PrA K H b qs ∧ ps.length + qs.length ≤ 900 ∧ TellS (fun n => InS ps n ∨ InS qs n) (ps.length + qs.length) H Q
section
variable {K : PySem.W.Frag} {mg : Str → Option Value} {P : Program} {w : World} {base : Heap}
theorem ok_either {f : Addr} {fd : FuncData} (F : Fun K "either" "either" sEither f fd) (CO : Cal P w K mg base 1 "set_of" ["pairs"] (spSetOf K)) : FnOk P w K mg base CX0 2 f fd ["one", "other"] (spEither K) := by
  refine F.ok scEither (fun vs H Q E h => ?_) (fun cdv A outer s H vs Q E hr h => ?_)
  · obtain ⟨a, b, ps, qs, rfl, _⟩ := h
    rfl
  · obtain ⟨a, b, ps, qs, rfl, ⟨us, ha, hps⟩, ⟨ws, hb, hqs⟩, hz, q⟩ := h
    refine ⟨_, pss_one (ps_ret (pe_own CO hr (by rfl) (pa_cons (pe_lst (StX.pa_star (pv 0) (StX.pa_star (pv 1) pa_nil))) pa_nil))), ?_⟩
    have el : (us ++ (ws ++ [])).length ≤ 900 := by
      rw [List.append_nil, List.length_append, hps.1, hqs.1]
      exact hz
    refine ⟨_, rfl, a, us, rfl, ha.symm, _, rfl, b, ws, rfl, hb.symm, Nat.le_of_lt (small1000 (Nat.le_trans el (by decide))), fun l nl => ?_⟩
    have sl := same_upd (o := .lst (us ++ (ws ++ []))) nl
    have hp : Prs (upd H l (.lst (us ++ (ws ++ [])))) (us ++ (ws ++ [])) (ps ++ qs) := by
      have z := ((hps.append hqs).same sl)
      rw [List.append_nil] at *
      exact z
    refine ⟨l, _, ps ++ qs, rfl, Sq.list upd_same, hp, by rw [List.length_append]; exact hz, fun l2 w2 rs H2 n2 e2 hrs hset s2 => ?_⟩
    exact q l2 rs H2 (sl.free n2) ⟨_, e2, hrs⟩ (hset.told.cong fun n => inS_append) (by have := hset.len; rwa [List.length_append] at this) (sl.trans s2)
end
/-! ### both_of -/
abbrev sBoth : Stmt := topS 3
theorem scBoth : FnScope ["one", "other", "shared", "at", "to", "first", "last"] ["one", "other"] (defScope sBoth) := ⟨rfl, rfl, rfl, by decide +kernel, rfl, by decide +kernel, by decide +kernel⟩
def spBoth (K : PySem.W.Frag) : Sp := fun vs H Q _ => ∃ (a b : Addr) (ps qs : List (Int × Int)), vs = [.ref a, .ref b] ∧ PrA K H a ps ∧ PrA K H b qs ∧ (∃ lo, Ris lo ps) ∧ (∃ lo, Ris lo qs) ∧ ps.length + qs.length ≤ 900 ∧ TellS (fun n => InS ps n ∧ InS qs n) (ps.length + qs.length) H Q
/-- between two turns -/
def BothW (H : Hp) (a b sh : Addr) (ps qs : List (Int × Int)) (m : Nat) (σ : L2.St) (H1 : Hp) : Prop := ∃ (i j : Nat) (ms : List V) (rs : List (Int × Int)) (y5 y6 : Option V), σ = [some (.ref a), some (.ref b), some (.ref sh), some (.int i), some (.int j), y5, y6] ∧ m = (ps.length - i) + (qs.length - j) ∧ i ≤ ps.length ∧ j ≤ qs.length ∧ Same H H1 ∧
  H1 sh = some (.lst ms) ∧ Prs H1 ms rs ∧ rs.length ≤ i + j ∧ rs ++ bothF (ps.drop i) (qs.drop j) = bothF ps qs
section
variable {K : PySem.W.Frag} {mg : Str → Option Value} {P : Program} {w : World} {base : Heap}
theorem ok_both {f : Addr} {fd : FuncData} {k : Nat} (F : Fun K "both_of" "both_of" sBoth f fd) (ml : mg "len" = none) (mx : mg "max" = none) (mn : mg "min" = none) : FnOk P w K mg base CX0 (k + 1) f fd ["one", "other"] (spBoth K) := by
  refine F.ok scBoth (fun vs H Q E h => ?_) (fun cdv A outer s H vs Q E hr h => ?_)
  · obtain ⟨a, b, ps, qs, rfl, _⟩ := h
    rfl
  · obtain ⟨a, b, ps, qs, rfl, ⟨us, ha, hps⟩, ⟨ws, hb, hqs⟩, ⟨lo, hr1⟩, ⟨lo', hr2⟩, hz, q⟩ := h
    refine ⟨_, pss_cons (ps_set (i := 2) scBoth.nd rfl (.inl rfl) (pe_lst pa_nil))
      (pss_cons (ps_set (i := 3) scBoth.nd rfl (.inl rfl) pe_int)
      (pss_cons (ps_set (i := 4) scBoth.nd rfl (.inl rfl) pe_int)
      (pss_cons (ps_while PassesOwn.never (PW.pt (pw_and (pt_cmpR op_lt (pv 3) (pe_callB call_len_seq (by rfl) ml PySem.boot_len (pa_cons (pv 0) pa_nil)) (nomark _)) (pw_and1 (pt_cmpR op_lt (pv 4) (pe_callB call_len_seq (by rfl) ml PySem.boot_len (pa_cons (pv 1) pa_nil)) (nomark _)))))
        (pss_cons (ps_set (i := 5) scBoth.nd rfl (.inl rfl) (pe_callB (call_max2 rfl) (by rfl) mx (by decide +kernel) (pa_cons (pe_ix ix_tup (pe_ix ix_seq (pv 0) (pv 3) (fun _ _ => rfl)) pe_int (fun _ _ => rfl)) (pa_cons (pe_ix ix_tup (pe_ix ix_seq (pv 1) (pv 4) (fun _ _ => rfl)) pe_int (fun _ _ => rfl)) pa_nil))))
        (pss_cons (ps_set (i := 6) scBoth.nd rfl (.inl rfl) (pe_callB (call_min2 rfl) (by rfl) mn (by decide +kernel) (pa_cons (pe_ix ix_tup (pe_ix ix_seq (pv 0) (pv 3) (fun _ _ => rfl)) pe_int (fun _ _ => rfl)) (pa_cons (pe_ix ix_tup (pe_ix ix_seq (pv 1) (pv 4) (fun _ _ => rfl)) pe_int (fun _ _ => rfl)) pa_nil))))
        (Evl.pss_cut (ps_if (pt_cmpR op_le (pv 5) (pv 6) (nomark _)) (pss_one (ps_expr (pe_bm PySem.F.plainAttrs_list PySem.F.slot_list_append PySem.F.type_list_append mt_append (pv 2) (pa_cons (pe_tup (pa_cons (pv 5) (pa_cons (pv 6) pa_nil))) pa_nil)))) pss_nil)
        (pss_one (ps_if (pt_cmpR op_lt (pe_ix ix_tup (pe_ix ix_seq (pv 0) (pv 3) (fun _ _ => rfl)) pe_int (fun _ _ => rfl)) (pe_ix ix_tup (pe_ix ix_seq (pv 1) (pv 4) (fun _ _ => rfl)) pe_int (fun _ _ => rfl)) (nomark _))
          (pss_one (ps_aug (i := 3) scBoth.nd rfl (.inl rfl) pe_int ip_add)) (pss_one (ps_aug (i := 4) scBoth.nd rfl (.inl rfl) pe_int ip_add))))))))
      (pss_one (ps_ret (pv 2)))))), ?_⟩
    refine ⟨Nat.zero_le _, fun sh nsh => ?_⟩
    have s0 := same_upd (o := .lst []) nsh
    have hl1 := hps.1
    have hl2 := hqs.1
    refine ⟨BothW H a b sh ps qs, ⟨_, 0, 0, [], [], none, none, rfl, rfl, Nat.zero_le _, Nat.zero_le _, s0, upd_same, Prs.nil, Nat.le_refl _, rfl⟩, fun m σ H1 hW => ?_⟩
    obtain ⟨i, j, ms, rs, y5, y6, rfl, rfl, hi, hj, sm, esh, hms, hrl, hbo⟩ := hW
    have ha1 := ha.same sm
    have hb1 := hb.same sm
    -- the end: nothing is left of one
    have fin : bothF (ps.drop i) (qs.drop j) = [] → Q (.ref sh) H1 := by
      intro e
      rw [e, List.append_nil] at hbo
      subst hbo
      exact q sh (bothF ps qs) H1 nsh ⟨ms, esh, hms⟩ ⟨⟨lo, bothF_ris hr1 hr2 (.inl (Int.le_refl _))⟩, fun n => bothF_in hr1 hr2⟩ (by omega) sm
    refine ⟨_, rfl, _, rfl, a, us, rfl, ha1, (i : Int), (us.length : Int), rfl, rfl, _, rfl, ite2 (fun c1 => ?_) (fun c1 => ?_)⟩
    · have c1' := of_decide_eq_true c1
      refine ⟨_, rfl, _, rfl, b, ws, rfl, hb1, (j : Int), (ws.length : Int), rfl, rfl, _, rfl, ite2 (fun c2 => ?_) (fun c2 => ?_)⟩
      · have c2' := of_decide_eq_true c2
        have hi' : i < ps.length := by omega
        have hj' : j < qs.length := by omega
        obtain ⟨T1, g1, e1⟩ := hps.2 i ps[i] (List.getElem?_eq_getElem hi')
        obtain ⟨T2, g2, e2⟩ := hqs.2 j qs[j] (List.getElem?_eq_getElem hj')
        have ed1 := drop_at (List.getElem?_eq_getElem hi')
        have ed2 := drop_at (List.getElem?_eq_getElem hj')
        revert e1 e2 ed1 ed2
        generalize ps[i] = p
        generalize qs[j] = r
        intro e1 e2 ed1 ed2
        have f1 := sm _ _ e1
        have f2 := sm _ _ e2
        rw [ed1, ed2, bothF] at hbo
        refine ⟨fun σ' H' => ∃ m', m' < (ps.length - i) + (qs.length - j) ∧ BothW H a b sh ps qs m' σ' H', fun σ' H' h => h, ?_⟩
        -- first, last
        refine ⟨_, rfl, _, rfl, a, us, i, .ref T1, rfl, rfl, ha1, atI_nat g1, T1, _, 0, .int p.1, rfl, rfl, .inl (.inl f1), atI_nat (j := 0) rfl, _, rfl, _, rfl, b, ws, j, .ref T2, rfl, rfl, hb1, atI_nat g2, T2, _, 0, .int r.1, rfl, rfl, .inl (.inl f2), atI_nat (j := 0) rfl, p.1, r.1, rfl, ?_⟩
        refine ⟨_, rfl, _, rfl, a, us, i, .ref T1, rfl, rfl, ha1, atI_nat g1, T1, _, 1, .int p.2, rfl, rfl, .inl (.inl f1), atI_nat (j := 1) rfl, _, rfl, _, rfl, b, ws, j, .ref T2, rfl, rfl, hb1, atI_nat g2, T2, _, 1, .int r.2, rfl, rfl, .inl (.inl f2), atI_nat (j := 1) rfl, p.2, r.2, rfl, ?_⟩
        refine ⟨fun σ' H2 => ∃ ms2 rs2, σ' = [some (.ref a), some (.ref b), some (.ref sh), some (.int i), some (.int j), some (.int (mxI p.1 r.1)), some (.int (mnI p.2 r.2))] ∧ Same H H2 ∧ H2 sh = some (.lst ms2) ∧ Prs H2 ms2 rs2 ∧ rs2.length ≤ i + j + 1 ∧
          rs2 ++ (if p.2 < r.2 then bothF (ps.drop (i + 1)) (r :: qs.drop (j + 1)) else bothF (p :: ps.drop (i + 1)) (qs.drop (j + 1))) = bothF ps qs, ?_, fun σ' H2 hM => ?_⟩
        · refine ⟨_, rfl, _, rfl, mxI p.1 r.1, mnI p.2 r.2, rfl, rfl, _, rfl, ite2 (fun c => ?_) (fun c => ?_)⟩
          · have c' := of_decide_eq_true c
            rw [if_pos c', ← List.append_assoc] at hbo
            refine ⟨_, rfl, .inl ⟨rfl, _, SqL.of esh⟩, _, rfl, _, rfl, (by show 2 ≤ sizeLine; decide), fun T nT => ?_⟩
            have sT := same_upd (o := .tup [.int (mxI p.1 r.1), .int (mnI p.2 r.2)]) nT
            refine ⟨sh, _, _, rfl, rfl, sT _ _ esh, small1000 (by have := hms.1; omega), ?_⟩
            refine ⟨_, _, rfl, fun b o e => ?_, upd_same, ((hms.same sT).snoc upd_same).upd_lst (sT _ _ esh), by rw [List.length_append]; exact Nat.add_le_add_right hrl 1, hbo⟩
            rw [upd_ne (ne_of_none e nsh)]
            exact sT _ _ (sm b o e)
          · have c' : ¬ mxI p.1 r.1 ≤ mnI p.2 r.2 := fun z => c (decide_eq_true z)
            rw [if_neg c', List.nil_append] at hbo
            exact ⟨ms, rs, rfl, sm, esh, hms, by omega, hbo⟩
        · obtain ⟨ms2, rs2, rfl, sm2, esh2, hms2, hl3, hb3⟩ := hM
          have ha2 := ha.same sm2
          have hb2 := hb.same sm2
          have f1' := sm2 _ _ e1
          have f2' := sm2 _ _ e2
          refine ⟨_, rfl, _, rfl, a, us, i, .ref T1, rfl, rfl, ha2, atI_nat g1, T1, _, 1, .int p.2, rfl, rfl, .inl (.inl f1'), atI_nat (j := 1) rfl, _, rfl, _, rfl, b, ws, j, .ref T2, rfl, rfl, hb2, atI_nat g2, T2, _, 1, .int r.2, rfl, rfl, .inl (.inl f2'), atI_nat (j := 1) rfl, p.2, r.2, rfl, rfl, _, rfl, ite2 (fun c => ?_) (fun c => ?_)⟩
          · have c' := of_decide_eq_true c
            rw [if_pos c', ← ed2] at hb3
            exact ⟨_, rfl, (i : Int), 1, rfl, rfl, _, by omega, i + 1, j, ms2, rs2, _, _, rfl, rfl, by omega, hj, sm2, esh2, hms2, by omega, hb3⟩
          · have c' : ¬ p.2 < r.2 := fun z => c (decide_eq_true z)
            rw [if_neg c', ← ed1] at hb3
            exact ⟨_, rfl, (j : Int), 1, rfl, rfl, _, by omega, i, j + 1, ms2, rs2, _, _, rfl, rfl, hi, by omega, sm2, esh2, hms2, by omega, hb3⟩
      · have c' : ¬ (j : Int) < ws.length := fun z => c2 (decide_eq_true z)
        refine ⟨_, rfl, fin ?_⟩
        rw [List.drop_eq_nil_of_le (by omega : qs.length ≤ j)]
        exact bothF_nil _
    · have c' : ¬ (i : Int) < us.length := fun z => c1 (decide_eq_true z)
      refine ⟨_, rfl, fin ?_⟩
      rw [List.drop_eq_nil_of_le (by omega : ps.length ≤ i), bothF]
end
/-- a walk over what stood before a list was begun -/
theorem for_seqS {K : PySem.W.Frag} {a : Addr} {xs : List V} {g : TG} {tb : TS} {D : Ends} {σ : L2.St} {H0 H1 : Hp} (hq : Sq K H0 a xs) (s1 : Same H0 H1) (Pv : Nat → L2.St → Hp → Prop) (h0 : Pv 0 σ H1)
    (hl : ∀ i σ H', Pv i σ H' → Same H0 H')
    (turn : ∀ i x σ H, xs[i]? = some x → Pv i σ H → g x σ H fun σ2 H2 => tb { D with nx := Pv (i + 1), ct := Pv (i + 1), bk := D.nx } σ2 H2) (fin : ∀ σ H, Pv xs.length σ H → D.nx σ H) :
    ((∃ xs, SqL K H1 a xs) ∧ ForR (Itl K a) g tb D σ H1) ∨ ((∃ xs, SqT K H1 a xs) ∧ ForR (Itt K a) g tb D σ H1) := by
  rcases hq with h | h
  · exact .inl ⟨⟨xs, s1.seq h⟩, for_list (xs := xs) Pv h0 (fun i σ H' _ p => (hl i σ H' p).seq h) turn fin⟩
  · exact .inr ⟨⟨xs, same_t s1 h⟩, for_tup (xs := xs) Pv h0 (fun i σ H' _ p => same_t (hl i σ H' p) h) turn fin⟩
/-! ### gaps_of -/
abbrev sGaps : Stmt := topS 4
theorem scGaps : FnScope ["some", "begin", "end", "gaps", "start", "first", "last"] ["some", "begin", "end"] (defScope sGaps) := ⟨rfl, rfl, rfl, by decide +kernel, rfl, by decide +kernel, by decide +kernel⟩
def spGaps (K : PySem.W.Frag) : Sp := fun vs H Q _ => ∃ (a : Addr) (qs : List (Int × Int)) (x y : Int), vs = [.ref a, .int x, .int y] ∧ PrA K H a qs ∧ (∃ lo, Ris lo qs) ∧ qs.length ≤ 800 ∧ TellS (fun n => (x ≤ n ∧ n ≤ y) ∧ ¬ InS qs n) (qs.length + 1) H Q
section
variable {K : PySem.W.Frag} {mg : Str → Option Value} {P : Program} {w : World} {base : Heap}
theorem ok_gaps {f : Addr} {fd : FuncData} (F : Fun K "gaps_of" "gaps_of" sGaps f fd) (CO : Cal P w K mg base 1 "set_of" ["pairs"] (spSetOf K)) (mx : mg "max" = none) (mn : mg "min" = none) : FnOk P w K mg base CX0 2 f fd ["some", "begin", "end"] (spGaps K) := by
  refine F.ok scGaps (fun vs H Q E h => ?_) (fun cdv A outer s H vs Q E hr h => ?_)
  · obtain ⟨a, qs, x, y, rfl, _⟩ := h
    rfl
  · obtain ⟨a, qs, x, y, rfl, ⟨ws, hb, hqs⟩, ⟨lo, hr2⟩, hz, q⟩ := h
    refine ⟨_, pss_cons (ps_set (i := 3) scGaps.nd rfl (.inl rfl) (pe_lst pa_nil))
      (pss_cons (ps_set (i := 4) scGaps.nd rfl (.inl rfl) (pv 1))
      (pss_cons (ps_for PassesOwn.never rfl (pi_seq (pv 0)) (pg_tup rfl (pgs_cons (pg_name (i := 5) scGaps.nd rfl (.inl rfl)) (pgs_cons (pg_name (i := 6) scGaps.nd rfl (.inl rfl)) pgs_nil)))
        (pss_cons (ps_expr (pe_bm PySem.F.plainAttrs_list PySem.F.slot_list_append PySem.F.type_list_append mt_append (pv 3) (pa_cons (pe_tup (pa_cons (pv 4) (pa_cons (pe_callB (call_min2 rfl) (by rfl) mn (by decide +kernel) (pa_cons (pe_op op_sub (pv 5) pe_int) (pa_cons (pv 2) pa_nil))) pa_nil))) pa_nil)))
        (pss_one (ps_set (i := 4) scGaps.nd rfl (.inl rfl) (pe_callB (call_max2 rfl) (by rfl) mx (by decide +kernel) (pa_cons (pv 4) (pa_cons (pe_op op_add (pv 6) pe_int) pa_nil)))))))
      (pss_cons (ps_expr (pe_bm PySem.F.plainAttrs_list PySem.F.slot_list_append PySem.F.type_list_append mt_append (pv 3) (pa_cons (pe_tup (pa_cons (pv 4) (pa_cons (pv 2) pa_nil))) pa_nil)))
      (pss_one (ps_ret (pe_own CO hr (by rfl) (pa_cons (pv 3) pa_nil))))))), ?_⟩
    refine ⟨Nat.zero_le _, fun g ng => ?_⟩
    have s0 := same_upd (o := .lst []) ng
    have hl2 := hqs.1
    refine ⟨_, rfl, .ref a, rfl, a, rfl, for_seqS (xs := ws) hb s0 (fun i σ H1 => ∃ (st : Int) (ms : List V) (rs : List (Int × Int)) (y5 y6 : Option V), σ = [some (.ref a), some (.int x), some (.int y), some (.ref g), some (.int st), y5, y6] ∧ Same H H1 ∧ H1 g = some (.lst ms) ∧ Prs H1 ms rs ∧ rs.length = i ∧ rs ++ gapsF y st (qs.drop i) = gapsF y x qs)
      ⟨x, [], [], none, none, rfl, s0, upd_same, Prs.nil, rfl, rfl⟩ (fun i σ H1 hP => ?_) (fun i v σ H1 hv hP => ?_) (fun σ H1 hP => ?_)⟩
    · obtain ⟨_, _, _, _, _, rfl, sm, _⟩ := hP
      exact sm
    · obtain ⟨st, ms, rs, y5, y6, rfl, sm, eg, hms, hrl, hgf⟩ := hP
      obtain ⟨p, T, ep, rfl, eT⟩ := prs_at hqs hv
      have eT1 := sm _ _ eT
      have hi : i < qs.length := (List.getElem?_eq_some_iff.mp ep).1
      rw [drop_at ep, gapsF] at hgf
      refine ⟨T, _, rfl, .inl (.inl eT1), rfl, _, _, rfl, _, _, rfl, rfl, ?_⟩
      refine ⟨_, rfl, .inl ⟨rfl, _, SqL.of eg⟩, _, rfl, _, rfl, p.1, 1, rfl, rfl, _, rfl, p.1 - 1, y, rfl, (by show 2 ≤ sizeLine; decide), fun T2 n2 => ?_⟩
      have sT := same_upd (o := .tup [.int st, .int (mnI (p.1 - 1) y)]) n2
      refine ⟨g, _, _, rfl, rfl, sT _ _ eg, small1000 (by have := hms.1; omega), ?_⟩
      refine ⟨_, rfl, _, rfl, p.2, 1, rfl, rfl, st, p.2 + 1, rfl, mxI st (p.2 + 1), _, rs ++ [(st, mnI (p.1 - 1) y)], _, _, rfl, fun b o e => ?_, upd_same, ((hms.same sT).snoc upd_same).upd_lst (sT _ _ eg), by rw [List.length_append, hrl]; rfl, by rw [List.append_assoc]; exact hgf⟩
      rw [upd_ne (ne_of_none e ng)]
      exact sT _ _ (sm b o e)
    · obtain ⟨st, ms, rs, y5, y6, rfl, sm, eg, hms, hrl, hgf⟩ := hP
      rw [hl2, List.drop_length, gapsF] at hgf
      refine ⟨_, rfl, .inl ⟨rfl, _, SqL.of eg⟩, _, rfl, _, rfl, (by show 2 ≤ sizeLine; decide), fun T2 n2 => ?_⟩
      have sT := same_upd (o := .tup [.int st, .int y]) n2
      refine ⟨g, _, _, rfl, rfl, sT _ _ eg, small1000 (by have := hms.1; omega), ?_⟩
      have hp : Prs (upd (upd H1 T2 (.tup [.int st, .int y])) g (.lst (ms ++ [.ref T2]))) (ms ++ [.ref T2]) (gapsF y x qs) := by
        rw [← hgf]
        exact ((hms.same sT).snoc upd_same).upd_lst (sT _ _ eg)
      have s3 : Same H (upd (upd H1 T2 (.tup [.int st, .int y])) g (.lst (ms ++ [.ref T2]))) := fun b o e => by
        rw [upd_ne (ne_of_none e ng)]
        exact sT _ _ (sm b o e)
      refine ⟨_, rfl, g, _, _, rfl, Sq.list upd_same, hp, by rw [gapsF_length]; omega, fun l2 w2 rs2 H2 nl2 e2 hrs hset s2 => ?_⟩
      exact q l2 rs2 H2 (s3.free nl2) ⟨_, e2, hrs⟩ (hset.told.cong fun n => gapsF_in hr2) (by have := hset.len; rwa [gapsF_length] at this) (s3.trans s2)
end
/-! ### without -/
theorem Ris.upto : ∀ {lo n : Int} {ps : List (Int × Int)} {p : Int × Int}, Ris lo (ps ++ [p]) → InS (ps ++ [p]) n → n ≤ p.2 := by
  intro lo n ps p h e
  obtain ⟨h1, h2, h3, h4⟩ := Ris.front h
  rcases inS_append.mp e with z | z
  · obtain ⟨q, hq, z1, z2⟩ := z
    have := h2 q hq
    omega
  · rcases inS_cons.mp z with y | y
    · exact y.2
    · exact absurd y inS_nil
abbrev sWithout : Stmt := topS 5
theorem scWithout : FnScope ["one", "other"] ["one", "other"] (defScope sWithout) := ⟨rfl, rfl, rfl, by decide +kernel, rfl, by decide +kernel, by decide +kernel⟩
def spWithout (K : PySem.W.Frag) : Sp := fun vs H Q _ => ∃ (a b : Addr) (ps qs : List (Int × Int)), vs = [.ref a, .ref b] ∧ PrA K H a ps ∧ PrA K H b qs ∧ (∃ lo, Ris lo ps) ∧ (∃ lo, Ris lo qs) ∧ ps.length + qs.length ≤ 800 ∧ TellS (fun n => InS ps n ∧ ¬ InS qs n) (ps.length + qs.length + 1) H Q
section
variable {K : PySem.W.Frag} {mg : Str → Option Value} {P : Program} {w : World} {base : Heap}
theorem ok_without {f : Addr} {fd : FuncData} (F : Fun K "without" "without" sWithout f fd) (CA : Cal P w K mg base 1 "both_of" ["one", "other"] (spBoth K)) (CG : Cal P w K mg base 2 "gaps_of" ["some", "begin", "end"] (spGaps K)) : FnOk P w K mg base CX0 3 f fd ["one", "other"] (spWithout K) := by
  refine F.ok scWithout (fun vs H Q E h => ?_) (fun cdv A outer s H vs Q E hr h => ?_)
  · obtain ⟨a, b, ps, qs, rfl, _⟩ := h
    rfl
  · obtain ⟨a, b, ps, qs, rfl, ⟨us, ha, hps⟩, hb, ⟨lo, hr1⟩, hr2, hz, q⟩ := h
    have hr1' := hr.mono (show 1 ≤ 2 by decide)
    refine ⟨_, pss_cons (ps_if (pt_not (pt_truth (pv 0) (by intro _; rfl))) (pss_one (ps_ret (pe_lst pa_nil))) pss_nil)
      (pss_one (ps_ret (pe_own CA hr1' (by rfl) (pa_cons (pv 0) (pa_cons (pe_own CG hr (by rfl) (pa_cons (pv 1) (pa_cons (pe_ix ix_tup (pe_ix ix_seq (pv 0) pe_int (fun _ _ => rfl)) pe_int (fun _ _ => rfl)) (pa_cons (pe_ix ix_tup (pe_ix ix_seq (pv 0) (pe_un un_neg pe_int) (fun _ _ => rfl)) pe_int (fun _ _ => rfl)) pa_nil)))) pa_nil))))), ?_⟩
    have tru : ∀ k, k = (!us.isEmpty) → TruV K (.ref a) H k := fun k e => ha.elim (fun h => .inl ⟨us, h, e⟩) fun h => .inr (.inl ⟨us, h, e⟩)
    rcases snoc_cases ps with e0 | ⟨ps', p, e0⟩
    · have e1 : us = [] := List.eq_nil_of_length_eq_zero (by rw [hps.1, e0]; rfl)
      subst e0 e1
      refine ⟨_, rfl, false, tru _ rfl, iteT ?_⟩
      refine ⟨Nat.zero_le _, fun l nl => ?_⟩
      exact q l [] _ nl (LsA.nil upd_same) ⟨⟨0, True.intro⟩, fun n => ⟨fun z => absurd z inS_nil, fun z => z.1⟩⟩ (Nat.zero_le _) (same_upd nl)
    · subst e0
      obtain ⟨us', T0, eus, eT0, hus'⟩ := hps.last
      have hne : us.isEmpty = false := by rw [eus]; simp
      refine ⟨_, rfl, true, tru _ (by rw [hne]; rfl), iteF ?_⟩
      obtain ⟨p0, ep0⟩ : ∃ p0, (ps' ++ [p])[0]? = some p0 := by
        cases ps' with
        | nil => exact ⟨p, rfl⟩
        | cons x r => exact ⟨x, rfl⟩
      obtain ⟨T, g0, eT⟩ := hps.2 0 p0 ep0
      have glast : atI us (-1) = some (.ref T0) := by rw [eus]; exact atI_last _ _
      refine ⟨_, rfl, _, rfl, _, rfl, a, us, 0, .ref T, rfl, rfl, ha, atI_nat (j := 0) g0, T, _, 0, .int p0.1, rfl, rfl, .inl (.inl eT), atI_nat (j := 0) rfl, _, rfl, 1, rfl, a, us, -1, .ref T0, rfl, rfl, ha, glast, T0, _, 1, .int p.2, rfl, rfl, .inl (.inl eT0), atI_nat (j := 1) rfl, ?_⟩
      refine ⟨b, qs, p0.1, p.2, rfl, hb, hr2, by omega, fun l1 rs1 H1 n1 hl1 ht1 hz1 s1 => ?_⟩
      refine ⟨a, l1, ps' ++ [p], rs1, rfl, (PrA.same ⟨us, ha, hps⟩ s1), hl1.pr, ⟨lo, hr1⟩, ht1.ris, by omega, fun l2 rs2 H2 n2 hl2 ht2 hz2 s2 => ?_⟩
      refine q l2 rs2 H2 (s1.free n2) hl2 (ht2.cong fun n => ?_) (by omega) (s1.trans s2)
      rw [ht1.same n]
      constructor
      · exact fun z => ⟨z.1, z.2.2⟩
      · intro z
        refine ⟨z.1, ⟨?_, Ris.upto hr1 z.1⟩, z.2⟩
        have r0 : Ris p0.1 (ps' ++ [p]) := by
          cases ps' with
          | nil =>
            cases ep0
            exact ⟨Int.le_refl _, hr1.2⟩
          | cons x r =>
            cases ep0
            exact ⟨Int.le_refl _, hr1.2⟩
        exact r0.low z.1
end

/-- all stands but the tables, which stay tables -/
structure Kt (H H' : Hp) : Prop where
  keep : ∀ b o, (∀ q, o ≠ .tbl q) → H b = some o → H' b = some o
  tab : ∀ P, GxR.TabG H P → GxR.TabG H' P
theorem Kt.refl (H : Hp) : Kt H H := ⟨fun _ _ _ e => e, fun _ g => g⟩
theorem Kt.same {H H' : Hp} (s : Same H H') : Kt H H' := ⟨fun b o _ e => s b o e, fun _ g => tabG_same g s⟩
theorem Kt.tabbed {H H' : Hp} {P : Addr} (g : GxR.TabG H P) (x : GxR.Tabbed P H H') : Kt H H' := ⟨fun _ _ h e => tab_at g x e h, fun _ g' => tabG_tabbed g' x⟩
theorem Kt.trans {H H1 H2 : Hp} (a : Kt H H1) (b : Kt H1 H2) : Kt H H2 := ⟨fun x o h e => b.keep x o h (a.keep x o h e), fun P g => b.tab P (a.tab P g)⟩
theorem _root_.GP.Prs.kt {H H' : Hp} {vs : List V} {ps : List (Int × Int)} (h : Prs H vs ps) (k : Kt H H') : Prs H' vs ps := ⟨h.1, fun i p e => let ⟨a, e1, e2⟩ := h.2 i p e; ⟨a, e1, k.keep _ _ (fun _ z => nomatch z) e2⟩⟩
theorem LsA.kt {H H' : Hp} {a : Addr} {ps : List (Int × Int)} (h : LsA H a ps) (k : Kt H H') : LsA H' a ps := let ⟨us, e, p⟩ := h; ⟨us, k.keep _ _ (fun _ z => nomatch z) e, p.kt k⟩
theorem StAt.kt {H H' : Hp} {d c : Addr} {t : Int} (S : StAt H d c t) (k : Kt H H') : StAt H' d c t := ⟨k.keep _ _ (fun _ z => nomatch z) S.dict, let ⟨cs, e, r⟩ := S.cells; ⟨cs, k.keep _ _ (fun _ z => nomatch z) e, r⟩, S.pos⟩

/-! ### things as data, all of it tracked -/
inductive Dat (H : Hp) : V → PyData → Prop
  | non : Dat H .non .none
  | bl (b : Bool) : Dat H (.bl b) (.bool b)
  | int (i : Int) : Dat H (.int i) (.int i)
  | str (x : Str) : Dat H (.str x) (.str x)
  | lst {a : Addr} {xs : List V} {ds : List PyData} : H a = some (.lst xs) → xs.length = ds.length → (∀ (i : Nat) x d, xs[i]? = some x → ds[i]? = some d → Dat H x d) → Dat H (.ref a) (.list ds)
  | tup {a : Addr} {xs : List V} {ds : List PyData} : H a = some (.tup xs) → xs.length = ds.length → (∀ (i : Nat) x d, xs[i]? = some x → ds[i]? = some d → Dat H x d) → Dat H (.ref a) (.tuple ds)
theorem Dat.same {H H' : Hp} {v : V} {d : PyData} (h : Dat H v d) (s : Same H H') : Dat H' v d := by
  induction h with
  | non => exact .non
  | bl b => exact .bl b
  | int i => exact .int i
  | str x => exact .str x
  | lst e l _ ih => exact .lst (s _ _ e) l ih
  | tup e l _ ih => exact .tup (s _ _ e) l ih
/-- at most so deep, no longer than these lines -/
def Sm : Nat → PyData → Prop
  | _, .none => True
  | _, .bool _ => True
  | _, .int _ => True
  | _, .str _ => True
  | n + 1, .list ds => ds.length ≤ 900 ∧ ∀ d ∈ ds, Sm n d
  | n + 1, .tuple ds => ds.length ≤ 900 ∧ ∀ d ∈ ds, Sm n d
  | _, _ => False
/-- no list, no tuple -/
def Flat (d : PyData) : Prop := d = .none ∨ (∃ b, d = .bool b) ∨ (∃ i, d = .int i) ∨ ∃ x, d = .str x
theorem Sm.cases {n : Nat} {d : PyData} (h : Sm (n + 1) d) : Flat d ∨ (∃ ds, d = .list ds ∧ ds.length ≤ 900 ∧ ∀ d ∈ ds, Sm n d) ∨ ∃ ds, d = .tuple ds ∧ ds.length ≤ 900 ∧ ∀ d ∈ ds, Sm n d := by
  cases d <;> first | exact .inl (.inl rfl) | exact .inl (.inr (.inl ⟨_, rfl⟩)) | exact .inl (.inr (.inr (.inl ⟨_, rfl⟩))) | exact .inl (.inr (.inr (.inr ⟨_, rfl⟩))) | exact .inr (.inl ⟨_, rfl, h.1, h.2⟩) | exact .inr (.inr ⟨_, rfl, h.1, h.2⟩) | exact h.elim
theorem Sm.flat {d : PyData} (h : Sm 0 d) : Flat d := by
  cases d <;> first | exact .inl rfl | exact .inr (.inl ⟨_, rfl⟩) | exact .inr (.inr (.inl ⟨_, rfl⟩)) | exact .inr (.inr (.inr ⟨_, rfl⟩)) | exact h.elim
theorem walk_zipTs {K : PySem.W.Frag} {a b : Addr} {xs ys : List V} {n : Nat} (h1 : xs.length = n) (h2 : ys.length = n) : Walk (RZ.ItzT K a b) n (fun H => SqT K H a xs ∧ SqT K H b ys) (YPair (fun i => xs[i]?) (fun i => ys[i]?)) where
  goes := fun i _ lt q => ⟨xs, ys, _, _, q.1, q.2, List.getElem?_eq_getElem (h1.symm ▸ lt), List.getElem?_eq_getElem (h2.symm ▸ lt)⟩
  stops := fun _ q => ⟨xs, ys, q.1, q.2, .inl (Nat.le_of_eq h1)⟩
  yields := fun i _ _ _ _ q ⟨T, x, z, e1, e2, e3, e4, e5⟩ => ⟨T, x, z, e1, e2, e3, e4 xs q.1, e5 ys q.2⟩
theorem prs_dat {H : Hp} {us : List V} {ps : List (Int × Int)} (h : Prs H us ps) : ∀ (i : Nat) x d, us[i]? = some x → (ps.map pairD)[i]? = some d → Dat H x d := fun i x d e1 e2 => by
  obtain ⟨p, a, ep, rfl, ea⟩ := prs_at h e1
  rw [List.getElem?_map, ep] at e2
  have ed : pairD p = d := Option.some.inj e2
  rw [← ed]
  refine .tup ea rfl fun j y d f1 f2 => ?_
  have hj : j < 2 := (List.getElem?_eq_some_iff.mp f1).1
  have : j = 0 ∨ j = 1 := by omega
  rcases this with rfl | rfl
  · cases f1; cases f2; exact .int _
  · cases f1; cases f2; exact .int _
theorem LsA.dat {H : Hp} {a : Addr} {ps : List (Int × Int)} (h : LsA H a ps) : Dat H (.ref a) (.list (ps.map pairD)) := let ⟨_, e, p⟩ := h; .lst e (by rw [List.length_map]; exact p.1) (prs_dat p)
theorem sm_prs {ps : List (Int × Int)} (h : ps.length ≤ 900) : Sm 2 (.list (ps.map pairD)) := by
  refine ⟨by rw [List.length_map]; exact h, fun d hd => ?_⟩
  obtain ⟨p, _, rfl⟩ := List.mem_map.mp hd
  exact ⟨by show 2 ≤ 900; decide, fun d hd => by
    rcases List.mem_cons.mp hd with e | e
    · rw [e]; trivial
    · rw [List.mem_singleton.mp e]; trivial⟩
theorem ints_dat {H : Hp} {a : Addr} {ns : List Int} (e : H a = some (.lst (ns.map V.int))) : Dat H (.ref a) (.list (ns.map PyData.int)) := .lst e (by rw [List.length_map, List.length_map]) fun i x d e1 e2 => by
  rw [List.getElem?_map] at e1 e2
  cases h : ns[i]? with
  | none => rw [h] at e1; cases e1
  | some n =>
    rw [h] at e1 e2
    cases e1
    cases e2
    exact .int n
theorem sm_ints {ns : List Int} (h : ns.length ≤ 900) : Sm 1 (.list (ns.map PyData.int)) := by
  refine ⟨by rw [List.length_map]; exact h, fun d hd => ?_⟩
  obtain ⟨p, _, rfl⟩ := List.mem_map.mp hd
  trivial

abbrev sSame : Stmt := topS 13
theorem scSame : FnScope ["_law_found", "_law_due", "_law_one", "_law_other"] ["_law_found", "_law_due"] (defScope sSame) := ⟨rfl, rfl, rfl, by decide +kernel, rfl, by decide +kernel, by decide +kernel⟩
/-- alike: the same data twice -/
def spSame (n : Nat) : Sp := fun vs H Q _ => ∃ (v u : V) (d : PyData), vs = [v, u] ∧ Dat H v d ∧ Dat H u d ∧ Sm n d ∧ ∀ H', Same H H' → Q (.bl true) H'
theorem kit2 {K : PySem.W.Frag} {t a b : String} (h1 : kitB t a = some false) (h2 : kitB t b = some false) : PySem.W.kitAny K (.type t) [.type a, .type b] = some false :=
  kitAny_cons (kit_ty h1) (fun _ => kitAny_cons (kit_ty h2) (fun _ => kitAny_nil) (fun z => nomatch z)) (fun z => nomatch z)
theorem kit2L {K : PySem.W.Frag} : PySem.W.kitAny K (.type "list") [.type "list", .type "tuple"] = some true :=
  kitAny_cons (b := true) (kit_ty (by decide +kernel)) (fun z => nomatch z) (fun _ => rfl)
theorem kit2T {K : PySem.W.Frag} : PySem.W.kitAny K (.type "tuple") [.type "list", .type "tuple"] = some true :=
  kitAny_cons (b := false) (kit_ty (by decide +kernel)) (fun _ => kitAny_cons (b := true) (kit_ty (by decide +kernel)) (fun z => nomatch z) (fun _ => rfl)) (fun z => nomatch z)
abbrev SameGoal (K : PySem.W.Frag) (mg : Str → Option Value) (P : Program) (w : World) (base : Heap) (f : Addr) (cdv : Value) (A : Around) (outer : List Env) (s : Shared) (H : Hp) (E : XK) (v u : V) (Q : VK) : Prop :=
  ∃ t, PSs (cxOf CX0 P w K mg base ["_law_found", "_law_due", "_law_one", "_law_other"] "_law_same" (defScope sSame) f cdv A outer s H E).nox (defBody sSame) t ∧ t { nx := fun _ H' => Q .non H', rt := Q } (start ["_law_found", "_law_due", "_law_one", "_law_other"] [v, u]) H
theorem all_true (n : Nat) : (List.replicate n true).all id = true := by
  rw [List.all_eq_true]
  intro b hb
  exact (List.mem_replicate.mp hb).2
section
variable {K : PySem.W.Frag} {mg : Str → Option Value} {P : Program} {w : World} {base : Heap}
/-- of no list, no tuple -/
theorem same_flat {f : Addr} (mi : mg "isinstance" = none) (ml : mg "list" = none) (mt : mg "tuple" = none) (mb : mg "bool" = none) (ms : mg "str" = none) (mn : mg "int" = none) {cdv : Value} {A : Around} {outer : List Env} {s : Shared} {H : Hp} {v u : V} {d : PyData} {Q : VK} {E : XK}
    (h1 : Dat H v d) (h2 : Dat H u d) (hd : Flat d) (q : ∀ H', Same H H' → Q (.bl true) H') : SameGoal K mg P w base f cdv A outer s H E v u Q := by
  refine ⟨_, pss_cons (ps_if (pt_val (pe_callB call_isiT (by rfl) mi (by decide +kernel) (pa_cons (pv 1) (pa_cons (pe_tup (pa_cons (pe_bltn (v := .ty "list") (by rfl) ml (by decide +kernel) rfl) (pa_cons (pe_bltn (v := .ty "tuple") (by rfl) mt (by decide +kernel) rfl) pa_nil))) pa_nil)))) pss_never pss_nil)
      (pss_cons (ps_if (pt_cmpR op_isN (pv 1) pe_non (nomark _)) (pss_one (ps_ret (pe_cmpR op_isN (pv 0) pe_non (nomark _)))) pss_nil)
      (pss_cons (ps_if (pt_val (pe_callB call_isi (by rfl) mi (by decide +kernel) (pa_cons (pv 1) (pa_cons (pe_bltn (v := .ty "bool") (by rfl) mb (by decide +kernel) rfl) pa_nil)))) (pss_one (ps_ret (pe_and (pe_callB call_isi (by rfl) mi (by decide +kernel) (pa_cons (pv 0) (pa_cons (pe_bltn (v := .ty "bool") (by rfl) mb (by decide +kernel) rfl) pa_nil))) (pe_one (pe_cmpR op_eq (pv 0) (pv 1) (nomark _)))))) pss_nil)
      (pss_cons (ps_if (pt_val (pe_callB call_isi (by rfl) mi (by decide +kernel) (pa_cons (pv 1) (pa_cons (pe_bltn (v := .ty "str") (by rfl) ms (by decide +kernel) rfl) pa_nil)))) (pss_one (ps_ret (pe_and (pe_callB call_isi (by rfl) mi (by decide +kernel) (pa_cons (pv 0) (pa_cons (pe_bltn (v := .ty "str") (by rfl) ms (by decide +kernel) rfl) pa_nil))) (pe_one (pe_cmpR op_eq (pv 0) (pv 1) (nomark _)))))) pss_nil)
      (pss_one (ps_ret (pe_and (pe_callB call_isi (by rfl) mi (by decide +kernel) (pa_cons (pv 0) (pa_cons (pe_bltn (v := .ty "int") (by rfl) mn (by decide +kernel) rfl) pa_nil)))
        (pe_and (pe_not (pe_callB call_isi (by rfl) mi (by decide +kernel) (pa_cons (pv 0) (pa_cons (pe_bltn (v := .ty "bool") (by rfl) mb (by decide +kernel) rfl) pa_nil))))
        (pe_one (pe_cmpR op_eq (pv 0) (pv 1) (nomark _)))))))))), ?_⟩
  have deq : ∀ x : V, (decide (x = x)) = true := fun x => decide_eq_true rfl
  rcases hd with rfl | ⟨b, rfl⟩ | ⟨i, rfl⟩ | ⟨x, rfl⟩
  · cases h1
    cases h2
    refine ⟨_, rfl, (by show 2 ≤ sizeLine; decide), fun p np => ?_⟩
    have s1 : Same H (upd H p (.tup [.ty "list", .ty "tuple"])) := same_upd np
    refine ⟨.non, p, _, .type "NoneType", [.type "list", .type "tuple"], false, rfl, upd_same, .cons (.ty _) (.cons (.ty _) .nil), .base .non, kit2 (by decide +kernel) (by decide +kernel), _, rfl, iteF ?_⟩
    refine ⟨_, rfl, rfl, _, rfl, iteT ?_⟩
    exact ⟨_, rfl, rfl, q _ s1⟩
  · cases h1
    cases h2
    refine ⟨_, rfl, (by show 2 ≤ sizeLine; decide), fun p np => ?_⟩
    have s1 : Same H (upd H p (.tup [.ty "list", .ty "tuple"])) := same_upd np
    refine ⟨.bl b, p, _, .type "bool", [.type "list", .type "tuple"], false, rfl, upd_same, .cons (.ty _) (.cons (.ty _) .nil), .base (.bl b), kit2 (by decide +kernel) (by decide +kernel), _, rfl, iteF ?_⟩
    refine ⟨_, rfl, rfl, _, rfl, iteF ?_⟩
    refine ⟨_, rfl, _, _, .type "bool", .type "bool", true, rfl, .ty _, .base (.bl b), kit_ty (by decide +kernel), _, rfl, iteT ?_⟩
    refine ⟨_, rfl, _, _, .type "bool", .type "bool", true, rfl, .ty _, .base (.bl b), kit_ty (by decide +kernel), _, rfl, iteT ?_⟩
    refine ⟨_, rfl, _, rfl, by cases b <;> rfl, ?_⟩
    rw [deq]
    exact q _ s1
  · cases h1
    cases h2
    refine ⟨_, rfl, (by show 2 ≤ sizeLine; decide), fun p np => ?_⟩
    have s1 : Same H (upd H p (.tup [.ty "list", .ty "tuple"])) := same_upd np
    refine ⟨.int i, p, _, .type "int", [.type "list", .type "tuple"], false, rfl, upd_same, .cons (.ty _) (.cons (.ty _) .nil), .base (.int i), kit2 (by decide +kernel) (by decide +kernel), _, rfl, iteF ?_⟩
    refine ⟨_, rfl, rfl, _, rfl, iteF ?_⟩
    refine ⟨_, rfl, _, _, .type "int", .type "bool", false, rfl, .ty _, .base (.int i), kit_ty (by decide +kernel), _, rfl, iteF ?_⟩
    refine ⟨_, rfl, _, _, .type "int", .type "str", false, rfl, .ty _, .base (.int i), kit_ty (by decide +kernel), _, rfl, iteF ?_⟩
    refine ⟨_, rfl, _, _, .type "int", .type "int", true, rfl, .ty _, .base (.int i), kit_ty (by decide +kernel), _, rfl, iteT ?_⟩
    refine ⟨_, rfl, _, _, .type "int", .type "bool", false, rfl, .ty _, .base (.int i), kit_ty (by decide +kernel), _, rfl, _, rfl, iteT ?_⟩
    refine ⟨_, rfl, _, rfl, rfl, ?_⟩
    rw [deq]
    exact q _ s1
  · cases h1
    cases h2
    refine ⟨_, rfl, (by show 2 ≤ sizeLine; decide), fun p np => ?_⟩
    have s1 : Same H (upd H p (.tup [.ty "list", .ty "tuple"])) := same_upd np
    refine ⟨.str x, p, _, .type "str", [.type "list", .type "tuple"], false, rfl, upd_same, .cons (.ty _) (.cons (.ty _) .nil), .base (.str x), kit2 (by decide +kernel) (by decide +kernel), _, rfl, iteF ?_⟩
    refine ⟨_, rfl, rfl, _, rfl, iteF ?_⟩
    refine ⟨_, rfl, _, _, .type "str", .type "bool", false, rfl, .ty _, .base (.str x), kit_ty (by decide +kernel), _, rfl, iteF ?_⟩
    refine ⟨_, rfl, _, _, .type "str", .type "str", true, rfl, .ty _, .base (.str x), kit_ty (by decide +kernel), _, rfl, iteT ?_⟩
    refine ⟨_, rfl, _, _, .type "str", .type "str", true, rfl, .ty _, .base (.str x), kit_ty (by decide +kernel), _, rfl, iteT ?_⟩
    refine ⟨_, rfl, _, rfl, rfl, ?_⟩
    rw [deq]
    exact q _ s1
theorem ok_same0 {f : Addr} {fd : FuncData} {k : Nat} (F : Fun K "_law_same" "_law_same" sSame f fd) (mi : mg "isinstance" = none) (ml : mg "list" = none) (mt : mg "tuple" = none) (mb : mg "bool" = none) (ms : mg "str" = none) (mn : mg "int" = none) :
    FnOk P w K mg base CX0 (k + 1) f fd ["_law_found", "_law_due"] (spSame 0) := by
  refine F.ok scSame (fun vs H Q E h => ?_) (fun cdv A outer s H vs Q E hr h => ?_)
  · obtain ⟨v, u, d, rfl, _⟩ := h
    rfl
  · obtain ⟨v, u, d, rfl, h1, h2, hd, q⟩ := h
    exact same_flat mi ml mt mb ms mn h1 h2 hd.flat q
theorem ok_sameS {f : Addr} {fd : FuncData} {n k : Nat} (F : Fun K "_law_same" "_law_same" sSame f fd) (C : Cal P w K mg base k "_law_same" ["_law_found", "_law_due"] (spSame n)) (mi : mg "isinstance" = none) (ml : mg "list" = none) (mt : mg "tuple" = none) (mb : mg "bool" = none) (ms : mg "str" = none) (mn : mg "int" = none) (me : mg "len" = none) (ma : mg "all" = none) (mz : mg "zip" = none) :
    FnOk P w K mg base CX0 (k + 1) f fd ["_law_found", "_law_due"] (spSame (n + 1)) := by
  refine F.ok scSame (fun vs H Q E h => ?_) (fun cdv A outer s H vs Q E hr h => ?_)
  · obtain ⟨v, u, d, rfl, _⟩ := h
    rfl
  · obtain ⟨v, u, d, rfl, h1, h2, hd, q⟩ := h
    rcases hd.cases with hf | ⟨ds, rfl, hl, hall⟩ | ⟨ds, rfl, hl, hall⟩
    · exact same_flat mi ml mt mb ms mn h1 h2 hf q
    · refine ⟨_, pss_cons (ps_if (pt_val (pe_callB call_isiT (by rfl) mi (by decide +kernel) (pa_cons (pv 1) (pa_cons (pe_tup (pa_cons (pe_bltn (v := .ty "list") (by rfl) ml (by decide +kernel) rfl) (pa_cons (pe_bltn (v := .ty "tuple") (by rfl) mt (by decide +kernel) rfl) pa_nil))) pa_nil))))
        (pss_cons (ps_if (PW.pt (pw_or (pt_cmpR op_ne (pe_callB call_isi (by rfl) mi (by decide +kernel) (pa_cons (pv 0) (pa_cons (pe_bltn (v := .ty "list") (by rfl) ml (by decide +kernel) rfl) pa_nil))) (pe_callB call_isi (by rfl) mi (by decide +kernel) (pa_cons (pv 1) (pa_cons (pe_bltn (v := .ty "list") (by rfl) ml (by decide +kernel) rfl) pa_nil))) (nomark _))
            (pw_or1 (pt_cmpR op_ne (pe_callB call_isi (by rfl) mi (by decide +kernel) (pa_cons (pv 0) (pa_cons (pe_bltn (v := .ty "tuple") (by rfl) mt (by decide +kernel) rfl) pa_nil))) (pe_callB call_isi (by rfl) mi (by decide +kernel) (pa_cons (pv 1) (pa_cons (pe_bltn (v := .ty "tuple") (by rfl) mt (by decide +kernel) rfl) pa_nil))) (nomark _))))) (pss_one (ps_ret pe_bl)) pss_nil)
        (pss_one (ps_ret (pe_and (pe_cmpR op_eq (pe_callB call_len_seq (by rfl) me PySem.boot_len (pa_cons (pv 0) pa_nil)) (pe_callB call_len_seq (by rfl) me PySem.boot_len (pa_cons (pv 1) pa_nil)) (nomark _))
          (pe_one (pe_callB (cr_all rfl) (by rfl) ma (by decide +kernel) (pa_cons (pe_lc (own := [("_law_one", 2), ("_law_other", 3)]) (g := gTup K 2 (gCons (gName 2) (gCons (gName 3) gNil))) (tt := tYes) (te := tCall (spSame n) [] E0 (tCons (tVar 2) (tCons (tVar 3) tNil))) rfl scSame.nd (RZ.pi_zipA (by rfl) mz (pa_cons (pv 0) (pa_cons (pv 1) pa_nil)))
            (blkOk_by (own := [("_law_one", 2), ("_law_other", 3)]) (N := ["_law_found", "_law_due", "_law_one", "_law_other"]) (sc := defScope sSame) (by decide +kernel)) (fun _ _ _ _ _ => pg_tup rfl (pgs_cons (pg_name (i := 2) scSame.nd rfl (.inl rfl)) (pgs_cons (pg_name (i := 3) scSame.nd rfl (.inl rfl)) pgs_nil))) (fun _ _ _ _ _ => pts_nil)
            (fun _ _ _ _ _ => pe_own C hr (by rfl) (pa_cons (pv 2) (pa_cons (pv 3) pa_nil)))) pa_nil))))))) pss_nil) pss_never, ?_⟩
      cases h1 with | lst ea la da => ?_
      cases h2 with | lst eb lb db => ?_
      rename_i a xs b ys
      refine ⟨_, rfl, (by show 2 ≤ sizeLine; decide), fun p np => ?_⟩
      have s1 : Same H (upd H p (.tup [.ty "list", .ty "tuple"])) := same_upd np
      have ea1 := s1 _ _ ea
      have eb1 := s1 _ _ eb
      have ep1 : upd H p (.tup [.ty "list", .ty "tuple"]) p = some (.tup [.ty "list", .ty "tuple"]) := upd_same
      revert s1 ea1 eb1 ep1
      generalize upd H p (.tup [.ty "list", .ty "tuple"]) = H1
      intro s1 ea1 eb1 ep1
      have deq : ∀ x : V, (decide (x = x)) = true := fun x => decide_eq_true rfl
      refine ⟨.ref b, p, _, .type "list", [.type "list", .type "tuple"], true, rfl, ep1, .cons (.ty _) (.cons (.ty _) .nil), .base (.lst eb1), kit2L, _, rfl, iteT ?_⟩
      refine ⟨_, rfl, _, _, .type "list", .type "list", true, rfl, .ty _, .base (.lst ea1), kit_ty (by decide +kernel), _, rfl, _, _, .type "list", .type "list", true, rfl, .ty _, .base (.lst eb1), kit_ty (by decide +kernel), rfl, false, congrArg V.bl (by rw [deq]; rfl), iteF ?_⟩
      refine ⟨_, rfl, _, _, .type "list", .type "tuple", false, rfl, .ty _, .base (.lst ea1), kit_ty (by decide +kernel), _, rfl, _, _, .type "list", .type "tuple", false, rfl, .ty _, .base (.lst eb1), kit_ty (by decide +kernel), rfl, false, congrArg V.bl (by rw [deq]; rfl), iteF ?_⟩
      refine ⟨_, rfl, a, xs, rfl, Sq.list ea1, _, rfl, b, ys, rfl, Sq.list eb1, rfl, true, congrArg V.bl (decide_eq_true (by rw [la, lb])), iteT ?_⟩
      refine ⟨_, rfl, _, rfl, a, b, xs, ys, rfl, .inl ⟨SqL.of ea1, SqL.of eb1, fun D nD => lc_it (walk_zip (K := K) (a := a) (b := b) (xs := xs) (ys := ys) (n := ds.length) (by rw [la, lb, Nat.min_self])) (fun j H' => Same H1 H' ∧ H' D = some (.lst ((List.replicate j true).map V.bl))) ⟨same_upd nD, upd_same⟩
        (fun j H' _ hP => ⟨SqL.of (hP.1 _ _ ea1), SqL.of (hP.1 _ _ eb1)⟩) (fun j x H' H'' hj hP hy => ?_) (fun H3 hP => ?_)⟩⟩
      · obtain ⟨sm', eD⟩ := hP
        obtain ⟨T, x1, x2, rfl, nT, rfl, f1, f2⟩ := hy
        have st := same_upd (o := .tup [x1, x2]) nT
        have hdj : ds[j]? = some ds[j] := List.getElem?_eq_getElem hj
        have S := (s1.trans sm').trans st
        refine ⟨T, _, rfl, .inl (.inl upd_same), rfl, _, _, rfl, _, _, rfl, rfl, rfl, ?_⟩
        refine ⟨_, rfl, _, rfl, x1, x2, ds[j], rfl, (da j x1 _ f1 hdj).same S, (db j x2 _ f2 hdj).same S, hall _ (List.getElem_mem hj), fun H4 s4 => ?_⟩
        refine ⟨_, s4 _ _ (st _ _ eD), small1000 (by rw [List.length_map, List.length_replicate]; omega), fun c o e => ?_, ?_⟩
        · rw [upd_ne (ne_of_none e nD)]
          exact s4 _ _ (st _ _ (sm' c o e))
        · rw [upd_same, List.replicate_succ', List.map_append]
          rfl
      · obtain ⟨sm', eD⟩ := hP
        refine ⟨D, List.replicate ds.length true, rfl, SqL.of eD, ?_⟩
        rw [all_true]
        exact q _ (s1.trans sm')
    · refine ⟨_, pss_cons (ps_if (pt_val (pe_callB call_isiT (by rfl) mi (by decide +kernel) (pa_cons (pv 1) (pa_cons (pe_tup (pa_cons (pe_bltn (v := .ty "list") (by rfl) ml (by decide +kernel) rfl) (pa_cons (pe_bltn (v := .ty "tuple") (by rfl) mt (by decide +kernel) rfl) pa_nil))) pa_nil))))
        (pss_cons (ps_if (PW.pt (pw_or (pt_cmpR op_ne (pe_callB call_isi (by rfl) mi (by decide +kernel) (pa_cons (pv 0) (pa_cons (pe_bltn (v := .ty "list") (by rfl) ml (by decide +kernel) rfl) pa_nil))) (pe_callB call_isi (by rfl) mi (by decide +kernel) (pa_cons (pv 1) (pa_cons (pe_bltn (v := .ty "list") (by rfl) ml (by decide +kernel) rfl) pa_nil))) (nomark _))
            (pw_or1 (pt_cmpR op_ne (pe_callB call_isi (by rfl) mi (by decide +kernel) (pa_cons (pv 0) (pa_cons (pe_bltn (v := .ty "tuple") (by rfl) mt (by decide +kernel) rfl) pa_nil))) (pe_callB call_isi (by rfl) mi (by decide +kernel) (pa_cons (pv 1) (pa_cons (pe_bltn (v := .ty "tuple") (by rfl) mt (by decide +kernel) rfl) pa_nil))) (nomark _))))) (pss_one (ps_ret pe_bl)) pss_nil)
        (pss_one (ps_ret (pe_and (pe_cmpR op_eq (pe_callB call_len_seq (by rfl) me PySem.boot_len (pa_cons (pv 0) pa_nil)) (pe_callB call_len_seq (by rfl) me PySem.boot_len (pa_cons (pv 1) pa_nil)) (nomark _))
          (pe_one (pe_callB (cr_all rfl) (by rfl) ma (by decide +kernel) (pa_cons (pe_lc (own := [("_law_one", 2), ("_law_other", 3)]) (g := gTup K 2 (gCons (gName 2) (gCons (gName 3) gNil))) (tt := tYes) (te := tCall (spSame n) [] E0 (tCons (tVar 2) (tCons (tVar 3) tNil))) rfl scSame.nd (RZ.pi_zipA (by rfl) mz (pa_cons (pv 0) (pa_cons (pv 1) pa_nil)))
            (blkOk_by (own := [("_law_one", 2), ("_law_other", 3)]) (N := ["_law_found", "_law_due", "_law_one", "_law_other"]) (sc := defScope sSame) (by decide +kernel)) (fun _ _ _ _ _ => pg_tup rfl (pgs_cons (pg_name (i := 2) scSame.nd rfl (.inl rfl)) (pgs_cons (pg_name (i := 3) scSame.nd rfl (.inl rfl)) pgs_nil))) (fun _ _ _ _ _ => pts_nil)
            (fun _ _ _ _ _ => pe_own C hr (by rfl) (pa_cons (pv 2) (pa_cons (pv 3) pa_nil)))) pa_nil))))))) pss_nil) pss_never, ?_⟩
      cases h1 with | tup ea la da => ?_
      cases h2 with | tup eb lb db => ?_
      rename_i a xs b ys
      refine ⟨_, rfl, (by show 2 ≤ sizeLine; decide), fun p np => ?_⟩
      have s1 : Same H (upd H p (.tup [.ty "list", .ty "tuple"])) := same_upd np
      have ea1 := s1 _ _ ea
      have eb1 := s1 _ _ eb
      have ep1 : upd H p (.tup [.ty "list", .ty "tuple"]) p = some (.tup [.ty "list", .ty "tuple"]) := upd_same
      revert s1 ea1 eb1 ep1
      generalize upd H p (.tup [.ty "list", .ty "tuple"]) = H1
      intro s1 ea1 eb1 ep1
      have deq : ∀ x : V, (decide (x = x)) = true := fun x => decide_eq_true rfl
      refine ⟨.ref b, p, _, .type "tuple", [.type "list", .type "tuple"], true, rfl, ep1, .cons (.ty _) (.cons (.ty _) .nil), .base (.tup eb1), kit2T, _, rfl, iteT ?_⟩
      refine ⟨_, rfl, _, _, .type "tuple", .type "list", false, rfl, .ty _, .base (.tup ea1), kit_ty (by decide +kernel), _, rfl, _, _, .type "tuple", .type "list", false, rfl, .ty _, .base (.tup eb1), kit_ty (by decide +kernel), rfl, false, congrArg V.bl (by rw [deq]; rfl), iteF ?_⟩
      refine ⟨_, rfl, _, _, .type "tuple", .type "tuple", true, rfl, .ty _, .base (.tup ea1), kit_ty (by decide +kernel), _, rfl, _, _, .type "tuple", .type "tuple", true, rfl, .ty _, .base (.tup eb1), kit_ty (by decide +kernel), rfl, false, congrArg V.bl (by rw [deq]; rfl), iteF ?_⟩
      refine ⟨_, rfl, a, xs, rfl, Sq.tup ea1, _, rfl, b, ys, rfl, Sq.tup eb1, rfl, true, congrArg V.bl (decide_eq_true (by rw [la, lb])), iteT ?_⟩
      refine ⟨_, rfl, _, rfl, a, b, xs, ys, rfl, .inr ⟨.inl (.inl ea1), .inl (.inl eb1), fun D nD => lc_it (walk_zipTs (K := K) (a := a) (b := b) (xs := xs) (ys := ys) (n := ds.length) la lb) (fun j H' => Same H1 H' ∧ H' D = some (.lst ((List.replicate j true).map V.bl))) ⟨same_upd nD, upd_same⟩
        (fun j H' _ hP => ⟨.inl (.inl (hP.1 _ _ ea1)), .inl (.inl (hP.1 _ _ eb1))⟩) (fun j x H' H'' hj hP hy => ?_) (fun H3 hP => ?_)⟩⟩
      · obtain ⟨sm', eD⟩ := hP
        obtain ⟨T, x1, x2, rfl, nT, rfl, f1, f2⟩ := hy
        have st := same_upd (o := .tup [x1, x2]) nT
        have hdj : ds[j]? = some ds[j] := List.getElem?_eq_getElem hj
        have S := (s1.trans sm').trans st
        refine ⟨T, _, rfl, .inl (.inl upd_same), rfl, _, _, rfl, _, _, rfl, rfl, rfl, ?_⟩
        refine ⟨_, rfl, _, rfl, x1, x2, ds[j], rfl, (da j x1 _ f1 hdj).same S, (db j x2 _ f2 hdj).same S, hall _ (List.getElem_mem hj), fun H4 s4 => ?_⟩
        refine ⟨_, s4 _ _ (st _ _ eD), small1000 (by rw [List.length_map, List.length_replicate]; omega), fun c o e => ?_, ?_⟩
        · rw [upd_ne (ne_of_none e nD)]
          exact s4 _ _ (st _ _ (sm' c o e))
        · rw [upd_same, List.replicate_succ', List.map_append]
          rfl
      · obtain ⟨sm', eD⟩ := hP
        refine ⟨D, List.replicate ds.length true, rfl, SqL.of eD, ?_⟩
        rw [all_true]
        exact q _ (s1.trans sm')
end

theorem Kp.free {H H' : Hp} {d c l : Addr} {t' : Int} (k : Kp d c H H') (S' : StAt H' d c t') (n : H' l = none) : H l = none := by
  cases e : H l with
  | none => rfl
  | some o =>
    obtain ⟨cs1, ec1, _⟩ := S'.cells
    have z := k l o (ne_of_none S'.dict n).symm (ne_of_none ec1 n).symm e
    rw [n] at z
    cases z
theorem StAt.off {H : Hp} {d c l : Addr} {t : Int} (S : StAt H d c t) (n : H l = none) : l ≠ d ∧ l ≠ c := by
  obtain ⟨cs1, ec1, _⟩ := S.cells
  exact ⟨(ne_of_none S.dict n).symm, (ne_of_none ec1 n).symm⟩
theorem LsA.kp {H H' : Hp} {d c a : Addr} {t : Int} {ps : List (Int × Int)} (h : LsA H a ps) (S : StAt H d c t) (k : Kp d c H H') (n : a ≠ d ∧ a ≠ c) : LsA H' a ps := let ⟨us, e, p⟩ := h; ⟨us, k _ _ n.1 n.2 e, p.kp S k⟩
/-- rising numbers from 0 to 39 -/
structure Nums (ns : List Int) : Prop where
  up : ns.Pairwise (· < ·)
  bd : ∀ n ∈ ns, 0 ≤ n ∧ n < 40
  len : ns.length ≤ 40
abbrev sNums : Stmt := topS 14
theorem scNums : FnScope ["_law_state", "_law_found", "_law_there", "_law_often", "_law_number"] ["_law_state"] (defScope sNums) := ⟨rfl, rfl, rfl, by decide +kernel, rfl, by decide +kernel, by decide +kernel⟩
def spNums : Sp := fun vs H Q _ => ∃ (d c : Addr) (t : Int), vs = [.ref d] ∧ StAt H d c t ∧ t + 100 < 2 ^ 60 ∧
  ∀ (l : Addr) (ns : List Int) (t' : Int) H', H l = none → H' l = some (.lst (ns.map V.int)) → Nums ns → t ≤ t' → t' ≤ t + 50 → StAt H' d c t' → Kp d c H H' → Q (.ref l) H'
section
variable {K : PySem.W.Frag} {mg : Str → Option Value} {P : Program} {w : World} {base : Heap}
theorem ok_nums {f : Addr} {fd : FuncData} (F : Fun K "_law_numbers" "_law_numbers" sNums f fd) (CT : Cal P w K mg base 1 "_law_take" ["_law_state", "_law_many"] spTake) (mr : mg "range" = none) : FnOk P w K mg base CX0 2 f fd ["_law_state"] spNums := by
  refine F.ok scNums (fun vs H Q E h => ?_) (fun cdv A outer s H vs Q E hr h => ?_)
  · obtain ⟨d, c, t, rfl, _⟩ := h
    rfl
  · obtain ⟨d, c, t, rfl, hS, ht, q⟩ := h
    refine ⟨_, pss_cons (ps_par3 rfl scNums.nd (i := 1) (j := 2) (l := 3) rfl rfl rfl (by decide) (by decide) (by decide) rfl rfl rfl (pa_cons (pe_lst pa_nil) (pa_cons pe_bl (pa_cons (pe_op op_add pe_int (pe_own CT hr (by rfl) (pa_cons (pv 0) (pa_cons pe_int pa_nil)))) pa_nil))) (by rfl))
      (pss_cons (ps_for PassesOwn.never rfl (pi_range1 rfl mr (pa_cons pe_int pa_nil)) (pg_name (i := 4) scNums.nd rfl (.inl rfl))
        (Evl.pss_cut (ps_if (pt_cmpR op_eq (pe_own CT hr (by rfl) (pa_cons (pv 0) (pa_cons (pv 3) pa_nil))) pe_int (nomark _)) (pss_one (ps_set (i := 2) scNums.nd rfl (.inl rfl) (pe_not (pv 2)))) pss_nil)
        (pss_one (ps_if (pt_val (pv 2)) (pss_one (ps_expr (pe_bm PySem.F.plainAttrs_list PySem.F.slot_list_append PySem.F.type_list_append mt_append (pv 1) (pa_cons (pv 4) pa_nil)))) pss_nil))))
      (pss_one (ps_ret (pv 1)))), ?_⟩
    refine ⟨Nat.zero_le _, fun l nl => ?_⟩
    have sl := same_upd (o := .lst []) nl
    have offl := hS.off nl
    refine ⟨_, rfl, d, c, t, 4, rfl, hS.same sl, by omega, by decide, by decide, fun of H1 of0 of1 hS1 k1 => ⟨1, of, rfl, rfl, _, _, _, rfl, ?_⟩⟩
    have el1 := k1 l _ offl.1 offl.2 (upd_same (H := H) (a := l) (o := .lst []))
    have k1' : Kp d c H H1 := (Kp.same d c sl).trans k1
    refine ⟨40, rfl, by decide, by decide, for_range (n := 40) (fun i σ Hx => ∃ (b : Bool) (ns : List Int) (t' : Int) (y4 : Option V), σ = [some (.ref d), some (.ref l), some (.bl b), some (.int (1 + of)), y4] ∧ Hx l = some (.lst (ns.map V.int)) ∧ ns.Pairwise (· < ·) ∧ (∀ n ∈ ns, 0 ≤ n ∧ n < i) ∧ ns.length ≤ i ∧ t ≤ t' ∧ t' ≤ t + 1 + i ∧ StAt Hx d c t' ∧ Kp d c H Hx)
      ⟨false, [], t + 1, none, rfl, el1, .nil, (fun _ h => nomatch h), Nat.le_refl _, by omega, by omega, hS1, k1'⟩ (fun i σ Hx hi hP => ?_) (fun σ Hx hP => ?_)⟩
    · obtain ⟨b, ns, t', y4, rfl, el, hup, hbd, hln, t1, t2, hSx, kx⟩ := hP
      refine ⟨fun σ H2 => ∃ b2 : Bool, σ = [some (.ref d), some (.ref l), some (.bl b2), some (.int (1 + of)), some (.int (0 + (i : Int)))] ∧ H2 l = some (.lst (ns.map V.int)) ∧ StAt H2 d c (t' + 1) ∧ Kp d c H H2, ?_, fun σ H2 hM => ?_⟩
      · refine ⟨_, rfl, _, rfl, d, c, t', 1 + of, rfl, hSx, by omega, by omega, by omega, fun r H2 r0 r1 hS2 k2 => ?_⟩
        have el2 := k2 l _ offl.1 offl.2 el
        refine ⟨rfl, _, rfl, ite2 (fun _ => ?_) (fun _ => ⟨b, rfl, el2, hS2, kx.trans k2⟩)⟩
        exact ⟨_, rfl, b, rfl, !b, rfl, el2, hS2, kx.trans k2⟩
      · obtain ⟨b2, rfl, el2, hS2, k2⟩ := hM
        have ei : ((i + 1 : Nat) : Int) = (i : Int) + 1 := by omega
        refine ⟨_, rfl, b2, rfl, ite2 (fun _ => ?_) (fun _ => ⟨b2, ns, t' + 1, _, rfl, el2, hup, fun n hn => by have := hbd n hn; omega, by omega, by omega, by omega, hS2, k2⟩)⟩
        refine ⟨_, rfl, .inl ⟨rfl, _, SqL.of el2⟩, _, rfl, l, _, _, rfl, rfl, el2, small1000 (by rw [List.length_map]; omega), b2, ns ++ [0 + (i : Int)], t' + 1, _, rfl, by rw [upd_same, List.map_append]; rfl, ?_, fun n hn => ?_, by rw [List.length_append]; exact Nat.add_le_add_right hln 1, by omega, by omega, hS2.upd offl.1 offl.2, fun b o b1 b2 e => ?_⟩
        · rw [List.pairwise_append]
          refine ⟨hup, List.pairwise_singleton _ _, fun x hx y hy => ?_⟩
          rw [List.mem_singleton.mp hy]
          have := hbd x hx
          omega
        · rcases List.mem_append.mp hn with z | z
          · have := hbd n z
            omega
          · rw [List.mem_singleton.mp z]
            omega
        · rw [upd_ne (ne_of_none e nl)]
          exact k2 b o b1 b2 e
    · obtain ⟨b, ns, t', y4, rfl, el, hup, hbd, hln, t1, t2, hSx, kx⟩ := hP
      exact ⟨_, rfl, q l ns t' Hx nl el ⟨hup, fun n hn => hbd n hn, hln⟩ t1 (by omega) hSx kx⟩
end
/-! ### the set of listed numbers -/
def oneP (n : Int) : Int × Int := (n, n)
theorem inS_ones {ns : List Int} {n : Int} : InS (ns.map oneP) n ↔ n ∈ ns := by
  constructor
  · rintro ⟨p, hp, e1, e2⟩
    obtain ⟨m, hm, rfl⟩ := List.mem_map.mp hp
    have z1 : m ≤ n := e1
    have z2 : n ≤ m := e2
    have : n = m := by omega
    rw [this]
    exact hm
  · exact fun h => ⟨oneP n, List.mem_map.mpr ⟨n, h, rfl⟩, Int.le_refl _, Int.le_refl _⟩
abbrev sLSet : Stmt := topS 15
theorem scLSet : FnScope ["_law_numbers_here", "_law_found", "_law_number"] ["_law_numbers_here"] (defScope sLSet) := ⟨rfl, rfl, rfl, by decide +kernel, rfl, by decide +kernel, by decide +kernel⟩
def spLSet : Sp := fun vs H Q _ => ∃ (l : Addr) (ns : List Int), vs = [.ref l] ∧ H l = some (.lst (ns.map V.int)) ∧ Nums ns ∧ TellS (fun n => n ∈ ns) 40 H Q
section
variable {K : PySem.W.Frag} {mg : Str → Option Value} {P : Program} {w : World} {base : Heap}
theorem ok_lset {f : Addr} {fd : FuncData} {k : Nat} (F : Fun K "_law_set_of" "_law_set_of" sLSet f fd) : FnOk P w K mg base CX0 (k + 1) f fd ["_law_numbers_here"] spLSet := by
  refine F.ok scLSet (fun vs H Q E h => ?_) (fun cdv A outer s H vs Q E hr h => ?_)
  · obtain ⟨l, ns, rfl, _⟩ := h
    rfl
  · obtain ⟨l, ns, rfl, el, hN, q⟩ := h
    refine ⟨_, pss_cons (ps_set (i := 1) scLSet.nd rfl (.inl rfl) (pe_lst pa_nil))
      (pss_cons (ps_for PassesOwn.never rfl (pi_list (pv 0)) (pg_name (i := 2) scLSet.nd rfl (.inl rfl))
        (pss_one (ps_if (PW.pt (pw_and (pt_cmpR (op_neD hr.units) (pv 1) (pe_lst pa_nil) (nomark _)) (pw_and1 (pt_cmpR op_eq (pe_ix ix_tup (pe_ix ix_list (pv 1) (pe_un un_neg pe_int) (fun _ _ => rfl)) pe_int (fun _ _ => rfl)) (pe_op op_sub (pv 2) pe_int) (nomark _)))))
          (pss_one (ps_asg (pe_tup (pa_cons (pe_ix ix_tup (pe_ix ix_list (pv 1) (pe_un un_neg pe_int) (fun _ _ => rfl)) pe_int (fun _ _ => rfl)) (pa_cons (pv 2) pa_nil))) (pg_sub (pv 1) (pe_un un_neg pe_int) set_list)))
          (pss_one (ps_expr (pe_bm PySem.F.plainAttrs_list PySem.F.slot_list_append PySem.F.type_list_append mt_append (pv 1) (pa_cons (pe_tup (pa_cons (pv 2) (pa_cons (pv 2) pa_nil))) pa_nil)))))))
      (pss_one (ps_ret (pv 1)))), ?_⟩
    refine ⟨Nat.zero_le _, fun g ng => ?_⟩
    have s0 := same_upd (o := .lst []) ng
    refine ⟨_, rfl, l, rfl, ⟨_, SqL.of (s0 _ _ el)⟩, for_list (xs := ns.map V.int) (fun i σ H1 => ∃ (ms : List V) (rs : List (Int × Int)) (y2 : Option V), σ = [some (.ref l), some (.ref g), y2] ∧ Same H H1 ∧ H1 g = some (.lst ms) ∧ Prs H1 ms rs ∧ Mrg ((ns.take i).map oneP) rs)
      ⟨[], [], none, rfl, s0, upd_same, Prs.nil, Mrg.nil⟩ (fun i σ H1 _ hP => ?_) (fun i x σ H1 hx hP => ?_) (fun σ H1 hP => ?_)⟩
    · obtain ⟨_, _, _, rfl, sm, _⟩ := hP
      exact SqL.of (sm _ _ el)
    · obtain ⟨ms, rs, y2, rfl, sm, eg, hms, m⟩ := hP
      obtain ⟨n, en, rfl⟩ : ∃ n, ns[i]? = some n ∧ x = .int n := by
        rw [List.getElem?_map] at hx
        cases h : ns[i]? with
        | none => rw [h] at hx; cases hx
        | some n => rw [h] at hx; exact ⟨n, rfl, (Option.some.inj hx).symm⟩
      have hi : i < ns.length := (List.getElem?_eq_some_iff.mp en).1
      have etake : (ns.take (i + 1)).map oneP = (ns.take i).map oneP ++ [oneP n] := by rw [List.take_add_one, en, List.map_append]; rfl
      have below : ∀ k ∈ ns.take i, k < n := fun k hk => by
        obtain ⟨j, hj, e⟩ := List.getElem_of_mem hk
        rw [List.length_take] at hj
        rw [List.getElem_take] at e
        obtain ⟨_, e2⟩ := List.getElem?_eq_some_iff.mp en
        rw [← e, ← e2]
        exact List.pairwise_iff_getElem.mp hN.up j i (by omega) hi (by omega)
      have ord : ∀ q ∈ (ns.take i).map oneP, q.1 ≤ (oneP n).1 := fun q hq => by
        obtain ⟨k, hk, rfl⟩ := List.mem_map.mp hq
        exact Int.le_of_lt (below k hk)
      have tops : ∀ r ∈ rs, r.2 < n := fun r hr' => by
        obtain ⟨lo, hR⟩ := m.ris
        have hz := hR.le r hr'
        have : InS ((ns.take i).map oneP) r.2 := (m.same r.2).mp ⟨r, hr', hz.2, Int.le_refl _⟩
        exact below _ (inS_ones.mp this)
      have hmsl : ms.length ≤ 40 := by
        have := m.len
        rw [List.length_map, List.length_take] at this
        have := hN.len
        rw [hms.1]
        omega
      -- what a new tuple and a change of found leave
      have grow : ∀ (T2 : Addr) (p2 : Int × Int) (H2 : Hp) (ms2 : List V) (rs2 : List (Int × Int)), Same H1 H2 → H2 T2 = none → Prs (upd H2 T2 (.tup [.int p2.1, .int p2.2])) ms2 rs2 →
          Same H (upd (upd H2 T2 (.tup [.int p2.1, .int p2.2])) g (.lst ms2)) ∧ upd (upd H2 T2 (.tup [.int p2.1, .int p2.2])) g (.lst ms2) g = some (.lst ms2) ∧ Prs (upd (upd H2 T2 (.tup [.int p2.1, .int p2.2])) g (.lst ms2)) ms2 rs2 := by
        intro T2 p2 H2 ms2 rs2 s2 n2 h2
        have st := same_upd (o := .tup [.int p2.1, .int p2.2]) n2
        refine ⟨fun b o e => ?_, upd_same, h2.upd_lst (st _ _ (s2 _ _ eg))⟩
        rw [upd_ne (ne_of_none e ng)]
        exact st _ _ (s2 _ _ (sm _ _ e))
      -- append
      have app : ∀ H2, Same H1 H2 → (∀ r ∈ rs, r.2 + 2 ≤ n) → (tDrop (tBM K "list" rAppend (tVar 1) (tCons (tTup (tCons (tVar 2) (tCons (tVar 2) tNil))) tNil))) { nx := fun σ H1 => ∃ (ms : List V) (rs : List (Int × Int)) (y2 : Option V), σ = [some (.ref l), some (.ref g), y2] ∧ Same H H1 ∧ H1 g = some (.lst ms) ∧ Prs H1 ms rs ∧ Mrg ((ns.take (i + 1)).map oneP) rs, rt := fun _ _ => False } [some (.ref l), some (.ref g), some (.int n)] H2 := by
        intro H2 s2 far
        refine ⟨_, rfl, .inl ⟨rfl, _, SqL.of (s2 _ _ eg)⟩, _, rfl, _, rfl, (by show 2 ≤ sizeLine; decide), fun T2 n2 => ?_⟩
        have st := same_upd (o := .tup [.int n, .int n]) n2
        refine ⟨g, _, _, rfl, rfl, st _ _ (s2 _ _ eg), small1000 (by omega), ?_⟩
        obtain ⟨g1, g2, g3⟩ := grow T2 (n, n) H2 (ms ++ [.ref T2]) (rs ++ [(n, n)]) s2 n2 (((hms.same s2).same st).snoc upd_same)
        exact ⟨_, _, _, rfl, g1, g2, g3, by rw [etake]; exact m.new (p := oneP n) (Int.le_refl _) ord far⟩
      refine ⟨_, rfl, Nat.zero_le _, fun z nz => ?_⟩
      have sz := same_upd (o := .lst []) nz
      refine ⟨_, _, .lst (SqL.of (sz _ _ eg)) (dp_prs (hms.same sz)), .lst (SqL.of upd_same) .nil, shaped_prs rs, shaped_ints [], ?_⟩
      rw [eqv_pr_nil]
      revert sz
      generalize upd H1 z (.lst []) = H2
      intro s2
      rcases snoc_cases rs with e0 | ⟨rs', ⟨lo, hi'⟩, e0⟩
      · subst e0
        refine ⟨_, rfl, iteF (iteF ?_)⟩
        exact app H2 s2 (fun _ z => nomatch z)
      · subst e0
        obtain ⟨ms', T0, rfl, eT0, hms'⟩ := hms.last
        refine ⟨true, by simp, iteT ?_⟩
        have eT2 := s2 _ _ eT0
        refine ⟨_, rfl, 1, rfl, g, _, -1, .ref T0, rfl, rfl, SqL.of (s2 _ _ eg), atI_last _ _, T0, _, 1, .int hi', rfl, rfl, .inl (.inl eT2), atI_nat (j := 1) rfl, _, rfl, n, 1, rfl, rfl, rfl, _, rfl, ite2 (fun c => ?_) (fun c => ?_)⟩
        · have c' : hi' = n - 1 := by
            have := of_decide_eq_true c
            exact V.int.inj this
          refine ⟨_, rfl, 1, rfl, g, _, -1, .ref T0, rfl, rfl, SqL.of (s2 _ _ eg), atI_last _ _, T0, _, 0, .int lo, rfl, rfl, .inl (.inl eT2), atI_nat (j := 0) rfl, _, rfl, (by show 2 ≤ sizeLine; decide), fun T2 n2 => ?_⟩
          have st := same_upd (o := .tup [.int lo, .int n]) n2
          have ei : ixN (ms' ++ [V.ref T0]).length (-1) = some ms'.length := by
            unfold ixN
            rw [if_neg (by decide), List.length_append, if_pos (by show -((ms'.length + 1 : Nat) : Int) ≤ -1; omega)]
            show some ((-1 : Int) + ((ms'.length + 1 : Nat) : Int)).toNat = _
            congr 1
            omega
          refine ⟨_, rfl, 1, rfl, g, _, -1, ms'.length, rfl, rfl, st _ _ (s2 _ _ eg), ei, ?_⟩
          have es : (ms' ++ [V.ref T0]).set ms'.length (.ref T2) = ms' ++ [.ref T2] := by simp
          rw [es]
          have mj := m.join (p := oneP n) (Int.le_refl _) ord (by show n ≤ hi' + 1; omega)
          have en2 : (if (oneP n).2 > hi' then (oneP n).2 else hi') = n := by
            show (if n > hi' then n else hi') = n
            rw [if_pos (by omega)]
          rw [en2, ← etake] at mj
          obtain ⟨g1, g2, g3⟩ := grow T2 (lo, n) H2 (ms' ++ [.ref T2]) (rs' ++ [(lo, n)]) s2 n2 (((hms'.same s2).same st).snoc upd_same)
          exact ⟨_, _, _, rfl, g1, g2, g3, mj⟩
        · have c' : ¬ hi' = n - 1 := fun z => c (decide_eq_true (congrArg V.int z))
          refine app H2 s2 fun r hr' => ?_
          obtain ⟨lo', hR⟩ := m.ris
          obtain ⟨_, h2, _, h4⟩ := Ris.front hR
          have h4' : lo ≤ hi' := h4
          have t1 := tops (lo, hi') (List.mem_append_right _ (List.mem_singleton.mpr rfl))
          have t1' : hi' < n := t1
          rcases List.mem_append.mp hr' with y | y
          · have : r.2 + 2 ≤ lo := h2 r y
            omega
          · rw [List.mem_singleton.mp y]
            show hi' + 2 ≤ n
            omega
    · obtain ⟨ms, rs, y2, rfl, sm, eg, hms, m⟩ := hP
      rw [List.length_map, List.take_length] at m
      refine ⟨_, rfl, q g rs H1 ng ⟨ms, eg, hms⟩ ⟨m.ris, fun n => (m.same n).trans inS_ones⟩ ?_ sm⟩
      have := m.len
      rw [List.length_map] at this
      have := hN.len
      omega
end

/-- an expression, then a word of what it gives: what follows is shown once -/
def tMid (te : TE) : TE := fun σ H Q => ∃ M : V → Hp → Prop, te σ H M ∧ ∀ v H', M v H' → Q v H'
theorem pe_mid {X : Cx} {e : Expr} {te : TE} (h : PE X e te) : PE X e (tMid te) := ⟨fun pins s σ H Q I ⟨M, h1, h2⟩ => thn (h.run pins s σ H M I h1) fun _ _ ⟨y, H1, I1, r, q⟩ => ⟨y, H1, I1, r, h2 _ _ q⟩⟩

/-! ### pairs that make a set -/
theorem _root_.GP.Prs.insert {H : Hp} {us : List V} {ps : List (Int × Int)} {a : Addr} {p : Int × Int} (h : Prs H us ps) (k : Nat) (e : H a = some (.tup [.int p.1, .int p.2])) : Prs H (us.take k ++ [.ref a] ++ us.drop k) (ps.take k ++ [p] ++ ps.drop k) :=
  (Prs.snoc (x := p.1) (y := p.2) (h.take k) e).append (h.drop k)
theorem inS_insert {ps : List (Int × Int)} {p : Int × Int} {k : Nat} {n : Int} : InS (ps.take k ++ [p] ++ ps.drop k) n ↔ InS ps n ∨ (p.1 ≤ n ∧ n ≤ p.2) := by
  rw [inS_append, inS_append, inS_cons]
  have e : InS ps n ↔ InS (ps.take k) n ∨ InS (ps.drop k) n := by rw [← inS_append, List.take_append_drop]
  rw [e]
  constructor
  · rintro ((z | z | z) | z)
    · exact .inl (.inl z)
    · exact .inr z
    · exact absurd z inS_nil
    · exact .inl (.inr z)
  · rintro ((z | z) | z)
    · exact .inl (.inl z)
    · exact .inr z
    · exact .inl (.inr (.inl z))
theorem len_insert {α : Type} {xs : List α} {y : α} {k : Nat} : (xs.take k ++ [y] ++ xs.drop k).length = xs.length + 1 := by
  rw [List.length_append, List.length_append, List.length_take, List.length_drop, List.length_singleton]
  omega
abbrev sLPairs : Stmt := topS 16
theorem scLPairs : FnScope ["_law_state", "_law_some", "_law_found", "_law_first", "_law_last", "_law_cut", "_law_rows", "_law_row"] ["_law_state", "_law_some"] (defScope sLPairs) := ⟨rfl, rfl, rfl, by decide +kernel, rfl, by decide +kernel, by decide +kernel⟩
def spLPairs : Sp := fun vs H Q _ => ∃ (d c l : Addr) (t : Int) (ps : List (Int × Int)), vs = [.ref d, .ref l] ∧ StAt H d c t ∧ t + 2000 < 2 ^ 60 ∧ LsA H l ps ∧ (l ≠ d ∧ l ≠ c) ∧ (∃ lo, Ris lo ps) ∧ (∀ p ∈ ps, 0 ≤ p.1 ∧ p.2 < 40) ∧ ps.length ≤ 40 ∧
  ∀ (l' : Addr) (qs : List (Int × Int)) (t' : Int) H', H l' = none → LsA H' l' qs → (∀ n, InS qs n ↔ InS ps n) → qs.length ≤ 160 → t ≤ t' → t' ≤ t + 400 → StAt H' d c t' → Kp d c H H' → Q (.ref l') H'
/-- between two turns: what is found lies between these -/
def PrW (H : Hp) (d c l fo : Addr) (ps : List (Int × Int)) (lo hi : Nat) (cap : Nat) (t tm : Int) (t' : Int) (ms : List V) (qs : List (Int × Int)) (Hx : Hp) : Prop :=
  Hx fo = some (.lst ms) ∧ Prs Hx ms qs ∧ (∀ n, InS (ps.take lo) n → InS qs n) ∧ (∀ n, InS qs n → InS (ps.take hi) n) ∧ qs.length ≤ cap ∧ t ≤ t' ∧ t' ≤ tm ∧ StAt Hx d c t' ∧ Kp d c H Hx
section
variable {K : PySem.W.Frag} {mg : Str → Option Value} {P : Program} {w : World} {base : Heap}
theorem ok_lpairs {f : Addr} {fd : FuncData} (F : Fun K "_law_pairs" "_law_pairs" sLPairs f fd) (CT : Cal P w K mg base 1 "_law_take" ["_law_state", "_law_many"] spTake) (me : mg "len" = none) (mn : mg "int" = none) : FnOk P w K mg base CX0 2 f fd ["_law_state", "_law_some"] spLPairs := by
  refine F.ok scLPairs (fun vs H Q E h => ?_) (fun cdv A outer s H vs Q E hr h => ?_)
  · obtain ⟨d, c, l, t, ps, rfl, _⟩ := h
    rfl
  · obtain ⟨d, c, l, t, ps, rfl, hS, ht, ⟨us, el, hps⟩, nl, ⟨lo, hris⟩, hbd, hpl, q⟩ := h
    refine ⟨_, pss_cons (ps_set (i := 2) scLPairs.nd rfl (.inl rfl) (pe_lst pa_nil))
      (pss_cons (ps_for PassesOwn.never rfl (pi_list (pv 1)) (pg_tup rfl (pgs_cons (pg_name (i := 3) scLPairs.nd rfl (.inl rfl)) (pgs_cons (pg_name (i := 4) scLPairs.nd rfl (.inl rfl)) pgs_nil)))
        (pss_cons (ps_set (i := 5) scLPairs.nd rfl (.inl rfl) (pe_op op_add (pv 3) (pe_own CT hr (by rfl) (pa_cons (pv 0) (pa_cons (pe_op op_add (pe_op op_sub (pv 4) (pv 3)) pe_int) pa_nil)))))
        (pss_cons (ps_set (i := 6) scLPairs.nd rfl (.inl rfl) (pe_ix ix_list (pe_lst (pa_cons (pe_lst (pa_cons (pe_tup (pa_cons (pv 3) (pa_cons (pv 4) pa_nil))) pa_nil)) (pa_cons (pe_lst (pa_cons (pe_tup (pa_cons (pv 3) (pa_cons (pv 5) pa_nil))) (pa_cons (pe_tup (pa_cons (pv 5) (pa_cons (pv 4) pa_nil))) pa_nil))) (pa_cons (pe_lst (pa_cons (pe_tup (pa_cons (pv 5) (pa_cons (pv 4) pa_nil))) (pa_cons (pe_tup (pa_cons (pv 3) (pa_cons (pv 5) pa_nil))) pa_nil))) pa_nil)))) (pe_own CT hr (by rfl) (pa_cons (pv 0) (pa_cons pe_int pa_nil))) (fun _ _ => rfl)))
        (pss_cons (ps_for PassesOwn.never rfl (pi_list (pe_op op_cat (pv 6) (pe_op op_rep (pe_lst (pa_cons (pe_tup (pa_cons (pv 4) (pa_cons (pv 3) pa_nil))) pa_nil)) (pe_mid (pe_callTy call_int1 (by rfl) mn (by decide +kernel) (pa_cons (pe_and (pe_cmpR op_lt (pv 3) (pv 4) (nomark _)) (pe_one (pe_cmpR op_eq (pe_own CT hr (by rfl) (pa_cons (pv 0) (pa_cons pe_int pa_nil))) pe_int (nomark _)))) pa_nil)))))) (pg_name (i := 7) scLPairs.nd rfl (.inl rfl))
          (pss_one (ps_if (pt_cmpR op_lt (pe_callB call_len_seq (by rfl) me PySem.boot_len (pa_cons (pv 2) pa_nil)) (pe_op op_sub pe_int (pe_callB call_len_seq (by rfl) me PySem.boot_len (pa_cons (pv 1) pa_nil))) (nomark _))
            (pss_one (ps_expr (pe_bm PySem.F.plainAttrs_list PySem.F.slot_list_insert PySem.F.type_list_insert mt_insert (pv 2) (pa_cons (pe_own CT hr (by rfl) (pa_cons (pv 0) (pa_cons (pe_op op_add (pe_callB call_len_seq (by rfl) me PySem.boot_len (pa_cons (pv 2) pa_nil)) pe_int) pa_nil))) (pa_cons (pv 7) pa_nil))))) pss_nil)))
        (pss_one (ps_expr (pe_bm PySem.F.plainAttrs_list PySem.F.slot_list_insert PySem.F.type_list_insert mt_insert (pv 2) (pa_cons (pe_own CT hr (by rfl) (pa_cons (pv 0) (pa_cons (pe_op op_add (pe_callB call_len_seq (by rfl) me PySem.boot_len (pa_cons (pv 2) pa_nil)) pe_int) pa_nil))) (pa_cons (pe_tup (pa_cons (pv 3) (pa_cons (pv 4) pa_nil))) pa_nil)))))))))
      (pss_one (ps_ret (pv 2)))), ?_⟩
    refine ⟨Nat.zero_le _, fun fo nfo => ?_⟩
    have s0 := same_upd (o := .lst []) nfo
    have offf := hS.off nfo
    have hl1 := hps.1
    refine ⟨_, rfl, l, rfl, ⟨_, SqL.of (s0 _ _ el)⟩, for_list (xs := us) (fun i σ Hx => ∃ (t' : Int) (ms : List V) (qs : List (Int × Int)) (y3 y4 y5 y6 y7 : Option V), σ = [some (.ref d), some (.ref l), some (.ref fo), y3, y4, y5, y6, y7] ∧ PrW H d c l fo ps i i (4 * i) t (t + 8 * i) t' ms qs Hx)
      ⟨t, [], [], _, _, _, _, _, rfl, upd_same, Prs.nil, (fun n z => absurd z inS_nil), (fun n z => absurd z inS_nil), Nat.le_refl _, Int.le_refl _, by omega, hS.same s0, Kp.same d c s0⟩ (fun i σ Hx _ hP => ?_) (fun i x σ Hx hx hP => ?_) (fun σ Hx hP => ?_)⟩
    · obtain ⟨_, _, _, _, _, _, _, _, rfl, _, _, _, _, _, _, _, _, kx⟩ := hP
      exact SqL.of (kx _ _ nl.1 nl.2 el)
    · obtain ⟨t', ms, qs, y3, y4, y5, y6, y7, rfl, ef, hms, hlo, hhi, hcap, t1, t2, hSx, kx⟩ := hP
      obtain ⟨p, T, ep, rfl, eT0⟩ := prs_at hps hx
      have hi : i < ps.length := (List.getElem?_eq_some_iff.mp ep).1
      have eT := kx.at hS eT0 (fun _ z => nomatch z) (fun _ z => nomatch z)
      have hpb := hbd p (List.mem_of_getElem? ep)
      have hp12 := (hris.le p (List.mem_of_getElem? ep)).2
      refine ⟨T, _, rfl, .inl (.inl eT), rfl, _, _, rfl, _, _, rfl, rfl, ?_⟩
      -- cut
      refine ⟨_, rfl, _, rfl, _, rfl, _, rfl, p.2, p.1, rfl, rfl, p.2 - p.1, 1, rfl, rfl, d, c, t', p.2 - p.1 + 1, rfl, hSx, by omega, by omega, by omega, fun r1 H1 r10 r11 hS1 k1 => ⟨p.1, r1, rfl, rfl, ?_⟩⟩
      -- rows
      refine ⟨_, rfl, _, rfl, (by show 2 ≤ sizeLine; decide), fun A1 nA1 => ⟨(by show 1 ≤ sizeLine; decide), fun L1 nL1 => ?_⟩⟩
      refine ⟨_, rfl, _, rfl, (by show 2 ≤ sizeLine; decide), fun A2 nA2 => ⟨_, rfl, _, rfl, (by show 2 ≤ sizeLine; decide), fun A3 nA3 => ⟨(by show 2 ≤ sizeLine; decide), fun L2 nL2 => ?_⟩⟩⟩
      refine ⟨_, rfl, _, rfl, (by show 2 ≤ sizeLine; decide), fun A4 nA4 => ⟨_, rfl, _, rfl, (by show 2 ≤ sizeLine; decide), fun A5 nA5 => ⟨(by show 2 ≤ sizeLine; decide), fun L3 nL3 => ⟨(by show 3 ≤ sizeLine; decide), fun Z nZ => ?_⟩⟩⟩⟩
      have sA1 := same_upd (o := .tup [.int p.1, .int p.2]) nA1
      have sL1 := same_upd (o := .lst [.ref A1]) nL1
      have sA2 := same_upd (o := .tup [.int p.1, .int (p.1 + r1)]) nA2
      have sA3 := same_upd (o := .tup [.int (p.1 + r1), .int p.2]) nA3
      have sL2 := same_upd (o := .lst [.ref A2, .ref A3]) nL2
      have sA4 := same_upd (o := .tup [.int (p.1 + r1), .int p.2]) nA4
      have sA5 := same_upd (o := .tup [.int p.1, .int (p.1 + r1)]) nA5
      have sL3 := same_upd (o := .lst [.ref A4, .ref A5]) nL3
      have sZ := same_upd (o := .lst [.ref L1, .ref L2, .ref L3]) nZ
      have s3Z := sL3.trans sZ
      have s5Z := sA5.trans s3Z
      have s4Z := sA4.trans s5Z
      have s2Z := sL2.trans s4Z
      have s23 := sA3.trans s2Z
      have s22 := sA2.trans s23
      have s1Z := sL1.trans s22
      have sall := sA1.trans s1Z
      have pAll : ∀ {HZ : Hp} {B : Addr} {x y : Int}, HZ B = some (.tup [.int x, .int y]) → Prs HZ [.ref B] [(x, y)] := fun e => Prs.snoc Prs.nil e
      have rowsOk : ∀ r2 : Int, 0 ≤ r2 → r2 < 3 → ∃ (Lr : Addr) (rw : List V) (rv : List (Int × Int)), atI [V.ref L1, V.ref L2, V.ref L3] r2 = some (.ref Lr) ∧ (upd (upd (upd (upd (upd (upd (upd (upd (upd H1 A1 (.tup [.int p.1, .int p.2])) L1 (.lst [.ref A1])) A2 (.tup [.int p.1, .int (p.1 + r1)])) A3 (.tup [.int (p.1 + r1), .int p.2])) L2 (.lst [.ref A2, .ref A3])) A4 (.tup [.int (p.1 + r1), .int p.2])) A5 (.tup [.int p.1, .int (p.1 + r1)])) L3 (.lst [.ref A4, .ref A5])) Z (.lst [.ref L1, .ref L2, .ref L3])) Lr = some (.lst rw) ∧ Prs (upd (upd (upd (upd (upd (upd (upd (upd (upd H1 A1 (.tup [.int p.1, .int p.2])) L1 (.lst [.ref A1])) A2 (.tup [.int p.1, .int (p.1 + r1)])) A3 (.tup [.int (p.1 + r1), .int p.2])) L2 (.lst [.ref A2, .ref A3])) A4 (.tup [.int (p.1 + r1), .int p.2])) A5 (.tup [.int p.1, .int (p.1 + r1)])) L3 (.lst [.ref A4, .ref A5])) Z (.lst [.ref L1, .ref L2, .ref L3])) rw rv ∧ rv.length ≤ 2 ∧ (∀ r ∈ rv, ∀ n, r.1 ≤ n → n ≤ r.2 → p.1 ≤ n ∧ n ≤ p.2) ∧ (Lr ≠ d ∧ Lr ≠ c) := by
        intro r2 h0 h1
        have : r2 = 0 ∨ r2 = 1 ∨ r2 = 2 := by omega
        rcases this with rfl | rfl | rfl
        · refine ⟨L1, [.ref A1], [(p.1, p.2)], rfl, s22 _ _ upd_same, pAll (s1Z _ _ upd_same), by show 1 ≤ 2; decide, fun r hr n e1 e2 => ?_, (hS1.same sA1).off nL1⟩
          rw [List.mem_singleton.mp hr] at e1 e2
          exact ⟨e1, e2⟩
        · refine ⟨L2, [.ref A2, .ref A3], [(p.1, p.1 + r1), (p.1 + r1, p.2)], rfl, s4Z _ _ upd_same, (pAll (s23 _ _ upd_same)).snoc (s2Z _ _ upd_same), Nat.le_refl 2, fun r hr n e1 e2 => ?_, (hS1.same (sA1.trans (sL1.trans (sA2.trans sA3)))).off nL2⟩
          rcases List.mem_cons.mp hr with z | z
          · rw [z] at e1 e2
            have : n ≤ p.1 + r1 := e2
            have : p.1 ≤ n := e1
            omega
          · rw [List.mem_singleton.mp z] at e1 e2
            have : n ≤ p.2 := e2
            have : p.1 + r1 ≤ n := e1
            omega
        · refine ⟨L3, [.ref A4, .ref A5], [(p.1 + r1, p.2), (p.1, p.1 + r1)], rfl, sZ _ _ upd_same, (pAll (s5Z _ _ upd_same)).snoc (s3Z _ _ upd_same), Nat.le_refl 2, fun r hr n e1 e2 => ?_, (hS1.same (sA1.trans (sL1.trans (sA2.trans (sA3.trans (sL2.trans (sA4.trans sA5))))))).off nL3⟩
          rcases List.mem_cons.mp hr with z | z
          · rw [z] at e1 e2
            have : n ≤ p.2 := e2
            have : p.1 + r1 ≤ n := e1
            omega
          · rw [List.mem_singleton.mp z] at e1 e2
            have : n ≤ p.1 + r1 := e2
            have : p.1 ≤ n := e1
            omega
      have offZ := (hS1.same (sA1.trans (sL1.trans (sA2.trans (sA3.trans (sL2.trans (sA4.trans (sA5.trans sL3)))))))).off nZ
      have eZ := upd_same (H := upd (upd (upd (upd (upd (upd (upd (upd H1 A1 (.tup [.int p.1, .int p.2])) L1 (.lst [.ref A1])) A2 (.tup [.int p.1, .int (p.1 + r1)])) A3 (.tup [.int (p.1 + r1), .int p.2])) L2 (.lst [.ref A2, .ref A3])) A4 (.tup [.int (p.1 + r1), .int p.2])) A5 (.tup [.int p.1, .int (p.1 + r1)])) L3 (.lst [.ref A4, .ref A5])) (a := Z) (o := .lst [.ref L1, .ref L2, .ref L3])
      clear sA1 sL1 sA2 sA3 sL2 sA4 sA5 sL3 sZ s3Z s5Z s4Z s2Z s23 s22 s1Z
      revert sall rowsOk eZ
      generalize upd (upd (upd (upd (upd (upd (upd (upd (upd H1 A1 (.tup [.int p.1, .int p.2])) L1 (.lst [.ref A1])) A2 (.tup [.int p.1, .int (p.1 + r1)])) A3 (.tup [.int (p.1 + r1), .int p.2])) L2 (.lst [.ref A2, .ref A3])) A4 (.tup [.int (p.1 + r1), .int p.2])) A5 (.tup [.int p.1, .int (p.1 + r1)])) L3 (.lst [.ref A4, .ref A5])) Z (.lst [.ref L1, .ref L2, .ref L3]) = H2
      intro sall rowsOk eZ
      refine ⟨_, rfl, d, c, t' + 1, 3, rfl, hS1.same sall, by omega, by decide, by decide, fun r2 H3 r20 r21 hS3 k3 => ?_⟩
      obtain ⟨Lr, rw, rv, hat, eLr, hrv, hrl, hrok, offr⟩ := rowsOk r2 r20 r21
      refine ⟨Z, _, r2, .ref Lr, rfl, rfl, SqL.of (k3 _ _ offZ.1 offZ.2 eZ), hat, ?_⟩
      have eLr3 := k3 _ _ offr.1 offr.2 eLr
      have hrv3 := hrv.kp (hS1.same sall) k3
      have kx3 : Kp d c Hx H3 := (k1.trans (Kp.same d c sall)).trans k3
      -- rows + [(last, first)] * int(..)
      refine ⟨_, rfl, _, rfl, _, rfl, (by show 2 ≤ sizeLine; decide), fun B nB => ⟨(by show 1 ≤ sizeLine; decide), fun LB nLB => ?_⟩⟩
      have sB := same_upd (o := .tup [.int p.2, .int p.1]) nB
      have sLB := same_upd (o := .lst [.ref B]) nLB
      have sBB := sB.trans sLB
      have offB := hS3.off nB
      have offLB := (hS3.same sB).off nLB
      have eB := sLB _ _ (upd_same (H := H3) (a := B) (o := .tup [.int p.2, .int p.1]))
      have eLB := upd_same (H := upd H3 B (.tup [.int p.2, .int p.1])) (a := LB) (o := .lst [.ref B])
      have hS4 := hS3.same sBB
      revert sBB eB eLB hS4
      generalize upd (upd H3 B (.tup [.int p.2, .int p.1])) LB (.lst [.ref B]) = H4
      intro sBB eB eLB hS4
      refine ⟨fun v H5 => ∃ (b : Bool) (t5 : Int), v = .int (if b then 1 else 0) ∧ (b = true → p.1 < p.2) ∧ t' + 1 + 1 ≤ t5 ∧ t5 ≤ t' + 1 + 1 + 1 ∧ StAt H5 d c t5 ∧ Kp d c H4 H5, ?_, fun v H5 hM => ?_⟩
      · refine ⟨_, rfl, _, rfl, p.1, p.2, rfl, rfl, _, rfl, ite2 (fun c1 => ?_) (fun c1 => ?_)⟩
        · have c1' := of_decide_eq_true c1
          refine ⟨_, rfl, d, c, t' + 1 + 1, 4, rfl, hS4, by omega, by decide, by decide, fun r3 H5 r30 r31 hS5 k5 => ?_⟩
          exact ⟨rfl, .inr ⟨_, rfl, _, t' + 1 + 1 + 1, rfl, fun _ => c1', by omega, by omega, hS5, k5⟩⟩
        · exact .inr ⟨_, rfl, false, t' + 1 + 1, rfl, (fun z => nomatch z), by omega, by omega, hS4, Kp.refl d c H4⟩
      obtain ⟨b, t5, rfl, hb, t50, t51, hS5, k5⟩ := hM
      have eLB5 := k5 _ _ offLB.1 offLB.2 eLB
      have eB5 := k5 _ _ offB.1 offB.2 eB
      refine ⟨LB, _, [.ref B], rfl, rfl, eLB5, by cases b <;> decide, by cases b <;> decide, by cases b <;> exact Nat.le_of_lt (small1000 (by show 1 * _ ≤ 1000; decide)), fun G nG => ?_⟩
      have sG := same_upd (o := .lst (List.replicate (if b = true then (1 : Int) else 0).toNat [V.ref B]).flatten) nG
      have hG : ∃ gv gs, (List.replicate (if b = true then (1 : Int) else 0).toNat [V.ref B]).flatten = gv ∧ Prs H5 gv gs ∧ gs.length ≤ 1 ∧ (∀ r ∈ gs, ∀ n, r.1 ≤ n → n ≤ r.2 → p.1 ≤ n ∧ n ≤ p.2) := by
        cases b with
        | false => exact ⟨[], [], rfl, Prs.nil, Nat.zero_le _, fun _ z => nomatch z⟩
        | true =>
          refine ⟨[.ref B], [(p.2, p.1)], rfl, Prs.snoc Prs.nil eB5, Nat.le_refl _, fun r hr n e1 e2 => ?_⟩
          rw [List.mem_singleton.mp hr] at e1 e2
          have : p.2 ≤ n := e1
          have : n ≤ p.1 := e2
          have := hb rfl
          omega
      obtain ⟨gv, gs, eg, hgs, hgl, hgok⟩ := hG
      rw [eg] at sG ⊢
      have eLr5 := sG _ _ (k5 _ _ offr.1 offr.2 (sBB _ _ eLr3))
      have hrv5 := ((hrv3.same sBB).kp hS4 k5)
      refine ⟨Lr, G, rw, gv, rfl, rfl, eLr5, upd_same, Nat.le_of_lt (small1000 (by rw [hrv.1, hgs.1]; omega)), fun G2 nG2 => ?_⟩
      have sG2 := same_upd (o := .lst (rw ++ gv)) nG2
      have offG := (hS5.same sG).off nG2
      have e6 := upd_same (H := upd H5 G (.lst gv)) (a := G2) (o := .lst (rw ++ gv))
      have hall : Prs (upd (upd H5 G (.lst gv)) G2 (.lst (rw ++ gv))) (rw ++ gv) (rv ++ gs) := ((hrv5.append hgs).same sG).same sG2
      have hS6 := (hS5.same sG).same sG2
      have kx6 : Kp d c Hx (upd (upd H5 G (.lst gv)) G2 (.lst (rw ++ gv))) := ((kx3.trans (Kp.same d c sBB)).trans k5).trans (Kp.same d c (sG.trans sG2))
      revert e6 hall hS6 kx6
      generalize upd (upd H5 G (.lst gv)) G2 (.lst (rw ++ gv)) = H6
      intro e6 hall hS6 kx6
      have nGf : G2 ≠ fo := by
        have := (sG _ _ (k5 _ _ offf.1 offf.2 (sBB _ _ (kx3 _ _ offf.1 offf.2 ef))))
        exact (ne_of_none this nG2).symm
      have hallok : ∀ r ∈ rv ++ gs, ∀ n, r.1 ≤ n → n ≤ r.2 → p.1 ≤ n ∧ n ≤ p.2 := fun r hr => (List.mem_append.mp hr).elim (hrok r) (hgok r)
      have hlen3 : (rw ++ gv).length ≤ 3 := by rw [List.length_append, hrv.1, hgs.1]; omega
      have inTake : ∀ n, InS (ps.take (i + 1)) n ↔ InS (ps.take i) n ∨ (p.1 ≤ n ∧ n ≤ p.2) := fun n => by
        rw [List.take_add_one, ep, inS_append]
        show _ ∨ InS [p] n ↔ _
        rw [inS_cons]
        constructor
        · rintro (z | z | z)
          · exact .inl z
          · exact .inr z
          · exact absurd z inS_nil
        · rintro (z | z)
          · exact .inl z
          · exact .inr (.inl z)
      refine ⟨G2, rfl, ⟨_, SqL.of e6⟩, for_list (xs := rw ++ gv) (fun j σ Hy => ∃ (t7 : Int) (ms : List V) (qs : List (Int × Int)) (y7 : Option V), σ = [some (.ref d), some (.ref l), some (.ref fo), some (.int p.1), some (.int p.2), some (.int (p.1 + r1)), some (.ref Lr), y7] ∧ PrW H d c l fo ps i (i + 1) (4 * i + j) t (t' + 3 + j) t7 ms qs Hy ∧ Hy G2 = some (.lst (rw ++ gv)) ∧ Prs Hy (rw ++ gv) (rv ++ gs))
        ⟨t5, ms, qs, _, rfl, ⟨kx6 _ _ offf.1 offf.2 ef, hms.kp hSx kx6, hlo, fun n z => (inTake n).mpr (.inl (hhi n z)), hcap, by omega, by omega, hS6, kx.trans kx6⟩, e6, hall⟩ (fun j σ Hy _ hP => ?_) (fun j x σ Hy hx hP => ?_) (fun σ Hy hP => ?_)⟩
      · obtain ⟨_, _, _, _, rfl, _, e, _⟩ := hP
        exact SqL.of e
      · obtain ⟨t7, ms, qs, y7, rfl, ⟨ef, hms, hlo, hhi, hcap, u1, u2, hSy, ky⟩, eG, hrow⟩ := hP
        obtain ⟨r, B2, er, rfl, eB2⟩ := prs_at hrow hx
        have hj : j < 3 := Nat.lt_of_lt_of_le (List.getElem?_eq_some_iff.mp hx).1 hlen3
        have rok := hallok r (List.mem_of_getElem? er)
        have hml : ms.length ≤ 163 := by rw [hms.1]; omega
        have ely := ky _ _ nl.1 nl.2 el
        refine ⟨_, rfl, fo, ms, rfl, Sq.list ef, _, rfl, l, us, rfl, Sq.list ely, 40, _, rfl, rfl, _, _, rfl, rfl, _, rfl, ite2 (fun _ => ?_) (fun _ => ⟨t7, ms, qs, _, rfl, ⟨ef, hms, hlo, hhi, by omega, u1, by omega, hSy, ky⟩, eG, hrow⟩)⟩
        refine ⟨_, rfl, .inl ⟨rfl, _, SqL.of ef⟩, _, rfl, _, rfl, fo, ms, rfl, Sq.list ef, (ms.length : Int), 1, rfl, rfl, d, c, t7, (ms.length : Int) + 1, rfl, hSy, by omega, by omega, by omega, fun k H8 k0 k1 hS8 k8 => ?_⟩
        have ef8 := k8 _ _ offf.1 offf.2 ef
        refine ⟨_, rfl, fo, ms, k, _, rfl, rfl, ef8, small1000 (by omega), k0, by omega, ?_⟩
        refine ⟨t7 + 1, _, qs.take k.toNat ++ [r] ++ qs.drop k.toNat, _, rfl, ⟨upd_same, ((hms.kp hSy k8).insert k.toNat (k8.at hSy eB2 (fun _ z => nomatch z) (fun _ z => nomatch z))).upd_lst ef8, fun n z => inS_insert.mpr (.inl (hlo n z)), fun n z => ?_, by rw [len_insert]; omega, by omega, by omega, hS8.upd offf.1 offf.2, fun b o b1 b2 e => ?_⟩, ?_, ?_⟩
        · rcases inS_insert.mp z with y | y
          · exact hhi n y
          · exact (inTake n).mpr (.inr (rok n y.1 y.2))
        · rw [upd_ne (ne_of_none e nfo)]
          exact k8 b o b1 b2 (ky b o b1 b2 e)
        · rw [upd_ne nGf]
          exact k8 _ _ offG.1 offG.2 eG
        · exact (hrow.kp hSy k8).upd_lst ef8
      · obtain ⟨t7, ms, qs, y7, rfl, ⟨ef, hms, hlo, hhi, hcap, u1, u2, hSy, ky⟩, eG, hrow⟩ := hP
        have hml : ms.length ≤ 163 := by rw [hms.1]; omega
        have u2' : t7 ≤ t' + 6 := by omega
        refine ⟨_, rfl, .inl ⟨rfl, _, SqL.of ef⟩, _, rfl, _, rfl, fo, ms, rfl, Sq.list ef, (ms.length : Int), 1, rfl, rfl, d, c, t7, (ms.length : Int) + 1, rfl, hSy, by omega, by omega, by omega, fun k H8 k0 k1 hS8 k8 => ?_⟩
        refine ⟨_, rfl, _, rfl, (by show 2 ≤ sizeLine; decide), fun C nC => ?_⟩
        have sC := same_upd (o := .tup [.int p.1, .int p.2]) nC
        have ef8 := sC _ _ (k8 _ _ offf.1 offf.2 ef)
        refine ⟨fo, ms, k, _, rfl, rfl, ef8, small1000 (by omega), k0, by omega, ?_⟩
        have ei : ((i + 1 : Nat) : Int) = (i : Int) + 1 := by omega
        refine ⟨t7 + 1, _, qs.take k.toNat ++ [p] ++ qs.drop k.toNat, _, _, _, _, _, rfl, upd_same, (((hms.kp hSy k8).same sC).insert k.toNat (upd_same (H := H8) (a := C) (o := .tup [.int p.1, .int p.2]))).upd_lst ef8, fun n z => ?_, fun n z => ?_, by rw [len_insert]; omega, by omega, by rw [ei]; omega, (hS8.same sC).upd offf.1 offf.2, fun b o b1 b2 e => ?_⟩
        · rcases (inTake n).mp z with y | y
          · exact inS_insert.mpr (.inl (hlo n y))
          · exact inS_insert.mpr (.inr y)
        · rcases inS_insert.mp z with y | y
          · exact hhi n y
          · exact (inTake n).mpr (.inr y)
        · rw [upd_ne (ne_of_none e nfo)]
          exact sC _ _ (k8 b o b1 b2 (ky b o b1 b2 e))
    · obtain ⟨t', ms, qs, y3, y4, y5, y6, y7, rfl, ef, hms, hlo, hhi, hcap, t1, t2, hSx, kx⟩ := hP
      rw [hl1] at hlo hhi hcap t2
      rw [List.take_length] at hlo hhi
      exact ⟨_, rfl, q fo qs t' Hx nfo ⟨ms, ef, hms⟩ (fun n => ⟨hhi n, hlo n⟩) (by omega) t1 (by omega) hSx kx⟩
end

/-! ### listed numbers: the mathematics -/
theorem filt_step {n : Int} : ∀ {ns : List Int}, ns.Pairwise (· < ·) → ((ns.filter fun k => decide (k < n + 1)).length : Int) = (ns.filter fun k => decide (k < n)).length + (if n ∈ ns then 1 else 0)
  | [], _ => rfl
  | x :: r, h => by
    obtain ⟨h1, h2⟩ := List.pairwise_cons.mp h
    have ih := filt_step (n := n) h2
    rcases Int.lt_trichotomy x n with c | c | c
    · have e1 : (n ∈ x :: r) ↔ n ∈ r := by
        rw [List.mem_cons]
        exact ⟨fun z => z.elim (fun y => by omega) id, .inr⟩
      rw [List.filter_cons_of_pos (by exact decide_eq_true (by omega)), List.filter_cons_of_pos (by exact decide_eq_true c), List.length_cons, List.length_cons]
      by_cases m : n ∈ r
      · rw [if_pos (e1.mpr m)]
        rw [if_pos m] at ih
        omega
      · rw [if_neg fun z => m (e1.mp z)]
        rw [if_neg m] at ih
        omega
    · subst c
      have z1 : x ∉ r := fun z => by have := h1 x z; omega
      rw [List.filter_cons_of_pos (by exact decide_eq_true (by omega)), List.filter_cons_of_neg (by simp), if_pos (List.mem_cons_self ..), List.length_cons]
      rw [if_neg z1] at ih
      omega
    · have z1 : n ∉ x :: r := fun z => by
        rcases List.mem_cons.mp z with y | y
        · omega
        · have := h1 n y
          omega
      rw [List.filter_cons_of_neg (by simp; omega), List.filter_cons_of_neg (by simp; omega), if_neg z1]
      rw [if_neg fun z => z1 (List.mem_cons_of_mem _ z)] at ih
      omega
theorem filt_at {m : Int} : ∀ {ns : List Int} {k : Nat}, ns.Pairwise (· < ·) → ns[k]? = some m → (ns.filter fun j => decide (j < m)).length = k
  | [], _, _, e => nomatch e
  | x :: r, 0, h, e => by
    obtain ⟨h1, h2⟩ := List.pairwise_cons.mp h
    have ex : x = m := Option.some.inj e
    subst ex
    rw [List.filter_cons_of_neg (by simp)]
    have : (r.filter fun j => decide (j < x)) = [] := List.filter_eq_nil_iff.mpr fun a ha => by have := h1 a ha; simp; omega
    rw [this]
    rfl
  | x :: r, k + 1, h, e => by
    obtain ⟨h1, h2⟩ := List.pairwise_cons.mp h
    have e' : r[k]? = some m := e
    have := h1 m (List.mem_of_getElem? e')
    rw [List.filter_cons_of_pos (by exact decide_eq_true this), List.length_cons, filt_at h2 e']
theorem less_nums {ns : List Int} {rs : List (Int × Int)} (hN : Nums ns) (hT : Told (fun n => n ∈ ns) rs) (k : Nat) : sumP (lessI k) rs = ((ns.filter fun j => decide (j < (k : Int))).length : Int) := by
  have hR : Ris 0 rs := hT.nneg fun n hn => (hN.bd n hn).1
  induction k with
  | zero =>
    rw [less_low fun p hp => by have := hR.le p hp; omega]
    have : (ns.filter fun j => decide (j < ((0 : Nat) : Int))) = [] := List.filter_eq_nil_iff.mpr fun a ha => by have := hN.bd a ha; simp; omega
    rw [this]
    rfl
  | succ k ih =>
    rw [show ((k + 1 : Nat) : Int) = (k : Int) + 1 by omega, less_step _ hR, ih, filt_step hN.up]
    by_cases z : (k : Int) ∈ ns
    · rw [if_pos z, if_pos (anyP_inS.mpr ((hT.same _).mpr z))]
    · rw [if_neg z, if_neg fun y => z ((hT.same _).mp (anyP_inS.mp y))]
theorem cnt_nums {ns : List Int} {rs : List (Int × Int)} (hN : Nums ns) (hT : Told (fun n => n ∈ ns) rs) : sumP cnt rs = (ns.length : Int) := by
  obtain ⟨lo, hR⟩ := hT.ris
  have e : sumP (lessI 40) rs = ((ns.filter fun j => decide (j < 40)).length : Int) := less_nums hN hT 40
  rw [less_high fun p hp => ⟨(hR.le p hp).2, (hN.bd _ ((hT.same _).mp ⟨p, hp, (hR.le p hp).2, Int.le_refl _⟩)).2⟩] at e
  rw [e, List.filter_eq_self.mpr fun a ha => decide_eq_true (hN.bd a ha).2]
theorem nth_nums {ns : List Int} {rs : List (Int × Int)} (hN : Nums ns) (hT : Told (fun n => n ∈ ns) rs) {k : Nat} {m : Int} (e : ns[k]? = some m) : nthP k rs = some m := by
  obtain ⟨lo, hR⟩ := hT.ris
  have hm := List.mem_of_getElem? e
  have h0 := (hN.bd m hm).1
  obtain ⟨j, rfl⟩ := Int.eq_ofNat_of_zero_le h0
  have z := nth_in hR ((hT.same (j : Int)).mpr hm)
  rw [less_nums hN hT j, filt_at hN.up e] at z
  exact z
theorem inV_ints {n : Int} {ns : List Int} : inV (.int n) (ns.map V.int) = decide (n ∈ ns) := by
  rw [Bool.eq_iff_iff, decide_eq_true_eq]
  unfold inV
  rw [List.any_eq_true]
  constructor
  · rintro ⟨x, hx, e⟩
    obtain ⟨m, hm, rfl⟩ := List.mem_map.mp hx
    have e' : (m == n) = true := e
    rw [← beq_iff_eq.mp e']
    exact hm
  · exact fun h => ⟨.int n, List.mem_map.mpr ⟨n, h, rfl⟩, by show (n == n) = true; exact beq_self_eq_true n⟩
theorem flat_ints (ns : List Int) : (ns.map V.int).all flatV = true := by
  rw [List.all_eq_true]
  intro x hx
  obtain ⟨m, _, rfl⟩ := List.mem_map.mp hx
  rfl
theorem dp_bools {K : PySem.W.Frag} {H : Hp} : ∀ bs : List Bool, DpAll K H (bs.map V.bl) (bs.map PyData.bool)
  | [] => .nil
  | b :: r => .cons (.bl b) (dp_bools r)
theorem lay_bools : ∀ bs : List Bool, PyData.canLayAll0 (bs.map PyData.bool) = true
  | [] => by simp only [List.map_nil, PyData.canLayAll0]
  | n :: r => by
    rw [List.map_cons, PyData.canLayAll0, lay_bools r]
    simp [PyData.canLay0]
theorem depth_bools : ∀ bs : List Bool, PyData.depthAll (bs.map PyData.bool) = 0
  | [] => by simp only [List.map_nil, PyData.depthAll]
  | n :: r => by
    rw [List.map_cons, PyData.depthAll, depth_bools r]
    simp [PyData.depth]
theorem shaped_bools (bs : List Bool) : SeqAt.shaped (PyData.list (bs.map PyData.bool)) = true := by
  unfold SeqAt.shaped
  rw [PyData.canLay0, lay_bools, PyData.depth, depth_bools]
  rfl
theorem eqv_bools (bs : List Bool) : PyData.eqv (PyData.list (bs.map PyData.bool)) (PyData.list (bs.map PyData.bool)) = true := SeqAt.eqv_refl _ (by rw [PyData.canLay0]; exact lay_bools bs)
theorem Kt.lst {H H' : Hp} {a : Addr} {xs : List V} (k : Kt H H') (e : H a = some (.lst xs)) : H' a = some (.lst xs) := k.keep _ _ (fun _ z => nomatch z) e
theorem Kt.put {H H' : Hp} {D : Addr} {xs : List V} {o : HO} (k : Kt H H') (n : H D = none) (e : H' D = some (.lst xs)) : Kt H (upd H' D o) :=
  ⟨fun b u h z => by rw [upd_ne (ne_of_none z n)]; exact k.keep b u h z, fun P g => tabG_upd (k.tab P g) e (fun _ z => nomatch z)⟩
theorem range_snoc {α : Type} (f : Nat → α) (j : Nat) : (List.range (j + 1)).map f = (List.range j).map f ++ [f j] := by
  rw [List.range_succ, List.map_append]
  rfl
theorem dat2 {H : Hp} {a : Addr} {x y : V} {dx dy : PyData} (e : H a = some (.lst [x, y])) (h1 : Dat H x dx) (h2 : Dat H y dy) : Dat H (.ref a) (.list [dx, dy]) := .lst e rfl fun i u d e1 e2 => by
  have hj : i < 2 := (List.getElem?_eq_some_iff.mp e1).1
  have : i = 0 ∨ i = 1 := by omega
  rcases this with rfl | rfl
  · cases e1; cases e2; exact h1
  · cases e1; cases e2; exact h2
theorem any_dec {ns : List Int} {rs : List (Int × Int)} (hT : Told (fun n => n ∈ ns) rs) (n : Int) : anyP (inB n) rs = decide (n ∈ ns) := by
  rw [Bool.eq_iff_iff, decide_eq_true_eq, anyP_inS]
  exact hT.same n
/-! ### what is asked of a set -/
abbrev sAsks : Stmt := topS 17
theorem scAsks : FnScope ["_law_some", "_law_numbers_here", "_law_due", "_law_n", "_law_number", "_law_one"] ["_law_some", "_law_numbers_here"] (defScope sAsks) := ⟨rfl, rfl, rfl, by decide +kernel, rfl, by decide +kernel, by decide +kernel⟩
def spAsks (Pc Pi Pl : Addr) : Sp := fun vs H Q _ => ∃ (l g : Addr) (rs : List (Int × Int)) (ns : List Int), vs = [.ref l, .ref g] ∧ LsA H l rs ∧ H g = some (.lst (ns.map V.int)) ∧ Nums ns ∧ Told (fun n => n ∈ ns) rs ∧ GxR.TabG H Pc ∧ GxR.TabG H Pi ∧ GxR.TabG H Pl ∧ ∀ H', Kt H H' → Q (.bl true) H'
section
variable {K : PySem.W.Frag} {mg : Str → Option Value} {P : Program} {w : World} {base : Heap}
theorem ok_asks {f Pc Pi Pl : Addr} {fd : FuncData} (F : Fun K "_law_asks_right" "_law_asks_right" sAsks f fd) (CE : Cal P w K mg base 2 "_law_same" ["_law_found", "_law_due"] (spSame 1)) (CC : Cal P w K mg base 1 "count_of" ["some"] (spCount K Pc)) (CN : Cal P w K mg base 1 "nth_of" ["some", "n"] (spNthOf K))
    (CI : Cal P w K mg base 1 "is_in" ["some", "number"] (spIsIn K Pi)) (CL : Cal P w K mg base 1 "less_in" ["some", "number"] (spLessIn K Pl)) (me : mg "len" = none) (mr : mg "range" = none) : FnOk P w K mg base CX0 3 f fd ["_law_some", "_law_numbers_here"] (spAsks Pc Pi Pl) := by
  refine F.ok scAsks (fun vs H Q E h => ?_) (fun cdv A outer s H vs Q E hr h => ?_)
  · obtain ⟨l, g, rs, ns, rfl, _⟩ := h
    rfl
  · obtain ⟨l, g, rs, ns, rfl, ⟨us, el, hps⟩, eg, hN, hT, hTc, hTi, hTl, q⟩ := h
    have hr1 := hr.mono (show 1 ≤ 2 by decide)
    refine ⟨_, pss_cons (ps_if (pt_not (pt_val (pe_own CE hr (by rfl) (pa_cons (pe_lst (pa_cons (pe_own CC hr1 (by rfl) (pa_cons (pv 0) pa_nil)) (pa_cons (pe_own CN hr1 (by rfl) (pa_cons (pv 0) (pa_cons (pe_callB call_len_seq (by rfl) me PySem.boot_len (pa_cons (pv 1) pa_nil)) pa_nil))) pa_nil))) (pa_cons (pe_lst (pa_cons (pe_callB call_len_seq (by rfl) me PySem.boot_len (pa_cons (pv 1) pa_nil)) (pa_cons pe_non pa_nil))) pa_nil))))) (pss_one (ps_ret pe_bl)) pss_nil)
      (pss_cons (ps_if (pt_not (pt_val (pe_own CE hr (by rfl) (pa_cons (pe_lc (own := [("_law_n", 3)]) (g := gName 3) (tt := tYes) (te := tCall (spNthOf K) [] E0 (tCons (tVar 0) (tCons (tVar 3) tNil))) rfl scAsks.nd (pi_range1 rfl mr (pa_cons (pe_callB call_len_seq (by rfl) me PySem.boot_len (pa_cons (pv 1) pa_nil)) pa_nil))
            (blkOk_by (own := [("_law_n", 3)]) (N := ["_law_some", "_law_numbers_here", "_law_due", "_law_n", "_law_number", "_law_one"]) (sc := defScope sAsks) (by decide +kernel)) (fun _ _ _ _ _ => pg_name (i := 3) scAsks.nd rfl (.inl rfl)) (fun _ _ _ _ _ => pts_nil) (fun _ _ _ _ _ => pe_own CN hr1 (by rfl) (pa_cons (pv 0) (pa_cons (pv 3) pa_nil)))) (pa_cons (pv 1) pa_nil))))) (pss_one (ps_ret pe_bl)) pss_nil)
      (pss_cons (ps_if (pt_cmpR (op_neD hr.units) (pe_lc (own := [("_law_number", 4)]) (g := gName 4) (tt := tYes) (te := tCall (spIsIn K Pi) [] E0 (tCons (tVar 0) (tCons (tVar 4) tNil))) rfl scAsks.nd (pi_range1 rfl mr (pa_cons pe_int pa_nil))
            (blkOk_by (own := [("_law_number", 4)]) (N := ["_law_some", "_law_numbers_here", "_law_due", "_law_n", "_law_number", "_law_one"]) (sc := defScope sAsks) (by decide +kernel)) (fun _ _ _ _ _ => pg_name (i := 4) scAsks.nd rfl (.inl rfl)) (fun _ _ _ _ _ => pts_nil) (fun _ _ _ _ _ => pe_own CI hr1 (by rfl) (pa_cons (pv 0) (pa_cons (pv 4) pa_nil))))
          (pe_lc (own := [("_law_number", 4)]) (g := gName 4) (tt := tYes) (te := tOp (rIn K false) (tVar 4) (tVar 1)) rfl scAsks.nd (pi_range1 rfl mr (pa_cons pe_int pa_nil))
            (blkOk_by (own := [("_law_number", 4)]) (N := ["_law_some", "_law_numbers_here", "_law_due", "_law_n", "_law_number", "_law_one"]) (sc := defScope sAsks) (by decide +kernel)) (fun _ _ _ _ _ => pg_name (i := 4) scAsks.nd rfl (.inl rfl)) (fun _ _ _ _ _ => pts_nil) (fun _ _ _ _ _ => pe_cmpR op_in_seq (pv 4) (pv 1) (by rfl))) (nomark _)) (pss_one (ps_ret pe_bl)) pss_nil)
      (pss_cons (ps_setLc (i := 2) (own := [("_law_number", 4)]) (g := gName 4) (tt := tYes) (te := tCB (fun xs H Q => ∃ p ys, xs = [.ref p] ∧ (SqL K H p ys ∨ SqT K H p ys) ∧ Q (.int ys.length) H) (tCons (tLc (iList K (tVar 1)) (gName 5) (tTest (tOp (rI0 fun i j => .bl (decide (i < j))) (tVar 5) (tVar 4))) (tVar 5) [5]) tNil)) rfl scAsks.nd rfl rfl rfl (pi_range1 rfl mr (pa_cons pe_int pa_nil))
            (blkOk_by (own := [("_law_number", 4)]) (N := ["_law_some", "_law_numbers_here", "_law_due", "_law_n", "_law_number", "_law_one"]) (sc := defScope sAsks) (by decide +kernel)) (fun _ _ _ _ _ => pg_name (i := 4) scAsks.nd rfl (.inr rfl)) (fun _ _ _ _ _ => pts_nil)
            (fun _ _ _ _ _ => pe_callB call_len_seq (by rfl) me PySem.boot_len (pa_cons (pe_lc (own := [("_law_one", 5)]) (g := gName 5) (tt := tTest (tOp (rI0 fun i j => .bl (decide (i < j))) (tVar 5) (tVar 4))) (te := tVar 5) rfl scAsks.nd (pi_list (pv 1)) (blkOk_by (own := [("_law_one", 5)]) (N := ["_law_some", "_law_numbers_here", "_law_due", "_law_n", "_law_number", "_law_one"]) (sc := { kind := .function, names := [((".0" : Str), NameKind.local), (("_law_number" : Str), NameKind.cell), (("len" : Str), NameKind.globalImplicit), (("_law_numbers_here" : Str), NameKind.cell)], isGenerator := false, isCoroutine := false }) (by decide +kernel)) (fun _ _ _ _ _ => pg_name (i := 5) scAsks.nd rfl (.inl rfl)) (fun _ _ _ _ _ => pts_one (pt_cmpR op_lt (pv 5) (pv 4) (nomark _))) (fun _ _ _ _ _ => pv 5)) pa_nil)))
      (pss_one (ps_ret (pe_own CE hr (by rfl) (pa_cons (pe_lc (own := [("_law_number", 4)]) (g := gName 4) (tt := tYes) (te := tCall (spLessIn K Pl) [] E0 (tCons (tVar 0) (tCons (tVar 4) tNil))) rfl scAsks.nd (pi_range1 rfl mr (pa_cons pe_int pa_nil))
            (blkOk_by (own := [("_law_number", 4)]) (N := ["_law_some", "_law_numbers_here", "_law_due", "_law_n", "_law_number", "_law_one"]) (sc := defScope sAsks) (by decide +kernel)) (fun _ _ _ _ _ => pg_name (i := 4) scAsks.nd rfl (.inl rfl)) (fun _ _ _ _ _ => pts_nil) (fun _ _ _ _ _ => pe_own CL hr1 (by rfl) (pa_cons (pv 0) (pa_cons (pv 4) pa_nil)))) (pa_cons (pv 2) pa_nil)))))))), ?_⟩
    have at_ : ∀ {H' : Hp}, Kt H H' → Sq K H' l us ∧ Prs H' us rs ∧ H' g = some (.lst (ns.map V.int)) := fun k => ⟨Sq.list (k.keep _ _ (fun _ z => nomatch z) el), hps.kt k, k.keep _ _ (fun _ z => nomatch z) eg⟩
    have hnl := hN.len
    have lenm : (ns.map V.int).length = ns.length := List.length_map ..
    -- counts
    refine ⟨_, rfl, l, us, rs, rfl, (at_ (Kt.refl H)).1, (at_ (Kt.refl H)).2.1, hTc, fun H1 x1 => ?_⟩
    have k1 := Kt.tabbed hTc x1
    refine ⟨_, rfl, _, rfl, g, _, rfl, Sq.list (at_ k1).2.2, l, us, rs, _, rfl, (at_ k1).1, (at_ k1).2.1, ?_⟩
    dsimp only
    rw [lenm, cnt_nums hN hT, ← cnt_nums hN hT, nth_all hT.ris.choose_spec, cnt_nums hN hT]
    refine ⟨(by show 2 ≤ sizeLine; decide), fun A1 nA1 => ?_⟩
    have sA1 := same_upd (o := .lst [.int (ns.length : Int), .non]) nA1
    have k2 := k1.trans (.same sA1)
    refine ⟨_, rfl, g, _, rfl, Sq.list (at_ k2).2.2, (by show 2 ≤ sizeLine; decide), fun A2 nA2 => ?_⟩
    have sA2 := same_upd (o := .lst [.int ((ns.map V.int).length : Int), .non]) nA2
    refine ⟨.ref A1, .ref A2, .list [.int (ns.length : Int), .none], rfl, dat2 (sA2 _ _ upd_same) (.int _) .non, dat2 (by rw [upd_same, lenm]) (.int _) .non, ⟨by show 2 ≤ 900; decide, fun d hd => by
      rcases List.mem_cons.mp hd with e | e
      · rw [e]; trivial
      · rw [List.mem_singleton.mp e]; trivial⟩, fun H3 s3 => ⟨_, rfl, iteF ?_⟩⟩
    have k3 := (k2.trans (.same sA2)).trans (.same s3)
    -- nth_of each in its turn
    refine ⟨_, rfl, g, _, rfl, Sq.list (at_ k3).2.2, (ns.length : Int), by rw [lenm], by omega, by omega, fun D nD => lc_range (n := ns.length) (fun j H' => Same H3 H' ∧ H' D = some (.lst ((ns.take j).map V.int))) ⟨same_upd nD, upd_same⟩ (fun j H' hj hP => ?_) (fun H4 hP => ?_)⟩
    · obtain ⟨sm, eD⟩ := hP
      have kk := k3.trans (.same sm)
      have ev : oV (nthP (0 + (j : Int)) rs) = .int ns[j] := by rw [Int.zero_add, nth_nums hN hT (List.getElem?_eq_getElem hj)]; rfl
      refine ⟨rfl, _, rfl, _, rfl, l, us, rs, _, rfl, (at_ kk).1, (at_ kk).2.1, ?_⟩
      dsimp only
      rw [ev]
      refine ⟨_, eD, small1000 (by rw [List.length_map, List.length_take]; omega), fun b o e => ?_, ?_⟩
      · rw [upd_ne (ne_of_none e nD)]
        exact sm b o e
      · rw [upd_same, List.take_add_one, List.getElem?_eq_getElem hj, List.map_append]
        rfl
    obtain ⟨sm, eD⟩ := hP
    rw [List.take_length] at eD
    have k4 := k3.trans (.same sm)
    refine ⟨_, rfl, _, _, _, rfl, ints_dat eD, ints_dat (at_ k4).2.2, sm_ints (by omega), fun H5 s5 => ⟨_, rfl, iteF ?_⟩⟩
    have k5 := k4.trans (.same s5)
    -- is_in
    refine ⟨43, rfl, by decide, by decide, fun D nD => lc_range (n := 43) (fun j H' => Kt H5 H' ∧ H' D = some (.lst (((List.range j).map fun i : Nat => decide ((i : Int) ∈ ns)).map V.bl))) ⟨.same (same_upd nD), upd_same⟩ (fun j H' hj hP => ?_) (fun H6 hP => ?_)⟩
    · obtain ⟨kt, eD⟩ := hP
      have kk := k5.trans kt
      have gi := kk.tab _ hTi
      refine ⟨rfl, _, rfl, _, rfl, l, us, rs, _, rfl, (at_ kk).1, (at_ kk).2.1, gi, fun H7 x7 => ?_⟩
      have k7 := Kt.tabbed gi x7
      have eD7 := k7.lst eD
      rw [any_dec hT, Int.zero_add]
      refine ⟨_, eD7, small1000 (by rw [List.length_map, List.length_map, List.length_range]; omega), (kt.trans k7).put nD eD7, ?_⟩
      rw [upd_same, range_snoc, List.map_append]
      rfl
    obtain ⟨kt6, eD6⟩ := hP
    have k6 := k5.trans kt6
    refine ⟨43, rfl, by decide, by decide, fun D2 nD2 => lc_range (n := 43) (fun j H' => Same H6 H' ∧ H' D2 = some (.lst (((List.range j).map fun i : Nat => decide ((i : Int) ∈ ns)).map V.bl))) ⟨same_upd nD2, upd_same⟩ (fun j H' hj hP => ?_) (fun H7 hP => ?_)⟩
    · obtain ⟨sm, eD⟩ := hP
      have kk := k6.trans (.same sm)
      refine ⟨rfl, _, rfl, _, rfl, g, _, rfl, Sq.list (at_ kk).2.2, rfl, flat_ints ns, ?_⟩
      rw [if_neg (by decide), inV_ints, Int.zero_add]
      refine ⟨_, eD, small1000 (by rw [List.length_map, List.length_map, List.length_range]; omega), fun b o e => ?_, ?_⟩
      · rw [upd_ne (ne_of_none e nD2)]
        exact sm b o e
      · rw [upd_same, range_snoc, List.map_append]
        rfl
    obtain ⟨sm7, eD7⟩ := hP
    refine ⟨_, _, .lst (SqL.of (sm7 _ _ eD6)) (dp_bools _), .lst (SqL.of eD7) (dp_bools _), shaped_bools _, shaped_bools _, _, rfl, ?_⟩
    rw [eqv_bools]
    refine iteF ?_
    have k7 := k6.trans (.same sm7)
    -- due
    refine ⟨43, rfl, by decide, by decide, fun D3 nD3 => lc_range (n := 43) (fun j H' => Same H7 H' ∧ H' D3 = some (.lst (((List.range j).map fun i : Nat => ((ns.filter fun k => decide (k < (i : Int))).length : Int)).map V.int))) ⟨same_upd nD3, upd_same⟩ (fun j H' hj hP => ?_) (fun H8 hP => ?_)⟩
    · obtain ⟨sm, eD⟩ := hP
      have kk := k7.trans (.same sm)
      refine ⟨rfl, _, rfl, g, rfl, ⟨_, SqL.of (at_ kk).2.2⟩, fun D4 nD4 => lc_list (xs := ns.map V.int) (fun i H'' => Same H' H'' ∧ H'' D4 = some (.lst (((ns.take i).filter fun k => decide (k < (j : Int))).map V.int))) ⟨same_upd nD4, upd_same⟩ (fun i H'' _ hP => SqL.of (hP.1 _ _ (at_ kk).2.2)) (fun i x H'' hx hP => ?_) (fun H9 hP => ?_)⟩
      · obtain ⟨sm2, eD4⟩ := hP
        obtain ⟨m, em, rfl⟩ : ∃ m, ns[i]? = some m ∧ x = .int m := by
          rw [List.getElem?_map] at hx
          cases h : ns[i]? with
          | none => rw [h] at hx; cases hx
          | some n => rw [h] at hx; exact ⟨n, rfl, (Option.some.inj hx).symm⟩
        have hi : i < ns.length := (List.getElem?_eq_some_iff.mp em).1
        refine ⟨rfl, _, rfl, _, rfl, m, 0 + (j : Int), rfl, rfl, _, rfl, ?_⟩
        have etake : (ns.take (i + 1)).filter (fun k => decide (k < (j : Int))) = (ns.take i).filter (fun k => decide (k < (j : Int))) ++ (if m < (j : Int) then [m] else []) := by
          rw [List.take_add_one, em, List.filter_append]
          by_cases c : m < (j : Int)
          · rw [if_pos c]; simp [c]
          · rw [if_neg c]; simp [c]
        refine ite2 (fun c => ?_) (fun c => ?_)
        · have c' : m < (j : Int) := by have := of_decide_eq_true c; omega
          refine ⟨_, rfl, _, eD4, small1000 ?_, fun b o e => ?_, ?_⟩
          · rw [List.length_map]
            exact Nat.le_trans (List.length_filter_le _ _) (by rw [List.length_take]; omega)
          · rw [upd_ne (ne_of_none e nD4)]
            exact sm2 b o e
          · rw [upd_same, etake, if_pos c', List.map_append]
            rfl
        · have c' : ¬ m < (j : Int) := fun z => c (decide_eq_true (by omega))
          refine ⟨sm2, ?_⟩
          rw [etake, if_neg c', List.append_nil]
          exact eD4
      · obtain ⟨sm2, eD4⟩ := hP
        rw [lenm, List.take_length] at eD4
        refine ⟨D4, _, rfl, Sq.list eD4, _, sm2 _ _ eD, small1000 (by rw [List.length_map, List.length_map, List.length_range]; omega), fun b o e => ?_, ?_⟩
        · rw [upd_ne (ne_of_none e nD3)]
          exact sm2 _ _ (sm b o e)
        · rw [upd_same, range_snoc, List.map_append, List.length_map]
          rfl
    obtain ⟨sm8, eD8⟩ := hP
    have k8 := k7.trans (.same sm8)
    refine ⟨43, rfl, by decide, by decide, fun D5 nD5 => lc_range (n := 43) (fun j H' => Kt H8 H' ∧ H' D5 = some (.lst (((List.range j).map fun i : Nat => ((ns.filter fun k => decide (k < (i : Int))).length : Int)).map V.int))) ⟨.same (same_upd nD5), upd_same⟩ (fun j H' hj hP => ?_) (fun H9 hP => ?_)⟩
    · obtain ⟨kt, eD⟩ := hP
      have kk := k8.trans kt
      have gl := kk.tab _ hTl
      refine ⟨rfl, _, rfl, _, rfl, l, us, rs, _, rfl, (at_ kk).1, (at_ kk).2.1, gl, fun H10 x10 => ?_⟩
      have k10 := Kt.tabbed gl x10
      have eD10 := k10.lst eD
      rw [Int.zero_add, less_nums hN hT]
      refine ⟨_, eD10, small1000 (by rw [List.length_map, List.length_map, List.length_range]; omega), (kt.trans k10).put nD5 eD10, ?_⟩
      rw [upd_same, range_snoc, List.map_append]
      rfl
    obtain ⟨kt9, eD9⟩ := hP
    refine ⟨_, rfl, _, _, _, rfl, ints_dat eD9, ints_dat (kt9.keep _ _ (fun _ z => nomatch z) eD8), sm_ints (by rw [List.length_map, List.length_range]; decide), fun H10 s10 => ?_⟩
    exact q _ ((k8.trans kt9).trans (.same s10))
end

/-! ### lists of sets, lists of numbers -/
def SL (Ok : Addr → Prop) (H : Hp) (ws : List V) (rss : List (List (Int × Int))) : Prop := ws.length = rss.length ∧ ∀ (i : Nat) r, rss[i]? = some r → ∃ q, ws[i]? = some (.ref q) ∧ LsA H q r ∧ Ok q
theorem SL.nil {Ok : Addr → Prop} {H : Hp} : SL Ok H [] [] := ⟨rfl, fun _ _ e => nomatch e⟩
theorem SL.snoc {Ok : Addr → Prop} {H : Hp} {ws : List V} {rss : List (List (Int × Int))} {q : Addr} {r : List (Int × Int)} (h : SL Ok H ws rss) (e : LsA H q r) (o : Ok q) : SL Ok H (ws ++ [.ref q]) (rss ++ [r]) := by
  refine ⟨by rw [List.length_append, List.length_append, h.1]; rfl, fun i r' er => ?_⟩
  by_cases hi : i < rss.length
  · rw [List.getElem?_append_left hi] at er
    rw [List.getElem?_append_left (by rw [h.1]; exact hi)]
    exact h.2 i r' er
  · rw [List.getElem?_append_right (by omega)] at er
    rw [List.getElem?_append_right (by rw [h.1]; omega), h.1]
    cases hq : i - rss.length with
    | zero =>
      rw [hq] at er
      cases er
      exact ⟨q, rfl, e, o⟩
    | succ n => rw [hq] at er; cases er
theorem SL.app {Ok : Addr → Prop} {H : Hp} {ws vs : List V} {rss qss : List (List (Int × Int))} (h : SL Ok H ws rss) (h' : SL Ok H vs qss) : SL Ok H (ws ++ vs) (rss ++ qss) := by
  refine ⟨by rw [List.length_append, List.length_append, h.1, h'.1], fun i r' er => ?_⟩
  by_cases hi : i < rss.length
  · rw [List.getElem?_append_left hi] at er
    rw [List.getElem?_append_left (by rw [h.1]; exact hi)]
    exact h.2 i r' er
  · rw [List.getElem?_append_right (by omega)] at er
    rw [List.getElem?_append_right (by rw [h.1]; omega), h.1]
    exact h'.2 _ r' er
theorem SL.map {Ok Ok' : Addr → Prop} {H H' : Hp} {ws : List V} {rss : List (List (Int × Int))} (h : SL Ok H ws rss) (f : ∀ q r, LsA H q r → Ok q → LsA H' q r ∧ Ok' q) : SL Ok' H' ws rss := ⟨h.1, fun i r e => let ⟨q, e1, e2, e3⟩ := h.2 i r e; ⟨q, e1, (f q r e2 e3).1, (f q r e2 e3).2⟩⟩
theorem SL.same {Ok : Addr → Prop} {H H' : Hp} {ws : List V} {rss : List (List (Int × Int))} (h : SL Ok H ws rss) (s : Same H H') : SL Ok H' ws rss := h.map fun _ _ e o => ⟨e.same s, o⟩
theorem SL.kt {Ok : Addr → Prop} {H H' : Hp} {ws : List V} {rss : List (List (Int × Int))} (h : SL Ok H ws rss) (s : Kt H H') : SL Ok H' ws rss := h.map fun _ _ e o => ⟨e.kt s, o⟩
def setD (r : List (Int × Int)) : PyData := .list (r.map pairD)
theorem SL.dat {Ok : Addr → Prop} {H : Hp} {D : Addr} {ws : List V} {rss : List (List (Int × Int))} (h : SL Ok H ws rss) (e : H D = some (.lst ws)) : Dat H (.ref D) (.list (rss.map setD)) := .lst e (by rw [List.length_map]; exact h.1) fun i x d e1 e2 => by
  rw [List.getElem?_map] at e2
  cases hr : rss[i]? with
  | none => rw [hr] at e2; cases e2
  | some r =>
    rw [hr] at e2
    cases e2
    obtain ⟨q, f1, f2, _⟩ := h.2 i r hr
    rw [f1] at e1
    cases e1
    exact f2.dat
theorem sm_sets {rss : List (List (Int × Int))} (h : rss.length ≤ 900) (hr : ∀ r ∈ rss, r.length ≤ 900) : Sm 3 (.list (rss.map setD)) := by
  refine ⟨by rw [List.length_map]; exact h, fun d hd => ?_⟩
  obtain ⟨r, hr', rfl⟩ := List.mem_map.mp hd
  exact sm_prs (hr r hr')
/-- listed numbers at places -/
def NL (H : Hp) (ws : List V) (nss : List (List Int)) : Prop := ws.length = nss.length ∧ ∀ (i : Nat) ns, nss[i]? = some ns → ∃ q, ws[i]? = some (.ref q) ∧ H q = some (.lst (ns.map V.int))
theorem NL.nil {H : Hp} : NL H [] [] := ⟨rfl, fun _ _ e => nomatch e⟩
theorem NL.snoc {H : Hp} {ws : List V} {nss : List (List Int)} {q : Addr} {ns : List Int} (h : NL H ws nss) (e : H q = some (.lst (ns.map V.int))) : NL H (ws ++ [.ref q]) (nss ++ [ns]) := by
  refine ⟨by rw [List.length_append, List.length_append, h.1]; rfl, fun i r' er => ?_⟩
  by_cases hi : i < nss.length
  · rw [List.getElem?_append_left hi] at er
    rw [List.getElem?_append_left (by rw [h.1]; exact hi)]
    exact h.2 i r' er
  · rw [List.getElem?_append_right (by omega)] at er
    rw [List.getElem?_append_right (by rw [h.1]; omega), h.1]
    cases hq : i - nss.length with
    | zero =>
      rw [hq] at er
      cases er
      exact ⟨q, rfl, e⟩
    | succ n => rw [hq] at er; cases er
theorem NL.kt {H H' : Hp} {ws : List V} {nss : List (List Int)} (h : NL H ws nss) (k : Kt H H') : NL H' ws nss := ⟨h.1, fun i r e => let ⟨q, e1, e2⟩ := h.2 i r e; ⟨q, e1, k.lst e2⟩⟩
/-- the numbers up to 39 -/
def to40 : List Int := (List.range 40).map fun i : Nat => (i : Int)
theorem nums_filter {ns : List Int} (h : Nums ns) (p : Int → Bool) : Nums (ns.filter p) := ⟨h.up.filter p, fun n hn => h.bd n (List.mem_filter.mp hn).1, Nat.le_trans (List.length_filter_le _ _) h.len⟩
theorem nums_to40 : Nums to40 := by
  refine ⟨?_, fun n hn => ?_, by unfold to40; rw [List.length_map, List.length_range]; exact Nat.le_refl _⟩
  · unfold to40
    rw [List.pairwise_map]
    exact (List.pairwise_lt_range).imp fun {a b} h => by omega
  · unfold to40 at hn
    obtain ⟨i, hi, rfl⟩ := List.mem_map.mp hn
    have := List.mem_range.mp hi
    omega
theorem mem_to40 {n : Int} (h0 : 0 ≤ n) (h1 : n < 40) : n ∈ to40 := by
  obtain ⟨k, rfl⟩ := Int.eq_ofNat_of_zero_le h0
  exact List.mem_map.mpr ⟨k, List.mem_range.mpr (by omega), rfl⟩
/-! ### the law -/
abbrev sLaw : Stmt := topS 18
abbrev nLaw : List Str := ["_law_script", "_law_state", "_law_turn", "_law_one", "_law_other", "_law_sets", "_law_some", "_law_kept", "_law_found", "_law_numbers_here", "_law_number"]
theorem scLaw : FnScope ["_law_script", "_law_state", "_law_turn", "_law_one", "_law_other", "_law_sets", "_law_some", "_law_kept", "_law_found", "_law_numbers_here", "_law_number"] ["_law_script"] (defScope sLaw) := ⟨rfl, rfl, rfl, by decide +kernel, rfl, by decide +kernel, by decide +kernel⟩
def spLaw (K : PySem.W.Frag) (Pc Pi Pl : Addr) : Sp := fun vs H Q _ => ∃ (a : Addr) (ns : List Int), vs = [.ref a] ∧ SqL K H a (ns.map V.int) ∧ ns.length ≤ 63 ∧ GxR.TabG H Pc ∧ GxR.TabG H Pi ∧ GxR.TabG H Pl ∧ ∀ H', Q (.bl true) H'
section
variable {K : PySem.W.Frag} {mg : Str → Option Value} {P : Program} {w : World} {base : Heap}
theorem ok_law {f Pc Pi Pl : Addr} {fd : FuncData} (F : Fun K "law" "law" sLaw f fd) (CB : Cal P w K mg base 1 "_law_begin" ["_law_script"] (spBegin K)) (CU : Cal P w K mg base 2 "_law_numbers" ["_law_state"] spNums) (CS : Cal P w K mg base 1 "_law_set_of" ["_law_numbers_here"] spLSet) (CR : Cal P w K mg base 2 "_law_pairs" ["_law_state", "_law_some"] spLPairs)
    (CM : Cal P w K mg base 4 "_law_same" ["_law_found", "_law_due"] (spSame 3)) (CQ : Cal P w K mg base 3 "_law_asks_right" ["_law_some", "_law_numbers_here"] (spAsks Pc Pi Pl)) (CO : Cal P w K mg base 1 "set_of" ["pairs"] (spSetOf K)) (CE : Cal P w K mg base 2 "either" ["one", "other"] (spEither K)) (CA : Cal P w K mg base 1 "both_of" ["one", "other"] (spBoth K)) (CW : Cal P w K mg base 3 "without" ["one", "other"] (spWithout K))
    (mr : mg "range" = none) (mz : mg "zip" = none) : FnOk P w K mg base CX0 5 f fd ["_law_script"] (spLaw K Pc Pi Pl) := by
  refine F.ok scLaw (fun vs H Q E h => ?_) (fun cdv A outer s H vs Q E hr h => ?_)
  · obtain ⟨a, ns, rfl, _⟩ := h
    rfl
  · obtain ⟨a, ns, rfl, hS, hlen, hTc, hTi, hTl, q⟩ := h
    have hr1 := hr.mono (show 1 ≤ 4 by decide)
    have hr2 := hr.mono (show 2 ≤ 4 by decide)
    have hr3 := hr.mono (show 3 ≤ 4 by decide)
    refine ⟨_, pss_cons (ps_set (i := 1) scLaw.nd rfl (.inr rfl) (pe_own CB hr1 (by rfl) (pa_cons (pv 0) pa_nil)))
      (pss_cons (ps_for PassesOwn.never rfl (pi_range1 rfl mr (pa_cons pe_int pa_nil)) (pg_name (i := 2) scLaw.nd rfl (.inl rfl))
        (pss_cons (ps_asg (pe_tup (pa_cons (pe_own CU hr2 (by rfl) (pa_cons (pv 1) pa_nil)) (pa_cons (pe_own CU hr2 (by rfl) (pa_cons (pv 1) pa_nil)) pa_nil))) (pg_tup rfl (pgs_cons (pg_name (i := 3) scLaw.nd rfl (.inr rfl)) (pgs_cons (pg_name (i := 4) scLaw.nd rfl (.inr rfl)) pgs_nil))))
        (pss_cons (ps_set (i := 5) scLaw.nd rfl (.inl rfl) (pe_lst (pa_cons (pe_own CS hr1 (by rfl) (pa_cons (pv 3) pa_nil)) (pa_cons (pe_own CS hr1 (by rfl) (pa_cons (pv 4) pa_nil)) pa_nil))))
        (pss_cons (ps_if (pt_not (pt_val (pe_own CM hr (by rfl) (pa_cons (pe_lc (own := [("_law_some", 6)]) (g := gName 6) (tt := tYes) (te := tCall (spSetOf K) [] E0 (tCons (tCall spLPairs [] E0 (tCons (tVar 1) (tCons (tVar 6) tNil))) tNil)) rfl scLaw.nd (pi_list (pv 5))
            (blkOk_by (own := [("_law_some", 6)]) (N := nLaw) (sc := defScope sLaw) (by decide +kernel)) (fun _ _ _ _ _ => pg_name (i := 6) scLaw.nd rfl (.inl rfl)) (fun _ _ _ _ _ => pts_nil) (fun _ _ _ _ _ => pe_own CO hr1 (by rfl) (pa_cons (pe_own CR hr2 (by rfl) (pa_cons (pv 1) (pa_cons (pv 6) pa_nil))) pa_nil))) (pa_cons (pv 5) pa_nil))))) (pss_one (ps_ret pe_bl)) pss_nil)
        (pss_cons (ps_set (i := 7) scLaw.nd rfl (.inl rfl) (pe_lst (pa_cons (pe_lc (own := [("_law_number", 10)]) (g := gName 10) (tt := tOr (tTest (tOp (rIn K false) (tVar 10) (tVar 3))) (tTest (tOp (rIn K false) (tVar 10) (tVar 4)))) (te := tVar 10) rfl scLaw.nd (pi_range1 rfl mr (pa_cons pe_int pa_nil))
            (blkOk_by (own := [("_law_number", 10)]) (N := nLaw) (sc := defScope sLaw) (by decide +kernel)) (fun _ _ _ _ _ => pg_name (i := 10) scLaw.nd rfl (.inl rfl)) (fun _ _ _ _ _ => pts_one (PW.pt (pw_or (pt_cmpR op_in_seq (pv 10) (pv 3) (by rfl)) (pw_or1 (pt_cmpR op_in_seq (pv 10) (pv 4) (by rfl)))))) (fun _ _ _ _ _ => pv 10)) pa_nil)))
        (pss_cons (ps_expr (pe_bm PySem.F.plainAttrs_list PySem.F.slot_list_append PySem.F.type_list_append mt_append (pv 7) (pa_cons (pe_lc (own := [("_law_number", 10)]) (g := gName 10) (tt := tTest (tOp (rIn K false) (tVar 10) (tVar 4))) (te := tVar 10) rfl scLaw.nd (pi_list (pv 3))
            (blkOk_by (own := [("_law_number", 10)]) (N := nLaw) (sc := defScope sLaw) (by decide +kernel)) (fun _ _ _ _ _ => pg_name (i := 10) scLaw.nd rfl (.inl rfl)) (fun _ _ _ _ _ => pts_one (pt_cmpR op_in_seq (pv 10) (pv 4) (by rfl))) (fun _ _ _ _ _ => pv 10)) pa_nil)))
        (pss_cons (ps_expr (pe_bm PySem.F.plainAttrs_list PySem.F.slot_list_append PySem.F.type_list_append mt_append (pv 7) (pa_cons (pe_lc (own := [("_law_number", 10)]) (g := gName 10) (tt := tTest (tOp (rIn K true) (tVar 10) (tVar 4))) (te := tVar 10) rfl scLaw.nd (pi_list (pv 3))
            (blkOk_by (own := [("_law_number", 10)]) (N := nLaw) (sc := defScope sLaw) (by decide +kernel)) (fun _ _ _ _ _ => pg_name (i := 10) scLaw.nd rfl (.inl rfl)) (fun _ _ _ _ _ => pts_one (pt_cmpR op_notIn_seq (pv 10) (pv 4) (by rfl))) (fun _ _ _ _ _ => pv 10)) pa_nil)))
        (pss_cons (ps_set (i := 8) scLaw.nd rfl (.inl rfl) (pe_lst (pa_cons (pe_own CE hr2 (by rfl) (pa_cons (pe_ix ix_list (pv 5) pe_int (fun _ _ => rfl)) (pa_cons (pe_ix ix_list (pv 5) pe_int (fun _ _ => rfl)) pa_nil))) (pa_cons (pe_own CA hr1 (by rfl) (pa_cons (pe_ix ix_list (pv 5) pe_int (fun _ _ => rfl)) (pa_cons (pe_ix ix_list (pv 5) pe_int (fun _ _ => rfl)) pa_nil))) (pa_cons (pe_own CW hr3 (by rfl) (pa_cons (pe_ix ix_list (pv 5) pe_int (fun _ _ => rfl)) (pa_cons (pe_ix ix_list (pv 5) pe_int (fun _ _ => rfl)) pa_nil))) pa_nil)))))
        (pss_cons (ps_if (pt_not (pt_val (pe_own CM hr (by rfl) (pa_cons (pv 8) (pa_cons (pe_lc (own := [("_law_numbers_here", 9)]) (g := gName 9) (tt := tYes) (te := tCall spLSet [] E0 (tCons (tVar 9) tNil)) rfl scLaw.nd (pi_list (pv 7))
            (blkOk_by (own := [("_law_numbers_here", 9)]) (N := nLaw) (sc := defScope sLaw) (by decide +kernel)) (fun _ _ _ _ _ => pg_name (i := 9) scLaw.nd rfl (.inl rfl)) (fun _ _ _ _ _ => pts_nil) (fun _ _ _ _ _ => pe_own CS hr1 (by rfl) (pa_cons (pv 9) pa_nil))) pa_nil))))) (pss_one (ps_ret pe_bl)) pss_nil)
        (pss_one (ps_for PassesOwn.never rfl (pi_zip (by rfl) mz (pa_cons (pe_op op_cat (pv 5) (pv 8)) (pa_cons (pe_op op_cat (pe_lst (pa_cons (pv 3) (pa_cons (pv 4) pa_nil))) (pv 7)) pa_nil))) (pg_tup rfl (pgs_cons (pg_name (i := 6) scLaw.nd rfl (.inl rfl)) (pgs_cons (pg_name (i := 9) scLaw.nd rfl (.inl rfl)) pgs_nil)))
          (pss_one (ps_if (pt_not (pt_val (pe_own CQ hr3 (by rfl) (pa_cons (pv 6) (pa_cons (pv 9) pa_nil))))) (pss_one (ps_ret pe_bl)) pss_nil)))))))))))))
      (pss_one (ps_ret pe_bl))), ?_⟩
    refine ⟨.ref a, rfl, a, ns, rfl, hS, hlen, fun d c H1 s1 nd nc hS1 => ?_⟩
    refine ⟨4, rfl, by decide, by decide, for_range (n := 4) (fun i σ Hx => ∃ (t : Int) (y2 y3 y4 y5 y6 y7 y8 y9 y10 : Option V), σ = [some (.ref a), some (.ref d), y2, y3, y4, y5, y6, y7, y8, y9, y10] ∧ 0 ≤ t ∧ t ≤ 1000 * i ∧ StAt Hx d c t ∧ GxR.TabG Hx Pc ∧ GxR.TabG Hx Pi ∧ GxR.TabG Hx Pl)
      ⟨0, _, _, _, _, _, _, _, _, _, rfl, by decide, by decide, hS1, tabG_same hTc s1, tabG_same hTi s1, tabG_same hTl s1⟩ (fun i σ Hx hi hP => ?_) (fun σ Hx hP => ?_)⟩
    · obtain ⟨t, y2, y3, y4, y5, y6, y7, y8, y9, y10, rfl, t0, t1, hSx, hc, hj, hl⟩ := hP
      -- one, other
      refine ⟨_, rfl, d, c, t, rfl, hSx, by omega, fun l1 n1 t2 H2 nl1 e1 N1 t20 t21 hS2 k2 => ?_⟩
      have off1 := hSx.off nl1
      refine ⟨_, rfl, d, c, t2, rfl, hS2, by omega, fun l2 n2 t3 H3 nl2 e2 N2 t30 t31 hS3 k3 => ?_⟩
      have off2 := hS2.off nl2
      refine ⟨(by show 2 ≤ sizeLine; decide), fun T nT => ?_⟩
      have sT := same_upd (o := .tup [.ref l1, .ref l2]) nT
      refine ⟨T, _, rfl, .inl (.inl upd_same), rfl, _, _, rfl, _, _, rfl, rfl, ?_⟩
      have e1' := sT _ _ (k3 _ _ off1.1 off1.2 e1)
      have e2' := sT _ _ e2
      have hS4 := hS3.same sT
      have T4 : ∀ {Pv : Addr}, GxR.TabG Hx Pv → GxR.TabG (upd H3 T (.tup [.ref l1, .ref l2])) Pv := fun g => tabG_same (tabG_kp (tabG_kp g hSx k2) hS2 k3) sT
      revert e1' e2' hS4 T4
      generalize upd H3 T (.tup [.ref l1, .ref l2]) = H4
      intro e1' e2' hS4 T4
      -- sets
      refine ⟨_, rfl, l1, n1, rfl, e1', N1, fun g1 r1 H5 ng1 h1 T1 z1 s5 => ?_⟩
      have offg1 := hS4.off ng1
      refine ⟨_, rfl, l2, n2, rfl, s5 _ _ e2', N2, fun g2 r2 H6 ng2 h2 T2 z2 s6 => ?_⟩
      have offg2 := (hS4.same s5).off ng2
      refine ⟨(by show 2 ≤ sizeLine; decide), fun st nst => ?_⟩
      have sst := same_upd (o := .lst [.ref g1, .ref g2]) nst
      have offst := ((hS4.same s5).same s6).off nst
      have est := upd_same (H := H6) (a := st) (o := .lst [.ref g1, .ref g2])
      have S7 := (s5.trans s6).trans sst
      have h1' := (h1.same s6).same sst
      have h2' := h2.same sst
      revert est S7 h1' h2'
      generalize upd H6 st (.lst [.ref g1, .ref g2]) = H7
      intro est S7 h1' h2'
      have hS7 := hS4.same S7
      have b1 : ∀ p ∈ r1, 0 ≤ p.1 ∧ p.2 < 40 := fun p hp => by
        obtain ⟨lo, hR⟩ := T1.ris
        have hz := hR.le p hp
        exact ⟨(N1.bd _ ((T1.same p.1).mp ⟨p, hp, Int.le_refl _, hz.2⟩)).1, (N1.bd _ ((T1.same p.2).mp ⟨p, hp, hz.2, Int.le_refl _⟩)).2⟩
      have b2 : ∀ p ∈ r2, 0 ≤ p.1 ∧ p.2 < 40 := fun p hp => by
        obtain ⟨lo, hR⟩ := T2.ris
        have hz := hR.le p hp
        exact ⟨(N2.bd _ ((T2.same p.1).mp ⟨p, hp, Int.le_refl _, hz.2⟩)).1, (N2.bd _ ((T2.same p.2).mp ⟨p, hp, hz.2, Int.le_refl _⟩)).2⟩
      -- [set_of(pairs(state, some)) for some in sets]
      refine ⟨_, rfl, st, rfl, ⟨_, SqL.of est⟩, fun D nD => lc_list (xs := [.ref g1, .ref g2]) (fun j H' => ∃ (t' : Int) (ws : List V), t3 ≤ t' ∧ t' ≤ t3 + 400 * j ∧ StAt H' d c t' ∧ Kp d c H7 H' ∧ H' D = some (.lst ws) ∧ SL (fun q => q ≠ d ∧ q ≠ c ∧ q ≠ D) H' ws ([r1, r2].take j))
        ⟨t3, [], by omega, by omega, hS7.same (same_upd nD), Kp.same d c (same_upd nD), upd_same, SL.nil⟩ (fun j H' _ hP => ?_) (fun j x H' hx hP => ?_) (fun H8 hP => ?_)⟩
      · obtain ⟨_, _, _, _, _, kp, _⟩ := hP
        exact SqL.of (kp _ _ offst.1 offst.2 est)
      · obtain ⟨t', ws, u0, u1, hS', kp, eD, sl⟩ := hP
        have offD := hS7.off nD
        obtain ⟨g, r, nn, er, rfl, hg, offg, Tg, zg, bg⟩ : ∃ (g : Addr) (r : List (Int × Int)) (nn : List Int), [r1, r2][j]? = some r ∧ x = .ref g ∧ LsA H7 g r ∧ (g ≠ d ∧ g ≠ c) ∧ Told (fun n => n ∈ nn) r ∧ r.length ≤ 40 ∧ (∀ p ∈ r, 0 ≤ p.1 ∧ p.2 < 40) := by
          have hj : j < 2 := (List.getElem?_eq_some_iff.mp hx).1
          have : j = 0 ∨ j = 1 := by omega
          rcases this with rfl | rfl
          · exact ⟨g1, r1, n1, rfl, (Option.some.inj hx).symm, h1', offg1, T1, z1, b1⟩
          · exact ⟨g2, r2, n2, rfl, (Option.some.inj hx).symm, h2', offg2, T2, z2, b2⟩
        have hj : j < 2 := (List.getElem?_eq_some_iff.mp hx).1
        refine ⟨rfl, _, rfl, _, rfl, d, c, g, t', r, rfl, hS', by omega, hg.kp hS7 kp offg, offg, Tg.ris, bg, zg, fun l' qs t'' H9 n9 h9 eqv9 z9 v0 v1 hS9 k9 => ?_⟩
        obtain ⟨us9, e9, p9⟩ := h9
        have eD9 := k9 _ _ offD.1 offD.2 eD
        refine ⟨l', us9, qs, rfl, Sq.list e9, p9, by omega, fun l2' ws2 rs2 H10 n10 e10 p10 set10 s10 => ?_⟩
        have er10 : rs2 = r := set10.told.one (Told.of Tg.ris.choose_spec) eqv9
        subst er10
        have offq := hS9.off n10
        have nqD : l2' ≠ D := (ne_of_none eD9 n10).symm
        have etake : [r1, r2].take (j + 1) = [r1, r2].take j ++ [rs2] := by rw [List.take_add_one, er]; rfl
        have sl10 : SL (fun q => q ≠ d ∧ q ≠ c ∧ q ≠ D) H10 (ws ++ [.ref l2']) ([r1, r2].take j ++ [rs2]) := ((sl.map fun q r e o => ⟨(e.kp hS' k9 ⟨o.1, o.2.1⟩).same s10, o⟩).snoc ⟨_, e10, p10⟩ ⟨offq.1, offq.2, nqD⟩)
        have hwl : ws.length ≤ 2 := by rw [sl.1, List.length_take]; show min j 2 ≤ 2; omega
        refine ⟨_, s10 _ _ eD9, small1000 (by omega), t'', ws ++ [.ref l2'], by omega, by omega, (hS9.same s10).upd offD.1 offD.2, fun b o b1 b2 e => ?_, upd_same, ?_⟩
        · rw [upd_ne (ne_of_none e nD)]
          exact s10 _ _ (k9 b o b1 b2 (kp b o b1 b2 e))
        · rw [etake]
          refine sl10.map fun q r e o => ⟨?_, o⟩
          obtain ⟨uq, eq, pq⟩ := e
          exact ⟨uq, by rw [upd_ne o.2.2]; exact eq, pq.upd_lst (s10 _ _ eD9)⟩
      obtain ⟨t8, ws8, u0, u1, hS8, kp8, eD8, sl8⟩ := hP
      have u1' : t8 ≤ t3 + 800 := u1
      have hst8 := kp8 _ _ offst.1 offst.2 est
      have slS : SL (fun _ => True) H8 [.ref g1, .ref g2] [r1, r2] := SL.snoc (SL.snoc SL.nil (h1'.kp hS7 kp8 offg1) trivial) (h2'.kp hS7 kp8 offg2) trivial
      refine ⟨_, rfl, _, _, _, rfl, sl8.dat eD8, slS.dat hst8, sm_sets (by show 2 ≤ 900; decide) (fun r hr' => by
        rcases List.mem_cons.mp hr' with e | e
        · rw [e]; omega
        · rw [List.mem_singleton.mp e]; omega), fun H9 s9 => ⟨_, rfl, iteF ?_⟩⟩
      -- from here on the state stays as it is; all is told of the heap H9
      have hS9 := hS8.same s9
      have off_e1 : H9 l1 = some (.lst (n1.map V.int)) := s9 _ _ (kp8 _ _ off1.1 off1.2 (S7 _ _ e1'))
      have off_e2 : H9 l2 = some (.lst (n2.map V.int)) := s9 _ _ (kp8 _ _ off2.1 off2.2 (S7 _ _ e2'))
      have est9 := s9 _ _ hst8
      have slS9 := slS.same s9
      have T9 : ∀ {Pv : Addr}, GxR.TabG Hx Pv → GxR.TabG H9 Pv := fun g => tabG_same (tabG_kp (tabG_same (T4 g) S7) hS7 kp8) s9
      have in1 : ∀ n : Int, (if false = true then !inV (.int n) (n1.map V.int) else inV (.int n) (n1.map V.int)) = decide (n ∈ n1) := fun n => by rw [if_neg (by decide), inV_ints]
      have in2 : ∀ n : Int, (if false = true then !inV (.int n) (n2.map V.int) else inV (.int n) (n2.map V.int)) = decide (n ∈ n2) := fun n => by rw [if_neg (by decide), inV_ints]
      -- kept: in one of both
      refine ⟨40, rfl, by decide, by decide, fun D1 nD1 => lc_range (n := 40) (fun j H' => Same H9 H' ∧ H' D1 = some (.lst ((((List.range j).map fun i : Nat => (i : Int)).filter fun n => decide (n ∈ n1) || decide (n ∈ n2)).map V.int))) ⟨same_upd nD1, upd_same⟩ (fun j H' hj' hP => ?_) (fun H10 hP => ?_)⟩
      · obtain ⟨sm, eD⟩ := hP
        have grow : ∀ b : Bool, b = (decide ((j : Int) ∈ n1) || decide ((j : Int) ∈ n2)) → ((List.range (j + 1)).map fun i : Nat => (i : Int)).filter (fun n => decide (n ∈ n1) || decide (n ∈ n2)) = ((List.range j).map fun i : Nat => (i : Int)).filter (fun n => decide (n ∈ n1) || decide (n ∈ n2)) ++ (if b = true then [(j : Int)] else []) := fun b hb => by
          rw [range_snoc, List.filter_append, hb]
          congr 1
          rw [List.filter_cons, List.filter_nil]
        have lenb : ((((List.range j).map fun i : Nat => (i : Int)).filter fun n => decide (n ∈ n1) || decide (n ∈ n2)).map V.int).length ≤ 1000 := by
          rw [List.length_map]
          exact Nat.le_trans (List.length_filter_le _ _) (by rw [List.length_map, List.length_range]; omega)
        have yes : (decide ((j : Int) ∈ n1) || decide ((j : Int) ∈ n2)) = true → ∃ acc, H' D1 = some (.lst acc) ∧ acc.length < sizeLine ∧ Same H9 (upd H' D1 (.lst (acc ++ [.int (0 + (j : Int))]))) ∧ upd H' D1 (.lst (acc ++ [.int (0 + (j : Int))])) D1 = some (.lst ((((List.range (j + 1)).map fun i : Nat => (i : Int)).filter fun n => decide (n ∈ n1) || decide (n ∈ n2)).map V.int)) := fun hb => by
          refine ⟨_, eD, small1000 lenb, fun b o e => ?_, ?_⟩
          · rw [upd_ne (ne_of_none e nD1)]
            exact sm b o e
          · rw [upd_same, grow true hb.symm, if_pos rfl, List.map_append, Int.zero_add]
            rfl
        refine ⟨rfl, _, rfl, _, rfl, l1, _, rfl, Sq.list (sm _ _ off_e1), rfl, flat_ints n1, ?_⟩
        rw [in1]
        refine ⟨_, rfl, ite2 (fun c1 => ?_) (fun c1 => ?_)⟩
        · rw [Int.zero_add] at c1
          exact iteT ⟨_, rfl, yes (by rw [c1, Bool.true_or])⟩
        · rw [Int.zero_add] at c1
          refine ⟨_, rfl, _, rfl, l2, _, rfl, Sq.list (sm _ _ off_e2), rfl, flat_ints n2, ?_⟩
          rw [in2]
          refine ⟨_, rfl, ite2 (fun c2 => ?_) (fun c2 => ?_)⟩
          · rw [Int.zero_add] at c2
            exact ⟨_, rfl, yes (by rw [c2, Bool.or_true])⟩
          · rw [Int.zero_add] at c2
            refine ⟨sm, ?_⟩
            rw [grow false (by rw [Bool.eq_false_iff.mpr c1, Bool.eq_false_iff.mpr c2]; rfl), if_neg (by decide), List.append_nil]
            exact eD
      obtain ⟨sm10, eD1⟩ := hP
      have eD1' : H10 D1 = some (.lst ((to40.filter fun n => decide (n ∈ n1) || decide (n ∈ n2)).map V.int)) := eD1
      have S10 : Same H9 H10 := sm10
      refine ⟨(by show 1 ≤ sizeLine; decide), fun kl nkl => ?_⟩
      have skl := same_upd (o := .lst [.ref D1]) nkl
      have ekl := upd_same (H := H10) (a := kl) (o := .lst [.ref D1])
      have S11 := S10.trans skl
      have eD1k := skl _ _ eD1'
      have nkl9 : H9 kl = none := S10.free nkl
      revert ekl S11 eD1k
      generalize upd H10 kl (.lst [.ref D1]) = H11
      intro ekl S11 eD1k
      -- a comprehension over one with a test about other, appended to kept
      have walk : ∀ (neg : Bool) (Hs : Hp) (D2 : Addr) (Qd : Hp → Prop), Hs l1 = some (.lst (n1.map V.int)) → Hs l2 = some (.lst (n2.map V.int)) → Hs D2 = none → (∀ H', Same Hs H' → H' D2 = some (.lst ((n1.filter fun n => if neg then !decide (n ∈ n2) else decide (n ∈ n2)).map V.int)) → Qd H') →
          ∀ (σ : L2.St), σ[4]? = some (some (.ref l2)) → σ.length = 11 → ∃ W : Nat → Nat → Hp → Prop, (∃ m, W 0 m (upd Hs D2 (.lst []))) ∧ ∀ i m H, W i m H → ((Itl K l1).stop i H ∧ Qd H) ∨ ((Itl K l1).go i H ∧ ∃ Nx : Hp → Prop, (∀ H', Nx H' → ∃ m', m' < m ∧ W (i + 1) m' H') ∧ ∀ x H', (Itl K l1).yld i H x H' → gName 10 x (wipe σ [10]) H' fun σ2 H2 => wipe σ2 [10] = wipe σ [10] ∧ tTest (tOp (rIn K neg) (tVar 10) (tVar 4)) σ2 H2 fun b H3 =>
            if b = true then tVar 10 σ2 H3 fun y H4 => ∃ acc, H4 D2 = some (.lst acc) ∧ acc.length < sizeLine ∧ Nx (upd H4 D2 (.lst (acc ++ [y]))) else Nx H3) := by
        intro neg Hs D2 Qd f1 f2 nD2 fin σ hσ hσl
        refine lc_list (xs := n1.map V.int) (fun j H' => Same Hs H' ∧ H' D2 = some (.lst (((n1.take j).filter fun n => if neg then !decide (n ∈ n2) else decide (n ∈ n2)).map V.int))) ⟨same_upd nD2, upd_same⟩ (fun j H' _ hP => SqL.of (hP.1 _ _ f1)) (fun j x H' hx hP => ?_) (fun H' hP => ?_)
        · obtain ⟨sm, eD⟩ := hP
          obtain ⟨m, em, rfl⟩ : ∃ m, n1[j]? = some m ∧ x = .int m := by
            rw [List.getElem?_map] at hx
            cases h : n1[j]? with
            | none => rw [h] at hx; cases hx
            | some n => rw [h] at hx; exact ⟨n, rfl, (Option.some.inj hx).symm⟩
          have hj' : j < n1.length := (List.getElem?_eq_some_iff.mp em).1
          have hn1 := N1.len
          obtain ⟨x0, x1, x2, x3, x4, x5, x6, x7, x8, x9, x10, rfl⟩ : ∃ x0 x1 x2 x3 x4 x5 x6 x7 x8 x9 x10, σ = [x0, x1, x2, x3, x4, x5, x6, x7, x8, x9, x10] := by
            match σ, hσl with
            | [x0, x1, x2, x3, x4, x5, x6, x7, x8, x9, x10], _ => exact ⟨_, _, _, _, _, _, _, _, _, _, _, rfl⟩
          have e4 : x4 = some (.ref l2) := Option.some.inj hσ
          subst e4
          have etake : ∀ b : Bool, b = (if neg then !decide (m ∈ n2) else decide (m ∈ n2)) → (n1.take (j + 1)).filter (fun n => if neg then !decide (n ∈ n2) else decide (n ∈ n2)) = (n1.take j).filter (fun n => if neg then !decide (n ∈ n2) else decide (n ∈ n2)) ++ (if b = true then [m] else []) := fun b hb => by
            rw [List.take_add_one, em, List.filter_append, hb]
            congr 1
            show List.filter _ [m] = _
            rw [List.filter_cons, List.filter_nil]
          refine ⟨rfl, _, rfl, _, rfl, l2, _, rfl, Sq.list (sm _ _ f2), rfl, flat_ints n2, _, rfl, ?_⟩
          rw [inV_ints]
          refine ite2 (fun b => ?_) (fun b => ?_)
          · refine ⟨_, rfl, _, eD, small1000 ?_, fun c' o e => ?_, ?_⟩
            · rw [List.length_map]
              exact Nat.le_trans (List.length_filter_le _ _) (by rw [List.length_take]; omega)
            · rw [upd_ne (ne_of_none e nD2)]
              exact sm c' o e
            · rw [upd_same, etake true b.symm, if_pos rfl, List.map_append]
              rfl
          · refine ⟨sm, ?_⟩
            rw [etake false (Bool.eq_false_iff.mpr b).symm, if_neg (by decide), List.append_nil]
            exact eD
        · obtain ⟨sm, eD⟩ := hP
          rw [List.length_map, List.take_length] at eD
          exact fin H' sm eD
      -- kept: in both
      refine ⟨_, rfl, .inl ⟨rfl, _, SqL.of ekl⟩, _, rfl, l1, rfl, ⟨_, SqL.of (S11 _ _ off_e1)⟩, fun D2 nD2 => walk false H11 D2 _ (S11 _ _ off_e1) (S11 _ _ off_e2) nD2 (fun H12 s12 eD2 => ?_) _ rfl rfl⟩
      refine ⟨kl, _, _, rfl, rfl, s12 _ _ ekl, small1000 (by show 1 ≤ 1000; decide), ?_⟩
      have nD2k : D2 ≠ kl := (ne_of_none ekl nD2).symm
      have nD1k : D1 ≠ kl := ne_of_none eD1' nkl
      have S12 := S11.trans s12
      have S13 : Same H9 (upd H12 kl (.lst ([.ref D1] ++ [.ref D2]))) := fun b o e => by rw [upd_ne (ne_of_none e nkl9)]; exact S12 b o e
      have ekl13 := upd_same (H := H12) (a := kl) (o := .lst ([V.ref D1] ++ [.ref D2]))
      have eD1_13 : upd H12 kl (.lst ([.ref D1] ++ [.ref D2])) D1 = some (.lst ((to40.filter fun n => decide (n ∈ n1) || decide (n ∈ n2)).map V.int)) := by rw [upd_ne nD1k]; exact s12 _ _ eD1k
      have eD2_13 : upd H12 kl (.lst ([.ref D1] ++ [.ref D2])) D2 = some (.lst ((n1.filter fun n => if false = true then !decide (n ∈ n2) else decide (n ∈ n2)).map V.int)) := by rw [upd_ne nD2k]; exact eD2
      revert S13 ekl13 eD1_13 eD2_13
      generalize upd H12 kl (.lst ([.ref D1] ++ [.ref D2])) = H13
      intro S13 ekl13 eD1_13 eD2_13
      -- kept: in one, not in the other
      refine ⟨_, rfl, .inl ⟨rfl, _, SqL.of ekl13⟩, _, rfl, l1, rfl, ⟨_, SqL.of (S13 _ _ off_e1)⟩, fun D3 nD3 => walk true H13 D3 _ (S13 _ _ off_e1) (S13 _ _ off_e2) nD3 (fun H14 s14 eD3 => ?_) _ rfl rfl⟩
      refine ⟨kl, _, _, rfl, rfl, s14 _ _ ekl13, small1000 (by show 2 ≤ 1000; decide), ?_⟩
      have nD3k : D3 ≠ kl := (ne_of_none ekl13 nD3).symm
      have S14 := S13.trans s14
      have S15 : Same H9 (upd H14 kl (.lst ([.ref D1] ++ [.ref D2] ++ [.ref D3]))) := fun b o e => by rw [upd_ne (ne_of_none e nkl9)]; exact S14 b o e
      have ekl15 := upd_same (H := H14) (a := kl) (o := .lst ([V.ref D1] ++ [.ref D2] ++ [.ref D3]))
      have eD1_15 : upd H14 kl (.lst ([.ref D1] ++ [.ref D2] ++ [.ref D3])) D1 = some (.lst ((to40.filter fun n => decide (n ∈ n1) || decide (n ∈ n2)).map V.int)) := by rw [upd_ne nD1k]; exact s14 _ _ eD1_13
      have eD2_15 : upd H14 kl (.lst ([.ref D1] ++ [.ref D2] ++ [.ref D3])) D2 = some (.lst ((n1.filter fun n => if false = true then !decide (n ∈ n2) else decide (n ∈ n2)).map V.int)) := by rw [upd_ne nD2k]; exact s14 _ _ eD2_13
      have eD3_15 : upd H14 kl (.lst ([.ref D1] ++ [.ref D2] ++ [.ref D3])) D3 = some (.lst ((n1.filter fun n => if true = true then !decide (n ∈ n2) else decide (n ∈ n2)).map V.int)) := by rw [upd_ne nD3k]; exact eD3
      revert S15 ekl15 eD1_15 eD2_15 eD3_15
      generalize upd H14 kl (.lst ([.ref D1] ++ [.ref D2] ++ [.ref D3])) = H15
      intro S15 ekl15 eD1_15 eD2_15 eD3_15
      have M1 := nums_filter nums_to40 (fun n => decide (n ∈ n1) || decide (n ∈ n2))
      have M2 := nums_filter N1 (fun n => if false = true then !decide (n ∈ n2) else decide (n ∈ n2))
      have M3 := nums_filter N1 (fun n => if true = true then !decide (n ∈ n2) else decide (n ∈ n2))
      have mem1 : ∀ n, n ∈ to40.filter (fun n => decide (n ∈ n1) || decide (n ∈ n2)) ↔ n ∈ n1 ∨ n ∈ n2 := fun n => by
        rw [List.mem_filter, Bool.or_eq_true, decide_eq_true_eq, decide_eq_true_eq]
        exact ⟨fun z => z.2, fun z => ⟨z.elim (fun y => mem_to40 (N1.bd n y).1 (N1.bd n y).2) (fun y => mem_to40 (N2.bd n y).1 (N2.bd n y).2), z⟩⟩
      have mem2 : ∀ n, n ∈ n1.filter (fun n => if false = true then !decide (n ∈ n2) else decide (n ∈ n2)) ↔ n ∈ n1 ∧ n ∈ n2 := fun n => by
        rw [List.mem_filter, if_neg (by decide), decide_eq_true_eq]
      have mem3 : ∀ n, n ∈ n1.filter (fun n => if true = true then !decide (n ∈ n2) else decide (n ∈ n2)) ↔ n ∈ n1 ∧ ¬ n ∈ n2 := fun n => by
        rw [List.mem_filter, if_pos rfl, Bool.not_eq_true', decide_eq_false_iff_not]
      revert M1 M2 M3 mem1 mem2 mem3 eD1_15 eD2_15 eD3_15
      generalize (to40.filter fun n => decide (n ∈ n1) || decide (n ∈ n2)) = m1
      generalize (n1.filter fun n => if false = true then !decide (n ∈ n2) else decide (n ∈ n2)) = m2
      generalize (n1.filter fun n => if true = true then !decide (n ∈ n2) else decide (n ∈ n2)) = m3
      intro eD1_15 eD2_15 eD3_15 M1 M2 M3 mem1 mem2 mem3
      -- found
      have st15 := S15 _ _ est9
      have g1_9 : LsA H9 g1 r1 := (h1'.kp hS7 kp8 offg1).same s9
      have g2_9 : LsA H9 g2 r2 := (h2'.kp hS7 kp8 offg2).same s9
      refine ⟨_, rfl, st, _, 0, .ref g1, rfl, rfl, SqL.of st15, atI_nat (j := 0) rfl, _, rfl, st, _, 1, .ref g2, rfl, rfl, SqL.of st15, atI_nat (j := 1) rfl, g1, g2, r1, r2, rfl, (g1_9.same S15).pr, (g2_9.same S15).pr, by omega, fun f1 q1 H16 nf1 hf1 U1 w1 s16 => ?_⟩
      have S16 := S15.trans s16
      have st16 := S16 _ _ est9
      refine ⟨_, rfl, st, _, 0, .ref g1, rfl, rfl, SqL.of st16, atI_nat (j := 0) rfl, _, rfl, st, _, 1, .ref g2, rfl, rfl, SqL.of st16, atI_nat (j := 1) rfl, g1, g2, r1, r2, rfl, (g1_9.same S16).pr, (g2_9.same S16).pr, T1.ris, T2.ris, by omega, fun f2 q2 H17 nf2 hf2 U2 w2 s17 => ?_⟩
      have S17 := S16.trans s17
      have st17 := S17 _ _ est9
      refine ⟨_, rfl, st, _, 0, .ref g1, rfl, rfl, SqL.of st17, atI_nat (j := 0) rfl, _, rfl, st, _, 1, .ref g2, rfl, rfl, SqL.of st17, atI_nat (j := 1) rfl, g1, g2, r1, r2, rfl, (g1_9.same S17).pr, (g2_9.same S17).pr, T1.ris, T2.ris, by omega, fun f3 q3 H18 nf3 hf3 U3 w3 s18 => ?_⟩
      have S18 := S17.trans s18
      refine ⟨(by show 3 ≤ sizeLine; decide), fun fo nfo => ?_⟩
      have sfo := same_upd (o := .lst [.ref f1, .ref f2, .ref f3]) nfo
      have efo := upd_same (H := H18) (a := fo) (o := .lst [V.ref f1, .ref f2, .ref f3])
      have S19 := S18.trans sfo
      have s15_19 := (s16.trans s17).trans (s18.trans sfo)
      have hf1' := hf1.same (s17.trans (s18.trans sfo))
      have hf2' := hf2.same (s18.trans sfo)
      have hf3' := hf3.same sfo
      revert efo S19 s15_19 hf1' hf2' hf3'
      generalize upd H18 fo (.lst [.ref f1, .ref f2, .ref f3]) = H19
      intro efo S19 s15_19 hf1' hf2' hf3'
      have V1 : Told (fun n => n ∈ m1) q1 := U1.cong fun n => by rw [T1.same n, T2.same n, mem1 n]
      have V2 : Told (fun n => n ∈ m2) q2 := U2.cong fun n => by rw [T1.same n, T2.same n, mem2 n]
      have V3 : Told (fun n => n ∈ m3) q3 := U3.cong fun n => by rw [T1.same n, T2.same n, mem3 n]
      have kl19 := s15_19 _ _ ekl15
      have d1_19 := s15_19 _ _ eD1_15
      have d2_19 := s15_19 _ _ eD2_15
      have d3_19 := s15_19 _ _ eD3_15
      -- found as it is due
      refine ⟨_, rfl, _, rfl, kl, rfl, ⟨_, SqL.of kl19⟩, fun D nD => lc_list (xs := [.ref D1, .ref D2, .ref D3]) (fun j H' => ∃ ws, Same H19 H' ∧ H' D = some (.lst ws) ∧ SL (fun q => q ≠ D) H' ws ([q1, q2, q3].take j)) ⟨[], same_upd nD, upd_same, SL.nil⟩ (fun j H' _ hP => ?_) (fun j x H' hx hP => ?_) (fun H20 hP => ?_)⟩
      · obtain ⟨_, sm, _⟩ := hP
        exact SqL.of (sm _ _ kl19)
      · obtain ⟨ws, sm, eD, sl⟩ := hP
        obtain ⟨g, m, r, er, rfl, eg, Mm, Tm⟩ : ∃ (g : Addr) (m : List Int) (r : List (Int × Int)), [q1, q2, q3][j]? = some r ∧ x = .ref g ∧ H19 g = some (.lst (m.map V.int)) ∧ Nums m ∧ Told (fun n => n ∈ m) r := by
          have hj' : j < 3 := (List.getElem?_eq_some_iff.mp hx).1
          have : j = 0 ∨ j = 1 ∨ j = 2 := by omega
          rcases this with rfl | rfl | rfl
          · exact ⟨D1, m1, q1, rfl, (Option.some.inj hx).symm, d1_19, M1, V1⟩
          · exact ⟨D2, m2, q2, rfl, (Option.some.inj hx).symm, d2_19, M2, V2⟩
          · exact ⟨D3, m3, q3, rfl, (Option.some.inj hx).symm, d3_19, M3, V3⟩
        have hj' : j < 3 := (List.getElem?_eq_some_iff.mp hx).1
        refine ⟨rfl, _, rfl, g, m, rfl, sm _ _ eg, Mm, fun l' rs H' nl' hl' Tl' zl' s' => ?_⟩
        have ers : rs = r := Tl'.one Tm fun n => Iff.rfl
        subst ers
        have eD' := s' _ _ eD
        have nqD : l' ≠ D := (ne_of_none eD nl').symm
        have hwl : ws.length ≤ 3 := by rw [sl.1, List.length_take]; show min j 3 ≤ 3; omega
        have etake : [q1, q2, q3].take (j + 1) = [q1, q2, q3].take j ++ [rs] := by rw [List.take_add_one, er]; rfl
        refine ⟨_, eD', small1000 (by omega), ws ++ [.ref l'], fun b o e => ?_, upd_same, ?_⟩
        · rw [upd_ne (ne_of_none e nD)]
          exact s' _ _ (sm b o e)
        · rw [etake]
          refine ((sl.same s').snoc hl' nqD).map fun q r e o => ⟨?_, o⟩
          obtain ⟨uq, eq, pq⟩ := e
          exact ⟨uq, by rw [upd_ne o]; exact eq, pq.upd_lst eD'⟩
      obtain ⟨ws20, sm20, eD20, sl20⟩ := hP
      have slF : SL (fun _ => True) H20 [.ref f1, .ref f2, .ref f3] [q1, q2, q3] := ((SL.snoc (SL.snoc (SL.snoc SL.nil hf1' trivial) hf2' trivial) hf3' trivial)).same sm20
      refine ⟨_, _, _, rfl, slF.dat (sm20 _ _ efo), sl20.dat eD20, sm_sets (by show 3 ≤ 900; decide) (fun r hr' => by
        rcases List.mem_cons.mp hr' with e | e
        · rw [e]; omega
        · rcases List.mem_cons.mp e with e | e
          · rw [e]; omega
          · rw [List.mem_singleton.mp e]; omega), fun H21 s21 => ⟨_, rfl, iteF ?_⟩⟩
      have S21 := S19.trans (sm20.trans s21)
      have s19_21 := sm20.trans s21
      -- zip(sets + found, [one, other] + kept)
      refine ⟨_, rfl, _, rfl, st, fo, _, _, rfl, rfl, S21 _ _ est9, s19_21 _ _ efo, (by show 2 + 3 ≤ sizeLine; decide), fun X1 nX1 => ?_⟩
      have sX1 := same_upd (o := .lst ([.ref g1, .ref g2] ++ [.ref f1, .ref f2, .ref f3])) nX1
      refine ⟨_, rfl, _, rfl, (by show 2 ≤ sizeLine; decide), fun P1 nP1 => ?_⟩
      have sP1 := same_upd (o := .lst [.ref l1, .ref l2]) nP1
      refine ⟨_, rfl, P1, kl, _, _, rfl, rfl, upd_same, sP1 _ _ (sX1 _ _ (s19_21 _ _ kl19)), (by show 2 + 3 ≤ sizeLine; decide), fun X2 nX2 => ?_⟩
      have sX2 := same_upd (o := .lst ([.ref l1, .ref l2] ++ ([.ref D1] ++ [.ref D2] ++ [.ref D3]))) nX2
      have eX1 := sX2 _ _ (sP1 _ _ (upd_same (H := H21) (a := X1) (o := .lst ([V.ref g1, .ref g2] ++ [.ref f1, .ref f2, .ref f3]))))
      have eX2 := upd_same (H := upd (upd H21 X1 (.lst ([.ref g1, .ref g2] ++ [.ref f1, .ref f2, .ref f3]))) P1 (.lst [.ref l1, .ref l2])) (a := X2) (o := .lst ([V.ref l1, .ref l2] ++ ([.ref D1] ++ [.ref D2] ++ [.ref D3])))
      have S22 := S21.trans (sX1.trans (sP1.trans sX2))
      have s19_22 := s19_21.trans (sX1.trans (sP1.trans sX2))
      revert eX1 eX2 S22 s19_22
      generalize upd (upd (upd H21 X1 (.lst ([.ref g1, .ref g2] ++ [.ref f1, .ref f2, .ref f3]))) P1 (.lst [.ref l1, .ref l2])) X2 (.lst ([.ref l1, .ref l2] ++ ([.ref D1] ++ [.ref D2] ++ [.ref D3]))) = H22
      intro eX1 eX2 S22 s19_22
      have five : ∀ (j : Nat) (x1 x2 : V), ([V.ref g1, .ref g2] ++ [.ref f1, .ref f2, .ref f3])[j]? = some x1 → ([V.ref l1, .ref l2] ++ ([.ref D1] ++ [.ref D2] ++ [.ref D3]))[j]? = some x2 → ∃ (g l : Addr) (r : List (Int × Int)) (n : List Int), x1 = .ref g ∧ x2 = .ref l ∧ LsA H22 g r ∧ H22 l = some (.lst (n.map V.int)) ∧ Nums n ∧ Told (fun k => k ∈ n) r := by
        intro j x1 x2 e1 e2
        have hj' : j < 5 := (List.getElem?_eq_some_iff.mp e1).1
        have : j = 0 ∨ j = 1 ∨ j = 2 ∨ j = 3 ∨ j = 4 := by omega
        rcases this with rfl | rfl | rfl | rfl | rfl
        · exact ⟨g1, l1, r1, n1, (Option.some.inj e1).symm, (Option.some.inj e2).symm, g1_9.same S22, S22 _ _ off_e1, N1, T1⟩
        · exact ⟨g2, l2, r2, n2, (Option.some.inj e1).symm, (Option.some.inj e2).symm, g2_9.same S22, S22 _ _ off_e2, N2, T2⟩
        · exact ⟨f1, D1, q1, m1, (Option.some.inj e1).symm, (Option.some.inj e2).symm, hf1'.same s19_22, s19_22 _ _ d1_19, M1, V1⟩
        · exact ⟨f2, D2, q2, m2, (Option.some.inj e1).symm, (Option.some.inj e2).symm, hf2'.same s19_22, s19_22 _ _ d2_19, M2, V2⟩
        · exact ⟨f3, D3, q3, m3, (Option.some.inj e1).symm, (Option.some.inj e2).symm, hf3'.same s19_22, s19_22 _ _ d3_19, M3, V3⟩
      have hS22 := hS9.same S22
      have T22 : ∀ {Pv : Addr}, GxR.TabG Hx Pv → GxR.TabG H22 Pv := fun g => tabG_same (T9 g) S22
      refine ⟨X1, X2, _, _, rfl, SqL.of eX1, SqL.of eX2, for_it (walk_zip (K := K) (a := X1) (b := X2) (xs := [.ref g1, .ref g2] ++ [.ref f1, .ref f2, .ref f3]) (ys := [.ref l1, .ref l2] ++ ([.ref D1] ++ [.ref D2] ++ [.ref D3])) (n := 5) rfl) (fun j σ H' => ∃ (y2 y6 y9 y10 : Option V), σ = [some (.ref a), some (.ref d), y2, some (.ref l1), some (.ref l2), some (.ref st), y6, some (.ref kl), some (.ref fo), y9, y10] ∧ Kt H22 H')
        ⟨_, _, _, _, rfl, Kt.refl H22⟩ (fun j σ H' _ hP => ?_) (fun j x σ H' H'' hj' hP hy => ?_) (fun σ H' hP => ?_)⟩
      · obtain ⟨_, _, _, _, rfl, kt⟩ := hP
        exact ⟨SqL.of (kt.lst eX1), SqL.of (kt.lst eX2)⟩
      · obtain ⟨z2, z6, z9, z10, rfl, kt⟩ := hP
        obtain ⟨T', x1, x2, rfl, nT', rfl, f1', f2'⟩ := hy
        obtain ⟨g, l, r, n, rfl, rfl, hg, hln, Nn, Tn⟩ := five j x1 x2 f1' f2'
        have sT' := same_upd (o := .tup [.ref g, .ref l]) nT'
        have kk := kt.trans (.same sT')
        refine ⟨T', _, rfl, .inl (.inl upd_same), rfl, _, _, rfl, _, _, rfl, rfl, ?_⟩
        refine ⟨_, rfl, _, rfl, g, l, r, n, rfl, hg.kt kk, kk.lst hln, Nn, Tn, kk.tab _ (T22 hc), kk.tab _ (T22 hj), kk.tab _ (T22 hl), fun H4' k4' => ⟨_, rfl, iteF ?_⟩⟩
        exact ⟨_, _, _, _, rfl, kk.trans k4'⟩
      · obtain ⟨z2, z6, z9, z10, rfl, kt⟩ := hP
        have ei : ((i + 1 : Nat) : Int) = (i : Int) + 1 := by omega
        exact ⟨t8, _, _, _, _, _, _, _, _, _, rfl, by omega, by rw [ei]; omega, hS22.kt kt, kt.tab _ (T22 hc), kt.tab _ (T22 hj), kt.tab _ (T22 hl)⟩
    · exact q _
end

/-! ### the end: what the top has left, the tables of code objects among it -/
/-- each def of the text has a code object with an empty table -/
def Tabs (q : Program) (mg : Str → Option Value) (h : Heap) : Prop := ∀ dr ∈ recsOf q, ∃ (f : Addr) (o : Obj) (fd : FuncData) (c P : Addr), mg dr.name = some (.ref f) ∧ h.get? f = some o ∧ o.data = .func fd ∧ fd.code = .ref c ∧ PySem.W.CodeHd h c P ∧ h.get? P = some (PySem.W.tabObj #[])
theorem tab_in {q : Program} {mg : Str → Option Value} {h : Heap} {K : PySem.W.Frag} {y : Str} {f c P : Addr} {oc e : Value} {od dd : Option Addr} {fd : FuncData} {osl sl : Array (Option Value)} {vs : Array Value} (TT : Tabs q mg h) (X : K.In h) (rec : ((recsOf q).any fun r => r.name == y) = true)
    (g : mg y = some (.ref f)) (lf : K.lookup f = some ⟨oc, od, .func fd, osl⟩) (hc : fd.code = .ref c) (lc : K.lookup c = some ⟨e, dd, .fields vs, sl⟩) (v : vs[11]? = some (.ref P)) : PySem.W.CodeHd h c P ∧ h.get? P = some (PySem.W.tabObj #[]) := by
  obtain ⟨dr, mem, nm⟩ := List.any_eq_true.mp rec
  obtain ⟨f', o', fd', c', P', t1, t2, t3, t4, t5, t6⟩ := TT dr mem
  have ef : f' = f := by
    rw [beq_iff_eq.mp nm, g] at t1
    exact (Value.ref.inj (Option.some.inj t1)).symm
  rw [ef, X _ _ lf] at t2
  rw [← Option.some.inj t2] at t3
  have efd : fd = fd' := Data.func.inj t3
  rw [← efd, hc] at t4
  have ec : c = c' := Value.ref.inj t4
  rw [← ec] at t5
  have t5' := t5
  obtain ⟨oc', us, _, _, _, _, _, _, _, u1, _, u3, u4, _⟩ := t5'
  rw [X _ _ lc] at u1
  rw [← Option.some.inj u1] at u3
  have eu : vs = us := Data.fields.inj u3
  rw [← eu, v] at u4
  have eP : P = P' := Value.ref.inj (Option.some.inj u4)
  rw [eP]
  exact ⟨t5, t6⟩
theorem law_end {l : PySem.W.OpenLaw} {k : Nat} {q : Program} {loose : List Str} {XP : (Str → Option Value) → Heap → Prop} {YP : World → Heap → Prop} {d : DefRec} {K : Params → PySem.W.Frag} (most : l.most = some 63) (plain : d.params.defaults = []) (room : Room k callerA)
    (part : ∀ w h, YP w h → (K w.params).In h) (made : ∀ (w : World) (mg : Str → Option Value) (f : Addr) (h : Heap), (K w.params).In h → h.Ns mainGlobals mg → mg d.name = some (.ref f) → Tabs q mg h → LamX.LawAtS l w (K w.params) CX0 k 63 "_law_script" mg f h) : PySem.W.WalkO q loose XP YP l.row.toRowW d [] (fun f vs => PySem.call f vs) := by
  refine Att.attach_callB most plain ?_
  intro w _ s₁ mg _ f _ _ _ _ a vs ns ground said _ _ _ name script nums len size still
  have X := part w _ said
  have tabs : Tabs q mg s₁.heap := fun dr mem => by
    obtain ⟨f', o', fd', c', P', t1, t2, t3, t4, t5, t6⟩ := ground.T.tab dr mem
    exact ⟨f', o', fd', c', P', t1, t2, t3, t4, PySem.W.CodeHd.of t5 t6, t6.2⟩
  obtain ⟨fd, cs, sp, e1, e2, e3, e4, e5, e6⟩ := made w mg f _ X ground.T.g name tabs
  exact LamX.law_callTs X ground.T.g ground.T.b ground.T.builtins ground.T.nolimit still e1 e2 e3 ground.T.bmain script nums (Nat.le_trans len (by decide)) room e6 e4 (fun H z1 z2 => e5 H a ns len size z1 z2) fun _ _ _ z => z

theorem all_mk {l : PySem.W.OpenLaw} {q : Program} {w : World} {K : PySem.W.Frag} {h : Heap} {mg : Str → Option Value} {fa f0 f1 f2 f3 f4 f5 f6 f7 f8 f9 f10 f11 f12 f13 f14 f15 f16 : Addr} {c5 P5 c7 P7 c8 P8 : Addr} (X : K.In h) (G : h.Ns mainGlobals mg) (hfa : mg "law" = some (.ref fa)) (TT : Tabs q mg h)
    {od0 an0 od1 an1 od2 an2 od3 an3 od4 an4 od5 an5 od6 an6 od7 an7 od8 an8 od9 an9 od10 an10 od11 an11 od12 an12 od13 an13 od14 an14 od15 an15 od16 an16 : Option Addr} {sl0 sl1 sl2 sl3 sl4 sl5 sl6 sl7 sl8 sl9 sl10 sl11 sl12 sl13 sl14 sl15 sl16 : Array (Option Value)} {oc0 kV0 dc0 pm0 ct0 cd0 oc1 kV1 dc1 pm1 ct1 cd1 oc2 kV2 dc2 pm2 ct2 cd2 oc3 kV3 dc3 pm3 ct3 cd3 oc4 kV4 dc4 pm4 ct4 cd4 oc5 kV5 dc5 pm5 ct5 oc6 kV6 dc6 pm6 ct6 cd6 oc7 kV7 dc7 pm7 ct7 oc8 kV8 dc8 pm8 ct8 oc9 kV9 dc9 pm9 ct9 cd9 oc10 kV10 dc10 pm10 ct10 cd10 oc11 kV11 dc11 pm11 ct11 cd11 oc12 kV12 dc12 pm12 ct12 cd12 oc13 kV13 dc13 pm13 ct13 cd13 oc14 kV14 dc14 pm14 ct14 cd14 oc15 kV15 dc15 pm15 ct15 cd15 oc16 kV16 dc16 pm16 ct16 cd16 : Value}
    {e5 : Value} {dd5 : Option Addr} {vs5 : Array Value} {sc5 : Array (Option Value)} {e7 : Value} {dd7 : Option Addr} {vs7 : Array Value} {sc7 : Array (Option Value)} {e8 : Value} {dd8 : Option Addr} {vs8 : Array Value} {sc8 : Array (Option Value)}
    (a0 : PySem.W.nsIn K mainGlobals "set_of" = some (some (.ref f0))) (l0 : K.lookup f0 = some ⟨oc0, od0, .func (PySem.W.fnOf "set_of" "set_of" (defArgs sSetOf) (defBody sSetOf) (defScope sSetOf) .none kV0 dc0 pm0 an0 cd0 ct0), sl0⟩) (c0' : PySem.W.codeIn K cd0 "set_of" = true) (k0 : PySem.W.keepIn K (.ref f0) = true)
    (a1 : PySem.W.nsIn K mainGlobals "either" = some (some (.ref f1))) (l1 : K.lookup f1 = some ⟨oc1, od1, .func (PySem.W.fnOf "either" "either" (defArgs sEither) (defBody sEither) (defScope sEither) .none kV1 dc1 pm1 an1 cd1 ct1), sl1⟩) (c1' : PySem.W.codeIn K cd1 "either" = true) (k1 : PySem.W.keepIn K (.ref f1) = true)
    (a2 : PySem.W.nsIn K mainGlobals "both_of" = some (some (.ref f2))) (l2 : K.lookup f2 = some ⟨oc2, od2, .func (PySem.W.fnOf "both_of" "both_of" (defArgs sBoth) (defBody sBoth) (defScope sBoth) .none kV2 dc2 pm2 an2 cd2 ct2), sl2⟩) (c2' : PySem.W.codeIn K cd2 "both_of" = true) (k2 : PySem.W.keepIn K (.ref f2) = true)
    (a3 : PySem.W.nsIn K mainGlobals "gaps_of" = some (some (.ref f3))) (l3 : K.lookup f3 = some ⟨oc3, od3, .func (PySem.W.fnOf "gaps_of" "gaps_of" (defArgs sGaps) (defBody sGaps) (defScope sGaps) .none kV3 dc3 pm3 an3 cd3 ct3), sl3⟩) (c3' : PySem.W.codeIn K cd3 "gaps_of" = true) (k3 : PySem.W.keepIn K (.ref f3) = true)
    (a4 : PySem.W.nsIn K mainGlobals "without" = some (some (.ref f4))) (l4 : K.lookup f4 = some ⟨oc4, od4, .func (PySem.W.fnOf "without" "without" (defArgs sWithout) (defBody sWithout) (defScope sWithout) .none kV4 dc4 pm4 an4 cd4 ct4), sl4⟩) (c4' : PySem.W.codeIn K cd4 "without" = true) (k4 : PySem.W.keepIn K (.ref f4) = true)
    (a5 : PySem.W.nsIn K mainGlobals "count_of" = some (some (.ref f5))) (l5 : K.lookup f5 = some ⟨oc5, od5, .func (PySem.W.fnOf "count_of" "count_of" (defArgs sCount) (defBody sCount) (defScope sCount) .none kV5 dc5 pm5 an5 (.ref c5) ct5), sl5⟩) (c5' : PySem.W.codeIn K (.ref c5) "count_of" = true) (k5 : PySem.W.keepIn K (.ref f5) = true)
    (a6 : PySem.W.nsIn K mainGlobals "nth_of" = some (some (.ref f6))) (l6 : K.lookup f6 = some ⟨oc6, od6, .func (PySem.W.fnOf "nth_of" "nth_of" (defArgs sNthOf) (defBody sNthOf) (defScope sNthOf) .none kV6 dc6 pm6 an6 cd6 ct6), sl6⟩) (c6' : PySem.W.codeIn K cd6 "nth_of" = true) (k6 : PySem.W.keepIn K (.ref f6) = true)
    (a7 : PySem.W.nsIn K mainGlobals "is_in" = some (some (.ref f7))) (l7 : K.lookup f7 = some ⟨oc7, od7, .func (PySem.W.fnOf "is_in" "is_in" (defArgs sIsIn) (defBody sIsIn) (defScope sIsIn) .none kV7 dc7 pm7 an7 (.ref c7) ct7), sl7⟩) (c7' : PySem.W.codeIn K (.ref c7) "is_in" = true) (k7 : PySem.W.keepIn K (.ref f7) = true)
    (a8 : PySem.W.nsIn K mainGlobals "less_in" = some (some (.ref f8))) (l8 : K.lookup f8 = some ⟨oc8, od8, .func (PySem.W.fnOf "less_in" "less_in" (defArgs sLessIn) (defBody sLessIn) (defScope sLessIn) .none kV8 dc8 pm8 an8 (.ref c8) ct8), sl8⟩) (c8' : PySem.W.codeIn K (.ref c8) "less_in" = true) (k8 : PySem.W.keepIn K (.ref f8) = true)
    (a9 : PySem.W.nsIn K mainGlobals "_law_begin" = some (some (.ref f9))) (l9 : K.lookup f9 = some ⟨oc9, od9, .func (PySem.W.fnOf "_law_begin" "_law_begin" (defArgs sBegin) (defBody sBegin) (defScope sBegin) .none kV9 dc9 pm9 an9 cd9 ct9), sl9⟩) (c9' : PySem.W.codeIn K cd9 "_law_begin" = true) (k9 : PySem.W.keepIn K (.ref f9) = true)
    (a10 : PySem.W.nsIn K mainGlobals "_law_take" = some (some (.ref f10))) (l10 : K.lookup f10 = some ⟨oc10, od10, .func (PySem.W.fnOf "_law_take" "_law_take" (defArgs sTake) (defBody sTake) (defScope sTake) .none kV10 dc10 pm10 an10 cd10 ct10), sl10⟩) (c10' : PySem.W.codeIn K cd10 "_law_take" = true) (k10 : PySem.W.keepIn K (.ref f10) = true)
    (a11 : PySem.W.nsIn K mainGlobals "_law_same" = some (some (.ref f11))) (l11 : K.lookup f11 = some ⟨oc11, od11, .func (PySem.W.fnOf "_law_same" "_law_same" (defArgs sSame) (defBody sSame) (defScope sSame) .none kV11 dc11 pm11 an11 cd11 ct11), sl11⟩) (c11' : PySem.W.codeIn K cd11 "_law_same" = true) (k11 : PySem.W.keepIn K (.ref f11) = true)
    (a12 : PySem.W.nsIn K mainGlobals "_law_numbers" = some (some (.ref f12))) (l12 : K.lookup f12 = some ⟨oc12, od12, .func (PySem.W.fnOf "_law_numbers" "_law_numbers" (defArgs sNums) (defBody sNums) (defScope sNums) .none kV12 dc12 pm12 an12 cd12 ct12), sl12⟩) (c12' : PySem.W.codeIn K cd12 "_law_numbers" = true) (k12 : PySem.W.keepIn K (.ref f12) = true)
    (a13 : PySem.W.nsIn K mainGlobals "_law_set_of" = some (some (.ref f13))) (l13 : K.lookup f13 = some ⟨oc13, od13, .func (PySem.W.fnOf "_law_set_of" "_law_set_of" (defArgs sLSet) (defBody sLSet) (defScope sLSet) .none kV13 dc13 pm13 an13 cd13 ct13), sl13⟩) (c13' : PySem.W.codeIn K cd13 "_law_set_of" = true) (k13 : PySem.W.keepIn K (.ref f13) = true)
    (a14 : PySem.W.nsIn K mainGlobals "_law_pairs" = some (some (.ref f14))) (l14 : K.lookup f14 = some ⟨oc14, od14, .func (PySem.W.fnOf "_law_pairs" "_law_pairs" (defArgs sLPairs) (defBody sLPairs) (defScope sLPairs) .none kV14 dc14 pm14 an14 cd14 ct14), sl14⟩) (c14' : PySem.W.codeIn K cd14 "_law_pairs" = true) (k14 : PySem.W.keepIn K (.ref f14) = true)
    (a15 : PySem.W.nsIn K mainGlobals "_law_asks_right" = some (some (.ref f15))) (l15 : K.lookup f15 = some ⟨oc15, od15, .func (PySem.W.fnOf "_law_asks_right" "_law_asks_right" (defArgs sAsks) (defBody sAsks) (defScope sAsks) .none kV15 dc15 pm15 an15 cd15 ct15), sl15⟩) (c15' : PySem.W.codeIn K cd15 "_law_asks_right" = true) (k15 : PySem.W.keepIn K (.ref f15) = true)
    (a16 : PySem.W.nsIn K mainGlobals "law" = some (some (.ref f16))) (l16 : K.lookup f16 = some ⟨oc16, od16, .func (PySem.W.fnOf "law" "law" (defArgs sLaw) (defBody sLaw) (defScope sLaw) .none kV16 dc16 pm16 an16 cd16 ct16), sl16⟩) (c16' : PySem.W.codeIn K cd16 "law" = true) (k16 : PySem.W.keepIn K (.ref f16) = true)
    (lc5 : K.lookup c5 = some ⟨e5, dd5, .fields vs5, sc5⟩) (v5 : vs5[11]? = some (.ref P5)) (nP5 : K.lookup P5 = none) (r5 : ((recsOf q).any fun e => e.name == ("count_of" : Str)) = true)
    (lc7 : K.lookup c7 = some ⟨e7, dd7, .fields vs7, sc7⟩) (v7 : vs7[11]? = some (.ref P7)) (nP7 : K.lookup P7 = none) (r7 : ((recsOf q).any fun e => e.name == ("is_in" : Str)) = true)
    (lc8 : K.lookup c8 = some ⟨e8, dd8, .fields vs8, sc8⟩) (v8 : vs8[11]? = some (.ref P8)) (nP8 : K.lookup P8 = none) (r8 : ((recsOf q).any fun e => e.name == ("less_in" : Str)) = true)
    (z_sum : PySem.W.nsIn K mainGlobals "sum" = some none) (z_any : PySem.W.nsIn K mainGlobals "any" = some none) (z_all : PySem.W.nsIn K mainGlobals "all" = some none) (z_zip : PySem.W.nsIn K mainGlobals "zip" = some none) (z_list : PySem.W.nsIn K mainGlobals "list" = some none) (z_tuple : PySem.W.nsIn K mainGlobals "tuple" = some none) (z_bool : PySem.W.nsIn K mainGlobals "bool" = some none) (z_str : PySem.W.nsIn K mainGlobals "str" = some none) (z_int : PySem.W.nsIn K mainGlobals "int" = some none) (z_isinstance : PySem.W.nsIn K mainGlobals "isinstance" = some none) (z_len : PySem.W.nsIn K mainGlobals "len" = some none) (z_divmod : PySem.W.nsIn K mainGlobals "divmod" = some none) (z_range : PySem.W.nsIn K mainGlobals "range" = some none) (z_max : PySem.W.nsIn K mainGlobals "max" = some none) (z_min : PySem.W.nsIn K mainGlobals "min" = some none) (z_sorted : PySem.W.nsIn K mainGlobals "sorted" = some none) :
    LamX.LawAtS l w K CX0 5 63 "_law_script" mg fa h := by
  cases hfa.symm.trans (PySem.W.mg_of X G a16)
  have F0 := fun_mk (st := sSetOf) l0 c0' k0
  have b0 := F0.binds (ps := ["pairs"]) fun _ _ _ _ _ _ us hl => match us, hl with | [_], _ => rfl
  have F1 := fun_mk (st := sEither) l1 c1' k1
  have b1 := F1.binds (ps := ["one", "other"]) fun _ _ _ _ _ _ us hl => match us, hl with | [_, _], _ => rfl
  have F2 := fun_mk (st := sBoth) l2 c2' k2
  have b2 := F2.binds (ps := ["one", "other"]) fun _ _ _ _ _ _ us hl => match us, hl with | [_, _], _ => rfl
  have F3 := fun_mk (st := sGaps) l3 c3' k3
  have b3 := F3.binds (ps := ["some", "begin", "end"]) fun _ _ _ _ _ _ us hl => match us, hl with | [_, _, _], _ => rfl
  have F4 := fun_mk (st := sWithout) l4 c4' k4
  have b4 := F4.binds (ps := ["one", "other"]) fun _ _ _ _ _ _ us hl => match us, hl with | [_, _], _ => rfl
  have F5 := fun_mk (st := sCount) l5 c5' k5
  have b5 := F5.binds (ps := ["some"]) fun _ _ _ _ _ _ us hl => match us, hl with | [_], _ => rfl
  have F6 := fun_mk (st := sNthOf) l6 c6' k6
  have b6 := F6.binds (ps := ["some", "n"]) fun _ _ _ _ _ _ us hl => match us, hl with | [_, _], _ => rfl
  have F7 := fun_mk (st := sIsIn) l7 c7' k7
  have b7 := F7.binds (ps := ["some", "number"]) fun _ _ _ _ _ _ us hl => match us, hl with | [_, _], _ => rfl
  have F8 := fun_mk (st := sLessIn) l8 c8' k8
  have b8 := F8.binds (ps := ["some", "number"]) fun _ _ _ _ _ _ us hl => match us, hl with | [_, _], _ => rfl
  have F9 := fun_mk (st := sBegin) l9 c9' k9
  have b9 := F9.binds (ps := ["_law_script"]) fun _ _ _ _ _ _ us hl => match us, hl with | [_], _ => rfl
  have F10 := fun_mk (st := sTake) l10 c10' k10
  have b10 := F10.binds (ps := ["_law_state", "_law_many"]) fun _ _ _ _ _ _ us hl => match us, hl with | [_, _], _ => rfl
  have F11 := fun_mk (st := sSame) l11 c11' k11
  have b11 := F11.binds (ps := ["_law_found", "_law_due"]) fun _ _ _ _ _ _ us hl => match us, hl with | [_, _], _ => rfl
  have F12 := fun_mk (st := sNums) l12 c12' k12
  have b12 := F12.binds (ps := ["_law_state"]) fun _ _ _ _ _ _ us hl => match us, hl with | [_], _ => rfl
  have F13 := fun_mk (st := sLSet) l13 c13' k13
  have b13 := F13.binds (ps := ["_law_numbers_here"]) fun _ _ _ _ _ _ us hl => match us, hl with | [_], _ => rfl
  have F14 := fun_mk (st := sLPairs) l14 c14' k14
  have b14 := F14.binds (ps := ["_law_state", "_law_some"]) fun _ _ _ _ _ _ us hl => match us, hl with | [_, _], _ => rfl
  have F15 := fun_mk (st := sAsks) l15 c15' k15
  have b15 := F15.binds (ps := ["_law_some", "_law_numbers_here"]) fun _ _ _ _ _ _ us hl => match us, hl with | [_, _], _ => rfl
  have F16 := fun_mk (st := sLaw) l16 c16' k16
  have m_sum := PySem.W.mg_none_of X G z_sum
  have m_any := PySem.W.mg_none_of X G z_any
  have m_all := PySem.W.mg_none_of X G z_all
  have m_zip := PySem.W.mg_none_of X G z_zip
  have m_list := PySem.W.mg_none_of X G z_list
  have m_tuple := PySem.W.mg_none_of X G z_tuple
  have m_bool := PySem.W.mg_none_of X G z_bool
  have m_str := PySem.W.mg_none_of X G z_str
  have m_int := PySem.W.mg_none_of X G z_int
  have m_isinstance := PySem.W.mg_none_of X G z_isinstance
  have m_len := PySem.W.mg_none_of X G z_len
  have m_divmod := PySem.W.mg_none_of X G z_divmod
  have m_range := PySem.W.mg_none_of X G z_range
  have m_max := PySem.W.mg_none_of X G z_max
  have m_min := PySem.W.mg_none_of X G z_min
  have m_sorted := PySem.W.mg_none_of X G z_sorted
  have tb5 := tab_in TT X r5 (PySem.W.mg_of X G a5) l5 rfl lc5 v5
  have tb7 := tab_in TT X r7 (PySem.W.mg_of X G a7) l7 rfl lc7 v7
  have tb8 := tab_in TT X r8 (PySem.W.mg_of X G a8) l8 rfl lc8 v8
  refine ⟨PySem.W.fnOf "law" "law" (defArgs sLaw) (defBody sLaw) (defScope sLaw) .none kV16 dc16 pm16 an16 cd16 ct16, [(c5, P5), (c7, P7), (c8, P8)], spLaw K P5 P7 P8, List.forall_mem_cons.mpr ⟨tb5.2, List.forall_mem_cons.mpr ⟨tb7.2, List.forall_mem_cons.mpr ⟨tb8.2, fun _ z => nomatch z⟩⟩⟩, List.forall_mem_cons.mpr ⟨nP5, List.forall_mem_cons.mpr ⟨nP7, List.forall_mem_cons.mpr ⟨nP8, fun _ z => nomatch z⟩⟩⟩, List.forall_mem_cons.mpr ⟨tb5.1, List.forall_mem_cons.mpr ⟨tb7.1, List.forall_mem_cons.mpr ⟨tb8.1, fun _ z => nomatch z⟩⟩⟩, fun s v => .of_eq rfl, fun H a ns hl _ hH hS => ?_, fun base _ _ TB => ?_⟩
  · have hT5 : GxR.TabG H P5 := ⟨#[], hH (c5, P5) (List.mem_cons_self ..), trivial⟩; have hT7 : GxR.TabG H P7 := ⟨#[], hH (c7, P7) (List.mem_cons_of_mem _ (List.mem_cons_self ..)), trivial⟩; have hT8 : GxR.TabG H P8 := ⟨#[], hH (c8, P8) (List.mem_cons_of_mem _ (List.mem_cons_of_mem _ (List.mem_cons_self ..))), trivial⟩; exact ⟨a, ns, rfl, hS, hl, hT5, hT7, hT8, fun _ => rfl⟩
  · have g := fun {x : Str} {f : Addr} (a : PySem.W.nsIn K mainGlobals x = some (some (.ref f))) => PySem.W.mg_of X G a
    have T5 : GxR.TabB base mg c5 P5 := let t := TB (c5, P5) (List.mem_cons_self ..); ⟨t.code, t.bm, t.gP⟩
    have T7 : GxR.TabB base mg c7 P7 := let t := TB (c7, P7) (List.mem_cons_of_mem _ (List.mem_cons_self ..)); ⟨t.code, t.bm, t.gP⟩
    have T8 : GxR.TabB base mg c8 P8 := let t := TB (c8, P8) (List.mem_cons_of_mem _ (List.mem_cons_of_mem _ (List.mem_cons_self ..))); ⟨t.code, t.bm, t.gP⟩
    have CT : Cal l.prog w K mg base 1 "_law_take" ["_law_state", "_law_many"] spTake := ⟨_, _, ok_take F10 m_len m_divmod, g a10, k10, b10⟩
    have CB : Cal l.prog w K mg base 1 "_law_begin" ["_law_script"] (spBegin K) := ⟨_, _, ok_begin F9 m_list, g a9, k9, b9⟩
    have CU : Cal l.prog w K mg base 2 "_law_numbers" ["_law_state"] spNums := ⟨_, _, ok_nums F12 CT m_range, g a12, k12, b12⟩
    have CS : Cal l.prog w K mg base 1 "_law_set_of" ["_law_numbers_here"] spLSet := ⟨_, _, ok_lset F13, g a13, k13, b13⟩
    have CR : Cal l.prog w K mg base 2 "_law_pairs" ["_law_state", "_law_some"] spLPairs := ⟨_, _, ok_lpairs F14 CT m_len m_int, g a14, k14, b14⟩
    have E0_ : Cal l.prog w K mg base 1 "_law_same" ["_law_found", "_law_due"] (spSame 0) := ⟨_, _, ok_same0 F11 m_isinstance m_list m_tuple m_bool m_str m_int, g a11, k11, b11⟩
    have E1_ : Cal l.prog w K mg base 2 "_law_same" ["_law_found", "_law_due"] (spSame 1) := ⟨_, _, ok_sameS F11 E0_ m_isinstance m_list m_tuple m_bool m_str m_int m_len m_all m_zip, g a11, k11, b11⟩
    have E2_ : Cal l.prog w K mg base 3 "_law_same" ["_law_found", "_law_due"] (spSame 2) := ⟨_, _, ok_sameS F11 E1_ m_isinstance m_list m_tuple m_bool m_str m_int m_len m_all m_zip, g a11, k11, b11⟩
    have E3_ : Cal l.prog w K mg base 4 "_law_same" ["_law_found", "_law_due"] (spSame 3) := ⟨_, _, ok_sameS F11 E2_ m_isinstance m_list m_tuple m_bool m_str m_int m_len m_all m_zip, g a11, k11, b11⟩
    have CO : Cal l.prog w K mg base 1 "set_of" ["pairs"] (spSetOf K) := ⟨_, _, ok_setof F0 m_sorted m_max, g a0, k0, b0⟩
    have CE : Cal l.prog w K mg base 2 "either" ["one", "other"] (spEither K) := ⟨_, _, ok_either F1 CO, g a1, k1, b1⟩
    have CA : Cal l.prog w K mg base 1 "both_of" ["one", "other"] (spBoth K) := ⟨_, _, ok_both F2 m_len m_max m_min, g a2, k2, b2⟩
    have CG : Cal l.prog w K mg base 2 "gaps_of" ["some", "begin", "end"] (spGaps K) := ⟨_, _, ok_gaps F3 CO m_max m_min, g a3, k3, b3⟩
    have CW : Cal l.prog w K mg base 3 "without" ["one", "other"] (spWithout K) := ⟨_, _, ok_without F4 CA CG, g a4, k4, b4⟩
    have CC : Cal l.prog w K mg base 1 "count_of" ["some"] (spCount K P5) := ⟨_, _, ok_count l5 c5' T5 m_sum, g a5, k5, b5⟩
    have CN : Cal l.prog w K mg base 1 "nth_of" ["some", "n"] (spNthOf K) := ⟨_, _, ok_nthof F6, g a6, k6, b6⟩
    have CI : Cal l.prog w K mg base 1 "is_in" ["some", "number"] (spIsIn K P7) := ⟨_, _, ok_isin l7 c7' T7 m_any, g a7, k7, b7⟩
    have CL : Cal l.prog w K mg base 1 "less_in" ["some", "number"] (spLessIn K P8) := ⟨_, _, ok_lessin l8 c8' T8 m_sum m_max m_min, g a8, k8, b8⟩
    have CQ : Cal l.prog w K mg base 3 "_law_asks_right" ["_law_some", "_law_numbers_here"] (spAsks P5 P7 P8) := ⟨_, _, ok_asks F15 E1_ CC CN CI CL m_len m_range, g a15, k15, b15⟩
    exact ok_law F16 CB CU CS CR E3_ CQ CO CE CA CW m_range m_zip
end TK
open PySem PySem.W PyProof.Rows
set_option maxHeartbeats 0 in
theorem PySem.Challenge.cw_tinrecall_k06_small_sets_number_by_numbe_holds : PySem.Challenge.rw_tinrecall_k06_small_sets_number_by_numbe.Holds := by
  w_on; o_law; k_head; (case hw => w_witness2)
  k_fill
  refine TK.law_end (l := PySem.Challenge.rw_tinrecall_k06_small_sets_number_by_numbe) (k := 5) rfl rfl ⟨rfl, by decide, by decide⟩ (fun w h Y => PySem.W.kIn_of Y) ?made
  case made =>
    intro w mg f h KX G hmg TT
    refine' TK.all_mk KX G hmg TT ?a0 ?l0 ?c0 ?k0 ?a1 ?l1 ?c1 ?k1 ?a2 ?l2 ?c2 ?k2 ?a3 ?l3 ?c3 ?k3 ?a4 ?l4 ?c4 ?k4 ?a5 ?l5 ?c5 ?k5 ?a6 ?l6 ?c6 ?k6 ?a7 ?l7 ?c7 ?k7 ?a8 ?l8 ?c8 ?k8 ?a9 ?l9 ?c9 ?k9 ?a10 ?l10 ?c10 ?k10 ?a11 ?l11 ?c11 ?k11 ?a12 ?l12 ?c12 ?k12 ?a13 ?l13 ?c13 ?k13 ?a14 ?l14 ?c14 ?k14 ?a15 ?l15 ?c15 ?k15 ?a16 ?l16 ?c16 ?k16 ?lc5 ?v5 ?nP5 ?r5 ?lc7 ?v7 ?nP7 ?r7 ?lc8 ?v8 ?nP8 ?r8 ?z_sum ?z_any ?z_all ?z_zip ?z_list ?z_tuple ?z_bool ?z_str ?z_int ?z_isinstance ?z_len ?z_divmod ?z_range ?z_max ?z_min ?z_sorted
    (case a0 => k_is); (case l0 => k_is); (case c0 => k_is); (case k0 => k_is)
    (case a1 => k_is); (case l1 => k_is); (case c1 => k_is); (case k1 => k_is)
    (case a2 => k_is); (case l2 => k_is); (case c2 => k_is); (case k2 => k_is)
    (case a3 => k_is); (case l3 => k_is); (case c3 => k_is); (case k3 => k_is)
    (case a4 => k_is); (case l4 => k_is); (case c4 => k_is); (case k4 => k_is)
    (case a5 => k_is); (case l5 => k_is); (case c5 => k_is); (case k5 => k_is)
    (case a6 => k_is); (case l6 => k_is); (case c6 => k_is); (case k6 => k_is)
    (case a7 => k_is); (case l7 => k_is); (case c7 => k_is); (case k7 => k_is)
    (case a8 => k_is); (case l8 => k_is); (case c8 => k_is); (case k8 => k_is)
    (case a9 => k_is); (case l9 => k_is); (case c9 => k_is); (case k9 => k_is)
    (case a10 => k_is); (case l10 => k_is); (case c10 => k_is); (case k10 => k_is)
    (case a11 => k_is); (case l11 => k_is); (case c11 => k_is); (case k11 => k_is)
    (case a12 => k_is); (case l12 => k_is); (case c12 => k_is); (case k12 => k_is)
    (case a13 => k_is); (case l13 => k_is); (case c13 => k_is); (case k13 => k_is)
    (case a14 => k_is); (case l14 => k_is); (case c14 => k_is); (case k14 => k_is)
    (case a15 => k_is); (case l15 => k_is); (case c15 => k_is); (case k15 => k_is)
    (case a16 => k_is); (case l16 => k_is); (case c16 => k_is); (case k16 => k_is)
    (case lc5 => k_is); (case v5 => exact rfl); (case nP5 => exact rfl); (case r5 => decide +kernel)
    (case lc7 => k_is); (case v7 => exact rfl); (case nP7 => exact rfl); (case r7 => decide +kernel)
    (case lc8 => k_is); (case v8 => exact rfl); (case nP8 => exact rfl); (case r8 => decide +kernel)
    (case z_sum => k_is); (case z_any => k_is); (case z_all => k_is); (case z_zip => k_is); (case z_list => k_is); (case z_tuple => k_is); (case z_bool => k_is); (case z_str => k_is); (case z_int => k_is); (case z_isinstance => k_is); (case z_len => k_is); (case z_divmod => k_is); (case z_range => k_is); (case z_max => k_is); (case z_min => k_is); (case z_sorted => k_is)

