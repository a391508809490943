import PyProof.Rows.All
import Wide.All
import OpenK.AllK
import Wide.FinOn
import HandS.ForMost
import HandS.WideBits
import HandS.IsInst
import HandS.Style
import HandS.AnyAll
import HandS.Nested
import HandS.Walk
import HandS.Evl
import HandS.EndTab
import HandS.SortInts
import HandS.SortRule
import HandS.Conv
import HandS.Star
import HandS.Codes
import HandS.Wide
import HandS.Zip
import HandS.More
import KE.KDictPairs
import KE.GoesMore
import KE.GoesEnum
import PyProof.SumAny
import PyProof.WalksPairs
import PyProof.GenCompT
import PySem.Challenge.RW_tinrecall_k24_cases_laid_out
set_option Elab.async false
set_option linter.all false
set_option maxRecDepth 100000
set_option maxHeartbeats 5000000
/-! ## sum(.. for a, b in ..): a generator expression over a list or a tuple of pairs of whole numbers -/
namespace GP
open PySem PySem.Spec PyProof.Rows L2 GxR

/-- a walk whose items are tuples that stand still -/
theorem asTuples {prog : Program} {w : World} {A : Around} {it : Addr} {foot : List Addr} {n : Nat} {Item : Nat → Value → Prop} {At : Nat → Heap → Prop} (W : Walks prog w A it foot [it] n Item At) (loc : Nat → Addr) (held : Nat → Array Value)
    (isT : ∀ j v, j < n → Item j v → v = .ref (loc j)) (apt : ∀ j, j < n → loc j ≠ it)
    (letGo : ∀ (es : List Expr) (k : Nat) (pos : Pos) (j : Nat) (T : Addr) (s : Shared) (Q : Unit → Shared → Prop) (E : Value → Shared → Prop), At j s.heap → Q () s → wpAny (model prog w) A (letOwnedTupleGo (.Tuple es k pos) (.ref it) (.ref T)) Q E s) :
    WalksU prog w A it (foot ++ (List.range n).map loc) [it] n (fun j xs => xs = held j) (fun j h => At j h ∧ ∀ m, m < n → h.IsTuple (loc m) (held m))
      (fun j T h => (j < n ∧ T = loc j) ∧ At (j + 1) h ∧ ∀ m, m < n → h.IsTuple (loc m) (held m)) := by
  have inFoot : ∀ m, m < n → loc m ∈ foot ++ (List.range n).map loc := fun m hm => List.mem_append.mpr (.inr (List.mem_map.mpr ⟨m, List.mem_range.mpr hm, rfl⟩))
  constructor
  case sub => exact fun b hb => List.mem_append.mpr (.inl (W.sub b hb))
  case frame =>
    intro j h h' ⟨a1, a2⟩ kept
    refine ⟨W.frame j h h' a1 fun b hb => kept b (List.mem_append.mpr (.inl hb)), fun m hm => ?_⟩
    obtain ⟨o, e, r⟩ := a2 m hm
    exact ⟨o, kept _ (inFoot m hm) o e, r⟩
  case item =>
    intro j s Q E hj ⟨a1, a2⟩ fin
    refine W.item j s Q E hj a1 fun v h' tk hv a1' kept => ?_
    have still : ∀ m, m < n → h'.IsTuple (loc m) (held m) := fun m hm => by
      obtain ⟨o, e, r⟩ := a2 m hm
      exact ⟨o, kept _ o (fun z => apt m hm (List.mem_singleton.mp z)) e, r⟩
    rw [isT j v hj hv]
    exact fin (loc j) (held j) h' tk rfl (still j hj) ⟨⟨hj, rfl⟩, a1', still⟩ kept
  case go =>
    intro es k pos j T s Q E hm fin
    exact letGo es k pos (j + 1) T s Q E hm.2.1 (fin s.heap hm.2 fun _ _ _ e => e)
  case apart =>
    intro j T h hm z
    rw [hm.1.2] at z
    exact apt j hm.1.1 (List.mem_singleton.mp z)
  case done => exact fun s Q E a fin => W.done s Q E a.1 fin
  case self => exact fun j s Q E a fin => W.self j s Q E a.1 fin

/-- the values vs are tuples that hold the pairs ps -/
def Prs (H : Hp) (vs : List V) (ps : List (Int × Int)) : Prop := vs.length = ps.length ∧ ∀ (i : Nat) p, ps[i]? = some p → ∃ a, vs[i]? = some (.ref a) ∧ H a = some (.tup [.int p.1, .int p.2])

/-- what is asked of the expression's own scope: the two names are its locals, its captured names are the def's -/
def OwnScope (env : Env) (sc : Scope) (xa xb : Str) : Prop :=
  (sc.kind = .function ∧ sc.isCoroutine = false ∧ xa ≠ xb) ∧ (sc.names.lookup (".0" : Str) = some .local ∧ sc.names.lookup xa = some .local ∧ sc.names.lookup xb = some .local) ∧
  (∀ y ∈ sc.names, y.2 ≠ NameKind.cell) ∧ ∀ y ∈ sc.names, y.2 = NameKind.free → ∃ c, env.cells.lookup y.1 = some c

section
variable {X : Cx} {s : Shared} {H : Hp} {σ : L2.St} {pins : List (Addr × Obj)}
/-- a tracked pair in the machine's heap -/
theorem pair_in {T : Addr} {p : Int × Int} (I : Inv X pins σ H s) (e : H T = some (.tup [.int p.1, .int p.2])) : ∃ ta tb, s.heap.IsTuple T #[.int p.1 ta, .int p.2 tb] := by
  obtain ⟨_, its, r, t⟩ := I.hok T _ e
  cases r with
  | cons q1 r =>
    cases r with
    | cons q2 r =>
      cases r
      obtain ⟨ta, rfl⟩ := q1
      obtain ⟨tb, rfl⟩ := q2
      exact ⟨ta, tb, t⟩
/-- the pairs by place: where they stand and what they hold -/
theorem pairs_in {vs : List V} {ps : List (Int × Int)} {its : List Value} (I : Inv X pins σ H s) (hp : Prs H vs ps) (r : Vals vs its) :
    ∃ (loc : Nat → Addr) (held : Nat → Array Value), ∀ j, j < ps.length → its[j]? = some (.ref (loc j)) ∧ s.heap.IsTuple (loc j) (held j) ∧ ∃ p ta tb, ps[j]? = some p ∧ held j = #[.int p.1 ta, .int p.2 tb] := by
  have one : ∀ j, ∃ (T : Addr) (xs : Array Value), j < ps.length → its[j]? = some (.ref T) ∧ s.heap.IsTuple T xs ∧ ∃ p ta tb, ps[j]? = some p ∧ xs = #[.int p.1 ta, .int p.2 tb] := fun j => by
    by_cases hj : j < ps.length
    · obtain ⟨T, e1, e2⟩ := hp.2 j ps[j] (List.getElem?_eq_getElem hj)
      obtain ⟨u, eu, ru⟩ := r.get e1
      cases ru
      obtain ⟨ta, tb, t⟩ := pair_in I e2
      exact ⟨T, _, fun _ => ⟨eu, t, ps[j], ta, tb, List.getElem?_eq_getElem hj, rfl⟩⟩
    · exact ⟨0, #[], fun z => absurd z hj⟩
  exact ⟨fun j => (one j).choose, fun j => (one j).choose_spec.choose, fun j hj => (one j).choose_spec.choose_spec hj⟩

/-- what a walk over the pairs is, begun at the new iterator that o is -/
def Begun (X : Cx) (s : Shared) (P : Addr) (ps : List (Int × Int)) (o : Obj) : Prop :=
  ∃ (foot : List Addr) (Hold : Nat → Array Value → Prop) (At : Nat → Heap → Prop) (Mid : Nat → Addr → Heap → Prop),
    (∀ A' : Around, A'.handled = none → WalksU X.prog X.w A' s.heap.objs.size foot [s.heap.objs.size] ps.length (fun j xs => j < ps.length ∧ Hold j xs) At Mid) ∧
    (∀ j xs, j < ps.length → Hold j xs → ∃ p ta tb, ps[j]? = some p ∧ xs = #[.int p.1 ta, .int p.2 tb]) ∧ At 0 (s.heap.push o) ∧ ∀ b ∈ foot, b < s.heap.objs.size + 1 ∧ b ≠ P
theorem begin_pairs {a P : Addr} {vs : List V} {ps : List (Int × Int)} {tb : Array Value} {Q' : Value → Shared → Prop} (I : Inv X pins σ H s) (hS : SqL X.K H a vs ∨ SqT X.K H a vs) (hp : Prs H vs ps) (hP : H P = some (.tbl tb))
    (fin : ∀ o, Begun X s P ps o → Q' (.ref s.heap.objs.size) { s with heap := s.heap.push o }) : wpAny (model X.prog X.w) X.A (pyIter (.ref a)) Q' X.xe s := by
  have hPo : s.heap.get? P = some { cls := .none, data := .fields tb } := I.hok P _ hP
  have notP : ∀ (b : Addr) (o : Obj) (xs : Array Value) (n : Nat), s.heap.get? b = some o → o.data = .seq xs n → b ≠ P := fun b o xs n e d z => by
    rw [z, hPo] at e
    rw [← Option.some.inj e] at d
    cases d
  have newP : s.heap.objs.size ≠ P := fun z => Nat.lt_irrefl _ (Nat.lt_of_lt_of_eq (Heap.lt_size hPo) z)
  -- from a walk over the items to the pairs
  have mk : ∀ (its : List Value) (o : Obj) (At : Nat → Heap → Prop), Vals vs its → a < s.heap.objs.size → a ≠ P → At 0 (s.heap.push o) →
      (∀ A' : Around, A'.handled = none → Walks X.prog X.w A' s.heap.objs.size [s.heap.objs.size, a] [s.heap.objs.size] its.toArray.size (fun i v => its.toArray[i]? = some v) At) →
      (∀ (A' : Around) (es : List Expr) (k : Nat) (pos : Pos) (j : Nat) (T : Addr) (s' : Shared) (Q : Unit → Shared → Prop) (E : Value → Shared → Prop), At j s'.heap → Q () s' → wpAny (model X.prog X.w) A' (letOwnedTupleGo (.Tuple es k pos) (.ref s.heap.objs.size) (.ref T)) Q E s') →
      Begun X s P ps o := by
    intro its o At r ha haP a0 W go
    obtain ⟨loc, held, hl⟩ := pairs_in I hp r
    have ln : its.toArray.size = ps.length := by rw [List.size_toArray, ← r.length, hp.1]
    have below : ∀ m, m < ps.length → loc m < s.heap.objs.size ∧ loc m ≠ P := fun m hm => by
      obtain ⟨_, ⟨ob, e, _, n, d⟩, _⟩ := hl m hm
      exact ⟨Heap.lt_size e, notP _ _ _ _ e d⟩
    refine ⟨_, _, _, _, fun A' hA => (asTuples (ln ▸ W A' hA) loc held (fun j v hj e => ?_) (fun j hj => Nat.ne_of_lt (below j hj).1) (fun es k pos j T s' Q E => go A' es k pos j T s' Q E)).bound, fun j xs hj e => ?_, ⟨a0, fun m hm => ?_⟩, fun b hb => ?_⟩
    · have e2 : its[j]? = some v := by simpa using e
      rw [(hl j hj).1] at e2
      exact (Option.some.inj e2).symm
    · obtain ⟨_, _, p, ta, tb', e1, e2⟩ := hl j hj
      exact ⟨p, ta, tb', e1, (show xs = held j from e).trans e2⟩
    · obtain ⟨_, ⟨ob, e, rest⟩, _⟩ := hl m hm
      exact ⟨ob, Heap.get?_push_of_some _ e, rest⟩
    · rcases List.mem_append.mp hb with z | z
      · rcases List.mem_cons.mp z with e | e
        · rw [e]; exact ⟨Nat.lt_succ_self _, newP⟩
        · rw [List.mem_singleton.mp e]; exact ⟨Nat.lt_succ_of_lt ha, haP⟩
      · obtain ⟨m, hm, e⟩ := List.mem_map.mp z
        obtain ⟨h1, h2⟩ := below m (List.mem_range.mp hm)
        rw [← e]; exact ⟨Nat.lt_succ_of_lt h1, h2⟩
  rcases hS with hS | hS
  · obtain ⟨its, r, hl, _⟩ := I.list hS
    obtain ⟨o, e, c, n, d⟩ := hl.isList
    refine wpAny_pyIter_list hl.isList (fin _ (mk its _ _ r (Heap.lt_size e) (notP _ _ _ _ e d) ⟨⟨_, Heap.get?_push_size _ rfl, rfl, rfl⟩, ⟨o, Heap.get?_push_of_some _ e, c, n, d⟩⟩ (fun A' hA => Walks.list hA _ a (Nat.ne_of_lt (Heap.lt_size e)) its.toArray) ?_))
    exact fun A' es k pos j T s' Q E at_ q => wpAny_letOwnedTupleGo_listiter at_.1 q
  · obtain ⟨its, r, ⟨o, e, c, n, d⟩, _⟩ := I.tuple hS
    refine wpAny_pyIter_tuple (items := its.toArray) ⟨o, e, c, n, d⟩ (fin _ (mk its _ _ r (Heap.lt_size e) (notP _ _ _ _ e d) ⟨⟨_, Heap.get?_push_size _ rfl, rfl, rfl⟩, ⟨o, Heap.get?_push_of_some _ e, c, n, d⟩⟩ (fun A' hA => Walks.tuple hA _ a (Nat.ne_of_lt (Heap.lt_size e)) its.toArray) ?_))
    exact fun A' es k pos j T s' Q E at_ q => letGo_tupleiter at_.1 q

/-- the expression's code object is made, or found: the table may grow, all else stands -/
theorem code_there {c P : Addr} {gpos : Pos} {qual : Str} {sc : Scope} {tb : Array Value} {Q' : Value → Shared → Prop} {E : Value → Shared → Prop} (hcode : X.env.code = .ref c) (C : PySem.W.CodeHd s.heap c P) (hP : s.heap.get? P = some { cls := .none, data := .fields tb }) (ok : TriplesOk tb.toList)
    (fin : ∀ (code : Value) (h' : Heap) (tk : Nat) (more : Array Value), Heap.ExtBut P s.heap h' → s.heap.objs.size ≤ h'.objs.size → h'.get? P = some { cls := .none, data := .fields (tb ++ more) } → TriplesOk (tb ++ more).toList → Q' code { s with heap := h', toks := tk }) :
    wpAny (model X.prog X.w) X.A (genexprCode X.env gpos qual sc) Q' E s := by
  cases found : codeAmong gpos tb.toList with
  | some old =>
    refine wpAny_genexprCode_hit hcode (C.code hP ok) found ?_
    have e : tb ++ #[] = tb := by simp
    exact fin old s.heap s.toks #[] (Heap.ExtBut.refl _ _) (Nat.le_refl _) (by rw [e]; exact hP) (by rw [e]; exact ok)
  | none =>
    refine wpAny_genexprCodeX hcode (C.code hP ok) (C.tab hP) found fun c' h' tk ext le lt isC _ tab _ => ?_
    obtain ⟨_, _, _, _, _, _, _, _, _, _, _, _, _, _, _, _, _, _, _, okT, _⟩ := isC
    exact fin _ h' tk _ ext (Nat.le_trans le (Nat.le_of_lt lt)) tab.2 okT

/-- the element at a pair of whole numbers: what it gives, wherever the expression runs later -/
def EltAt (X : Cx) (s₁ : Shared) (P : Addr) (sc : Scope) (xa xb : Str) (elt : Expr) (Gives : Int → Int → Value → Prop) : Prop :=
  ∀ (L : Addr) (code : Value) (A' : Around) (E' : Value → Shared → Prop) (a b : Int) (ta tb : Tok) (s₂ : Shared) (m : Str → Option Value), A'.handled = none →
    (∀ x o, x ≠ P → s₁.heap.get? x = some o → s₂.heap.get? x = some o) → s₂.heap.Ns L m → m xa = some (.int a ta) → m xb = some (.int b tb) →
    wpAny (model X.prog X.w) A' (eval elt (genEnv sc (cloFrom X.env.cells sc.names []) L code builtinsNs X.env)) (fun y s₃ => Gives a b y ∧ Keeps s₂ s₃) E' s₂

/-- the generator at g, in the state s₅, before its first item; H₁: what was held when it was made -/
def Fresh (X : Cx) (pins : List (Addr × Obj)) (σ : L2.St) (H₁ : Hp) (P : Addr) (ps : List (Int × Int)) (Gives : Int → Int → Value → Prop) (g : Addr) (s₅ : Shared) : Prop :=
  ∃ (foot writes : List Addr) (Gens : Array GenState → Array GenState → Prop) (Item : Nat → Value → Prop) (At : Nat → Shared → Prop),
    (WalksS X.prog X.w X.A.in1 g foot writes Gens ps.length Item At ∧ At 0 s₅ ∧ ∀ b ∈ foot, b < s₅.heap.objs.size) ∧
    (∀ j v, Item j v → ∃ p, ps[j]? = some p ∧ Gives p.1 p.2 v) ∧ ∀ s₆, Moved writes Gens s₅ s₆ → ∃ H₂, Tabbed P H₁ H₂ ∧ Inv X pins σ H₂ s₆

theorem gen_made {c P : Addr} {elt iter : Expr} {xa xb : Str} {pa pb pt gpos : Pos} {kt : Nat} {sc : Scope} {te : TE} {k : Nat} {Q' : Value → Shared → Prop} {Want : List (Int × Int) → Hp → Prop} {Gives : Int → Int → Value → Prop}
    (room : Room k X.A) (TB : TabB X.base X.mg c P) (hcode : X.env.code = .ref c) (own : OwnScope X.env sc xa xb) (walked : PE X iter te) (plain : ∀ v, genFold iter X.env v = pure v) (I : Inv X pins σ H s)
    (each : ∀ s₁ H₁, Inv X pins σ H₁ s₁ → TabG H₁ P → EltAt X s₁ P sc xa xb elt Gives)
    (h : te σ H fun v H₁ => ∃ (a : Addr) (vs : List V) (ps : List (Int × Int)), v = .ref a ∧ (SqL X.K H₁ a vs ∨ SqT X.K H₁ a vs) ∧ Prs H₁ vs ps ∧ TabG H₁ P ∧ Want ps H₁)
    (fin : ∀ ps H₁ g s₅, Want ps H₁ → Fresh X pins σ H₁ P ps Gives g s₅ → Q' (.ref g) s₅) :
    wpAny (model X.prog X.w) X.A (eval (.GeneratorExp elt [⟨.Tuple [.Name xa pa, .Name xb pb] kt pt, iter, [], 0⟩] sc gpos) X.env) Q' X.xe s := by
  obtain ⟨⟨o1, o2, o3⟩, ⟨o4, o5, o6⟩, o7, o8⟩ := own
  have deep : X.A.depth < recursionLimit := by have := room.dp; omega
  refine wpAny_GeneratorExp_walksQT room.hd o2 (closure_ok o8) o7 o4 o5 o6 o3 o1 deep (thn (walked.run pins s σ H _ I h) fun u s₁ had => ?_) plain
  obtain ⟨_, H₁, I₁, rel, a, vs, ps, rfl, hS, hp, ⟨tb, hP, ok⟩, want⟩ := had
  cases rel
  have tabAt : s₁.heap.get? P = some { cls := .none, data := .fields tb } := I₁.hok P _ hP
  refine begin_pairs I₁ hS hp hP fun o beg => ?_
  obtain ⟨foot, Hold, At, Mid, W, holds, at0, low⟩ := beg
  have statics : cStatics < s₁.heap.objs.size ∧ cStatics ≠ P := by
    obtain ⟨_, ns, _⟩ := I₁.nolimit
    refine ⟨ns.lt, fun z => ?_⟩
    obtain ⟨ob, _, _, e, d, _⟩ := ns
    rw [z, tabAt] at e
    rw [← Option.some.inj e] at d
    cases d
  have quiet : (s₁.heap.push o).NoLimit := I₁.nolimit.push o
  refine ⟨quiet, code_there hcode (TB.code.keeps fun b u e => Heap.get?_push_of_some _ (I₁.bk b u e)) (Heap.get?_push_of_some _ tabAt) ok fun code h₃ tk more ext le tab₃ ok₃ => ?_⟩
  rw [Heap.size_push] at le
  have stays : ∀ b u, b ≠ P → s₁.heap.get? b = some u → h₃.get? b = some u := fun b u hb e => ext b u hb (Heap.get?_push_of_some _ e)
  obtain ⟨bm, ob, f1, f2, f3, f4, f5, f6, f7, f8⟩ := TB.bm
  have globals : Heap.Ns h₃ X.env.globals X.mg := by
    rw [I₁.ok.glob]
    exact ((I₁.mod.glob.keeps I₁.bk).push o).extBut ext TB.gP
  refine wpAny_builtinsFor (m := X.mg) globals f1 f2 (stays bm ob f4 (I₁.bk bm ob f5)) f6 f7 f8 ?_
  have later : ∀ b u, s₁.heap.get? b = some u → b ∉ [h₃.objs.size, s₁.heap.objs.size] := fun b u e z => by
    have lt := Heap.lt_size e
    rcases List.mem_cons.mp z with z' | z'
    · exact Nat.lt_irrefl _ (Nat.lt_of_lt_of_le (z' ▸ lt) (Nat.le_of_succ_le le))
    · exact Nat.lt_irrefl _ (List.mem_singleton.mp z' ▸ lt)
  refine ⟨_, _, _, _, _, _, _, fun _ => true, fun i y => i < ps.length → ∃ p, ps[i]? = some p ∧ Gives p.1 p.2 y, rfl, W, fun i xs hx => ?_, ?_, fun b hb => Nat.lt_of_lt_of_le (low b hb).1 le, quiet.extBut ext statics.2, fun z => Nat.ne_of_lt statics.1 (List.mem_singleton.mp z), fun ref kept => ⟨?_, ?_⟩, ?_⟩
  · obtain ⟨p, ta, tb', _, e⟩ := holds i xs hx.1 hx.2
    exact ⟨_, _, e⟩
  · exact (W X.A room.hd).frame _ _ _ at0 fun b hb u e => ext b u (low b hb).2 e
  · intro A' E' i va vb s₂ m _ _ _ _ _ _
    rw [List.forIn_nil]
    exact wpAny_pure ⟨rfl, _, _, rfl, fun _ _ e => e⟩
  · intro A' E' i va vb s₂ m calm hx _ ns ea eb still
    obtain ⟨p, ta, tb', ep, e⟩ := holds i _ hx.1 hx.2
    have e1 : va = .int p.1 ta := by have z := congrArg (·[0]?) e; simpa using z
    have e2 : vb = .int p.2 tb' := by have z := congrArg (·[1]?) e; simpa using z
    subst e1 e2
    refine wpAny_mono (each s₁ H₁ I₁ ⟨tb, hP, ok⟩ _ code A' E' p.1 p.2 ta tb' s₂ m calm (fun b u hb q => ?_) ns ea eb) (fun y s₃ r => ⟨fun _ => ⟨p, ep, r.1⟩, r.2⟩) fun _ _ q => q
    have q3 := stays b u hb q
    exact still b (List.mem_range.mpr (Heap.lt_size q3)) (fun z => later b u q (List.mem_cons_of_mem _ z)) u (kept b u q3)
  · intro g h₅ tk₅ gs bare above size kept W₅ at₅
    rw [GxR.passing_true, List.length_range] at W₅
    have above' : h₃.objs.size < g := above
    have size' : h₅.objs.size = g + 1 := size
    refine fin ps H₁ g _ want ⟨_, _, _, _, _, ⟨W₅.in4_1, at₅, fun b hb => ?_⟩, fun j v it => ?_, fun s₆ mv => ?_⟩
    · show b < h₅.objs.size
      rw [size']
      rcases List.mem_cons.mp hb with eg | e
      · rw [eg]; exact Nat.lt_succ_self g
      · refine Nat.lt_succ_of_le (Nat.le_trans ?_ (Nat.le_of_lt above'))
        rcases List.mem_cons.mp e with e' | e'
        · rw [e']; exact Nat.le_refl _
        · exact Nat.le_of_lt (List.mem_range.mp e')
    · obtain ⟨i, ei, hg⟩ := it
      have lt : j < ps.length := by
        have z := (List.getElem?_eq_some_iff.mp ei).1
        rwa [List.length_range] at z
      rw [List.getElem?_range lt] at ei
      cases ei
      exact hg lt
    · have all : ∀ b u, b ≠ P → s₁.heap.get? b = some u → s₆.heap.get? b = some u := fun b u hb e => mv.heap b u (later b u e) (kept b u (stays b u hb e))
      have tab₆ := mv.heap P _ (later P _ tabAt) (kept P _ tab₃)
      have J := inv_tab (more := more) (d' := s₆.drawn) (t' := s₆.toks) I₁ hP all tab₆ (AllBare.movedS (I₁.bare.push bare) mv)
      rw [sh_eta s₁ s₆ mv.os] at J
      exact ⟨_, ⟨⟨tb ++ more, upd_same, ok₃⟩, fun b hb => upd_ne hb⟩, J⟩

/-- the sum of g over the pairs -/
def sumP (g : Int → Int → Int) (ps : List (Int × Int)) : Int := (ps.map fun p => g p.1 p.2).sum
theorem preSum_is (g : Int → Int → Int) (ps : List (Int × Int)) (val : Nat → Int) (h : ∀ i p, ps[i]? = some p → val i = g p.1 p.2) : ∀ n, n ≤ ps.length → preSum val n = sumP g (ps.take n)
  | 0, _ => rfl
  | n + 1, hn => by
    have e : ps[n]? = some ps[n] := List.getElem?_eq_getElem hn
    show preSum val n + val n = _
    rw [preSum_is g ps val h n (by omega), h n _ e]
    unfold sumP
    rw [List.take_add_one, e, List.map_append, List.sum_append]
    show _ = _ + (g ps[n].1 ps[n].2 + 0)
    rw [Int.add_zero]
/-- what the reading of sum(..), any(..) over pairs asks: what is captured (Cap), the pairs, the table; then the answer -/
def tOver {α : Type} (K : PySem.W.Frag) (P : Addr) (Cap : L2.St → α → Prop) (ans : α → List (Int × Int) → V) (te : TE) : TE := fun σ H Q => ∃ x : α, Cap σ x ∧ te σ H fun v H₁ => ∃ (a : Addr) (vs : List V) (ps : List (Int × Int)), v = .ref a ∧ (SqL K H₁ a vs ∨ SqT K H₁ a vs) ∧ Prs H₁ vs ps ∧ TabG H₁ P ∧
  ∀ H₂, Tabbed P H₁ H₂ → Q (ans x ps) H₂
/-- how a built-in takes a generator over pairs -/
def Takes2 (X : Cx) (name : String) (Gives : Int → Int → Value → Prop) (ans : List (Int × Int) → V) : Prop :=
  ∀ (pins : List (Addr × Obj)) (σ : L2.St) (P : Addr) (ps : List (Int × Int)) (H₁ : Hp) (gen : Addr) (s₅ : Shared) (Q : VK), Fresh X pins σ H₁ P ps Gives gen s₅ → (∀ H₂, Tabbed P H₁ H₂ → Q (ans ps) H₂) →
    wpAny (model X.prog X.w) X.A (call (.builtin name) [.ref gen]) (EP X pins σ Q) X.xe s₅
theorem pe_over {α : Type} {name : String} {x : Str} {c P : Addr} {elt iter : Expr} {xa xb : Str} {pa pb pt p pos gpos : Pos} {kt : Nat} {sc : Scope} {Cap : L2.St → α → Prop} {Gives : α → Int → Int → Value → Prop} {ans : α → List (Int × Int) → V} {te : TE} {k : Nat} (takes : ∀ y, Takes2 X name (Gives y) (ans y))
    (room : Room k X.A) (glob : Gl X x) (free : X.mg x = none) (bltn : bootBuiltins x = some (.builtin name)) (TB : TabB X.base X.mg c P) (hcode : X.env.code = .ref c) (own : OwnScope X.env sc xa xb) (walked : PE X iter te)
    (each : ∀ pins σ s₁ H₁ y, Inv X pins σ H₁ s₁ → TabG H₁ P → Cap σ y → EltAt X s₁ P sc xa xb elt (Gives y)) (plain : ∀ v, genFold iter X.env v = pure v) (n1 : x ≠ "__name__" := by decide) (n2 : (x == ("__debug__" : Str)) = false := by decide)
    (one : starEach [.GeneratorExp elt [⟨.Tuple [.Name xa pa, .Name xb pb] kt pt, iter, [], 0⟩] sc gpos] X.env = [(false, eval (.GeneratorExp elt [⟨.Tuple [.Name xa pa, .Name xb pb] kt pt, iter, [], 0⟩] sc gpos) X.env)] := by rfl) :
    PE X (.Call (.Name x p) [.GeneratorExp elt [⟨.Tuple [.Name xa pa, .Name xb pb] kt pt, iter, [], 0⟩] sc gpos] [] pos) (tOver X.K P Cap ans te) := by
  constructor
  intro pins s σ H Q I h
  obtain ⟨y, cap, h⟩ := h
  refine wpAny_Call_Name_kw (ld_blt I glob free bltn (callWith_builtin1 ?_ one (by rfl)) n1 n2)
  rw [one]
  refine Calls.spliced_cons (gen_made (Want := fun ps H₁ => ∀ H₂, Tabbed P H₁ H₂ → Q (ans y ps) H₂) (Gives := Gives y) room TB hcode own walked plain I (fun s₁ H₁ J g => each pins σ s₁ H₁ y J g cap) h fun ps H₁ gen s₅ want fresh => Calls.spliced_nil ?_)
  exact takes y pins σ P ps H₁ gen s₅ Q fresh want
theorem takes_sum (g : Int → Int → Int) : Takes2 X "sum" (fun a b y => ∃ t, y = .int (g a b) t) (fun ps => .int (sumP g ps)) := by
  intro pins σ P ps H₁ gen s₅ Q fresh want
  obtain ⟨foot, writes, Gens, Item, At, ⟨W, a0, low⟩, items, behind⟩ := fresh
  let val : Nat → Int := fun i => (ps[i]?.map fun p => g p.1 p.2).getD 0
  have hv : ∀ i p, ps[i]? = some p → val i = g p.1 p.2 := fun i p e => by show (ps[i]?.map _).getD 0 = _; rw [e]; rfl
  refine call_sum_walkAnyS (W.self 0 _ _ _ a0 ⟨gen, foot, writes, Gens, ps.length, Item, At, val, rfl, W, a0, low, fun i v it => ?_, fun s₆ t mv => ?_⟩)
  · obtain ⟨p, e, t, ev⟩ := items i v it
    exact ⟨t, by rw [hv i p e]; exact ev⟩
  · obtain ⟨H₂, tabbed, J⟩ := behind s₆ mv
    refine ⟨.int (preSum val ps.length), H₂, J, ⟨t, rfl⟩, ?_⟩
    rw [preSum_is g ps val hv ps.length (Nat.le_refl _), List.take_length]
    exact want H₂ tabbed
def anyP (g : Int → Int → Bool) (ps : List (Int × Int)) : Bool := ps.any fun p => g p.1 p.2
theorem any_is {α : Type} (ps : List α) (f : α → Bool) (tr : Nat → Bool) (h : ∀ i p, ps[i]? = some p → tr i = f p) : (List.range ps.length).any tr = ps.any f := by
  rw [Bool.eq_iff_iff, List.any_eq_true (l := List.range _), List.any_eq_true]
  constructor
  · rintro ⟨i, hi, e⟩
    have lt := List.mem_range.mp hi
    exact ⟨ps[i], List.getElem_mem lt, by rw [← h i _ (List.getElem?_eq_getElem lt)]; exact e⟩
  · rintro ⟨p, hp, e⟩
    obtain ⟨i, lt, rfl⟩ := List.getElem_of_mem hp
    exact ⟨i, List.mem_range.mpr lt, by rw [h i _ (List.getElem?_eq_getElem lt)]; exact e⟩
theorem takes_any (g : Int → Int → Bool) : Takes2 X "any" (fun a b y => y = .bool (g a b)) (fun ps => .bl (anyP g ps)) := by
  intro pins σ P ps H₁ gen s₅ Q fresh want
  obtain ⟨foot, writes, Gens, Item, At, ⟨W, a0, low⟩, items, behind⟩ := fresh
  let tr : Nat → Bool := fun i => (ps[i]?.map fun p => g p.1 p.2).getD false
  have ht : ∀ i p, ps[i]? = some p → tr i = g p.1 p.2 := fun i p e => by show (ps[i]?.map _).getD false = _; rw [e]; rfl
  refine call_any_walkS (W.self 0 _ _ _ a0 ⟨gen, foot, writes, Gens, ps.length, Item, At, tr, rfl, W, a0, fun i v s' Q' E' it q => ?_, fun s₆ mv => ?_⟩)
  · obtain ⟨p, e, rfl⟩ := items i v it
    rw [ht i p e] at q
    exact wpAny_truthy_bool q
  · obtain ⟨H₂, tabbed, J⟩ := behind s₆ mv
    refine ⟨.bl _, H₂, J, rfl, ?_⟩
    rw [any_is ps (fun p => g p.1 p.2) tr ht]
    exact want H₂ tabbed
/-- a whole number that the expression captures, as its cell has it -/
theorem captured {i : Nat} {y : Str} {n : Int} {P : Addr} (I : Inv X pins σ H s) (hN : X.N[i]? = some y) (hk : X.env.scope.names.lookup y = some .cell) (hv : σ[i]? = some (some (.int n))) (g : TabG H P) :
    ∃ c t, X.env.cells.lookup y = some c ∧ s.heap.IsCell c (some (.int n t)) ∧ c ≠ P := by
  obtain ⟨tb, hP, _⟩ := g
  obtain ⟨m, _, look⟩ := I.loc
  obtain ⟨u, ⟨t, rfl⟩, l⟩ := look i y _ hN hv (.inr (.inl hk))
  rcases l with ⟨z, _⟩ | ⟨_, c, e, o, ho, hd⟩
  · rw [show X.env.kindOf y = some .cell from hk] at z
    cases z
  · refine ⟨c, t, e, ⟨o, ho, hd⟩, fun z => ?_⟩
    rw [z, I.hok P _ hP] at ho
    rw [← Option.some.inj ho] at hd
    cases hd
/-- the names of the module and the built-in ones, where the expression runs -/
theorem names_in {P : Addr} {s₂ : Shared} (I : Inv X pins σ H s) (g : TabG H P) (gP : mainGlobals ≠ P) (kept : ∀ x o, x ≠ P → s.heap.get? x = some o → s₂.heap.get? x = some o) :
    s₂.heap.Ns mainGlobals X.mg ∧ ∃ mb, s₂.heap.Ns builtinsNs mb ∧ ∀ x : Str, x ≠ "__name__" → mb x = bootBuiltins x := by
  obtain ⟨tb, hP, _⟩ := g
  obtain ⟨mb, b1, b2⟩ := I.mod.blt
  have at_ : ∀ b m, b ≠ P → s.heap.Ns b m → s₂.heap.Ns b m := fun b m hb ⟨o, es, ep, ho, r⟩ => ⟨o, es, ep, kept b o hb ho, r⟩
  refine ⟨at_ _ _ gP (I.mod.glob.keeps I.bk), mb, at_ _ _ (fun z => ?_) (b1.keeps I.bk), b2⟩
  obtain ⟨o, es, ep, ho, hd, _⟩ := b1.keeps I.bk
  rw [z, I.hok P _ hP] at ho
  rw [← Option.some.inj ho] at hd
  cases hd
end
end GP

namespace TK
open PySem PySem.Spec PyProof.Rows L2 GP
def topS (i : Nat) : Stmt := PySem.Challenge.pw_tinrecall_k24_cases_laid_out.main.body.getD i (.Pass ⟨0, 0, 0, 0⟩)

/-- the draws' state: its dict at d, its cells at c -/
structure StAt (H : Hp) (d c : Addr) (t : Int) : Prop where
  dict : H d = some (.dK [(.inr "cells", .ref c), (.inr "turn", .int t)])
  cells : ∃ cs : List Int, H c = some (.lst (cs.map V.int)) ∧ cs ≠ [] ∧ cs.length ≤ 63
  pos : 0 ≤ t
theorem StAt.ne {H : Hp} {d c : Addr} {t : Int} (h : StAt H d c t) : d ≠ c := by
  obtain ⟨cs, hc, _⟩ := h.cells
  exact ne_of h.dict hc (by intro z; cases z)
/-- all but the state is as it was -/
def Kp (d c : Addr) (H H' : Hp) : Prop := ∀ b o, b ≠ d → b ≠ c → H b = some o → H' b = some o
theorem Kp.refl (d c : Addr) (H : Hp) : Kp d c H H := fun _ _ _ _ h => h
theorem Kp.trans {d c : Addr} {H H1 H2 : Hp} (a : Kp d c H H1) (b : Kp d c H1 H2) : Kp d c H H2 := fun x o h1 h2 h => b x o h1 h2 (a x o h1 h2 h)

theorem ixN_of {n j : Nat} (h : j < n) : ixN n (j : Int) = some j := by
  unfold ixN
  rw [if_pos (Int.natCast_nonneg j), if_pos (by omega), Int.toNat_natCast]
def spTake : Sp := fun vs H Q _ => ∃ (d c : Addr) (t m : Int), vs = [.ref d, .int m] ∧ StAt H d c t ∧ t < 2 ^ 60 ∧ 0 < m ∧ m.natAbs < 2 ^ 250 ∧
  ∀ r H', 0 ≤ r → r < m → StAt H' d c (t + 1) → Kp d c H H' → Q (.int r) H'

abbrev sTake : Stmt := topS 7
theorem scTake : FnScope ["_law_state", "_law_many", "_law_turn", "_law_place", "_law_cell", "_law_digit", "_law_mixed"] ["_law_state", "_law_many"] (defScope sTake) := ⟨rfl, rfl, rfl, by decide +kernel, rfl, by decide +kernel, by decide +kernel⟩
section
variable {K : PySem.W.Frag} {mg : Str → Option Value} {P : Program} {w : World} {base : Heap}
theorem ok_take {f : Addr} {fd : FuncData} {k : Nat} (F : Fun K "_law_take" "_law_take" sTake f fd) (ml : mg "len" = none) (md : mg "divmod" = none) : FnOk P w K mg base CX0 (k + 1) f fd ["_law_state", "_law_many"] spTake := by
  refine F.ok scTake (fun vs H Q E h => ?_) (fun cdv A outer s H vs Q E hr h => ?_)
  · obtain ⟨d, c, t, m, rfl, _⟩ := h
    rfl
  · obtain ⟨d, c, t, m, rfl, hS, ht, hm, hm2, q⟩ := h
    refine ⟨_, pss_cons (ps_set (i := 2) scTake.nd rfl (.inl rfl) (pe_op op_add (pe_dget (hu_of hr) (pv 0) pe_str (fun _ _ => rfl)) pe_int))
      (pss_cons (ps_dput (hu_of hr) (pv 0) pe_str (pv 2) rfl)
      (pss_cons (ps_set (i := 3) scTake.nd rfl (.inl rfl) (pe_op op_mod (pv 2) (pe_callB call_len_seq (by rfl) ml PySem.boot_len (pa_cons (pe_dget (hu_of hr) (pv 0) pe_str (fun _ _ => rfl)) pa_nil))))
      (pss_cons (ps_set (i := 4) scTake.nd rfl (.inl rfl) (pe_ix ix_list (pe_dget (hu_of hr) (pv 0) pe_str (fun _ _ => rfl)) (pv 3) (fun _ _ => rfl)))
      (pss_cons (ps_if (pt_cmpR op_ge (pv 4) (pe_op op_pow pe_int pe_int) (nomark _))
        (pss_cons (ps_asg (pe_callB call_divmodW (by rfl) md (by decide +kernel) (pa_cons (pv 4) (pa_cons (pv 1) pa_nil)))
            (pg_tup rfl (pgs_cons (pg_sub (pe_dget (hu_of hr) (pv 0) pe_str (fun _ _ => rfl)) (pv 3) set_list) (pgs_cons (pg_name (i := 5) scTake.nd rfl (.inl rfl)) pgs_nil))))
          (pss_one (ps_ret (pv 5)))) pss_nil)
      (pss_cons (ps_set (i := 6) scTake.nd rfl (.inl rfl) (pe_op op_mod (pe_op op_mul (pe_op op_add (pe_op op_add (pe_op op_mod (pv 4) pe_int) (pe_op op_mul (pe_op op_mul (pv 2) (pv 2)) pe_int)) pe_int) pe_int) pe_int))
      (pss_cons (ps_set (i := 6) scTake.nd rfl (.inl rfl) (pe_op op_mod (pe_op op_mul (pv 6) (pv 6)) pe_int))
      (pss_one (ps_ret (pe_op op_mod (pe_op op_fdiv (pe_op op_mod (pe_op op_mul (pe_op op_add (pv 6) (pe_op op_mul (pv 2) pe_int)) pe_int) pe_int) pe_int) (pv 1)))))))))), ?_⟩
    obtain ⟨hd, ⟨cs, hc, hne, hlen⟩, hpos⟩ := hS
    have ndc : d ≠ c := ne_of hd hc (by intro z; cases z)
    -- turn = state['turn'] + 1
    refine ⟨.ref d, rfl, d, .int t, rfl, DGet.k (k := Sum.inr "turn") hd, t, 1, rfl, rfl, ?_⟩
    -- state['turn'] = turn
    refine ⟨_, rfl, .ref d, rfl, d, _, rfl, DPut.k (k := Sum.inr "turn") hd (by show 2 < sizeLine; decide), ?_⟩
    have hput : putK [((.inr "cells" : Key), V.ref c), (.inr "turn", .int t)] (.inr "turn") (.int (t + 1)) = [(.inr "cells", .ref c), (.inr "turn", .int (t + 1))] := rfl
    rw [show (.int (t + 1) : V) = V.int (t + 1) from rfl] at *
    rw [hput]
    generalize hH1 : upd H d (.dK [((.inr "cells" : Key), V.ref c), (.inr "turn", .int (t + 1))]) = H1
    have hd1 : H1 d = some (.dK [(.inr "cells", .ref c), (.inr "turn", .int (t + 1))]) := by rw [← hH1]; exact upd_same
    have hc1 : H1 c = some (.lst (cs.map V.int)) := by rw [← hH1, upd_ne ndc.symm]; exact hc
    have k1 : Kp d c H H1 := fun b o h1 h2 e => by rw [← hH1, upd_ne h1]; exact e
    have hlp : 0 < cs.length := List.length_pos_iff.mpr hne
    -- place = turn % len(state['cells'])
    refine ⟨_, rfl, .ref d, rfl, d, .ref c, rfl, DGet.k (k := Sum.inr "cells") hd1, c, _, rfl, .inl (SqL.of hc1), _, _, rfl, rfl, (by show (0 : Int) < ((cs.map V.int).length : Int); rw [List.length_map]; omega), ?_⟩
    dsimp only
    rw [List.length_map]
    have hj0 : 0 ≤ (t + 1) % (cs.length : Int) := Int.emod_nonneg _ (by omega)
    have hj1 : (t + 1) % (cs.length : Int) < cs.length := Int.emod_lt_of_pos _ (by omega)
    obtain ⟨j, hj⟩ := Int.eq_ofNat_of_zero_le hj0
    have hjl : j < cs.length := by omega
    rw [hj]
    have gj : (cs.map V.int)[j]? = some (.int cs[j]) := by rw [List.getElem?_map, List.getElem?_eq_getElem hjl]; rfl
    -- cell = state['cells'][place]
    refine ⟨.ref d, rfl, d, .ref c, rfl, DGet.k (k := Sum.inr "cells") hd1, _, rfl, c, _, _, .int cs[j], rfl, rfl, SqL.of hc1, atI_nat gj, ?_⟩
    generalize cs[j] = x
    -- if cell >= 10 ** 18
    refine ⟨_, rfl, 10, 18, rfl, rfl, ⟨by decide, by decide, by decide⟩, _, _, rfl, rfl, _, rfl, ite2 (fun e => ?_) (fun e => ?_)⟩
    · have hdp : CDivP x m := ⟨hm, PyProof.noPylong_of_log2 (Nat.lt_trans (PySem.Flt.log2_lt_of (by decide) hm2) (by decide))⟩
      refine ⟨_, rfl, _, rfl, x, m, rfl, hdp, fun p hp => ?_⟩
      have npd : d ≠ p := ne_of_none hd1 hp
      have npc : c ≠ p := ne_of_none hc1 hp
      have hd2 : upd H1 p (.tup [.int (x / m), .int (x % m)]) d = some (.dK [(.inr "cells", .ref c), (.inr "turn", .int (t + 1))]) := by rw [upd_ne npd]; exact hd1
      have hc2 : upd H1 p (.tup [.int (x / m), .int (x % m)]) c = some (.lst (cs.map V.int)) := by rw [upd_ne npc]; exact hc1
      refine ⟨p, _, rfl, .inl (.inl upd_same), rfl, _, _, rfl, .ref d, rfl, d, .ref c, rfl, DGet.k (k := Sum.inr "cells") hd2, _, rfl, c, _, _, j, rfl, rfl, hc2, ixN_of (by rw [List.length_map]; exact hjl), _, _, rfl, rfl, ?_⟩
      refine ⟨_, rfl, ?_⟩
      refine q _ _ (Int.emod_nonneg _ (by omega)) (Int.emod_lt_of_pos _ hm) ⟨?_, ⟨cs.set j (x / m), ?_, ?_, ?_⟩, by omega⟩ ?_
      · rw [upd_ne ndc]; exact hd2
      · rw [upd_same, List.map_set]
      · intro z
        have z2 : (cs.set j (x / m)).length = 0 := by rw [z]; rfl
        rw [List.length_set] at z2
        omega
      · rw [List.length_set]; exact hlen
      · intro b o h1 h2 e
        rw [upd_ne h2, upd_ne (ne_of_none (k1 b o h1 h2 e) hp)]
        exact k1 b o h1 h2 e
    · have t1 : t + 1 < 2 ^ 61 := by omega
      -- mixed
      refine ⟨_, rfl, _, _, rfl, rfl, (show (0 : Int) < 2147483629 by decide), _, rfl, _, rfl, t + 1, t + 1, rfl, rfl, .inl ⟨by omega, by omega⟩, _, _, rfl, rfl, .inr ⟨by decide, by decide⟩, _, _, rfl, rfl, _, _, rfl, rfl, _, _, rfl, rfl, .inr ⟨by decide, by decide⟩, _, 2147483647, rfl, rfl, (show (0 : Int) < 2147483647 by decide), ?_⟩
      dsimp only
      generalize hy : ((x % 2147483629 + (t + 1) * (t + 1) * 7919 + 11) * 48271) = y
      have y0 : 0 ≤ y % 2147483647 := Int.emod_nonneg _ (by decide)
      have y1 : y % 2147483647 < 2147483647 := Int.emod_lt_of_pos _ (by decide)
      refine ⟨_, rfl, _, rfl, y % 2147483647, y % 2147483647, rfl, rfl, .inl ⟨by omega, by omega⟩, _, 2147483587, rfl, rfl, (show (0 : Int) < 2147483587 by decide), ?_⟩
      refine ⟨_, rfl, _, rfl, t + 1, 104729, rfl, rfl, .inr ⟨by decide, by decide⟩, _, _, rfl, rfl, _, _, rfl, rfl, .inr ⟨by decide, by decide⟩, _, 2147483629, rfl, rfl, (show (0 : Int) < 2147483629 by decide), _, 64, rfl, rfl, ⟨by decide, by decide⟩, _, rfl, _, m, rfl, rfl, hm, ?_⟩
      exact q _ _ (Int.emod_nonneg _ (by omega)) (Int.emod_lt_of_pos _ hm) ⟨hd1, ⟨cs, hc1, hne, hlen⟩, by omega⟩ k1
end

abbrev sBegin : Stmt := topS 6
theorem scBegin : FnScope ["_law_script", "_law_cells"] ["_law_script"] (defScope sBegin) := ⟨rfl, rfl, rfl, by decide +kernel, rfl, by decide +kernel, by decide +kernel⟩
theorem same_upd {H : Hp} {p : Addr} {o : HO} (h : H p = none) : Same H (upd H p o) := fun b x e => by
  rw [upd_ne (ne_of_none e h)]
  exact e
theorem cut_front (xs : List V) (m : Nat) : cutV xs none (some (m : Int)) = xs.take m := by
  unfold cutV
  rw [HT.sIx_none, HT.sIx_nat]
  show List.take (min m xs.length - 0) (xs.drop 0) = xs.take m
  rw [Nat.sub_zero, List.drop_zero]
  by_cases h : m ≤ xs.length
  · rw [Nat.min_eq_left h]
  · rw [Nat.min_eq_right (by omega), List.take_length, List.take_of_length_le (by omega)]
theorem dp_ints {K : PySem.W.Frag} {H : Hp} : ∀ ns : List Int, DpAll K H (ns.map V.int) (ns.map PyData.int)
  | [] => .nil
  | n :: r => .cons (.int n) (dp_ints r)
theorem lay_ints : ∀ ns : List Int, PyData.canLayAll0 (ns.map PyData.int) = true
  | [] => by simp only [List.map_nil, PyData.canLayAll0]
  | n :: r => by
    rw [List.map_cons, PyData.canLayAll0, lay_ints r]
    simp [PyData.canLay0]
theorem depth_ints : ∀ ns : List Int, PyData.depthAll (ns.map PyData.int) = 0
  | [] => by simp only [List.map_nil, PyData.depthAll]
  | n :: r => by
    rw [List.map_cons, PyData.depthAll, depth_ints r]
    simp [PyData.depth]
theorem shaped_ints (ns : List Int) : SeqAt.shaped (PyData.list (ns.map PyData.int)) = true := by
  unfold SeqAt.shaped
  rw [PyData.canLay0, lay_ints, PyData.depth, depth_ints]
  rfl
theorem eqv_nil (n : Int) (r : List Int) : PyData.eqv (PyData.list ((n :: r).map PyData.int)) (PyData.list []) = false := by
  simp [PyData.eqv, PyData.eqvAll]
theorem eqv_nil0 : PyData.eqv (PyData.list (([] : List Int).map PyData.int)) (PyData.list []) = true := by
  simp [PyData.eqv, PyData.eqvAll]
def spBegin (K : PySem.W.Frag) : Sp := fun vs H Q _ => ∃ (a : Addr) (ns : List Int), vs = [.ref a] ∧ SqL K H a (ns.map V.int) ∧ ns.length ≤ 63 ∧
  ∀ d c H', Same H H' → H d = none → H c = none → StAt H' d c 0 → Q (.ref d) H'
section
variable {K : PySem.W.Frag} {mg : Str → Option Value} {P : Program} {w : World} {base : Heap}
theorem ok_begin {f : Addr} {fd : FuncData} {k : Nat} (F : Fun K "_law_begin" "_law_begin" sBegin f fd) (ml : mg "list" = none) : FnOk P w K mg base CX0 (k + 1) f fd ["_law_script"] (spBegin K) := by
  refine F.ok scBegin (fun vs H Q E h => ?_) (fun cdv A outer s H vs Q E hr h => ?_)
  · obtain ⟨a, ns, rfl, _⟩ := h
    rfl
  · obtain ⟨a, ns, rfl, hS, hlen, q⟩ := h
    refine ⟨_, pss_cons (ps_set (i := 1) scBegin.nd rfl (.inl rfl) (pe_callTy call_list_of (by rfl) ml (by decide +kernel) (pa_cons (pe_slice sl_list (pv 0) po_none (po_some pe_int)) pa_nil)))
      (pss_cons (ps_if (pt_cmpR (op_eqD hr.units) (pv 1) (pe_lst pa_nil) (nomark _)) (pss_one (ps_set (i := 1) scBegin.nd rfl (.inl rfl) (pe_lst (pa_cons pe_int pa_nil)))) pss_nil)
      (pss_one (ps_ret (pe_disp (pps_cons pe_str (pv 1) (pps_cons pe_str pe_int pps_nil)) (by rfl) (by rfl) (fun z => by cases z) (by decide))))), ?_⟩
    -- the end: a dict of what stands at the cells' place
    have fin : ∀ (H1 : Hp) (c : Addr) (cs : List Int) (y : Option V), Same H H1 → H c = none → H1 c = some (.lst (cs.map V.int)) → cs ≠ [] → cs.length ≤ 63 →
        (tRet (tDisp [(tC (.str "cells"), tVar 1), (tC (.str "turn"), tC (.int 0))])) { nx := fun _ H' => Q .non H', rt := Q } [some (.ref a), some (.ref c)] H1 := by
      intro H1 c cs y s1 nc ec hne hl
      refine fun d nd => ⟨_, rfl, upd_same, [(.inr "cells", .ref c), (.inr "turn", .int 0)], rfl, (by show 2 ≤ 15; decide), ?_⟩
      have ndc : c ≠ d := ne_of_none ec nd
      refine q d c _ (fun b o e => ?_) (s1.free nd) nc ⟨?_, ⟨cs, ?_, hne, hl⟩, by decide⟩
      · have nb : b ≠ d := ne_of_none (s1 b o e) nd
        rw [upd_ne nb, upd_ne nb]
        exact s1 b o e
      · exact upd_same
      · rw [upd_ne ndc, upd_ne ndc]
        exact ec
    refine ⟨.ref a, rfl, 63, rfl, a, ns.map V.int, rfl, hS, fun p np => ?_⟩
    have s1 : Same H (upd H p (.lst (cutV (ns.map V.int) none (some 63)))) := same_upd np
    refine ⟨p, _, rfl, .inl (SqL.of upd_same), fun l nl => ?_⟩
    have s2 := s1.trans (same_upd (o := .lst (cutV (ns.map V.int) none (some 63))) nl)
    have ecut : cutV (ns.map V.int) none (some 63) = ns.map V.int := by
      have e := cut_front (ns.map V.int) 63
      have e2 : cutV (ns.map V.int) none (some 63) = (ns.map V.int).take 63 := e
      rw [e2, List.take_of_length_le (by rw [List.length_map]; exact hlen)]
    have el : upd (upd H p (.lst (cutV (ns.map V.int) none (some 63)))) l (.lst (cutV (ns.map V.int) none (some 63))) l = some (.lst (ns.map V.int)) := by
      rw [upd_same, ecut]
    revert s2 el
    generalize upd (upd H p (.lst (cutV (ns.map V.int) none (some 63)))) l (.lst (cutV (ns.map V.int) none (some 63))) = H2
    intro s2 el
    have nlH : H l = none := s1.free nl
    -- if cells == []
    refine ⟨.ref l, rfl, Nat.zero_le _, fun z nz => ?_⟩
    have s3 := s2.trans (same_upd (o := .lst []) nz)
    have nlz : l ≠ z := ne_of_none el nz
    have el3 : upd H2 z (.lst []) l = some (.lst (ns.map V.int)) := by rw [upd_ne nlz]; exact el
    refine ⟨.list (ns.map PyData.int), .list [], .lst (SqL.of el3) (dp_ints ns), .lst (SqL.of upd_same) .nil, shaped_ints ns, shaped_ints [], ?_⟩
    cases ns with
    | nil =>
      refine ⟨true, by rw [eqv_nil0], iteT ?_⟩
      refine ⟨(by show 1 ≤ sizeLine; decide), fun c nc => ?_⟩
      exact fin _ c [_] none (s3.trans (same_upd nc)) (s3.free nc) upd_same (by simp) (by decide)
    | cons n r =>
      refine ⟨false, by rw [eqv_nil], iteF ?_⟩
      exact fin _ l (n :: r) none s3 nlH el3 (by simp) hlen
end

/-- a def of the text that keeps a promise, as its callers see it -/
def Cal (P : Program) (w : World) (K : PySem.W.Frag) (mg : Str → Option Value) (base : Heap) (k : Nat) (x : Str) (ps : List Str) (sp : Sp) : Prop :=
  ∃ f fd, FnOk P w K mg base CX0 k f fd ps sp ∧ mg x = some (.ref f) ∧ PySem.W.keepIn K (.ref f) = true ∧ Binds K fd ps []
theorem pe_own {X : Cx} {k : Nat} {x : Str} {ps : List Str} {sp : Sp} {e : Expr} {es : List Expr} {t : TA} {p pos : Pos} (C : Cal X.prog X.w X.K X.mg X.base k x ps sp) (hr : Room k X.A) (hg : Gl X x) (ha : PA X (e :: es) t)
    (dbg : (x == ("__debug__" : Str)) = false := by decide) (one : starEach (e :: es) X.env = (false, eval e X.env) :: starEach es X.env := by rfl) (star : (backTo pos (starEach es X.env)).any (·.1) = false := by rfl) :
    PE X (.Call (.Name x p) (e :: es) [] pos) (tCall sp [] E0 t) := by
  obtain ⟨f, fd, F, hm, hk, hb⟩ := C
  exact pe_call F hr hg hm hk hb .nil pass0 ha dbg one star
theorem StAt.same {H H' : Hp} {d c : Addr} {t : Int} (h : StAt H d c t) (s : Same H H') : StAt H' d c t :=
  ⟨s _ _ h.dict, let ⟨cs, e, r⟩ := h.cells; ⟨cs, s _ _ e, r⟩, h.pos⟩
theorem Kp.same {H H' : Hp} (d c : Addr) (s : Same H H') : Kp d c H H' := fun b o _ _ e => s b o e
/-- what is made behind the state stays -/
theorem Kp.at {H H' : Hp} {d c a : Addr} {t : Int} {o : HO} (k : Kp d c H H') (S : StAt H d c t) (e : H a = some o) (h1 : ∀ kvs, o ≠ .dK kvs) (h2 : ∀ ns : List Int, o ≠ .lst (ns.map V.int)) : H' a = some o := by
  obtain ⟨cs, ec, _⟩ := S.cells
  refine k a o (fun z => ?_) (fun z => ?_) e
  · rw [z, S.dict] at e
    exact h1 _ (Option.some.inj e).symm
  · rw [z, ec] at e
    exact h2 _ (Option.some.inj e).symm
theorem StAt.upd {H : Hp} {d c l : Addr} {t : Int} {o : HO} (S : StAt H d c t) (h1 : l ≠ d) (h2 : l ≠ c) : StAt (L2.upd H l o) d c t := by
  refine ⟨by rw [upd_ne h1.symm]; exact S.dict, ?_, S.pos⟩
  obtain ⟨cs, ec, r⟩ := S.cells
  exact ⟨cs, by rw [upd_ne h2.symm]; exact ec, r⟩

theorem _root_.GP.Prs.same {H H' : Hp} {vs : List V} {ps : List (Int × Int)} (h : Prs H vs ps) (s : Same H H') : Prs H' vs ps :=
  ⟨h.1, fun i p e => let ⟨a, e1, e2⟩ := h.2 i p e; ⟨a, e1, s _ _ e2⟩⟩
theorem _root_.GP.Prs.kp {H H' : Hp} {d c : Addr} {t : Int} {vs : List V} {ps : List (Int × Int)} (h : Prs H vs ps) (S : StAt H d c t) (k : Kp d c H H') : Prs H' vs ps :=
  ⟨h.1, fun i p e => let ⟨a, e1, e2⟩ := h.2 i p e; ⟨a, e1, k.at S e2 (fun _ z => nomatch z) (fun _ z => nomatch z)⟩⟩
theorem _root_.GP.Prs.upd_lst {H : Hp} {l : Addr} {xs : List V} {o : HO} {vs : List V} {ps : List (Int × Int)} (h : Prs H vs ps) (hl : H l = some (.lst xs)) : Prs (upd H l o) vs ps :=
  ⟨h.1, fun i p e => let ⟨a, e1, e2⟩ := h.2 i p e; ⟨a, e1, by rw [upd_ne (ne_of e2 hl (fun z => nomatch z))]; exact e2⟩⟩
theorem _root_.GP.Prs.nil {H : Hp} : Prs H [] [] := ⟨rfl, fun i p e => by simp at e⟩
theorem _root_.GP.Prs.snoc {H : Hp} {a : Addr} {x y : Int} {vs : List V} {ps : List (Int × Int)} (h : Prs H vs ps) (e : H a = some (.tup [.int x, .int y])) : Prs H (vs ++ [.ref a]) (ps ++ [(x, y)]) := by
  refine ⟨by simp [h.1], fun i p ep => ?_⟩
  by_cases hi : i < ps.length
  · rw [List.getElem?_append_left hi] at ep
    obtain ⟨b, e1, e2⟩ := h.2 i p ep
    exact ⟨b, by rw [List.getElem?_append_left (by rw [h.1]; exact hi)]; exact e1, e2⟩
  · rw [List.getElem?_append_right (by omega)] at ep
    have hz : i - ps.length = 0 := by
      cases hq : i - ps.length with
      | zero => rfl
      | succ n => rw [hq] at ep; simp at ep
    rw [hz] at ep
    have ep' : (x, y) = p := by simpa using ep
    subst ep'
    refine ⟨a, ?_, e⟩
    rw [List.getElem?_append_right (by rw [h.1]; omega), h.1, hz]
    rfl
/-- rising stretches with gaps, from lo on -/
def Ris : Int → List (Int × Int) → Prop
  | _, [] => True
  | lo, p :: r => lo ≤ p.1 ∧ p.1 ≤ p.2 ∧ Ris (p.2 + 2) r
theorem Ris.snoc : ∀ {lo : Int} {ps : List (Int × Int)} {a b : Int}, Ris lo ps → lo ≤ a → (∀ p ∈ ps, p.2 + 2 ≤ a) → a ≤ b → Ris lo (ps ++ [(a, b)])
  | lo, [], a, b, _, h1, _, h3 => ⟨h1, h3, True.intro⟩
  | lo, p :: r, a, b, h, h1, h2, h3 => ⟨h.1, h.2.1, Ris.snoc h.2.2 (h2 p (List.mem_cons_self ..)) (fun q hq => h2 q (List.mem_cons_of_mem _ hq)) h3⟩
theorem pick2 {x y r : Int} (Pv : Int → Prop) (h0 : 0 ≤ r) (h1 : r < 2) (hx : Pv x) (hy : Pv y) : ∃ v, Pv v ∧ atI [V.int x, V.int y] r = some (.int v) := by
  have : r = 0 ∨ r = 1 := by omega
  rcases this with rfl | rfl
  · exact ⟨x, hx, rfl⟩
  · exact ⟨y, hy, rfl⟩
theorem pick3 {x y z r : Int} (Pv : Int → Prop) (h0 : 0 ≤ r) (h1 : r < 3) (hx : Pv x) (hy : Pv y) (hz : Pv z) : ∃ v, Pv v ∧ atI [V.int x, V.int y, V.int z] r = some (.int v) := by
  have : r = 0 ∨ r = 1 ∨ r = 2 := by omega
  rcases this with rfl | rfl | rfl
  · exact ⟨x, hx, rfl⟩
  · exact ⟨y, hy, rfl⟩
  · exact ⟨z, hz, rfl⟩
/-- a new object stands through the state's change -/
theorem Kp.new {H H' : Hp} {d c l : Addr} {t : Int} {o : HO} (k : Kp d c (upd H l o) H') (S : StAt H d c t) (n : H l = none) : H' l = some o := by
  obtain ⟨cs, ec, _⟩ := S.cells
  exact k l o (ne_of_none S.dict n).symm (ne_of_none ec n).symm upd_same
theorem drop_at {α : Type} {l : List α} {i : Nat} {x : α} (h : l[i]? = some x) : l.drop i = x :: l.drop (i + 1) := by
  obtain ⟨lt, e⟩ := List.getElem?_eq_some_iff.mp h
  rw [← e]
  exact List.drop_eq_getElem_cons lt
theorem prs_at {H : Hp} {vs : List V} {ps : List (Int × Int)} {i : Nat} {x : V} (h : Prs H vs ps) (e : vs[i]? = some x) : ∃ (p : Int × Int) (a : Addr), ps[i]? = some p ∧ x = .ref a ∧ H a = some (.tup [.int p.1, .int p.2]) := by
  obtain ⟨hi, _⟩ := List.getElem?_eq_some_iff.mp e
  have hi2 : i < ps.length := by rw [← h.1]; exact hi
  obtain ⟨a, e1, e2⟩ := h.2 i ps[i] (List.getElem?_eq_getElem hi2)
  rw [e] at e1
  exact ⟨ps[i], a, List.getElem?_eq_getElem hi2, Option.some.inj e1, e2⟩

theorem sumP_append (g : Int → Int → Int) (ps qs : List (Int × Int)) : sumP g (ps ++ qs) = sumP g ps + sumP g qs := by
  unfold sumP
  rw [List.map_append, List.sum_append]
def inB (n a b : Int) : Bool := decide (a ≤ n) && decide (n ≤ b)
theorem Ris.le : ∀ {lo : Int} {ps : List (Int × Int)}, Ris lo ps → ∀ p ∈ ps, lo ≤ p.1 ∧ p.1 ≤ p.2
  | _, [], _, _, hp => nomatch hp
  | lo, q :: r, h, p, hp => by
    rcases List.mem_cons.mp hp with e | e'
    · rw [e]; exact ⟨h.1, h.2.1⟩
    · have := Ris.le h.2.2 p e'
      have := h.2.1
      have := h.1
      omega

/-! ### walks over a list or a tuple -/
def Sq (K : PySem.W.Frag) (H : Hp) (a : Addr) (xs : List V) : Prop := SqL K H a xs ∨ SqT K H a xs
def iSeq (K : PySem.W.Frag) (tl : TE) : TI := fun σ H R => tl σ H fun x H1 => ∃ a, x = .ref a ∧ (((∃ xs, SqL K H1 a xs) ∧ R (Itl K a) H1) ∨ ((∃ xs, SqT K H1 a xs) ∧ R (Itt K a) H1))
/-- the iterator that was just laid is no one's -/
theorem lone {X : Cx} {pins : List (Addr × Obj)} {σ : L2.St} {H : Hp} {s : Shared} (I : Inv X pins σ H s) : ∀ b ∈ [s.heap.objs.size], FpOk X pins H b := fun b hb => by
  rw [List.mem_singleton.mp hb]
  exact I.fpOk (H' := H) (Nat.le_refl _) (I.hok.fresh (Nat.le_refl _))
theorem pi_seq {X : Cx} {tg l : Expr} {tl : TE} (walked : PE X l tl) : PI X tg l (iSeq X.K tl) := by
  constructor
  intro pins s σ H R I h
  refine thn (walked.run pins s σ H _ I h) fun u s1 had => ?_
  obtain ⟨_, H1, J, rel, a, rfl, had⟩ := had
  cases rel
  have laid : ∀ o, Inv X pins σ H1 { s1 with heap := s1.heap.push o } := fun o => J.kept (t' := s1.toks) fun _ _ e => Heap.get?_push_of_some _ e
  rcases had with ⟨⟨xs, hq⟩, q⟩ | ⟨⟨xs, hq⟩, q⟩
  · obtain ⟨its, _, isL, _⟩ := J.list hq
    exact wpAny_pyIter_list isL.isList ⟨_, _, _, _, H1, rfl, laid _, turn_list a _, ⟨_, Heap.get?_push_size _ rfl, rfl, rfl⟩, lone J, q⟩
  · obtain ⟨its, _, isT, _⟩ := J.tuple hq
    exact wpAny_pyIter_tuple (items := its.toArray) isT ⟨_, _, _, _, H1, rfl, laid _, turn_tuple a _, ⟨_, Heap.get?_push_size _ rfl, rfl, rfl⟩, lone J, q⟩
/-- the walked thing stands as it stood -/
def SqTo (K : PySem.W.Frag) (H H' : Hp) (a : Addr) (xs : List V) : Prop := (SqL K H a xs → SqL K H' a xs) ∧ (SqT K H a xs → SqT K H' a xs)
theorem SqTo.refl {K : PySem.W.Frag} {H : Hp} {a : Addr} {xs : List V} : SqTo K H H a xs := ⟨fun h => h, fun h => h⟩
theorem same_t {K : PySem.W.Frag} {H H' : Hp} {a : Addr} {xs : List V} (s : Same H H') (h : SqT K H a xs) : SqT K H' a xs :=
  h.elim (fun r => .inl (r.elim (fun e => .inl (s a _ e)) fun ⟨o, e⟩ => .inr ⟨o, s a _ e⟩)) .inr
theorem SqTo.same {K : PySem.W.Frag} {H H' : Hp} {a : Addr} {xs : List V} (s : Same H H') : SqTo K H H' a xs := ⟨s.seq, same_t s⟩
theorem Sq.same {K : PySem.W.Frag} {H H' : Hp} {a : Addr} {xs : List V} (h : Sq K H a xs) (s : Same H H') : Sq K H' a xs := h.elim (fun h => .inl (s.seq h)) fun h => .inr (same_t s h)
theorem Sq.list {K : PySem.W.Frag} {H : Hp} {a : Addr} {xs : List V} (h : H a = some (.lst xs)) : Sq K H a xs := .inl (SqL.of h)
theorem Sq.tup {K : PySem.W.Frag} {H : Hp} {a : Addr} {xs : List V} (h : H a = some (.tup xs)) : Sq K H a xs := .inr (.inl (.inl h))
abbrev ForR (J : It) (g : TG) (tb : TS) (D : Ends) (σ : L2.St) (H1 : Hp) : Prop := ∃ W : Nat → Nat → L2.St → Hp → Prop, (∃ m, W 0 m σ H1) ∧ ∀ i m σ H, W i m σ H →
  (J.stop i H ∧ D.nx σ H) ∨ (J.go i H ∧ ∃ N : L2.St → Hp → Prop, (∀ σ' H', N σ' H' → ∃ m', m' < m ∧ W (i + 1) m' σ' H') ∧ ∀ x H', J.yld i H x H' → g x σ H' fun σ2 H2 => tb { D with nx := N, ct := N, bk := D.nx } σ2 H2)
theorem for_seq {K : PySem.W.Frag} {a : Addr} {xs : List V} {g : TG} {tb : TS} {D : Ends} {σ : L2.St} {H1 : Hp} (hq : Sq K H1 a xs) (Pv : Nat → L2.St → Hp → Prop) (h0 : Pv 0 σ H1)
    (hl : ∀ i σ H', i ≤ xs.length → Pv i σ H' → SqTo K H1 H' a xs)
    (turn : ∀ i x σ H, xs[i]? = some x → Pv i σ H → g x σ H fun σ2 H2 => tb { D with nx := Pv (i + 1), ct := Pv (i + 1), bk := D.nx } σ2 H2) (fin : ∀ σ H, Pv xs.length σ H → D.nx σ H) :
    ((∃ xs, SqL K H1 a xs) ∧ ForR (Itl K a) g tb D σ H1) ∨ ((∃ xs, SqT K H1 a xs) ∧ ForR (Itt K a) g tb D σ H1) := by
  rcases hq with h | h
  · exact .inl ⟨⟨xs, h⟩, for_list (xs := xs) Pv h0 (fun i σ H' hi p => (hl i σ H' hi p).1 h) turn fin⟩
  · exact .inr ⟨⟨xs, h⟩, for_tup (xs := xs) Pv h0 (fun i σ H' hi p => (hl i σ H' hi p).2 h) turn fin⟩

/-! ### pairs as data -/
def pairD (p : Int × Int) : PyData := .tuple [.int p.1, .int p.2]
theorem dp_prs {K : PySem.W.Frag} {H : Hp} : ∀ {us : List V} {ps : List (Int × Int)}, Prs H us ps → DpAll K H us (ps.map pairD)
  | [], [], _ => .nil
  | [], _ :: _, h => nomatch h.1
  | _ :: _, [], h => nomatch h.1
  | u :: us, p :: ps, h => by
    obtain ⟨a, e1, e2⟩ := h.2 0 p rfl
    have eu : u = .ref a := Option.some.inj e1
    subst eu
    refine .cons (.tup (.inl (.inl e2)) (.cons (.int _) (.cons (.int _) .nil))) (dp_prs ⟨Nat.succ.inj h.1, fun i q e => ?_⟩)
    obtain ⟨b, f1, f2⟩ := h.2 (i + 1) q e
    exact ⟨b, f1, f2⟩
theorem lay_prs : ∀ ps : List (Int × Int), PyData.canLayAll0 (ps.map pairD) = true
  | [] => by simp only [List.map_nil, PyData.canLayAll0]
  | p :: r => by
    rw [List.map_cons, PyData.canLayAll0, lay_prs r]
    simp [pairD, PyData.canLay0, PyData.canLayAll0]
theorem depth_prs : ∀ ps : List (Int × Int), PyData.depthAll (ps.map pairD) ≤ 1
  | [] => by simp only [List.map_nil, PyData.depthAll]; omega
  | p :: r => by
    rw [List.map_cons, PyData.depthAll]  -- a pair, then the rest
    have := depth_prs r
    simp [pairD, PyData.depth, PyData.depthAll]
    omega
theorem shaped_prs (ps : List (Int × Int)) : SeqAt.shaped (PyData.list (ps.map pairD)) = true := by
  unfold SeqAt.shaped
  rw [PyData.canLay0, lay_prs, PyData.depth, Bool.true_and]
  exact decide_eq_true (by have := depth_prs ps; omega)
theorem eqv_prs (ps : List (Int × Int)) : PyData.eqv (PyData.list (ps.map pairD)) (PyData.list (ps.map pairD)) = true := SeqAt.eqv_refl _ (by rw [PyData.canLay0]; exact lay_prs ps)
theorem tabG_tabbed {Pt Pu : Addr} {H H2 : Hp} (g : GxR.TabG H Pu) (x : GxR.Tabbed Pt H H2) : GxR.TabG H2 Pu := by
  by_cases e : Pu = Pt
  · rw [e]; exact x.1
  · obtain ⟨ps, h, r⟩ := g
    exact ⟨ps, by rw [x.2 _ e]; exact h, r⟩

theorem Kp.free {H H' : Hp} {d c l : Addr} {t' : Int} (k : Kp d c H H') (S' : StAt H' d c t') (n : H' l = none) : H l = none := by
  cases e : H l with
  | none => rfl
  | some o =>
    obtain ⟨cs1, ec1, _⟩ := S'.cells
    have z := k l o (ne_of_none S'.dict n).symm (ne_of_none ec1 n).symm e
    rw [n] at z
    cases z
theorem StAt.off {H : Hp} {d c l : Addr} {t : Int} (S : StAt H d c t) (n : H l = none) : l ≠ d ∧ l ≠ c := by
  obtain ⟨cs1, ec1, _⟩ := S.cells
  exact ⟨(ne_of_none S.dict n).symm, (ne_of_none ec1 n).symm⟩
/-- no whole number among these: so it's not the draws' cells -/
def NoInt (xs : List V) : Prop := ∀ x ∈ xs, ∀ i, x ≠ .int i
theorem Kp.lst {H H' : Hp} {d c a : Addr} {t : Int} {xs : List V} (k : Kp d c H H') (S : StAt H d c t) (e : H a = some (.lst xs)) (h : NoInt xs) : H' a = some (.lst xs) := by
  obtain ⟨cs, ec, hne, _⟩ := S.cells
  refine k a _ (fun z => ?_) (fun z => ?_) e
  · rw [z, S.dict] at e
    cases e
  · rw [z, ec] at e
    have e' : cs.map V.int = xs := HO.lst.inj (Option.some.inj e)
    cases cs with
    | nil => exact hne rfl
    | cons n r => exact h (.int n) (e' ▸ List.mem_cons_self ..) n rfl
theorem Kp.tup {H H' : Hp} {d c a : Addr} {t : Int} {xs : List V} (k : Kp d c H H') (S : StAt H d c t) (e : H a = some (.tup xs)) : H' a = some (.tup xs) := k.at S e (fun _ z => nomatch z) (fun _ z => nomatch z)
theorem noInt_strs (xs : List Str) : NoInt (xs.map V.str) := fun x hx i e => by
  obtain ⟨y, _, rfl⟩ := List.mem_map.mp hx
  cases e
theorem noInt_prs {H : Hp} {us : List V} {ps : List (Int × Int)} (h : Prs H us ps) : NoInt us := fun x hx i e => by
  obtain ⟨j, hj, e1⟩ := List.getElem_of_mem hx
  obtain ⟨p, a, _, rfl, _⟩ := prs_at h (by rw [List.getElem?_eq_getElem hj, e1])
  cases e

abbrev sNumber : Stmt := topS 9
theorem scNumber : FnScope ["_law_state", "_law_sort", "_law_number_here", "_law_turn"] ["_law_state", "_law_sort"] (defScope sNumber) := ⟨rfl, rfl, rfl, by decide +kernel, rfl, by decide +kernel, by decide +kernel⟩
/-- what a number of a sort stays below -/
def sortB (kd : Int) : Int := if kd = 0 then 4 else if kd = 1 then 40 else 10 ^ 30
theorem sortB_le (kd : Int) : sortB kd ≤ 10 ^ 30 := by unfold sortB; split; decide; split; decide; exact Int.le_refl _
def spNumber : Sp := fun vs H Q _ => ∃ (d c : Addr) (t kd : Int), vs = [.ref d, .int kd] ∧ StAt H d c t ∧ t + 5 < 2 ^ 60 ∧ 0 ≤ kd ∧
  ∀ r t' H', 0 ≤ r → r < sortB kd → t ≤ t' → t' ≤ t + 5 → StAt H' d c t' → Kp d c H H' → Q (.int r) H'
section
variable {K : PySem.W.Frag} {mg : Str → Option Value} {P : Program} {w : World} {base : Heap}
theorem ok_number {f : Addr} {fd : FuncData} (F : Fun K "_law_number" "_law_number" sNumber f fd) (CT : Cal P w K mg base 1 "_law_take" ["_law_state", "_law_many"] spTake) (mr : mg "range" = none) :
    FnOk P w K mg base CX0 2 f fd ["_law_state", "_law_sort"] spNumber := by
  refine F.ok scNumber (fun vs H Q E h => ?_) (fun cdv A outer s H vs Q E hr h => ?_)
  · obtain ⟨d, c, t, kd, rfl, _⟩ := h
    rfl
  · obtain ⟨d, c, t, kd, rfl, hS, ht, hk, q⟩ := h
    refine ⟨_, pss_cons (ps_if (pt_cmpR op_lt (pv 1) pe_int (nomark _)) (pss_one (ps_ret (pe_own CT hr (by rfl) (pa_cons (pv 0) (pa_cons (pe_ix ix_list (pe_lst (pa_cons pe_int (pa_cons pe_int (pa_cons (pe_op op_pow pe_int pe_int) pa_nil)))) (pv 1) (fun _ _ => rfl)) pa_nil))))) pss_nil)
      (pss_cons (ps_set (i := 2) scNumber.nd rfl (.inl rfl) pe_int)
      (pss_cons (ps_for PassesOwn.never rfl (pi_range1 rfl mr (pa_cons pe_int pa_nil)) (pg_name (i := 3) scNumber.nd rfl (.inl rfl))
        (pss_one (ps_set (i := 2) scNumber.nd rfl (.inl rfl) (pe_op op_add (pe_op op_mul (pv 2) (pe_op op_pow pe_int pe_int)) (pe_own CT hr (by rfl) (pa_cons (pv 0) (pa_cons (pe_op op_pow pe_int pe_int) pa_nil)))))))
      (pss_one (ps_ret (pv 2))))), ?_⟩
    refine ⟨_, rfl, _, _, rfl, rfl, _, rfl, ite2 (fun e => ?_) (fun e => ?_)⟩
    · have e' := of_decide_eq_true e
      refine ⟨_, rfl, 10, 7, rfl, rfl, ⟨by decide, by decide, by decide⟩, (by show 3 ≤ sizeLine; decide), fun p np => ?_⟩
      have s1 : Same H (upd H p (.lst [.int 4, .int 40, .int (10 ^ (7 : Int).toNat)])) := same_upd np
      obtain ⟨m, hm0, hm1, hm2, hat⟩ : ∃ m : Int, 0 < m ∧ m ≤ 10 ^ 7 ∧ m ≤ sortB kd ∧ atI [V.int 4, V.int 40, V.int (10 ^ (7 : Int).toNat)] kd = some (.int m) := by
        have : kd = 0 ∨ kd = 1 ∨ kd = 2 := by omega
        rcases this with rfl | rfl | rfl
        · exact ⟨4, by decide, by decide, by decide, rfl⟩
        · exact ⟨40, by decide, by decide, by decide, rfl⟩
        · exact ⟨10 ^ (7 : Int).toNat, by decide, by decide, by decide, rfl⟩
      refine ⟨_, rfl, p, _, kd, .int m, rfl, rfl, SqL.of upd_same, hat, d, c, t, m, rfl, hS.same s1, by omega, hm0, by omega, fun r H' h0 h1 hS' k' => ?_⟩
      exact q r (t + 1) H' h0 (Int.lt_of_lt_of_le h1 hm2) (by omega) (by omega) hS' ((Kp.same d c s1).trans k')
    · have e3 : ¬ kd < 3 := fun z => e (decide_eq_true z)
      have eb : sortB kd = 10 ^ 30 := by unfold sortB; rw [if_neg (by omega), if_neg (by omega)]
      rw [eb] at q
      refine ⟨5, rfl, by decide, by decide, for_range (n := 5) (fun i σ H1 => ∃ (x t' : Int) (y : Option V), σ = [some (.ref d), some (.int kd), some (.int x), y] ∧ 0 ≤ x ∧ x < 10 ^ (6 * i) ∧ t ≤ t' ∧ t' ≤ t + i ∧ StAt H1 d c t' ∧ Kp d c H H1) ⟨0, t, none, rfl, by decide, by decide, by omega, by omega, hS, Kp.refl d c H⟩ (fun i σ H1 hi hP => ?_) (fun σ H1 hP => ?_)⟩
      · obtain ⟨x, t', y, rfl, x0, x1, h0, h1, hS1, k1⟩ := hP
        have x2 : x < 10 ^ 30 := by
          have : i = 0 ∨ i = 1 ∨ i = 2 ∨ i = 3 ∨ i = 4 := by omega
          rcases this with rfl | rfl | rfl | rfl | rfl <;> omega
        refine ⟨_, rfl, 10, 6, rfl, rfl, ⟨by decide, by decide, by decide⟩, x, 10 ^ 6, rfl, rfl, .inr ⟨by decide, by decide⟩, _, rfl, 10, 6, rfl, rfl, ⟨by decide, by decide, by decide⟩, d, c, t', 10 ^ 6, rfl, hS1, by omega, by decide, by decide, fun r H2 r0 r1 hS2 k2 => ?_⟩
        refine ⟨x * 10 ^ 6, r, rfl, rfl, x * 10 ^ 6 + r, t' + 1, _, rfl, by omega, ?_, by omega, by omega, hS2, k1.trans k2⟩
        have : i = 0 ∨ i = 1 ∨ i = 2 ∨ i = 3 ∨ i = 4 := by omega
        rcases this with rfl | rfl | rfl | rfl | rfl <;> omega
      · obtain ⟨x, t', y, rfl, x0, x1, h0, h1, hS1, k1⟩ := hP
        exact ⟨_, rfl, q x t' H1 x0 (by omega) h0 (by omega) hS1 k1⟩
end

/-- a text of one sign -/
def sgS (c : Nat) : Str := ⟨#[c]⟩
def sgn (c : Nat) : V := .str (sgS c)
def spNames : Sp := fun vs H Q _ => ∃ (d c : Addr) (t m : Int), vs = [.ref d, .int m] ∧ StAt H d c t ∧ t + 100 < 2 ^ 60 ∧ 0 ≤ m ∧ m ≤ 20 ∧
  ∀ (l : Addr) (xs : List Str) (t' : Int) H', H l = none → H' l = some (.lst (xs.map V.str)) → (∀ x ∈ xs, PyData.strOk x = true) → (xs.length : Int) = m → t ≤ t' → t' ≤ t + 20 → StAt H' d c t' → Kp d c H H' → Q (.ref l) H'
theorem join_small {cs : List Nat} (h : cs.length ≤ 10) : ((cs.map sgS).map (·.length)).sum + (cs.map sgS).length * ("" : Str).length ≤ 16777216 := by
  have e : ((cs.map sgS).map (·.length)).sum = cs.length := by
    induction cs with
    | nil => rfl
    | cons c r ih =>
      rw [List.map_cons, List.map_cons, List.sum_cons, ih (by rw [List.length_cons] at h; omega), List.length_cons]
      show 1 + r.length = r.length + 1
      omega
  rw [e, show ("" : Str).length = 0 from rfl, Nat.mul_zero]
  omega
theorem joinL_ones : ∀ cs : List Nat, TL.joinL [] (cs.map fun c => [c]) = cs
  | [] => rfl
  | [_] => rfl
  | c :: c2 :: r => by
    have ih := joinL_ones (c2 :: r)
    show [c] ++ ([] ++ TL.joinL [] ((c2 :: r).map fun c => [c])) = _
    rw [ih]
    rfl
theorem join_ok {cs : List Nat} (h : ∀ c ∈ cs, c < 1114112) : PyData.strOk (Txt.join "" (cs.map sgS)) = true := by
  have e : Txt.join "" (cs.map sgS) = SX.S cs := by
    have z := SX.join_S [] (cs.map fun c => [c])
    rw [joinL_ones, List.map_map] at z
    exact z
  rw [e]
  show (Array.all _ _) = true
  rw [Array.all_eq_true']
  intro c hc
  exact decide_eq_true (h c (by simpa using hc))
/-! ### _law_names -/
abbrev sNames : Stmt := topS 10
theorem scNames : FnScope ["_law_state", "_law_many", "_law_letters", "_law_k", "_law_word", "_law_spot", "_law_first", "_law_step", "_law_made"] ["_law_state", "_law_many"] (defScope sNames) := ⟨rfl, rfl, rfl, by decide +kernel, rfl, by decide +kernel, by decide +kernel⟩
abbrev letNames : Str := "abcdefghijklmnopqrstuvwxyz"
theorem atNames {r : Int} (h0 : 0 ≤ r) (h1 : r < 26) : ∃ ch : Nat, atI letNames.cps.toList r = some ch ∧ ch < 1114112 := by
  obtain ⟨j, rfl⟩ := Int.eq_ofNat_of_zero_le h0
  have hl : letNames.cps.toList.length = 26 := by decide +kernel
  have hj : j < letNames.cps.toList.length := by omega
  have hall : ∀ c ∈ letNames.cps.toList, c < 1114112 := by decide +kernel
  exact ⟨_, atI_nat (List.getElem?_eq_getElem hj), hall _ (List.getElem_mem hj)⟩
section
variable {K : PySem.W.Frag} {mg : Str → Option Value} {P : Program} {w : World} {base : Heap}
theorem ok_Names {f : Addr} {fd : FuncData} (F : Fun K "_law_names" "_law_names" sNames f fd) (CT : Cal P w K mg base 1 "_law_take" ["_law_state", "_law_many"] spTake) (mr : mg "range" = none) (me : mg "len" = none) : FnOk P w K mg base CX0 2 f fd ["_law_state", "_law_many"] spNames := by
  refine F.ok scNames (fun vs H Q E h => ?_) (fun cdv A outer s H vs Q E hr h => ?_)
  · obtain ⟨d, c, t, m, rfl, _⟩ := h
    rfl
  · obtain ⟨d, c, t, m, rfl, hS, ht, hm0, hm1, q⟩ := h
    refine ⟨_, pss_cons (ps_set (i := 2) scNames.nd rfl (.inr rfl) pe_str)
      (pss_cons (ps_setLc (i := 4) (own := [("_law_k", 3)]) (g := gName 3) (tt := tYes) (te := tOp L2.rIxS (tVar 2) (tCall spTake [] E0 (tCons (tVar 0) (tCons (tC (.int 26)) tNil)))) rfl scNames.nd rfl rfl rfl (pi_range1 rfl mr (pa_cons (pe_op op_add pe_int (pe_own CT hr (by rfl) (pa_cons (pv 0) (pa_cons pe_int pa_nil)))) pa_nil))
            (blkOk_by (own := [("_law_k", 3)]) (N := ["_law_state", "_law_many", "_law_letters", "_law_k", "_law_word", "_law_spot", "_law_first", "_law_step", "_law_made"]) (sc := defScope sNames) (by decide +kernel)) (fun _ _ _ _ _ => pg_name (i := 3) scNames.nd rfl (.inl rfl)) (fun _ _ _ _ _ => pts_nil) (fun _ _ _ _ _ => pe_ix ix_str (pv 2) (pe_own CT hr (by rfl) (pa_cons (pv 0) (pa_cons pe_int pa_nil))) (fun _ _ => rfl)))
      (pss_cons (ps_par3 rfl scNames.nd (i := 5) (j := 6) (l := 7) rfl rfl rfl (by decide) (by decide) (by decide) rfl rfl rfl (pa_cons (pe_own CT hr (by rfl) (pa_cons (pv 0) (pa_cons (pe_callB call_len_seq (by rfl) me PySem.boot_len (pa_cons (pv 4) pa_nil)) pa_nil))) (pa_cons (pe_own CT hr (by rfl) (pa_cons (pv 0) (pa_cons pe_int pa_nil))) (pa_cons (pe_ix ix_list (pe_lst (pa_cons pe_int (pa_cons pe_int (pa_cons pe_int (pa_cons pe_int pa_nil))))) (pe_own CT hr (by rfl) (pa_cons (pv 0) (pa_cons pe_int pa_nil))) (fun _ _ => rfl)) pa_nil))) (by rfl))
      (pss_cons (ps_set (i := 8) scNames.nd rfl (.inl rfl) (pe_lst pa_nil))
      (pss_cons (ps_for PassesOwn.never rfl (pi_range1 rfl mr (pa_cons (pv 1) pa_nil)) (pg_name (i := 3) scNames.nd rfl (.inl rfl))
        (pss_cons (ps_asg (pe_ix ix_str (pv 2) (pe_op op_mod (pe_op op_add (pv 6) (pe_op op_mul (pv 7) (pv 3))) pe_int) (fun _ _ => rfl)) (pg_sub (pv 4) (pv 5) set_list))
        (pss_one (ps_expr (pe_bm PySem.F.plainAttrs_list PySem.F.slot_list_append PySem.F.type_list_append mt_append (pv 8) (pa_cons (pe_join pe_str (pv 4)) pa_nil))))))
      (pss_one (ps_ret (pv 8))))))), ?_⟩
    refine ⟨_, rfl, d, c, t, 8, rfl, hS, by omega, by decide, by decide, fun r H1 r0 r1 hS1 k1 => ⟨1, r, rfl, rfl, 1 + r, rfl, by omega, by omega, fun D nD => ?_⟩⟩
    have offD := hS1.off nD
    refine lc_range (n := (1 + r).toNat) (fun j H' => ∃ (t' : Int) (cs : List Nat), H' D = some (.lst (cs.map sgn)) ∧ cs.length = j ∧ (∀ ch ∈ cs, ch < 1114112) ∧ t ≤ t' ∧ t' ≤ t + 1 + j ∧ StAt H' d c t' ∧ Kp d c H1 H') ⟨t + 1, [], upd_same, rfl, (fun _ z => nomatch z), by omega, by omega, hS1.same (same_upd nD), Kp.same d c (same_upd nD)⟩ (fun j H' hj hP => ?_) (fun H2 hP => ?_)
    · obtain ⟨t', cs, eD, hcl, hcs, u0, u1, hS', k'⟩ := hP
      have hj2 : j ≤ 10 := by omega
      refine ⟨rfl, _, rfl, _, rfl, d, c, t', 26, rfl, hS', by omega, by decide, by decide, fun r2 H3 r20 r21 hS3 k3 => ?_⟩
      obtain ⟨ch, hat, hch⟩ := atNames r20 r21
      have eD3 := k3 _ _ offD.1 offD.2 eD
      refine ⟨_, r2, ch, rfl, rfl, (by show letNames.length ≤ sizeLine; decide +kernel), hat, ?_⟩
      refine ⟨_, eD3, small1000 (by rw [List.length_map]; omega), t' + 1, cs ++ [ch], by rw [upd_same, List.map_append]; rfl, by rw [List.length_append, hcl]; rfl, fun x hx => ?_, by omega, by omega, hS3.upd offD.1 offD.2, fun b o b1 b2 e => ?_⟩
      · rcases List.mem_append.mp hx with z | z
        · exact hcs x z
        · rw [List.mem_singleton.mp z]; exact hch
      · rw [upd_ne (ne_of_none e nD)]
        exact k3 b o b1 b2 (k' b o b1 b2 e)
    obtain ⟨t', cs, eD, hcl, hcs, u0, u1, hS2, k2⟩ := hP
    have hcl1 : 1 ≤ cs.length := by omega
    have hcl2 : cs.length ≤ 10 := by omega
    have lenm : (cs.map sgn).length = cs.length := List.length_map ..
    -- spot, first, step
    refine ⟨_, rfl, _, rfl, D, _, rfl, Sq.list eD, d, c, t', (cs.length : Int), by rw [lenm]; rfl, hS2, by omega, by omega, by omega, fun sp H3 sp0 sp1 hS3 k3 => ?_⟩
    refine ⟨_, rfl, d, c, t' + 1, 26, rfl, hS3, by omega, by decide, by decide, fun fi H4 fi0 fi1 hS4 k4 => ?_⟩
    refine ⟨(by show 4 ≤ sizeLine; decide), fun z nz => ?_⟩
    have sz := same_upd (o := .lst [.int 1, .int 5, .int 7, .int 25]) nz
    have offz := hS4.off nz
    refine ⟨_, rfl, d, c, t' + 1 + 1, 4, rfl, hS4.same sz, by omega, by decide, by decide, fun r4 H5 r40 r41 hS5 k5 => ?_⟩
    obtain ⟨sv, hsv0, hsv1, hat4⟩ : ∃ sv : Int, 0 ≤ sv ∧ sv ≤ 36 ∧ atI [V.int 1, V.int 5, V.int 7, V.int 25] r4 = some (.int sv) := by
      have : r4 = 0 ∨ r4 = 1 ∨ r4 = 2 ∨ r4 = 3 := by omega
      rcases this with rfl | rfl | rfl | rfl
      · exact ⟨1, by decide, by decide, rfl⟩
      · exact ⟨5, by decide, by decide, rfl⟩
      · exact ⟨7, by decide, by decide, rfl⟩
      · exact ⟨25, by decide, by decide, rfl⟩
    refine ⟨z, _, r4, .int sv, rfl, rfl, SqL.of (k5 _ _ offz.1 offz.2 upd_same), hat4, _, _, _, rfl, ?_⟩
    obtain ⟨js, rfl⟩ := Int.eq_ofNat_of_zero_le sp0
    have k25 : Kp d c H2 H5 := (k3.trans k4).trans ((Kp.same d c sz).trans k5)
    have eD5 := k25 _ _ offD.1 offD.2 eD
    -- made
    refine ⟨Nat.zero_le _, fun l nl => ?_⟩
    have sl := same_upd (o := .lst []) nl
    have offl := hS5.off nl
    have nlD : D ≠ l := ne_of_none eD5 nl
    have kall : Kp d c H H5 := (k1.trans k2).trans k25
    have nlH : H l = none := Kp.free kall hS5 nl
    have nDH : H D = none := Kp.free k1 hS1 nD
    refine ⟨_, rfl, m, rfl, by omega, by omega, for_range (n := m.toNat) (fun i σ Hx => ∃ (cs : List Nat) (xs : List Str) (y3 : Option V), σ = [some (.ref d), some (.int m), some (.str letNames), y3, some (.ref D), some (.int (js : Int)), some (.int fi), some (.int sv), some (.ref l)] ∧ Hx D = some (.lst (cs.map sgn)) ∧ 1 ≤ cs.length ∧ cs.length ≤ 10 ∧ js < cs.length ∧ (∀ ch ∈ cs, ch < 1114112) ∧ Hx l = some (.lst (xs.map V.str)) ∧ xs.length = i ∧ (∀ x ∈ xs, PyData.strOk x = true) ∧ StAt Hx d c (t' + 1 + 1 + 1) ∧ Kp d c H Hx)
      ⟨cs, [], _, rfl, sl _ _ eD5, hcl1, hcl2, by omega, hcs, upd_same, rfl, (fun _ z => nomatch z), hS5.same sl, kall.trans (Kp.same d c sl)⟩ (fun i σ Hx hi hP => ?_) (fun σ Hx hP => ?_)⟩
    · obtain ⟨cs, xs, y3, rfl, eDx, g1, g2, g3, hcs, elx, hxl, hxs, hSx, kx⟩ := hP
      have hi2 : (i : Int) < 40 := by omega
      have hmod0 : 0 ≤ (fi + sv * (0 + (i : Int))) % 26 := Int.emod_nonneg _ (by decide)
      have hmod1 : (fi + sv * (0 + (i : Int))) % 26 < 26 := Int.emod_lt_of_pos _ (by decide)
      obtain ⟨ch, hat, hch⟩ := atNames hmod0 hmod1
      refine ⟨_, rfl, _, rfl, _, rfl, _, rfl, sv, 0 + (i : Int), rfl, rfl, .inl ⟨by omega, by omega⟩, fi, _, rfl, rfl, _, 26, rfl, rfl, (show (0 : Int) < 26 by decide), _, _, ch, rfl, rfl, (by show letNames.length ≤ sizeLine; decide +kernel), hat, ?_⟩
      refine ⟨_, rfl, _, rfl, D, _, (js : Int), js, rfl, rfl, eDx, ixN_of (by rw [List.length_map]; exact g3), ?_⟩
      have es : (cs.map sgn).set js (.str ⟨#[ch]⟩) = (cs.set js ch).map sgn := by rw [List.map_set]; rfl
      rw [es]
      have hcs' : ∀ x ∈ cs.set js ch, x < 1114112 := fun x hx => by
        rcases List.mem_or_eq_of_mem_set hx with z | z
        · exact hcs x z
        · rw [z]; exact hch
      have hlen' : (cs.set js ch).length = cs.length := List.length_set ..
      have eD6 : upd Hx D (.lst ((cs.set js ch).map sgn)) D = some (.lst ((cs.set js ch).map sgn)) := upd_same
      have el6 : upd Hx D (.lst ((cs.set js ch).map sgn)) l = some (.lst (xs.map V.str)) := by rw [upd_ne nlD.symm]; exact elx
      have hS6 := hSx.upd (o := .lst ((cs.set js ch).map sgn)) offD.1 offD.2
      have k6 : Kp d c H (upd Hx D (.lst ((cs.set js ch).map sgn))) := fun b o b1 b2 e => by rw [upd_ne (ne_of_none e nDH)]; exact kx b o b1 b2 e
      revert eD6 el6 hS6 k6
      rw [← hlen'] at g1 g2 g3
      generalize upd Hx D (.lst ((cs.set js ch).map sgn)) = H6
      generalize cs.set js ch = cs2 at g1 g2 g3 hcs' ⊢
      intro eD6 el6 hS6 k6
      refine ⟨_, rfl, .inl ⟨rfl, _, SqL.of el6⟩, ⟨_, rfl⟩, _, rfl, _, D, cs2.map sgS, rfl, rfl, .inl (SqL.of (by rw [eD6, List.map_map]; rfl)), join_small g2, ?_⟩
      refine ⟨l, _, _, rfl, rfl, el6, small1000 (by rw [List.length_map]; omega), cs2, xs ++ [Txt.join "" (cs2.map sgS)], _, rfl, by rw [upd_ne nlD]; exact eD6, g1, g2, g3, hcs', by rw [upd_same, List.map_append]; rfl, by rw [List.length_append, hxl]; rfl, fun x hx => ?_, hS6.upd offl.1 offl.2, fun b o b1 b2 e => ?_⟩
      · rcases List.mem_append.mp hx with z | z
        · exact hxs x z
        · rw [List.mem_singleton.mp z]; exact join_ok hcs'
      · rw [upd_ne (ne_of_none e nlH)]
        exact k6 b o b1 b2 e
    · obtain ⟨cs, xs, y3, rfl, eDx, g1, g2, g3, hcs, elx, hxl, hxs, hSx, kx⟩ := hP
      exact ⟨_, rfl, q l xs _ Hx nlH elx hxs (by omega) (by omega) (by omega) hSx kx⟩
end
/-! ### _law_marks_by -/
abbrev sMarks : Stmt := topS 11
theorem scMarks : FnScope ["_law_state", "_law_many", "_law_signs", "_law_k", "_law_word", "_law_spot", "_law_first", "_law_step", "_law_made"] ["_law_state", "_law_many"] (defScope sMarks) := ⟨rfl, rfl, rfl, by decide +kernel, rfl, by decide +kernel, by decide +kernel⟩
abbrev letMarks : Str := "abcdefghijklmnopqrstuvwxyz0123456789"
theorem atMarks {r : Int} (h0 : 0 ≤ r) (h1 : r < 36) : ∃ ch : Nat, atI letMarks.cps.toList r = some ch ∧ ch < 1114112 := by
  obtain ⟨j, rfl⟩ := Int.eq_ofNat_of_zero_le h0
  have hl : letMarks.cps.toList.length = 36 := by decide +kernel
  have hj : j < letMarks.cps.toList.length := by omega
  have hall : ∀ c ∈ letMarks.cps.toList, c < 1114112 := by decide +kernel
  exact ⟨_, atI_nat (List.getElem?_eq_getElem hj), hall _ (List.getElem_mem hj)⟩
section
variable {K : PySem.W.Frag} {mg : Str → Option Value} {P : Program} {w : World} {base : Heap}
theorem ok_Marks {f : Addr} {fd : FuncData} (F : Fun K "_law_marks_by" "_law_marks_by" sMarks f fd) (CT : Cal P w K mg base 1 "_law_take" ["_law_state", "_law_many"] spTake) (mr : mg "range" = none) (me : mg "len" = none) : FnOk P w K mg base CX0 2 f fd ["_law_state", "_law_many"] spNames := by
  refine F.ok scMarks (fun vs H Q E h => ?_) (fun cdv A outer s H vs Q E hr h => ?_)
  · obtain ⟨d, c, t, m, rfl, _⟩ := h
    rfl
  · obtain ⟨d, c, t, m, rfl, hS, ht, hm0, hm1, q⟩ := h
    refine ⟨_, pss_cons (ps_set (i := 2) scMarks.nd rfl (.inr rfl) pe_str)
      (pss_cons (ps_setLc (i := 4) (own := [("_law_k", 3)]) (g := gName 3) (tt := tYes) (te := tOp L2.rIxS (tVar 2) (tCall spTake [] E0 (tCons (tVar 0) (tCons (tC (.int 36)) tNil)))) rfl scMarks.nd rfl rfl rfl (pi_range1 rfl mr (pa_cons (pe_op op_add pe_int (pe_own CT hr (by rfl) (pa_cons (pv 0) (pa_cons pe_int pa_nil)))) pa_nil))
            (blkOk_by (own := [("_law_k", 3)]) (N := ["_law_state", "_law_many", "_law_signs", "_law_k", "_law_word", "_law_spot", "_law_first", "_law_step", "_law_made"]) (sc := defScope sMarks) (by decide +kernel)) (fun _ _ _ _ _ => pg_name (i := 3) scMarks.nd rfl (.inl rfl)) (fun _ _ _ _ _ => pts_nil) (fun _ _ _ _ _ => pe_ix ix_str (pv 2) (pe_own CT hr (by rfl) (pa_cons (pv 0) (pa_cons pe_int pa_nil))) (fun _ _ => rfl)))
      (pss_cons (ps_par3 rfl scMarks.nd (i := 5) (j := 6) (l := 7) rfl rfl rfl (by decide) (by decide) (by decide) rfl rfl rfl (pa_cons (pe_own CT hr (by rfl) (pa_cons (pv 0) (pa_cons (pe_callB call_len_seq (by rfl) me PySem.boot_len (pa_cons (pv 4) pa_nil)) pa_nil))) (pa_cons (pe_own CT hr (by rfl) (pa_cons (pv 0) (pa_cons pe_int pa_nil))) (pa_cons (pe_ix ix_list (pe_lst (pa_cons pe_int (pa_cons pe_int (pa_cons pe_int (pa_cons pe_int pa_nil))))) (pe_own CT hr (by rfl) (pa_cons (pv 0) (pa_cons pe_int pa_nil))) (fun _ _ => rfl)) pa_nil))) (by rfl))
      (pss_cons (ps_set (i := 8) scMarks.nd rfl (.inl rfl) (pe_lst pa_nil))
      (pss_cons (ps_for PassesOwn.never rfl (pi_range1 rfl mr (pa_cons (pv 1) pa_nil)) (pg_name (i := 3) scMarks.nd rfl (.inl rfl))
        (pss_cons (ps_asg (pe_ix ix_str (pv 2) (pe_op op_mod (pe_op op_add (pv 6) (pe_op op_mul (pv 7) (pv 3))) pe_int) (fun _ _ => rfl)) (pg_sub (pv 4) (pv 5) set_list))
        (pss_one (ps_expr (pe_bm PySem.F.plainAttrs_list PySem.F.slot_list_append PySem.F.type_list_append mt_append (pv 8) (pa_cons (pe_join pe_str (pv 4)) pa_nil))))))
      (pss_one (ps_ret (pv 8))))))), ?_⟩
    refine ⟨_, rfl, d, c, t, 7, rfl, hS, by omega, by decide, by decide, fun r H1 r0 r1 hS1 k1 => ⟨4, r, rfl, rfl, 4 + r, rfl, by omega, by omega, fun D nD => ?_⟩⟩
    have offD := hS1.off nD
    refine lc_range (n := (4 + r).toNat) (fun j H' => ∃ (t' : Int) (cs : List Nat), H' D = some (.lst (cs.map sgn)) ∧ cs.length = j ∧ (∀ ch ∈ cs, ch < 1114112) ∧ t ≤ t' ∧ t' ≤ t + 1 + j ∧ StAt H' d c t' ∧ Kp d c H1 H') ⟨t + 1, [], upd_same, rfl, (fun _ z => nomatch z), by omega, by omega, hS1.same (same_upd nD), Kp.same d c (same_upd nD)⟩ (fun j H' hj hP => ?_) (fun H2 hP => ?_)
    · obtain ⟨t', cs, eD, hcl, hcs, u0, u1, hS', k'⟩ := hP
      have hj2 : j ≤ 10 := by omega
      refine ⟨rfl, _, rfl, _, rfl, d, c, t', 36, rfl, hS', by omega, by decide, by decide, fun r2 H3 r20 r21 hS3 k3 => ?_⟩
      obtain ⟨ch, hat, hch⟩ := atMarks r20 r21
      have eD3 := k3 _ _ offD.1 offD.2 eD
      refine ⟨_, r2, ch, rfl, rfl, (by show letMarks.length ≤ sizeLine; decide +kernel), hat, ?_⟩
      refine ⟨_, eD3, small1000 (by rw [List.length_map]; omega), t' + 1, cs ++ [ch], by rw [upd_same, List.map_append]; rfl, by rw [List.length_append, hcl]; rfl, fun x hx => ?_, by omega, by omega, hS3.upd offD.1 offD.2, fun b o b1 b2 e => ?_⟩
      · rcases List.mem_append.mp hx with z | z
        · exact hcs x z
        · rw [List.mem_singleton.mp z]; exact hch
      · rw [upd_ne (ne_of_none e nD)]
        exact k3 b o b1 b2 (k' b o b1 b2 e)
    obtain ⟨t', cs, eD, hcl, hcs, u0, u1, hS2, k2⟩ := hP
    have hcl1 : 1 ≤ cs.length := by omega
    have hcl2 : cs.length ≤ 10 := by omega
    have lenm : (cs.map sgn).length = cs.length := List.length_map ..
    -- spot, first, step
    refine ⟨_, rfl, _, rfl, D, _, rfl, Sq.list eD, d, c, t', (cs.length : Int), by rw [lenm]; rfl, hS2, by omega, by omega, by omega, fun sp H3 sp0 sp1 hS3 k3 => ?_⟩
    refine ⟨_, rfl, d, c, t' + 1, 36, rfl, hS3, by omega, by decide, by decide, fun fi H4 fi0 fi1 hS4 k4 => ?_⟩
    refine ⟨(by show 4 ≤ sizeLine; decide), fun z nz => ?_⟩
    have sz := same_upd (o := .lst [.int 1, .int 5, .int 7, .int 35]) nz
    have offz := hS4.off nz
    refine ⟨_, rfl, d, c, t' + 1 + 1, 4, rfl, hS4.same sz, by omega, by decide, by decide, fun r4 H5 r40 r41 hS5 k5 => ?_⟩
    obtain ⟨sv, hsv0, hsv1, hat4⟩ : ∃ sv : Int, 0 ≤ sv ∧ sv ≤ 36 ∧ atI [V.int 1, V.int 5, V.int 7, V.int 35] r4 = some (.int sv) := by
      have : r4 = 0 ∨ r4 = 1 ∨ r4 = 2 ∨ r4 = 3 := by omega
      rcases this with rfl | rfl | rfl | rfl
      · exact ⟨1, by decide, by decide, rfl⟩
      · exact ⟨5, by decide, by decide, rfl⟩
      · exact ⟨7, by decide, by decide, rfl⟩
      · exact ⟨35, by decide, by decide, rfl⟩
    refine ⟨z, _, r4, .int sv, rfl, rfl, SqL.of (k5 _ _ offz.1 offz.2 upd_same), hat4, _, _, _, rfl, ?_⟩
    obtain ⟨js, rfl⟩ := Int.eq_ofNat_of_zero_le sp0
    have k25 : Kp d c H2 H5 := (k3.trans k4).trans ((Kp.same d c sz).trans k5)
    have eD5 := k25 _ _ offD.1 offD.2 eD
    -- made
    refine ⟨Nat.zero_le _, fun l nl => ?_⟩
    have sl := same_upd (o := .lst []) nl
    have offl := hS5.off nl
    have nlD : D ≠ l := ne_of_none eD5 nl
    have kall : Kp d c H H5 := (k1.trans k2).trans k25
    have nlH : H l = none := Kp.free kall hS5 nl
    have nDH : H D = none := Kp.free k1 hS1 nD
    refine ⟨_, rfl, m, rfl, by omega, by omega, for_range (n := m.toNat) (fun i σ Hx => ∃ (cs : List Nat) (xs : List Str) (y3 : Option V), σ = [some (.ref d), some (.int m), some (.str letMarks), y3, some (.ref D), some (.int (js : Int)), some (.int fi), some (.int sv), some (.ref l)] ∧ Hx D = some (.lst (cs.map sgn)) ∧ 1 ≤ cs.length ∧ cs.length ≤ 10 ∧ js < cs.length ∧ (∀ ch ∈ cs, ch < 1114112) ∧ Hx l = some (.lst (xs.map V.str)) ∧ xs.length = i ∧ (∀ x ∈ xs, PyData.strOk x = true) ∧ StAt Hx d c (t' + 1 + 1 + 1) ∧ Kp d c H Hx)
      ⟨cs, [], _, rfl, sl _ _ eD5, hcl1, hcl2, by omega, hcs, upd_same, rfl, (fun _ z => nomatch z), hS5.same sl, kall.trans (Kp.same d c sl)⟩ (fun i σ Hx hi hP => ?_) (fun σ Hx hP => ?_)⟩
    · obtain ⟨cs, xs, y3, rfl, eDx, g1, g2, g3, hcs, elx, hxl, hxs, hSx, kx⟩ := hP
      have hi2 : (i : Int) < 40 := by omega
      have hmod0 : 0 ≤ (fi + sv * (0 + (i : Int))) % 36 := Int.emod_nonneg _ (by decide)
      have hmod1 : (fi + sv * (0 + (i : Int))) % 36 < 36 := Int.emod_lt_of_pos _ (by decide)
      obtain ⟨ch, hat, hch⟩ := atMarks hmod0 hmod1
      refine ⟨_, rfl, _, rfl, _, rfl, _, rfl, sv, 0 + (i : Int), rfl, rfl, .inl ⟨by omega, by omega⟩, fi, _, rfl, rfl, _, 36, rfl, rfl, (show (0 : Int) < 36 by decide), _, _, ch, rfl, rfl, (by show letMarks.length ≤ sizeLine; decide +kernel), hat, ?_⟩
      refine ⟨_, rfl, _, rfl, D, _, (js : Int), js, rfl, rfl, eDx, ixN_of (by rw [List.length_map]; exact g3), ?_⟩
      have es : (cs.map sgn).set js (.str ⟨#[ch]⟩) = (cs.set js ch).map sgn := by rw [List.map_set]; rfl
      rw [es]
      have hcs' : ∀ x ∈ cs.set js ch, x < 1114112 := fun x hx => by
        rcases List.mem_or_eq_of_mem_set hx with z | z
        · exact hcs x z
        · rw [z]; exact hch
      have hlen' : (cs.set js ch).length = cs.length := List.length_set ..
      have eD6 : upd Hx D (.lst ((cs.set js ch).map sgn)) D = some (.lst ((cs.set js ch).map sgn)) := upd_same
      have el6 : upd Hx D (.lst ((cs.set js ch).map sgn)) l = some (.lst (xs.map V.str)) := by rw [upd_ne nlD.symm]; exact elx
      have hS6 := hSx.upd (o := .lst ((cs.set js ch).map sgn)) offD.1 offD.2
      have k6 : Kp d c H (upd Hx D (.lst ((cs.set js ch).map sgn))) := fun b o b1 b2 e => by rw [upd_ne (ne_of_none e nDH)]; exact kx b o b1 b2 e
      revert eD6 el6 hS6 k6
      rw [← hlen'] at g1 g2 g3
      generalize upd Hx D (.lst ((cs.set js ch).map sgn)) = H6
      generalize cs.set js ch = cs2 at g1 g2 g3 hcs' ⊢
      intro eD6 el6 hS6 k6
      refine ⟨_, rfl, .inl ⟨rfl, _, SqL.of el6⟩, ⟨_, rfl⟩, _, rfl, _, D, cs2.map sgS, rfl, rfl, .inl (SqL.of (by rw [eD6, List.map_map]; rfl)), join_small g2, ?_⟩
      refine ⟨l, _, _, rfl, rfl, el6, small1000 (by rw [List.length_map]; omega), cs2, xs ++ [Txt.join "" (cs2.map sgS)], _, rfl, by rw [upd_ne nlD]; exact eD6, g1, g2, g3, hcs', by rw [upd_same, List.map_append]; rfl, by rw [List.length_append, hxl]; rfl, fun x hx => ?_, hS6.upd offl.1 offl.2, fun b o b1 b2 e => ?_⟩
      · rcases List.mem_append.mp hx with z | z
        · exact hxs x z
        · rw [List.mem_singleton.mp z]; exact join_ok hcs'
      · rw [upd_ne (ne_of_none e nlH)]
        exact k6 b o b1 b2 e
    · obtain ⟨cs, xs, y3, rfl, eDx, g1, g2, g3, hcs, elx, hxl, hxs, hSx, kx⟩ := hP
      exact ⟨_, rfl, q l xs _ Hx nlH elx hxs (by omega) (by omega) (by omega) hSx kx⟩
end

theorem snoc_cases {α : Type} (l : List α) : l = [] ∨ ∃ l' x, l = l' ++ [x] := by
  rcases List.eq_nil_or_concat l with h | ⟨l', x, h⟩
  · exact .inl h
  · exact .inr ⟨l', x, by rw [h]; simp⟩
theorem _root_.GP.Prs.last {H : Hp} {us : List V} {ps : List (Int × Int)} {p : Int × Int} (h : Prs H us (ps ++ [p])) : ∃ us' T, us = us' ++ [.ref T] ∧ H T = some (.tup [.int p.1, .int p.2]) ∧ Prs H us' ps := by
  have hl := h.1
  rw [List.length_append] at hl
  rcases snoc_cases us with e | ⟨us', x, e⟩
  · rw [e] at hl
    simp at hl
  · subst e
    rw [List.length_append] at hl
    have hl' : us'.length = ps.length := Nat.add_right_cancel hl
    obtain ⟨T, e1, e2⟩ := h.2 ps.length p (by rw [List.getElem?_append_right (Nat.le_refl _), Nat.sub_self]; rfl)
    rw [List.getElem?_append_right (by omega), hl', Nat.sub_self] at e1
    refine ⟨us', T, by rw [Option.some.inj e1], e2, hl', fun i q eq => ?_⟩
    have hi : i < ps.length := (List.getElem?_eq_some_iff.mp eq).1
    obtain ⟨b, f1, f2⟩ := h.2 i q (by rw [List.getElem?_append_left hi]; exact eq)
    rw [List.getElem?_append_left (by omega)] at f1
    exact ⟨b, f1, f2⟩
theorem eqv_pr_nil (ps : List (Int × Int)) : PyData.eqv (PyData.list (ps.map pairD)) (PyData.list []) = ps.isEmpty := by
  cases ps with
  | nil => simp [PyData.eqv, PyData.eqvAll]
  | cons p r => simp [PyData.eqv, PyData.eqvAll]
def rIxS (K : PySem.W.Frag) : R2 := fun x y H Q => ∃ p xs i v, x = .ref p ∧ y = .int i ∧ Sq K H p xs ∧ atI xs i = some v ∧ Q v H
theorem ix_seq {X : Cx} : IxR X (rIxS X.K) := by
  intro value slice pins s σ H x y v u Q I rx ry h hs
  obtain ⟨p, xs, i, z, e1, e2, hq, he, q⟩ := h
  rcases hq with hq | hq
  · exact ix_list value slice pins s σ H x y v u Q I rx ry ⟨p, xs, i, z, e1, e2, hq, he, q⟩ hs
  · exact ix_tup value slice pins s σ H x y v u Q I rx ry ⟨p, xs, i, z, e1, e2, hq, he, q⟩ hs

/-! ### the table of the def that holds the generator expression -/
theorem tab_at {Pt : Addr} {H H2 : Hp} {b : Addr} {o : HO} (g : GxR.TabG H Pt) (t : GxR.Tabbed Pt H H2) (e : H b = some o) (h : ∀ q, o ≠ .tbl q) : H2 b = some o := by
  obtain ⟨ps, hP, _⟩ := g
  rw [t.2 b (ne_of e hP (h ps))]
  exact e
theorem StAt.tab {Pt : Addr} {H H2 : Hp} {d c : Addr} {t : Int} (S : StAt H d c t) (g : GxR.TabG H Pt) (x : GxR.Tabbed Pt H H2) : StAt H2 d c t :=
  ⟨tab_at g x S.dict (fun _ z => nomatch z), let ⟨cs, e, r⟩ := S.cells; ⟨cs, tab_at g x e (fun _ z => nomatch z), r⟩, S.pos⟩
theorem _root_.GP.Prs.tab {Pt : Addr} {H H2 : Hp} {vs : List V} {ps : List (Int × Int)} (h : Prs H vs ps) (g : GxR.TabG H Pt) (x : GxR.Tabbed Pt H H2) : Prs H2 vs ps :=
  ⟨h.1, fun i p e => let ⟨a, e1, e2⟩ := h.2 i p e; ⟨a, e1, tab_at g x e2 (fun _ z => nomatch z)⟩⟩
theorem tabG_same {Pt : Addr} {H H' : Hp} (g : GxR.TabG H Pt) (s : Same H H') : GxR.TabG H' Pt := let ⟨ps, e, r⟩ := g; ⟨ps, s _ _ e, r⟩
theorem tabG_kp {Pt : Addr} {H H' : Hp} {d c : Addr} {t : Int} (g : GxR.TabG H Pt) (S : StAt H d c t) (k : Kp d c H H') : GxR.TabG H' Pt := let ⟨ps, e, r⟩ := g; ⟨ps, k.at S e (fun _ z => nomatch z) (fun _ z => nomatch z), r⟩
theorem tabG_upd {Pt : Addr} {H : Hp} {l : Addr} {o u : HO} (g : GxR.TabG H Pt) (e : H l = some o) (h : ∀ q, o ≠ .tbl q) : GxR.TabG (upd H l u) Pt := let ⟨ps, eP, r⟩ := g; ⟨ps, by rw [upd_ne (ne_of e eP (h ps)).symm]; exact eP, r⟩
theorem tabbed_free {Pt : Addr} {H H2 : Hp} {p : Addr} (g : GxR.TabG H Pt) (x : GxR.Tabbed Pt H H2) (h : H2 p = none) : H p = none := by
  obtain ⟨ps, e, _⟩ := x.1
  rw [← x.2 p (fun z => by rw [z, e] at h; cases h)]
  exact h

/-- a walk over what stood before a list was begun -/
theorem for_seqS {K : PySem.W.Frag} {a : Addr} {xs : List V} {g : TG} {tb : TS} {D : Ends} {σ : L2.St} {H0 H1 : Hp} (hq : Sq K H0 a xs) (s1 : Same H0 H1) (Pv : Nat → L2.St → Hp → Prop) (h0 : Pv 0 σ H1)
    (hl : ∀ i σ H', Pv i σ H' → Same H0 H')
    (turn : ∀ i x σ H, xs[i]? = some x → Pv i σ H → g x σ H fun σ2 H2 => tb { D with nx := Pv (i + 1), ct := Pv (i + 1), bk := D.nx } σ2 H2) (fin : ∀ σ H, Pv xs.length σ H → D.nx σ H) :
    ((∃ xs, SqL K H1 a xs) ∧ ForR (Itl K a) g tb D σ H1) ∨ ((∃ xs, SqT K H1 a xs) ∧ ForR (Itt K a) g tb D σ H1) := by
  rcases hq with h | h
  · exact .inl ⟨⟨xs, s1.seq h⟩, for_list (xs := xs) Pv h0 (fun i σ H' _ p => (hl i σ H' p).seq h) turn fin⟩
  · exact .inr ⟨⟨xs, same_t s1 h⟩, for_tup (xs := xs) Pv h0 (fun i σ H' _ p => same_t (hl i σ H' p) h) turn fin⟩

/-! ### zip of a list and a tuple -/
def ItzM (K : PySem.W.Frag) (a b : Addr) : It :=
  ⟨fun i H => ∃ (xs ys : List V) (x y : V), SqL K H a xs ∧ SqT K H b ys ∧ xs[i]? = some x ∧ ys[i]? = some y,
    fun i H v H' => ∃ T x y, v = .ref T ∧ H T = none ∧ H' = upd H T (.tup [x, y]) ∧ (∀ xs, SqL K H a xs → xs[i]? = some x) ∧ ∀ ys, SqT K H b ys → ys[i]? = some y,
    fun i H => ∃ xs ys : List V, SqL K H a xs ∧ SqT K H b ys ∧ i ≤ xs.length ∧ i ≤ ys.length ∧ (i = xs.length ∨ i = ys.length)⟩
theorem turn_zipM {P : Program} {w : World} {K : PySem.W.Frag} {elts : List Expr} {kk : Nat} {tpos : Pos} {a b z TI TO i1 i2 : Addr} (D : ZipSep2 z TI TO i1 i2 [i1, a] [i2, b]) (n1 : a ≠ i1) (n2 : b ≠ i2) :
    Turn P w K (.Tuple elts kk tpos) (ItzM K a b) [z, TI, TO, i1, i2] z (fun i h => IsZip h z TI TO .none ∧ IsTupOf2 h TI (.ref i1) (.ref i2) ∧ (∃ x y, IsTupOf2 h TO x y) ∧ h.IsListIter i1 a i ∧ h.IsTupleIter i2 b i) where
  mem := by simp
  obj := fun i h st c hc => by
    obtain ⟨hz, hTI, ⟨x, y, hTO⟩, ⟨o1, e1, _, d1⟩, ⟨o2, e2, _, d2⟩⟩ := st
    have e' : c = z ∨ c = TI ∨ c = TO ∨ c = i1 ∨ c = i2 := by simpa using hc
    rcases e' with q | q | q | q | q
    · rw [q]; exact ⟨_, hz, fun v q => nomatch q⟩
    · rw [q]; exact ⟨_, hTI, fun v q => nomatch q⟩
    · rw [q]; exact ⟨_, hTO, fun v q => nomatch q⟩
    · rw [q]; exact ⟨o1, e1, fun v q => by rw [d1] at q; cases q⟩
    · rw [q]; exact ⟨o2, e2, fun v q => by rw [d2] at q; cases q⟩
  keep := fun i h h' st k => by
    obtain ⟨hz, hTI, ⟨x, y, hTO⟩, h1, h2⟩ := st
    exact ⟨k z (by simp) _ hz, k TI (by simp) _ hTI, ⟨x, y, k TO (by simp) _ hTO⟩, h1.at fun o q => k i1 (by simp) o q, h2.at fun o q => k i2 (by simp) o q⟩
  item := by
    intro X hP hw hK hc i pins s σ H E I hf st hg
    subst hP hw hK
    obtain ⟨hz, hTI, ⟨x0, y0, hTO⟩, h1, h2⟩ := st
    obtain ⟨xs, ys, x, y, hqx, hqy, hx, hy⟩ := hg
    obtain ⟨its, rv, p, _⟩ := I.list hqx
    obtain ⟨its2, rv2, p2, _⟩ := I.tuple hqy
    obtain ⟨u, hu, ru⟩ := rv.get hx
    obtain ⟨u2, hu2, ru2⟩ := rv2.get hy
    have hui : its.toArray[i]? = some u := by simpa using hu
    have hui2 : its2.toArray[i]? = some u2 := by simpa using hu2
    have hzl : z < s.heap.objs.size := Heap.lt_size hz
    have D1 := Draws.list (prog := X.prog) (w := X.w) (A := X.A.in1) (I.ok.hd hc) i1 a n1 its.toArray
    have D2 := Draws.tuple (prog := X.prog) (w := X.w) (A := X.A.in1) (I.ok.hd hc) i2 b n2 its2.toArray
    refine wpAny_pyNext_zipD2_item D D1 D2 hz hTI hTO ⟨h1, p.isList⟩ ⟨h2, p2⟩ (Array.getElem?_eq_some_iff.mp hui).1 (Array.getElem?_eq_some_iff.mp hui2).1 fun v1 v2 h' tk e1 e2 z' TO' h1' h2' hT hsz hk => ?_
    have ev1 : u = v1 := Option.some.inj (hui.symm.trans e1)
    have ev2 : u2 = v2 := Option.some.inj (hui2.symm.trans e2)
    subst ev1 ev2
    refine ⟨_, rfl, wpAny_letOwnedTupleGo_zip (s := { s with heap := h', toks := tk }) z' fun h'' z'' sb => ?_⟩
    have hT2 : h''.get? s.heap.objs.size = some { cls := .type "tuple", data := .seq #[u, u2] } := (sb.2 _ (Nat.ne_of_gt hzl)).trans hT
    have new : ObjOk X.prog X.w (upd H s.heap.objs.size (.tup [x, y])) h'' s.heap.objs.size (.tup [x, y]) :=
      ⟨by show 2 ≤ sizeLine; decide, [u, u2], .cons ru (.cons ru2 .nil), ⟨_, hT2, rfl, _, rfl⟩⟩
    have I1 : Inv X pins σ (upd H s.heap.objs.size (.tup [x, y])) { s with heap := h'', toks := tk } :=
      I.turnedNew (t' := tk) (ch := [z, TI, TO, i1, i2]) (fun c o hb q => (sb.2 c (fun q' => hb (by simp [q']))).trans (hk c o (fun q' => hb (by simp [q'])) (fun q' => hb (by simp [q'])) (fun q' => hb (by simp [q'])) (fun q' => hb (by simp [q'])) q)) hf (Nat.le_refl _) new
    refine ⟨.ref s.heap.objs.size, _, I1, rfl, ⟨_, x, y, rfl, I.hok.fresh (Nat.le_refl _), rfl, fun l hl => by rw [I.list_inj hl hqx]; exact hx, fun l hl => by rw [I.tuple_inj hl hqy]; exact hy⟩, ⟨z'', ?_, ⟨u, u2, ?_⟩, ?_, ?_⟩, fun c hcm => ?_⟩
    · exact (sb.2 _ D.TIz).trans (hk _ _ D.TIz D.TITO D.TIi1 D.TIi2 hTI)
    · exact (sb.2 _ D.TOz).trans TO'
    · exact h1'.1.at fun o q => (sb.2 _ D.zi1.symm).trans q
    · exact h2'.1.at fun o q => (sb.2 _ D.zi2.symm).trans q
    · have hlt : c < s.heap.objs.size := by
        have e' : c = z ∨ c = TI ∨ c = TO ∨ c = i1 ∨ c = i2 := by simpa using hcm
        rcases e' with q | q | q | q | q
        · rw [q]; exact hzl
        · rw [q]; exact Heap.lt_size hTI
        · rw [q]; exact Heap.lt_size hTO
        · rw [q]; obtain ⟨_, e1, _⟩ := h1; exact Heap.lt_size e1
        · rw [q]; obtain ⟨_, e2, _⟩ := h2; exact Heap.lt_size e2
      rw [upd_ne (Nat.ne_of_lt hlt)]
      exact (hf c hcm).1
  done := by
    intro X hP hw hK hc i pins s σ H E I hf st hg
    subst hP hw hK
    obtain ⟨hz, hTI, ⟨x0, y0, hTO⟩, h1, h2⟩ := st
    obtain ⟨xs, ys, hqx, hqy, g1, g2, hend⟩ := hg
    obtain ⟨its, rv, p, _⟩ := I.list hqx
    obtain ⟨its2, rv2, p2, _⟩ := I.tuple hqy
    have l1 : its.toArray.size = xs.length := by rw [List.size_toArray, rv.length]
    have l2 : its2.toArray.size = ys.length := by rw [List.size_toArray, rv2.length]
    have D1 := Draws.list (prog := X.prog) (w := X.w) (A := X.A.in1) (I.ok.hd hc) i1 a n1 its.toArray
    have D2 := Draws.tuple (prog := X.prog) (w := X.w) (A := X.A.in1) (I.ok.hd hc) i2 b n2 its2.toArray
    exact wpAny_pyNext_zipD2_end D D1 D2 hz hTI hTO ⟨h1, p.isList⟩ ⟨h2, p2⟩ (by omega) (by omega) (by omega) fun h' tk hk => ⟨rfl, I.turnedL (t' := tk) (ch := [z, TI, TO, i1, i2]) (fun c o hb q =>
      hk c o (fun q' => hb (by simp [q'])) (fun q' => hb (by simp [q'])) (fun q' => hb (by simp [q'])) (fun q' => hb (by simp [q'])) q) hf⟩
  self := fun A i s Q E st h => wpAny_pyIter_zip st.1 h
def iZipM (K : PySem.W.Frag) (ta : TA) : TI := fun σ H R => ta σ H fun vs H1 => ∃ a b xs ys, vs = [.ref a, .ref b] ∧ ((SqL K H1 a xs ∧ SqL K H1 b ys ∧ R (Itz K a b) H1) ∨ (SqL K H1 a xs ∧ SqT K H1 b ys ∧ R (ItzM K a b) H1))
theorem pi_zipM {X : Cx} {e e2 : Expr} {ta : TA} {p pos tpos : Pos} {elts : List Expr} {kk : Nat} (hg : Gl X "zip") (hm : X.mg "zip" = none) (ha : PA X [e, e2] ta)
    (hs : starEach [e, e2] X.env = (false, eval e X.env) :: starEach [e2] X.env := by rfl) (hpl : (backTo pos (starEach [e2] X.env)).any (·.1) = false := by rfl) :
    PI X (.Tuple elts kk tpos) (.Call (.Name "zip" p) [e, e2] [] pos) (iZipM X.K ta) := by
  refine ⟨fun pins s σ H R I h => ?_⟩
  refine Call_ (ld_blt I hg hm PyProof.Rows.boot_zip (PyProof.Rows.callWith_type1 (thn (ha.run pos pins s σ H _ I h) fun us s1 ⟨vs, H1, I1, r1, q1⟩ => ?_) hs hpl))
  obtain ⟨a, b, xs, ys, ex, q1⟩ := q1
  subst ex
  cases r1 with
  | cons r rr =>
    cases rr with
    | cons r' rr =>
      cases rr
      cases r
      cases r'
      have fresh5 : ∀ c, c ∈ [s1.heap.objs.size + 4, s1.heap.objs.size + 2, s1.heap.objs.size + 3, s1.heap.objs.size, s1.heap.objs.size + 1] → FpOk X pins H1 c := fun c hcm => by
        have e' : c = s1.heap.objs.size + 4 ∨ c = s1.heap.objs.size + 2 ∨ c = s1.heap.objs.size + 3 ∨ c = s1.heap.objs.size ∨ c = s1.heap.objs.size + 1 := by simpa using hcm
        have hle : s1.heap.objs.size ≤ c := by
          rcases e' with z | z | z | z | z
          · rw [z]; exact Nat.le_add_right _ _
          · rw [z]; exact Nat.le_add_right _ _
          · rw [z]; exact Nat.le_add_right _ _
          · rw [z]; exact Nat.le_refl _
          · rw [z]; exact Nat.le_add_right _ _
        exact I1.fpOk hle (I1.hok.fresh hle)
      rcases q1 with ⟨hqx, hqy, q⟩ | ⟨hqx, hqy, q⟩
      · obtain ⟨its, rv, p1, _⟩ := I1.list hqx
        obtain ⟨its2, rv2, p2, _⟩ := I1.list hqy
        refine call_zip_2 p1.isList p2.isList fun h' hz hTI hTO h1 h2 hsz hk => wpAny_pyIter_zip hz ?_
        have I2 : Inv X pins σ H1 { s1 with heap := h' } := I1.kept (t' := s1.toks) hk
        exact ⟨s1.heap.objs.size + 4, [s1.heap.objs.size + 4, s1.heap.objs.size + 2, s1.heap.objs.size + 3, s1.heap.objs.size, s1.heap.objs.size + 1], _, _, H1, rfl, I2, turn_zip (PySem.W.ktu_apart s1.heap.objs.size a b p1.lt p2.lt), ⟨hz, hTI, ⟨_, _, hTO⟩, h1, h2⟩, fresh5, q⟩
      · obtain ⟨its, rv, p1, _⟩ := I1.list hqx
        obtain ⟨its2, rv2, p2, _⟩ := I1.tuple hqy
        have la : a < s1.heap.objs.size := p1.lt
        have lb : b < s1.heap.objs.size := let ⟨_, ho, _⟩ := id p2; Heap.lt_size ho
        refine zip_begins2 (begins_list a its.toArray) (begins_tuple b its2.toArray) p1.isList p2 fun h' hz hTI hTO h1 h2 hsz hk => wpAny_pyIter_zip hz ?_
        have I2 : Inv X pins σ H1 { s1 with heap := h' } := I1.kept (t' := s1.toks) hk
        exact ⟨s1.heap.objs.size + 4, [s1.heap.objs.size + 4, s1.heap.objs.size + 2, s1.heap.objs.size + 3, s1.heap.objs.size, s1.heap.objs.size + 1], _, _, H1, rfl, I2, turn_zipM (zip_sep2 (N := s1.heap.objs.size) (fun c hc => by rw [List.mem_singleton.mp hc]; exact la) (fun c hc => by rw [List.mem_singleton.mp hc]; exact lb)) (Nat.ne_of_lt la) (Nat.ne_of_lt (Nat.lt_succ_of_lt lb)), ⟨hz, hTI, ⟨_, _, hTO⟩, ⟨_, h1, rfl, rfl⟩, ⟨_, h2, rfl, rfl⟩⟩, fresh5, q⟩
theorem walk_zipM {K : PySem.W.Frag} {a b : Addr} {xs ys : List V} (hl : xs.length = ys.length) : Walk (ItzM K a b) xs.length (fun H => SqL K H a xs ∧ SqT K H b ys) (YPair (fun i => xs[i]?) (fun i => ys[i]?)) where
  goes := fun i _ hi q => ⟨xs, ys, xs[i], ys[i]'(hl ▸ hi), q.1, q.2, List.getElem?_eq_getElem hi, List.getElem?_eq_getElem (hl ▸ hi)⟩
  stops := fun _ q => ⟨xs, ys, q.1, q.2, Nat.le_refl _, Nat.le_of_eq hl, .inl rfl⟩
  yields := fun i H v H' _ q ⟨T, x, y, h1, h2, h3, h4, h5⟩ => ⟨T, x, y, h1, h2, h3, h4 xs q.1, h5 ys q.2⟩
/-- a loop over zip of a list and a list or tuple of one length -/
theorem for_zipM {K : PySem.W.Frag} {a b : Addr} {xs ys : List V} {g : TG} {tb : TS} {D : Ends} {σ : L2.St} {H0 H1 : Hp} (ha : SqL K H0 a xs) (hb : Sq K H0 b ys) (hl : xs.length = ys.length) (s1 : Same H0 H1) (Pv : Nat → L2.St → Hp → Prop) (h0 : Pv 0 σ H1) (hs : ∀ i σ H', Pv i σ H' → Same H0 H')
    (turn : ∀ i x y T σ H, xs[i]? = some x → ys[i]? = some y → Pv i σ H → H T = none → g (.ref T) σ (upd H T (.tup [x, y])) fun σ2 H2 => tb { D with nx := Pv (i + 1), ct := Pv (i + 1), bk := D.nx } σ2 H2) (fin : ∀ σ H, Pv xs.length σ H → D.nx σ H) :
    ((SqL K H1 a xs ∧ SqL K H1 b ys ∧ ForR (Itz K a b) g tb D σ H1) ∨ (SqL K H1 a xs ∧ SqT K H1 b ys ∧ ForR (ItzM K a b) g tb D σ H1)) := by
  have tn : ∀ i v σ H H', i < xs.length → Pv i σ H → YPair (fun i => xs[i]?) (fun i => ys[i]?) i H v H' → g v σ H' fun σ2 H2 => tb { D with nx := Pv (i + 1), ct := Pv (i + 1), bk := D.nx } σ2 H2 := by
    rintro i v σ H H' _ hp ⟨T, x, y, rfl, nT, rfl, e1, e2⟩
    exact turn i x y T σ H e1 e2 hp nT
  rcases hb with h | h
  · exact .inl ⟨s1.seq ha, s1.seq h, for_it (walk_zip (by omega)) Pv h0 (fun i σ H' _ p => ⟨(hs i σ H' p).seq ha, (hs i σ H' p).seq h⟩) tn fin⟩
  · exact .inr ⟨s1.seq ha, same_t s1 h, for_it (walk_zipM hl) Pv h0 (fun i σ H' _ p => ⟨(hs i σ H' p).seq ha, same_t (hs i σ H' p) h⟩) tn fin⟩

/-! ### things as data, all of it tracked -/
inductive Dat (H : Hp) : V → PyData → Prop
  | non : Dat H .non .none
  | bl (b : Bool) : Dat H (.bl b) (.bool b)
  | int (i : Int) : Dat H (.int i) (.int i)
  | str (x : Str) : Dat H (.str x) (.str x)
  | lst {a : Addr} {xs : List V} {ds : List PyData} : H a = some (.lst xs) → xs.length = ds.length → (∀ (i : Nat) x d, xs[i]? = some x → ds[i]? = some d → Dat H x d) → Dat H (.ref a) (.list ds)
  | tup {a : Addr} {xs : List V} {ds : List PyData} : H a = some (.tup xs) → xs.length = ds.length → (∀ (i : Nat) x d, xs[i]? = some x → ds[i]? = some d → Dat H x d) → Dat H (.ref a) (.tuple ds)
theorem Dat.same {H H' : Hp} {v : V} {d : PyData} (h : Dat H v d) (s : Same H H') : Dat H' v d := by
  induction h with
  | non => exact .non
  | bl b => exact .bl b
  | int i => exact .int i
  | str x => exact .str x
  | lst e l _ ih => exact .lst (s _ _ e) l ih
  | tup e l _ ih => exact .tup (s _ _ e) l ih
/-- at most so deep, no longer than these lines -/
def Sm : Nat → PyData → Prop
  | _, .none => True
  | _, .bool _ => True
  | _, .int _ => True
  | _, .str _ => True
  | n + 1, .list ds => ds.length ≤ 900 ∧ ∀ d ∈ ds, Sm n d
  | n + 1, .tuple ds => ds.length ≤ 900 ∧ ∀ d ∈ ds, Sm n d
  | _, _ => False
/-- no list, no tuple -/
def Flat (d : PyData) : Prop := d = .none ∨ (∃ b, d = .bool b) ∨ (∃ i, d = .int i) ∨ ∃ x, d = .str x
theorem Sm.cases {n : Nat} {d : PyData} (h : Sm (n + 1) d) : Flat d ∨ (∃ ds, d = .list ds ∧ ds.length ≤ 900 ∧ ∀ d ∈ ds, Sm n d) ∨ ∃ ds, d = .tuple ds ∧ ds.length ≤ 900 ∧ ∀ d ∈ ds, Sm n d := by
  cases d <;> first | exact .inl (.inl rfl) | exact .inl (.inr (.inl ⟨_, rfl⟩)) | exact .inl (.inr (.inr (.inl ⟨_, rfl⟩))) | exact .inl (.inr (.inr (.inr ⟨_, rfl⟩))) | exact .inr (.inl ⟨_, rfl, h.1, h.2⟩) | exact .inr (.inr ⟨_, rfl, h.1, h.2⟩) | exact h.elim
theorem Sm.flat {d : PyData} (h : Sm 0 d) : Flat d := by
  cases d <;> first | exact .inl rfl | exact .inr (.inl ⟨_, rfl⟩) | exact .inr (.inr (.inl ⟨_, rfl⟩)) | exact .inr (.inr (.inr ⟨_, rfl⟩)) | exact h.elim
theorem walk_zipTs {K : PySem.W.Frag} {a b : Addr} {xs ys : List V} {n : Nat} (h1 : xs.length = n) (h2 : ys.length = n) : Walk (RZ.ItzT K a b) n (fun H => SqT K H a xs ∧ SqT K H b ys) (YPair (fun i => xs[i]?) (fun i => ys[i]?)) where
  goes := fun i _ lt q => ⟨xs, ys, _, _, q.1, q.2, List.getElem?_eq_getElem (h1.symm ▸ lt), List.getElem?_eq_getElem (h2.symm ▸ lt)⟩
  stops := fun _ q => ⟨xs, ys, q.1, q.2, .inl (Nat.le_of_eq h1)⟩
  yields := fun i _ _ _ _ q ⟨T, x, z, e1, e2, e3, e4, e5⟩ => ⟨T, x, z, e1, e2, e3, e4 xs q.1, e5 ys q.2⟩
theorem prs_dat {H : Hp} {us : List V} {ps : List (Int × Int)} (h : Prs H us ps) : ∀ (i : Nat) x d, us[i]? = some x → (ps.map pairD)[i]? = some d → Dat H x d := fun i x d e1 e2 => by
  obtain ⟨p, a, ep, rfl, ea⟩ := prs_at h e1
  rw [List.getElem?_map, ep] at e2
  have ed : pairD p = d := Option.some.inj e2
  rw [← ed]
  refine .tup ea rfl fun j y d f1 f2 => ?_
  have hj : j < 2 := (List.getElem?_eq_some_iff.mp f1).1
  have : j = 0 ∨ j = 1 := by omega
  rcases this with rfl | rfl
  · cases f1; cases f2; exact .int _
  · cases f1; cases f2; exact .int _
theorem sm_prs {ps : List (Int × Int)} (h : ps.length ≤ 900) : Sm 2 (.list (ps.map pairD)) := by
  refine ⟨by rw [List.length_map]; exact h, fun d hd => ?_⟩
  obtain ⟨p, _, rfl⟩ := List.mem_map.mp hd
  exact ⟨by show 2 ≤ 900; decide, fun d hd => by
    rcases List.mem_cons.mp hd with e | e
    · rw [e]; trivial
    · rw [List.mem_singleton.mp e]; trivial⟩
theorem ints_dat {H : Hp} {a : Addr} {ns : List Int} (e : H a = some (.lst (ns.map V.int))) : Dat H (.ref a) (.list (ns.map PyData.int)) := .lst e (by rw [List.length_map, List.length_map]) fun i x d e1 e2 => by
  rw [List.getElem?_map] at e1 e2
  cases h : ns[i]? with
  | none => rw [h] at e1; cases e1
  | some n =>
    rw [h] at e1 e2
    cases e1
    cases e2
    exact .int n
theorem sm_ints {ns : List Int} (h : ns.length ≤ 900) : Sm 1 (.list (ns.map PyData.int)) := by
  refine ⟨by rw [List.length_map]; exact h, fun d hd => ?_⟩
  obtain ⟨p, _, rfl⟩ := List.mem_map.mp hd
  trivial

mutual
/-- no truth among it -/
def NoBl : PyData → Prop
  | .bool _ => False
  | .list ds => NoBls ds
  | .tuple ds => NoBls ds
  | _ => True
def NoBls : List PyData → Prop
  | [] => True
  | d :: ds => NoBl d ∧ NoBls ds
end
theorem noBls_all : ∀ {ds : List PyData}, NoBls ds → ∀ d ∈ ds, NoBl d
  | [], _, _, h => nomatch h
  | e :: r, h, d, hd => by
    rw [NoBls] at h
    rcases List.mem_cons.mp hd with z | z
    · rw [z]; exact h.1
    · exact noBls_all h.2 d z
theorem noBls_of : ∀ {ds : List PyData}, (∀ d ∈ ds, NoBl d) → NoBls ds
  | [], _ => by rw [NoBls]; trivial
  | e :: r, h => by rw [NoBls]; exact ⟨h e (List.mem_cons_self ..), noBls_of fun d hd => h d (List.mem_cons_of_mem _ hd)⟩
abbrev sSame : Stmt := topS 8
theorem scSame : FnScope ["_law_found", "_law_due_here", "_law_one", "_law_other"] ["_law_found", "_law_due_here"] (defScope sSame) := ⟨rfl, rfl, rfl, by decide +kernel, rfl, by decide +kernel, by decide +kernel⟩
/-- alike: the same data twice (no truths among it) -/
def spSame (n : Nat) : Sp := fun vs H Q _ => ∃ (v u : V) (d : PyData), vs = [v, u] ∧ Dat H v d ∧ Dat H u d ∧ Sm n d ∧ NoBl d ∧ ∀ H', Same H H' → Q (.bl true) H'
theorem all_true (n : Nat) : (List.replicate n true).all id = true := by
  rw [List.all_eq_true]
  intro b hb
  exact (List.mem_replicate.mp hb).2
abbrev SameGoal (K : PySem.W.Frag) (mg : Str → Option Value) (P : Program) (w : World) (base : Heap) (f : Addr) (cdv : Value) (A : Around) (outer : List Env) (s : Shared) (H : Hp) (E : XK) (v u : V) (Q : VK) : Prop :=
  ∃ t, PSs (cxOf CX0 P w K mg base ["_law_found", "_law_due_here", "_law_one", "_law_other"] "_law_same" (defScope sSame) f cdv A outer s H E).nox (defBody sSame) t ∧ t { nx := fun _ H' => Q .non H', rt := Q } (start ["_law_found", "_law_due_here", "_law_one", "_law_other"] [v, u]) H
section
variable {K : PySem.W.Frag} {mg : Str → Option Value} {P : Program} {w : World} {base : Heap}
/-- of no list, no tuple -/
theorem same_flat {f : Addr} (mi : mg "isinstance" = none) (ml : mg "list" = none) (mt : mg "tuple" = none) (mb : mg "bool" = none) (ms : mg "str" = none) (mn : mg "int" = none) {cdv : Value} {A : Around} {outer : List Env} {s : Shared} {H : Hp} {v u : V} {d : PyData} {Q : VK} {E : XK}
    (h1 : Dat H v d) (h2 : Dat H u d) (hd : Flat d) (hb : NoBl d) (q : ∀ H', Same H H' → Q (.bl true) H') : SameGoal K mg P w base f cdv A outer s H E v u Q := by
  refine ⟨_, pss_cons (ps_if (pt_cmpR op_isN (pv 1) pe_non (nomark _)) (pss_one (ps_ret (pe_cmpR op_isN (pv 0) pe_non (nomark _)))) pss_nil)
      (pss_cons (ps_if (PW.pt (pw_or (pt_val (pe_callB call_isi (by rfl) mi (by decide +kernel) (pa_cons (pv 1) (pa_cons (pe_bltn (v := .ty "list") (by rfl) ml (by decide +kernel) rfl) pa_nil)))) (pw_or1 (pt_val (pe_callB call_isi (by rfl) mi (by decide +kernel) (pa_cons (pv 1) (pa_cons (pe_bltn (v := .ty "tuple") (by rfl) mt (by decide +kernel) rfl) pa_nil))))))) pss_never pss_nil)
      (pss_cons (ps_if (pt_val (pe_callB call_isi (by rfl) mi (by decide +kernel) (pa_cons (pv 1) (pa_cons (pe_bltn (v := .ty "str") (by rfl) ms (by decide +kernel) rfl) pa_nil)))) (pss_one (ps_ret (pe_and (pe_callB call_isi (by rfl) mi (by decide +kernel) (pa_cons (pv 0) (pa_cons (pe_bltn (v := .ty "str") (by rfl) ms (by decide +kernel) rfl) pa_nil))) (pe_one (pe_cmpR op_eq (pv 0) (pv 1) (nomark _)))))) pss_nil)
      (pss_one (ps_ret (pe_and (pe_callB call_isi (by rfl) mi (by decide +kernel) (pa_cons (pv 0) (pa_cons (pe_bltn (v := .ty "int") (by rfl) mn (by decide +kernel) rfl) pa_nil))) (pe_and (pe_not (pe_callB call_isi (by rfl) mi (by decide +kernel) (pa_cons (pv 0) (pa_cons (pe_bltn (v := .ty "bool") (by rfl) mb (by decide +kernel) rfl) pa_nil)))) (pe_one (pe_cmpR op_eq (pv 0) (pv 1) (nomark _))))))))), ?_⟩
  have deq : ∀ x : V, (decide (x = x)) = true := fun x => decide_eq_true rfl
  rcases hd with rfl | ⟨b, rfl⟩ | ⟨i, rfl⟩ | ⟨x, rfl⟩
  · cases h1
    cases h2
    refine ⟨_, rfl, rfl, _, rfl, iteT ?_⟩
    exact ⟨_, rfl, rfl, q _ (Same.refl H)⟩
  · rw [NoBl] at hb
    exact hb.elim
  · cases h1
    cases h2
    refine ⟨_, rfl, rfl, _, rfl, iteF ?_⟩
    refine ⟨_, rfl, _, _, .type "int", .type "list", false, rfl, .ty _, .base (.int i), kit_ty (by decide +kernel), _, rfl, iteF ?_⟩
    refine ⟨_, rfl, _, _, .type "int", .type "tuple", false, rfl, .ty _, .base (.int i), kit_ty (by decide +kernel), _, rfl, iteF ?_⟩
    refine ⟨_, rfl, _, _, .type "int", .type "str", false, rfl, .ty _, .base (.int i), kit_ty (by decide +kernel), _, rfl, iteF ?_⟩
    refine ⟨_, rfl, _, _, .type "int", .type "int", true, rfl, .ty _, .base (.int i), kit_ty (by decide +kernel), _, rfl, iteT ?_⟩
    refine ⟨_, rfl, _, _, .type "int", .type "bool", false, rfl, .ty _, .base (.int i), kit_ty (by decide +kernel), _, rfl, _, rfl, iteT ?_⟩
    refine ⟨_, rfl, _, rfl, rfl, ?_⟩
    rw [deq]
    exact q _ (Same.refl H)
  · cases h1
    cases h2
    refine ⟨_, rfl, rfl, _, rfl, iteF ?_⟩
    refine ⟨_, rfl, _, _, .type "str", .type "list", false, rfl, .ty _, .base (.str x), kit_ty (by decide +kernel), _, rfl, iteF ?_⟩
    refine ⟨_, rfl, _, _, .type "str", .type "tuple", false, rfl, .ty _, .base (.str x), kit_ty (by decide +kernel), _, rfl, iteF ?_⟩
    refine ⟨_, rfl, _, _, .type "str", .type "str", true, rfl, .ty _, .base (.str x), kit_ty (by decide +kernel), _, rfl, iteT ?_⟩
    refine ⟨_, rfl, _, _, .type "str", .type "str", true, rfl, .ty _, .base (.str x), kit_ty (by decide +kernel), _, rfl, iteT ?_⟩
    refine ⟨_, rfl, _, rfl, rfl, ?_⟩
    rw [deq]
    exact q _ (Same.refl H)
theorem ok_same0 {f : Addr} {fd : FuncData} {k : Nat} (F : Fun K "_law_same" "_law_same" sSame f fd) (mi : mg "isinstance" = none) (ml : mg "list" = none) (mt : mg "tuple" = none) (mb : mg "bool" = none) (ms : mg "str" = none) (mn : mg "int" = none) :
    FnOk P w K mg base CX0 (k + 1) f fd ["_law_found", "_law_due_here"] (spSame 0) := by
  refine F.ok scSame (fun vs H Q E h => ?_) (fun cdv A outer s H vs Q E hr h => ?_)
  · obtain ⟨v, u, d, rfl, _⟩ := h
    rfl
  · obtain ⟨v, u, d, rfl, h1, h2, hd, hb, q⟩ := h
    exact same_flat mi ml mt mb ms mn h1 h2 hd.flat hb q
theorem ok_sameS {f : Addr} {fd : FuncData} {n k : Nat} (F : Fun K "_law_same" "_law_same" sSame f fd) (C : Cal P w K mg base k "_law_same" ["_law_found", "_law_due_here"] (spSame n)) (mi : mg "isinstance" = none) (ml : mg "list" = none) (mt : mg "tuple" = none) (mb : mg "bool" = none) (ms : mg "str" = none) (mn : mg "int" = none) (me : mg "len" = none) (ma : mg "all" = none) (mz : mg "zip" = none) :
    FnOk P w K mg base CX0 (k + 1) f fd ["_law_found", "_law_due_here"] (spSame (n + 1)) := by
  refine F.ok scSame (fun vs H Q E h => ?_) (fun cdv A outer s H vs Q E hr h => ?_)
  · obtain ⟨v, u, d, rfl, _⟩ := h
    rfl
  · obtain ⟨v, u, d, rfl, h1, h2, hd, hb, q⟩ := h
    rcases hd.cases with hf | ⟨ds, rfl, hl, hall⟩ | ⟨ds, rfl, hl, hall⟩
    · exact same_flat mi ml mt mb ms mn h1 h2 hf hb q
    · refine ⟨_, pss_cons (ps_if (pt_cmpR op_isN (pv 1) pe_non (nomark _)) (pss_one (ps_ret (pe_cmpR op_isN (pv 0) pe_non (nomark _)))) pss_nil)
        (pss_cons (ps_if (PW.pt (pw_or (pt_val (pe_callB call_isi (by rfl) mi (by decide +kernel) (pa_cons (pv 1) (pa_cons (pe_bltn (v := .ty "list") (by rfl) ml (by decide +kernel) rfl) pa_nil)))) (pw_or1 (pt_val (pe_callB call_isi (by rfl) mi (by decide +kernel) (pa_cons (pv 1) (pa_cons (pe_bltn (v := .ty "tuple") (by rfl) mt (by decide +kernel) rfl) pa_nil)))))))
          (pss_cons (ps_if (pt_cmpR op_ne (pe_callB call_isi (by rfl) mi (by decide +kernel) (pa_cons (pv 0) (pa_cons (pe_bltn (v := .ty "list") (by rfl) ml (by decide +kernel) rfl) pa_nil))) (pe_callB call_isi (by rfl) mi (by decide +kernel) (pa_cons (pv 1) (pa_cons (pe_bltn (v := .ty "list") (by rfl) ml (by decide +kernel) rfl) pa_nil))) (nomark _)) (pss_one (ps_ret pe_bl)) pss_nil)
          (pss_cons (ps_if (PW.pt (pw_or (pt_cmpR op_ne (pe_callB call_isi (by rfl) mi (by decide +kernel) (pa_cons (pv 0) (pa_cons (pe_bltn (v := .ty "tuple") (by rfl) mt (by decide +kernel) rfl) pa_nil))) (pe_callB call_isi (by rfl) mi (by decide +kernel) (pa_cons (pv 1) (pa_cons (pe_bltn (v := .ty "tuple") (by rfl) mt (by decide +kernel) rfl) pa_nil))) (nomark _)) (pw_or1 (pt_cmpR op_ne (pe_callB call_len_seq (by rfl) me PySem.boot_len (pa_cons (pv 0) pa_nil)) (pe_callB call_len_seq (by rfl) me PySem.boot_len (pa_cons (pv 1) pa_nil)) (nomark _))))) (pss_one (ps_ret pe_bl)) pss_nil)
          (pss_one (ps_ret (pe_callB (cr_all rfl) (by rfl) ma (by decide +kernel) (pa_cons (pe_lc (own := [("_law_one", 2), ("_law_other", 3)]) (g := gTup K 2 (gCons (gName 2) (gCons (gName 3) gNil))) (tt := tYes) (te := tCall (spSame n) [] E0 (tCons (tVar 2) (tCons (tVar 3) tNil))) rfl scSame.nd (RZ.pi_zipA (by rfl) mz (pa_cons (pv 0) (pa_cons (pv 1) pa_nil)))
            (blkOk_by (own := [("_law_one", 2), ("_law_other", 3)]) (N := ["_law_found", "_law_due_here", "_law_one", "_law_other"]) (sc := defScope sSame) (by decide +kernel)) (fun _ _ _ _ _ => pg_tup rfl (pgs_cons (pg_name (i := 2) scSame.nd rfl (.inl rfl)) (pgs_cons (pg_name (i := 3) scSame.nd rfl (.inl rfl)) pgs_nil))) (fun _ _ _ _ _ => pts_nil)
            (fun _ _ _ _ _ => pe_own C hr (by rfl) (pa_cons (pv 2) (pa_cons (pv 3) pa_nil)))) pa_nil)))))) pss_nil) pss_never), ?_⟩
      cases h1 with | lst ea la da => ?_
      cases h2 with | lst eb lb db => ?_
      rename_i a xs b ys
      have deq : ∀ x : V, (decide (x = x)) = true := fun x => decide_eq_true rfl
      have hbl := noBls_all (by simpa only [NoBl] using hb)
      refine ⟨_, rfl, rfl, false, congrArg V.bl (decide_eq_false (fun z => nomatch z)), iteF ?_⟩
      refine ⟨_, rfl, _, _, .type "list", .type "list", true, rfl, .ty _, .base (.lst eb), kit_ty (by decide +kernel), _, rfl, iteT (iteT ?_)⟩
      refine ⟨_, rfl, _, _, .type "list", .type "list", true, rfl, .ty _, .base (.lst ea), kit_ty (by decide +kernel), _, rfl, _, _, .type "list", .type "list", true, rfl, .ty _, .base (.lst eb), kit_ty (by decide +kernel), rfl, false, congrArg V.bl (by rw [deq]; rfl), iteF ?_⟩
      refine ⟨_, rfl, _, _, .type "list", .type "tuple", false, rfl, .ty _, .base (.lst ea), kit_ty (by decide +kernel), _, rfl, _, _, .type "list", .type "tuple", false, rfl, .ty _, .base (.lst eb), kit_ty (by decide +kernel), rfl, false, congrArg V.bl (by rw [deq]; rfl), iteF ?_⟩
      refine ⟨_, rfl, a, xs, rfl, Sq.list ea, _, rfl, b, ys, rfl, Sq.list eb, rfl, false, congrArg V.bl (by rw [decide_eq_true (congrArg (fun n : Nat => V.int (n : Int)) (la.trans lb.symm))]; rfl), iteF ?_⟩
      refine ⟨_, rfl, _, rfl, a, b, xs, ys, rfl, .inl ⟨SqL.of ea, SqL.of eb, fun D nD => lc_it (walk_zip (K := K) (a := a) (b := b) (xs := xs) (ys := ys) (n := ds.length) (by rw [la, lb, Nat.min_self])) (fun j H' => Same H H' ∧ H' D = some (.lst ((List.replicate j true).map V.bl))) ⟨same_upd nD, upd_same⟩
        (fun j H' _ hP => ⟨SqL.of (hP.1 _ _ ea), SqL.of (hP.1 _ _ eb)⟩) (fun j x H' H'' hj hP hy => ?_) (fun H3 hP => ?_)⟩⟩
      · obtain ⟨sm', eD⟩ := hP
        obtain ⟨T, x1, x2, rfl, nT, rfl, f1, f2⟩ := hy
        have st := same_upd (o := .tup [x1, x2]) nT
        have hdj : ds[j]? = some ds[j] := List.getElem?_eq_getElem hj
        have S := sm'.trans st
        refine ⟨T, _, rfl, .inl (.inl upd_same), rfl, _, _, rfl, _, _, rfl, rfl, rfl, ?_⟩
        refine ⟨_, rfl, _, rfl, x1, x2, ds[j], rfl, (da j x1 _ f1 hdj).same S, (db j x2 _ f2 hdj).same S, hall _ (List.getElem_mem hj), hbl _ (List.getElem_mem hj), fun H4 s4 => ?_⟩
        refine ⟨_, s4 _ _ (st _ _ eD), small1000 (by rw [List.length_map, List.length_replicate]; omega), fun c o e => ?_, ?_⟩
        · rw [upd_ne (ne_of_none e nD)]
          exact s4 _ _ (st _ _ (sm' c o e))
        · rw [upd_same, List.replicate_succ', List.map_append]
          rfl
      · obtain ⟨sm', eD⟩ := hP
        refine ⟨D, List.replicate ds.length true, rfl, SqL.of eD, ?_⟩
        rw [all_true]
        exact q _ sm'
    · refine ⟨_, pss_cons (ps_if (pt_cmpR op_isN (pv 1) pe_non (nomark _)) (pss_one (ps_ret (pe_cmpR op_isN (pv 0) pe_non (nomark _)))) pss_nil)
        (pss_cons (ps_if (PW.pt (pw_or (pt_val (pe_callB call_isi (by rfl) mi (by decide +kernel) (pa_cons (pv 1) (pa_cons (pe_bltn (v := .ty "list") (by rfl) ml (by decide +kernel) rfl) pa_nil)))) (pw_or1 (pt_val (pe_callB call_isi (by rfl) mi (by decide +kernel) (pa_cons (pv 1) (pa_cons (pe_bltn (v := .ty "tuple") (by rfl) mt (by decide +kernel) rfl) pa_nil)))))))
          (pss_cons (ps_if (pt_cmpR op_ne (pe_callB call_isi (by rfl) mi (by decide +kernel) (pa_cons (pv 0) (pa_cons (pe_bltn (v := .ty "list") (by rfl) ml (by decide +kernel) rfl) pa_nil))) (pe_callB call_isi (by rfl) mi (by decide +kernel) (pa_cons (pv 1) (pa_cons (pe_bltn (v := .ty "list") (by rfl) ml (by decide +kernel) rfl) pa_nil))) (nomark _)) (pss_one (ps_ret pe_bl)) pss_nil)
          (pss_cons (ps_if (PW.pt (pw_or (pt_cmpR op_ne (pe_callB call_isi (by rfl) mi (by decide +kernel) (pa_cons (pv 0) (pa_cons (pe_bltn (v := .ty "tuple") (by rfl) mt (by decide +kernel) rfl) pa_nil))) (pe_callB call_isi (by rfl) mi (by decide +kernel) (pa_cons (pv 1) (pa_cons (pe_bltn (v := .ty "tuple") (by rfl) mt (by decide +kernel) rfl) pa_nil))) (nomark _)) (pw_or1 (pt_cmpR op_ne (pe_callB call_len_seq (by rfl) me PySem.boot_len (pa_cons (pv 0) pa_nil)) (pe_callB call_len_seq (by rfl) me PySem.boot_len (pa_cons (pv 1) pa_nil)) (nomark _))))) (pss_one (ps_ret pe_bl)) pss_nil)
          (pss_one (ps_ret (pe_callB (cr_all rfl) (by rfl) ma (by decide +kernel) (pa_cons (pe_lc (own := [("_law_one", 2), ("_law_other", 3)]) (g := gTup K 2 (gCons (gName 2) (gCons (gName 3) gNil))) (tt := tYes) (te := tCall (spSame n) [] E0 (tCons (tVar 2) (tCons (tVar 3) tNil))) rfl scSame.nd (RZ.pi_zipA (by rfl) mz (pa_cons (pv 0) (pa_cons (pv 1) pa_nil)))
            (blkOk_by (own := [("_law_one", 2), ("_law_other", 3)]) (N := ["_law_found", "_law_due_here", "_law_one", "_law_other"]) (sc := defScope sSame) (by decide +kernel)) (fun _ _ _ _ _ => pg_tup rfl (pgs_cons (pg_name (i := 2) scSame.nd rfl (.inl rfl)) (pgs_cons (pg_name (i := 3) scSame.nd rfl (.inl rfl)) pgs_nil))) (fun _ _ _ _ _ => pts_nil)
            (fun _ _ _ _ _ => pe_own C hr (by rfl) (pa_cons (pv 2) (pa_cons (pv 3) pa_nil)))) pa_nil)))))) pss_nil) pss_never), ?_⟩
      cases h1 with | tup ea la da => ?_
      cases h2 with | tup eb lb db => ?_
      rename_i a xs b ys
      have deq : ∀ x : V, (decide (x = x)) = true := fun x => decide_eq_true rfl
      have hbl := noBls_all (by simpa only [NoBl] using hb)
      refine ⟨_, rfl, rfl, false, congrArg V.bl (decide_eq_false (fun z => nomatch z)), iteF ?_⟩
      refine ⟨_, rfl, _, _, .type "tuple", .type "list", false, rfl, .ty _, .base (.tup eb), kit_ty (by decide +kernel), _, rfl, iteF ?_⟩
      refine ⟨_, rfl, _, _, .type "tuple", .type "tuple", true, rfl, .ty _, .base (.tup eb), kit_ty (by decide +kernel), _, rfl, iteT ?_⟩
      refine ⟨_, rfl, _, _, .type "tuple", .type "list", false, rfl, .ty _, .base (.tup ea), kit_ty (by decide +kernel), _, rfl, _, _, .type "tuple", .type "list", false, rfl, .ty _, .base (.tup eb), kit_ty (by decide +kernel), rfl, false, congrArg V.bl (by rw [deq]; rfl), iteF ?_⟩
      refine ⟨_, rfl, _, _, .type "tuple", .type "tuple", true, rfl, .ty _, .base (.tup ea), kit_ty (by decide +kernel), _, rfl, _, _, .type "tuple", .type "tuple", true, rfl, .ty _, .base (.tup eb), kit_ty (by decide +kernel), rfl, false, congrArg V.bl (by rw [deq]; rfl), iteF ?_⟩
      refine ⟨_, rfl, a, xs, rfl, Sq.tup ea, _, rfl, b, ys, rfl, Sq.tup eb, rfl, false, congrArg V.bl (by rw [decide_eq_true (congrArg (fun n : Nat => V.int (n : Int)) (la.trans lb.symm))]; rfl), iteF ?_⟩
      refine ⟨_, rfl, _, rfl, a, b, xs, ys, rfl, .inr ⟨.inl (.inl ea), .inl (.inl eb), fun D nD => lc_it (walk_zipTs (K := K) (a := a) (b := b) (xs := xs) (ys := ys) (n := ds.length) la lb) (fun j H' => Same H H' ∧ H' D = some (.lst ((List.replicate j true).map V.bl))) ⟨same_upd nD, upd_same⟩
        (fun j H' _ hP => ⟨.inl (.inl (hP.1 _ _ ea)), .inl (.inl (hP.1 _ _ eb))⟩) (fun j x H' H'' hj hP hy => ?_) (fun H3 hP => ?_)⟩⟩
      · obtain ⟨sm', eD⟩ := hP
        obtain ⟨T, x1, x2, rfl, nT, rfl, f1, f2⟩ := hy
        have st := same_upd (o := .tup [x1, x2]) nT
        have hdj : ds[j]? = some ds[j] := List.getElem?_eq_getElem hj
        have S := sm'.trans st
        refine ⟨T, _, rfl, .inl (.inl upd_same), rfl, _, _, rfl, _, _, rfl, rfl, rfl, ?_⟩
        refine ⟨_, rfl, _, rfl, x1, x2, ds[j], rfl, (da j x1 _ f1 hdj).same S, (db j x2 _ f2 hdj).same S, hall _ (List.getElem_mem hj), hbl _ (List.getElem_mem hj), fun H4 s4 => ?_⟩
        refine ⟨_, s4 _ _ (st _ _ eD), small1000 (by rw [List.length_map, List.length_replicate]; omega), fun c o e => ?_, ?_⟩
        · rw [upd_ne (ne_of_none e nD)]
          exact s4 _ _ (st _ _ (sm' c o e))
        · rw [upd_same, List.replicate_succ', List.map_append]
          rfl
      · obtain ⟨sm', eD⟩ := hP
        refine ⟨D, List.replicate ds.length true, rfl, SqL.of eD, ?_⟩
        rw [all_true]
        exact q _ sm'
end

/-! ## sum(.. for a, b, c in ..): a generator expression with three names, no test -/
namespace G3
open PySem PySem.Spec PyProof.Rows L2 GxR
/-- no item is left out -/
abbrev allOf : Nat → Bool := fun _ => true
section
variable {prog : Program} {w : World} {A : Around} {elt iter : Expr} {xa xb xc : Str} {pa pb pc pt pos : Pos} {kt : Nat} {sc : Scope}
abbrev gx (elt iter : Expr) (xa xb xc : Str) (pa pb pc pt : Pos) (kt : Nat) (sc : Scope) (pos : Pos) : Expr := .GeneratorExp elt [⟨.Tuple [.Name xa pa, .Name xb pb, .Name xc pc] kt pt, iter, [], 0⟩] sc pos
/-- what the element gives at the i-th triple, in any heap in which what stood at href still stands -/
def Elt3 (prog : Program) (w : World) (cenv : Env) (xa xb xc : Str) (elt : Expr) (foot writes : List Addr) (Hold : Nat → Array Value → Prop) (Gives : Nat → Value → Prop) (href : Heap) : Prop :=
  ∀ (A' : Around) (E' : Value → Shared → Prop) (i : Nat) (u v x : Value) (s2 : Shared) (m : Str → Option Value), A'.handled = none → Hold i #[u, v, x] → s2.heap.Ns cenv.locals m → m xa = some u → m xb = some v → m xc = some x →
    (∀ b ∈ foot, b ∉ writes → ∀ o, href.get? b = some o → s2.heap.get? b = some o) → wpAny (model prog w) A' (eval elt cenv) (fun y s3 => Gives i y ∧ Keeps s2 s3) E' s2
/-- the scope of the expression: three unlike locals -/
structure Env3 (cenv : Env) (xa xb xc : Str) (foot : List Addr) : Prop where
  ka : cenv.kindOf xa = some .local
  kb : cenv.kindOf xb = some .local
  kc : cenv.kindOf xc = some .local
  ab : xa ≠ xb
  ac : xa ≠ xc
  bc : xb ≠ xc
  plain : (cenv.scope.kind == .class || (cenv.scope.kind == .module && cenv.locals != cenv.globals)) = false
  sync : cenv.scope.isCoroutine = false
  out : cenv.locals ∉ foot
theorem loop3 {I : Addr} {foot writes : List Addr} {n : Nat} {Hold : Nat → Array Value → Prop} {At : Nat → Heap → Prop} {Mid : Nat → Addr → Heap → Prop} {cenv : Env} {Gives : Nat → Value → Prop} {href : Heap}
    (calm : A.handled = none) (W : ∀ A' : Around, A'.handled = none → WalksU prog w A' I foot writes n Hold At Mid) (three : ∀ i xs, Hold i xs → ∃ u v x, xs = #[u, v, x]) (N : Env3 cenv xa xb xc foot) (elts : Elt3 prog w cenv xa xb xc elt foot writes Hold Gives href) :
    ∀ (k i : Nat) (s0 s : Shared) (m : Str → Option Value), n - i = k → i ≤ n → At i s.heap → s.heap.Ns cenv.locals m → GenSince cenv.locals writes s0 s → (∀ b ∈ foot, b ∉ writes → ∀ o, href.get? b = some o → s.heap.get? b = some o) →
      Seg (model prog w) A (fun n s0 r s1 => r = .ok .next ∧ (n = 0 ∧ GenSince cenv.locals writes s0 s1)) (genProto cenv.locals foot writes allOf n Gives) (passing allOf n i).length s0
        (.compLoop (gx elt iter xa xb xc pa pb pc pt kt sc pos) 0 (.ref I) .none cenv) ((model prog w).den (.compLoop (gx elt iter xa xb xc pa pb pc pt kt sc pos) 0 (.ref I) .none cenv)) [] s := by
  have calm' : (A.over (.compLoop (gx elt iter xa xb xc pa pb pc pt kt sc pos) 0 (.ref I) .none cenv) []).handled = none := calm
  have lw : cenv.locals ∉ writes := fun z => N.out ((W A calm).sub _ z)
  intro k
  induction k with
  | zero =>
    intro i s0 s m hk hi at_ ns since still
    obtain rfl : i = n := by omega
    show Seg _ A _ _ _ s0 _ ((compTurn (gx elt iter xa xb xc pa pb pc pt kt sc pos) 0 (.ref I) .none cenv).onRaise (leaving cenv)) [] s
    rw [compTurn_gen, Sem.onRaise_eq_wrap]
    refine seg_bind_wrap (wpAny_standAt (seg_bind_wrap ((W _ calm').done s _ _ at_ fun h' tk kept => ?_)))
    exact seg_end (.ok .next) ⟨rfl, by rw [passing_end]; rfl, since.step fun b o _ hw e => kept b o hw e⟩
  | succ k ih =>
    intro i s0 s m hk hi at_ ns since still
    have lt : i < n := by omega
    show Seg _ A _ _ _ s0 _ ((compTurn (gx elt iter xa xb xc pa pb pc pt kt sc pos) 0 (.ref I) .none cenv).onRaise (leaving cenv)) [] s
    rw [compTurn_gen, Sem.onRaise_eq_wrap]
    refine seg_bind_wrap (wpAny_standAt (seg_bind_wrap ((W _ calm').item i s _ _ lt at_ fun T xs h1 tk1 hold isT mid k1 => ?_)))
    obtain ⟨u, v, x, rfl⟩ := three i xs hold
    refine seg_bind_wrap ((W _ calm').go _ _ _ i T _ _ _ mid fun h2 at2 k2 => ?_)
    have isT2 : h2.IsTuple T #[u, v, x] := let ⟨o, e, r⟩ := isT; ⟨o, k2 _ o ((W _ calm').apart i T _ mid) e, r⟩
    refine seg_bind_wrap (wpAny_assign_Tuple calm' isT2 rfl rfl fun h3 ext3 => ?_)
    have old3 : ∀ b o, h2.get? b = some o → h3.get? b = some o := fun b o e => ext3 b o (Nat.ne_of_lt (Heap.lt_size e)) e
    show wpAny _ _ (do holding [v, x] (assign (.Name xa pa) cenv u); do holding [x] (assign (.Name xb pb) cenv v); do holding [] (assign (.Name xc pc) cenv x); pure ()) _ _ _
    refine wpAny_bind (wpAny_holding (wpAny_assign_Name (wpAny_storeName_local N.ka (ns.at' fun o e => old3 _ o (k2 _ o lw (k1 _ o lw e))) (fun h4 ns4 sb4 => ?_) N.plain)))
    refine wpAny_bind (wpAny_holding (wpAny_assign_Name (wpAny_storeName_local N.kb ns4 (fun h5 ns5 sb5 => ?_) N.plain)))
    refine wpAny_bind (wpAny_holding (wpAny_assign_Name (wpAny_storeName_local N.kc ns5 (fun h6 ns6 sb6 => wpAny_pure ?_) N.plain)))
    have on : ∀ b o, b ≠ cenv.locals → h2.get? b = some o → h6.get? b = some o := fun b o hb e => sb6.extBut b o hb (sb5.extBut b o hb (sb4.extBut b o hb (old3 b o e)))
    have up : ∀ b o, b ≠ cenv.locals → b ∉ writes → s.heap.get? b = some o → h6.get? b = some o := fun b o hb hw e => on b o hb (k2 b o hw (k1 b o hw e))
    have no : ∀ b ∈ foot, b ≠ cenv.locals := fun b hb z => N.out (z ▸ hb)
    have at6 : At (i + 1) h6 := (W A calm).frame _ _ _ at2 fun b hb o e => on b o (no b hb) e
    have still6 : ∀ b ∈ foot, b ∉ writes → ∀ o, href.get? b = some o → h6.get? b = some o := fun b hb hw o e => up b o (no b hb) hw (still b hb hw o e)
    refine seg_bind_wrap ?_
    rw [List.forIn_nil]
    refine wpAny_pure ?_
    rw [passing_true lt rfl, List.length_cons]
    simp only [if_true]
    have out : ∀ y, yieldOut cenv y = yieldValue y := fun y => by simp only [yieldOut, N.sync, Bool.false_eq_true, if_false]
    simp only [out]
    rw [Sem.bind_eq_wrap', Sem.bind_eq_wrap', Sem.wrap_wrap, Sem.wrap_wrap]
    refine seg_wrap (wpAny_mono (elts _ _ i u v x _ _ calm' hold ns6 (by simp [N.ab, N.ac]) (by simp [N.bc]) (by simp) still6) (fun y s7 r => ?_) fun _ _ e => e)
    obtain ⟨gives, h7, tk7, rfl, k7⟩ := r
    refine seg_at (seg_yield rfl rfl rfl ⟨⟨i, passing_here lt rfl, gives⟩, since.step fun b o hb hw e => k7 b o (up b o hb hw e), fun s8 al => ?_⟩)
    exact seg_again rfl (ih (i + 1) s8 s8 _ (by omega) lt ((W A calm).frame _ _ _ at6 fun b hb o e => al b (List.mem_cons_of_mem _ hb) o (k7 b o e)) ((ns6.keeps k7).at' fun o e => al _ (List.mem_cons_self ..) o e) (GenSince.refl _ _ _)
      fun b hb hw o e => al b (List.mem_cons_of_mem _ hb) o (k7 b o (still6 b hb hw o e)))
theorem start3 {I : Addr} {foot writes : List Addr} {n : Nat} {Hold : Nat → Array Value → Prop} {At : Nat → Heap → Prop} {Mid : Nat → Addr → Heap → Prop} {cenv : Env} {Gives : Nat → Value → Prop} {href : Heap}
    (calm : A.handled = none) (W : ∀ A' : Around, A'.handled = none → WalksU prog w A' I foot writes n Hold At Mid) (three : ∀ i xs, Hold i xs → ∃ u v x, xs = #[u, v, x]) (N : Env3 cenv xa xb xc foot) (elts : Elt3 prog w cenv xa xb xc elt foot writes Hold Gives href)
    (s0 s : Shared) (m : Str → Option Value) (at_ : At 0 s.heap) (ns : s.heap.Ns cenv.locals m) (since : GenSince cenv.locals writes s0 s) (still : ∀ b ∈ foot, b ∉ writes → ∀ o, href.get? b = some o → s.heap.get? b = some o) :
    Seg (model prog w) A (fun n s0 r s1 => r = .ok .next ∧ (n = 0 ∧ GenSince cenv.locals writes s0 s1)) (genProto cenv.locals foot writes allOf n Gives) (passing allOf n 0).length s0
      (.compStart (gx elt iter xa xb xc pa pb pc pt kt sc pos) 0 (.ref I) .none cenv) ((model prog w).den (.compStart (gx elt iter xa xb xc pa pb pc pt kt sc pos) 0 (.ref I) .none cenv)) [] s := by
  have calm' : (A.over (.compStart (gx elt iter xa xb xc pa pb pc pt kt sc pos) 0 (.ref I) .none cenv) []).handled = none := calm
  have loop := loop3 (iter := iter) (pa := pa) (pb := pb) (pc := pc) (pt := pt) (kt := kt) (sc := sc) (pos := pos) calm W three N elts n 0 s0 s m (Nat.sub_zero _) (Nat.zero_le _) at_ ns since still
  show Seg _ A _ _ _ s0 _ ((compStart (gx elt iter xa xb xc pa pb pc pt kt sc pos) 0 (.ref I) .none cenv).onRaise (leaving cenv)) [] s
  unfold compStart
  rw [Sem.onRaise_eq_wrap]
  show Seg _ A _ _ _ s0 _ ((ask >>= _).wrap _ _ _ _) [] s
  refine seg_bind_wrap (wpAny_askSetting ?_)
  split
  · exact seg_again rfl loop
  · first
      | exact seg_bind_wrap (wpAny_rule (seg_bind_wrap (wpAny_standAt (seg_bind_wrap ((W _ calm').self 0 s _ _ at_ (seg_again rfl loop))))))
      | (refine seg_bind_wrap (wpAny_rule ?_); show Seg _ A _ _ _ s0 _ ((standAt iter.pos >>= _).wrap _ _ _ _) [] s; exact seg_bind_wrap (wpAny_standAt (seg_bind_wrap ((W _ calm').self 0 s _ _ at_ (seg_again rfl loop)))))
theorem fresh3 {I a : Addr} {g : Nat} {foot writes : List Addr} {n : Nat} {Hold : Nat → Array Value → Prop} {At : Nat → Heap → Prop} {Mid : Nat → Addr → Heap → Prop} {cenv : Env} {Gives : Nat → Value → Prop} {s : Shared} {m : Str → Option Value}
    (calm : A.handled = none) (W : ∀ A' : Around, A'.handled = none → WalksU prog w A' I foot writes n Hold At Mid) (three : ∀ i xs, Hold i xs → ∃ u v x, xs = #[u, v, x]) (N : Env3 cenv xa xb xc foot) (elts : Elt3 prog w cenv xa xb xc elt foot writes Hold Gives s.heap)
    (isG : s.heap.IsGen a g) (state : s.gens[g]? = some (.fresh (.compStart (gx elt iter xa xb xc pa pb pc pt kt sc pos) 0 (.ref I) .none cenv))) (at_ : At 0 s.heap) (ns : s.heap.Ns cenv.locals m) (quiet : s.heap.NoLimit) : GenAt prog w A a g cenv.locals foot writes allOf n Gives 0 s :=
  ⟨isG, quiet, _, state, fun s8 al => ⟨rfl, start3 (A := A.in1) calm W three N elts s8 s8 m ((W A calm).frame _ _ _ at_ fun b hb o e => al b (List.mem_cons_of_mem _ hb) o e) (ns.at' fun o e => al _ (List.mem_cons_self ..) o e) (GenSince.refl _ _ _) fun b hb _ o e => al b (List.mem_cons_of_mem _ hb) o e⟩⟩
end
end G3

namespace G3
open PySem PySem.Spec PyProof.Rows L2 GxR GP
/-- a part: its mark, its first tin, its last -/
abbrev Part := Str × Int × Int
/-- a part where it stands -/
def PtV (H : Hp) (v : V) (p : Part) : Prop := ∃ a, v = .ref a ∧ H a = some (.tup [.str p.1, .int p.2.1, .int p.2.2])
def Pts (H : Hp) (vs : List V) (ps : List Part) : Prop := vs.length = ps.length ∧ ∀ (i : Nat) v p, vs[i]? = some v → ps[i]? = some p → PtV H v p
/-- what the machine holds of a part -/
def Is3 (p : Part) (xs : Array Value) : Prop := ∃ t1 t2 t3, xs = #[.str p.1 t1, .int p.2.1 t2, .int p.2.2 t3]
section
variable {X : Cx} {s : Shared} {H : Hp} {σ : L2.St} {pins : List (Addr × Obj)}
theorem part_in {T : Addr} {p : Part} (I : Inv X pins σ H s) (e : H T = some (.tup [.str p.1, .int p.2.1, .int p.2.2])) : ∃ xs, s.heap.IsTuple T xs ∧ Is3 p xs := by
  obtain ⟨_, its, r, t⟩ := I.hok T _ e
  cases r with
  | cons q1 r =>
    cases r with
    | cons q2 r =>
      cases r with
      | cons q3 r =>
        cases r
        obtain ⟨t1, rfl⟩ := q1
        obtain ⟨t2, rfl⟩ := q2
        obtain ⟨t3, rfl⟩ := q3
        exact ⟨_, t, t1, t2, t3, rfl⟩
theorem parts_in {vs : List V} {ps : List Part} {its : List Value} (I : Inv X pins σ H s) (hp : Pts H vs ps) (r : Vals vs its) :
    ∃ (loc : Nat → Addr) (held : Nat → Array Value), ∀ j, j < ps.length → its[j]? = some (.ref (loc j)) ∧ s.heap.IsTuple (loc j) (held j) ∧ ∃ p, ps[j]? = some p ∧ Is3 p (held j) := by
  have one : ∀ j, ∃ (T : Addr) (xs : Array Value), j < ps.length → its[j]? = some (.ref T) ∧ s.heap.IsTuple T xs ∧ ∃ p, ps[j]? = some p ∧ Is3 p xs := fun j => by
    by_cases hj : j < ps.length
    · have hv : j < vs.length := by rw [hp.1]; exact hj
      obtain ⟨T, e1, e2⟩ := hp.2 j _ _ (List.getElem?_eq_getElem hv) (List.getElem?_eq_getElem hj)
      obtain ⟨u, eu, ru⟩ := r.get (List.getElem?_eq_getElem hv)
      rw [e1] at ru
      cases ru
      obtain ⟨xs, t, h3⟩ := part_in I e2
      exact ⟨T, xs, fun _ => ⟨eu, t, _, List.getElem?_eq_getElem hj, h3⟩⟩
    · exact ⟨0, #[], fun z => absurd z hj⟩
  exact ⟨fun j => (one j).choose, fun j => (one j).choose_spec.choose, fun j hj => (one j).choose_spec.choose_spec hj⟩
/-- a walk over the parts, begun at the new iterator that o is -/
def Begun3 (X : Cx) (s : Shared) (P : Addr) (ps : List Part) (o : Obj) : Prop :=
  ∃ (foot : List Addr) (Hold : Nat → Array Value → Prop) (At : Nat → Heap → Prop) (Mid : Nat → Addr → Heap → Prop),
    (∀ A' : Around, A'.handled = none → WalksU X.prog X.w A' s.heap.objs.size foot [s.heap.objs.size] ps.length (fun j xs => j < ps.length ∧ Hold j xs) At Mid) ∧
    (∀ j xs, j < ps.length → Hold j xs → ∃ p, ps[j]? = some p ∧ Is3 p xs) ∧ At 0 (s.heap.push o) ∧ ∀ b ∈ foot, b < s.heap.objs.size + 1 ∧ b ≠ P
theorem begin_parts {a P : Addr} {vs : List V} {ps : List Part} {tb : Array Value} {Q' : Value → Shared → Prop} (I : Inv X pins σ H s) (hS : SqL X.K H a vs ∨ SqT X.K H a vs) (hp : Pts H vs ps) (hP : H P = some (.tbl tb))
    (fin : ∀ o, Begun3 X s P ps o → Q' (.ref s.heap.objs.size) { s with heap := s.heap.push o }) : wpAny (model X.prog X.w) X.A (pyIter (.ref a)) Q' X.xe s := by
  have hPo : s.heap.get? P = some { cls := .none, data := .fields tb } := I.hok P _ hP
  have notP : ∀ (b : Addr) (o : Obj) (xs : Array Value) (n : Nat), s.heap.get? b = some o → o.data = .seq xs n → b ≠ P := fun b o xs n e d z => by
    subst z
    cases hPo.symm.trans e
    cases d
  have newP : s.heap.objs.size ≠ P := (Nat.ne_of_lt (Heap.lt_size hPo)).symm
  have mk : ∀ (its : List Value) (o : Obj) (At : Nat → Heap → Prop), Vals vs its → a < s.heap.objs.size → a ≠ P → At 0 (s.heap.push o) →
      (∀ A' : Around, A'.handled = none → Walks X.prog X.w A' s.heap.objs.size [s.heap.objs.size, a] [s.heap.objs.size] its.toArray.size (fun i v => its.toArray[i]? = some v) At) →
      (∀ (A' : Around) (es : List Expr) (k : Nat) (pos : Pos) (j : Nat) (T : Addr) (s' : Shared) (Q : Unit → Shared → Prop) (E : Value → Shared → Prop), At j s'.heap → Q () s' → wpAny (model X.prog X.w) A' (letOwnedTupleGo (.Tuple es k pos) (.ref s.heap.objs.size) (.ref T)) Q E s') →
      Begun3 X s P ps o := by
    intro its o At r ha haP a0 W go
    obtain ⟨loc, held, hl⟩ := parts_in I hp r
    have ln : its.toArray.size = ps.length := by rw [List.size_toArray, ← r.length, hp.1]
    have below : ∀ m, m < ps.length → loc m < s.heap.objs.size ∧ loc m ≠ P := fun m hm => by
      obtain ⟨_, ⟨ob, e, _, n, d⟩, _⟩ := hl m hm
      exact ⟨Heap.lt_size e, notP _ _ _ _ e d⟩
    refine ⟨_, _, _, _, fun A' hA => (asTuples (ln ▸ W A' hA) loc held (fun j v hj e => ?_) (fun j hj => Nat.ne_of_lt (below j hj).1) (fun es k pos j T s' Q E => go A' es k pos j T s' Q E)).bound, fun j xs hj e => ?_, ⟨a0, fun m hm => ?_⟩, fun b hb => ?_⟩
    · have e2 : its[j]? = some v := by simpa using e
      exact (Option.some.inj ((hl j hj).1.symm.trans e2)).symm
    · obtain ⟨_, _, p, e1, e2⟩ := hl j hj
      exact ⟨p, e1, (show xs = held j from e) ▸ e2⟩
    · obtain ⟨_, ⟨ob, e, rest⟩, _⟩ := hl m hm
      exact ⟨ob, Heap.get?_push_of_some _ e, rest⟩
    · rcases List.mem_append.mp hb with z | z
      · rcases List.mem_cons.mp z with e | e
        · rw [e]; exact ⟨Nat.lt_succ_self _, newP⟩
        · rw [List.mem_singleton.mp e]; exact ⟨Nat.lt_succ_of_lt ha, haP⟩
      · obtain ⟨m, hm, e⟩ := List.mem_map.mp z
        obtain ⟨h1, h2⟩ := below m (List.mem_range.mp hm)
        exact e ▸ ⟨Nat.lt_succ_of_lt h1, h2⟩
  rcases hS with hS | hS
  · obtain ⟨its, r, hl, _⟩ := I.list hS
    obtain ⟨o, e, c, n, d⟩ := hl.isList
    refine wpAny_pyIter_list hl.isList (fin _ (mk its _ _ r (Heap.lt_size e) (notP _ _ _ _ e d) ⟨⟨_, Heap.get?_push_size _ rfl, rfl, rfl⟩, ⟨o, Heap.get?_push_of_some _ e, c, n, d⟩⟩ (fun A' hA => Walks.list hA _ a (Nat.ne_of_lt (Heap.lt_size e)) its.toArray) ?_))
    exact fun A' es k pos j T s' Q E at_ q => wpAny_letOwnedTupleGo_listiter at_.1 q
  · obtain ⟨its, r, ⟨o, e, c, n, d⟩, _⟩ := I.tuple hS
    refine wpAny_pyIter_tuple (items := its.toArray) ⟨o, e, c, n, d⟩ (fin _ (mk its _ _ r (Heap.lt_size e) (notP _ _ _ _ e d) ⟨⟨_, Heap.get?_push_size _ rfl, rfl, rfl⟩, ⟨o, Heap.get?_push_of_some _ e, c, n, d⟩⟩ (fun A' hA => Walks.tuple hA _ a (Nat.ne_of_lt (Heap.lt_size e)) its.toArray) ?_))
    exact fun A' es k pos j T s' Q E at_ q => letGo_tupleiter at_.1 q
/-- what is asked of the expression's own scope -/
structure Own3 (env : Env) (sc : Scope) (xa xb xc : Str) : Prop where
  fn : sc.kind = .function
  sync : sc.isCoroutine = false
  dot : sc.names.lookup (".0" : Str) = some .local
  ka : sc.names.lookup xa = some .local
  kb : sc.names.lookup xb = some .local
  kc : sc.names.lookup xc = some .local
  ab : xa ≠ xb
  ac : xa ≠ xc
  bc : xb ≠ xc
  noCell : ∀ y ∈ sc.names, y.2 ≠ NameKind.cell
  free : ∀ y ∈ sc.names, y.2 = NameKind.free → ∃ c, env.cells.lookup y.1 = some c
/-- the element at a part, wherever the expression runs later -/
def EltAt3 (X : Cx) (s₁ : Shared) (P : Addr) (sc : Scope) (xa xb xc : Str) (elt : Expr) (Gives : Part → Value → Prop) : Prop :=
  ∀ (L : Addr) (code : Value) (A' : Around) (E' : Value → Shared → Prop) (p : Part) (t1 t2 t3 : Tok) (s₂ : Shared) (m : Str → Option Value), A'.handled = none →
    (∀ x o, x ≠ P → s₁.heap.get? x = some o → s₂.heap.get? x = some o) → s₂.heap.Ns L m → m xa = some (.str p.1 t1) → m xb = some (.int p.2.1 t2) → m xc = some (.int p.2.2 t3) →
    wpAny (model X.prog X.w) A' (eval elt (genEnv sc (cloFrom X.env.cells sc.names []) L code builtinsNs X.env)) (fun y s₃ => Gives p y ∧ Keeps s₂ s₃) E' s₂
/-- the generator at g before its first item -/
def Fresh3 (X : Cx) (pins : List (Addr × Obj)) (σ : L2.St) (H₁ : Hp) (P : Addr) (ps : List Part) (Gives : Part → Value → Prop) (g : Addr) (s₅ : Shared) : Prop :=
  ∃ (foot writes : List Addr) (Gens : Array GenState → Array GenState → Prop) (Item : Nat → Value → Prop) (At : Nat → Shared → Prop),
    (WalksS X.prog X.w X.A.in1 g foot writes Gens ps.length Item At ∧ At 0 s₅ ∧ ∀ b ∈ foot, b < s₅.heap.objs.size) ∧
    (∀ j v, Item j v → ∃ p, ps[j]? = some p ∧ Gives p v) ∧ ∀ s₆, Moved writes Gens s₅ s₆ → ∃ H₂, Tabbed P H₁ H₂ ∧ Inv X pins σ H₂ s₆
theorem made3 {c P : Addr} {elt iter : Expr} {xa xb xc : Str} {pa pb pc pt gpos : Pos} {kt : Nat} {sc : Scope} {te : TE} {k : Nat} {Q' : Value → Shared → Prop} {Want : List Part → Hp → Prop} {Gives : Part → Value → Prop}
    (room : Room k X.A) (TB : TabB X.base X.mg c P) (hcode : X.env.code = .ref c) (own : Own3 X.env sc xa xb xc) (walked : PE X iter te) (plain : ∀ v, genFold iter X.env v = pure v) (I : Inv X pins σ H s)
    (each : ∀ s₁ H₁, Inv X pins σ H₁ s₁ → TabG H₁ P → EltAt3 X s₁ P sc xa xb xc elt Gives)
    (h : te σ H fun v H₁ => ∃ (a : Addr) (vs : List V) (ps : List Part), v = .ref a ∧ (SqL X.K H₁ a vs ∨ SqT X.K H₁ a vs) ∧ Pts H₁ vs ps ∧ TabG H₁ P ∧ Want ps H₁)
    (fin : ∀ ps H₁ g s₅, Want ps H₁ → Fresh3 X pins σ H₁ P ps Gives g s₅ → Q' (.ref g) s₅) :
    wpAny (model X.prog X.w) X.A (eval (gx elt iter xa xb xc pa pb pc pt kt sc gpos) X.env) Q' X.xe s := by
  have deep : X.A.depth < recursionLimit := by have := room.dp; omega
  refine wpAny_GeneratorExp_make own.sync (closure_ok own.free) own.noCell own.dot own.fn deep (thn (walked.run pins s σ H _ I h) fun u s₁ had => ?_) plain
  obtain ⟨_, H₁, I₁, rel, a, vs, ps, rfl, hS, hp, ⟨tb, hP, ok⟩, want⟩ := had
  cases rel
  have tabAt : s₁.heap.get? P = some { cls := .none, data := .fields tb } := I₁.hok P _ hP
  refine begin_parts I₁ hS hp hP fun o beg => ?_
  obtain ⟨foot, Hold, At, Mid, W, holds, at0, low⟩ := beg
  have statics : cStatics < s₁.heap.objs.size ∧ cStatics ≠ P := by
    obtain ⟨_, ns, _⟩ := I₁.nolimit
    refine ⟨ns.lt, fun z => ?_⟩
    obtain ⟨ob, _, _, e, d, _⟩ := ns
    rw [z] at e
    cases tabAt.symm.trans e
    cases d
  have quiet : (s₁.heap.push o).NoLimit := I₁.nolimit.push o
  refine ⟨quiet, code_there hcode (TB.code.keeps fun b u e => Heap.get?_push_of_some _ (I₁.bk b u e)) (Heap.get?_push_of_some _ tabAt) ok fun code h₃ tk more ext le tab₃ ok₃ => ?_⟩
  rw [Heap.size_push] at le
  have stays : ∀ b u, b ≠ P → s₁.heap.get? b = some u → h₃.get? b = some u := fun b u hb e => ext b u hb (Heap.get?_push_of_some _ e)
  obtain ⟨bm, ob, f1, f2, f3, f4, f5, f6, f7, f8⟩ := TB.bm
  have globals : Heap.Ns h₃ X.env.globals X.mg := by
    rw [I₁.ok.glob]
    exact ((I₁.mod.glob.keeps I₁.bk).push o).extBut ext TB.gP
  refine wpAny_builtinsFor (m := X.mg) globals f1 f2 (stays bm ob f4 (I₁.bk bm ob f5)) f6 f7 f8 ?_
  have later : ∀ b u, s₁.heap.get? b = some u → b ∉ [h₃.objs.size, s₁.heap.objs.size] := fun b u e z => by
    have lt := Heap.lt_size e
    rcases List.mem_cons.mp z with z' | z'
    · exact Nat.lt_irrefl _ (Nat.lt_of_lt_of_le (z' ▸ lt) (Nat.le_of_succ_le le))
    · exact Nat.lt_irrefl _ (List.mem_singleton.mp z' ▸ lt)
  -- the frame of the expression is laid
  intro h' hn' hs'
  have size' : h'.objs.size = h₃.objs.size + 1 := by rw [hs'.1, Heap.size_push]
  have keep' : ∀ b u, h₃.get? b = some u → h'.get? b = some u := fun b u e => hs'.extBut b u (Nat.ne_of_lt (Heap.lt_size e)) (Heap.get?_push_of_some _ e)
  have quiet3 : h₃.NoLimit := quiet.extBut ext statics.2
  have inR : ∀ b ∈ foot, b ∈ List.range h₃.objs.size := fun b hb => List.mem_range.mpr (Nat.lt_of_lt_of_le (low b hb).1 le)
  have wr : ∀ b ∈ [s₁.heap.objs.size], b ∈ List.range h₃.objs.size := fun b hb => by rw [List.mem_singleton.mp hb]; exact List.mem_range.mpr le
  have cl : cStatics < h₃.objs.size := Nat.lt_of_lt_of_le statics.1 (Nat.le_of_succ_le le)
  have keep₅ : ∀ b u, h₃.get? b = some u → (h'.push { cls := .type "generator", data := .fields #[.int s₁.gens.size 0, .str "<genexpr>" (tk + 1), .str (X.env.qual ++ "<genexpr>") (tk + 1 + 1)] }).get? b = some u := fun b u e => Heap.get?_push_of_some _ (keep' b u e)
  let F : Nat → Value → Prop := fun i y => i < ps.length → ∃ p, ps[i]? = some p ∧ Gives p y
  have W₅ := WalksS.genexpQ (prog := X.prog) (w := X.w) (A := X.A.in4) room.hd h'.objs.size s₁.gens.size h₃.objs.size (List.range h₃.objs.size) [s₁.heap.objs.size] allOf ps.length F (by rw [size']; exact Nat.succ_ne_self _) (fun z => by have := List.mem_range.mp z; omega) wr deep (List.mem_range.mpr cl) (Nat.ne_of_lt cl) (fun z => Nat.ne_of_lt statics.1 (List.mem_singleton.mp z))
  rw [GxR.passing_true, List.length_range] at W₅
  have W' : ∀ A' : Around, A'.handled = none → WalksU X.prog X.w A' s₁.heap.objs.size (List.range h₃.objs.size) [s₁.heap.objs.size] ps.length (fun j xs => j < ps.length ∧ Hold j xs) At Mid := fun A' hA => (W A' hA).mono_fp inR
  have at5 : At 0 (h'.push { cls := .type "generator", data := .fields #[.int s₁.gens.size 0, .str "<genexpr>" (tk + 1), .str (X.env.qual ++ "<genexpr>") (tk + 1 + 1)] }) := (W X.A room.hd).frame _ _ _ at0 fun b hb u e => keep₅ b u (ext b u (low b hb).2 e)
  have N3 : Env3 (genEnv sc (cloFrom X.env.cells sc.names []) h₃.objs.size code builtinsNs X.env) xa xb xc (List.range h₃.objs.size) := ⟨own.ka, own.kb, own.kc, own.ab, own.ac, own.bc, by simp [genEnv, own.fn], own.sync, fun z => Nat.lt_irrefl _ (List.mem_range.mp z)⟩
  have E3 : Elt3 X.prog X.w (genEnv sc (cloFrom X.env.cells sc.names []) h₃.objs.size code builtinsNs X.env) xa xb xc elt (List.range h₃.objs.size) [s₁.heap.objs.size] (fun j xs => j < ps.length ∧ Hold j xs) F (h'.push { cls := .type "generator", data := .fields #[.int s₁.gens.size 0, .str "<genexpr>" (tk + 1), .str (X.env.qual ++ "<genexpr>") (tk + 1 + 1)] }) := by
    intro A' E' i u v x s₂ m calm hx ns ea eb ec still
    obtain ⟨p, ep, t1, t2, t3, e⟩ := holds i _ hx.1 hx.2
    obtain rfl : u = .str p.1 t1 := by have z := congrArg (·[0]?) e; simpa using z
    obtain rfl : v = .int p.2.1 t2 := by have z := congrArg (·[1]?) e; simpa using z
    obtain rfl : x = .int p.2.2 t3 := by have z := congrArg (·[2]?) e; simpa using z
    refine wpAny_mono (each s₁ H₁ I₁ ⟨tb, hP, ok⟩ _ code A' E' p t1 t2 t3 s₂ m calm (fun b o hb q => ?_) ns ea eb ec) (fun y s₃ r => ⟨fun _ => ⟨p, ep, r.1⟩, r.2⟩) fun _ _ q => q
    have q3 := stays b o hb q
    exact still b (List.mem_range.mpr (Heap.lt_size q3)) (fun z => later b o q (List.mem_cons_of_mem _ z)) o (keep₅ b o q3)
  refine fin ps H₁ h'.objs.size _ want ⟨_, _, _, _, _, ⟨W₅.in4_1, fresh3 (A := X.A.in4) (pa := pa) (pb := pb) (pc := pc) (pt := pt) (kt := kt) (sc := sc) (pos := gpos) (iter := iter) (m := fun y => if y = ".0" then some (.ref s₁.heap.objs.size) else none) room.hd W' (fun i xs hx => ?_) N3 E3 ⟨_, _, _, Heap.get?_push_size _ rfl, rfl, rfl, rfl⟩ (Array.getElem?_push_size ..) at5 (hn'.push _) (quiet3.keeps keep₅), fun b hb => ?_⟩, fun j v it => ?_, fun s₆ mv => ?_⟩
  · obtain ⟨p, _, t1, t2, t3, e⟩ := holds i xs hx.1 hx.2
    exact ⟨_, _, _, e⟩
  · show b < (h'.push _).objs.size
    rw [Heap.size_push, size']
    rcases List.mem_cons.mp hb with e | e
    · rw [e, size']; exact Nat.lt_succ_self _
    · rcases List.mem_cons.mp e with e' | e'
      · rw [e']; exact Nat.lt_succ_of_lt (Nat.lt_succ_self _)
      · exact Nat.lt_succ_of_lt (Nat.lt_succ_of_lt (List.mem_range.mp e'))
  · obtain ⟨i, ei, hg⟩ := it
    have lt : j < ps.length := by
      have z := (List.getElem?_eq_some_iff.mp ei).1
      rwa [List.length_range] at z
    rw [List.getElem?_range lt] at ei
    cases ei
    exact hg lt
  · have all : ∀ b u, b ≠ P → s₁.heap.get? b = some u → s₆.heap.get? b = some u := fun b u hb e => mv.heap b u (later b u e) (keep₅ b u (stays b u hb e))
    have tab₆ := mv.heap P _ (later P _ tabAt) (keep₅ P _ tab₃)
    have J := inv_tab (more := more) (d' := s₆.drawn) (t' := s₆.toks) I₁ hP all tab₆ (AllBare.movedS (I₁.bare.push rfl) mv)
    rw [sh_eta s₁ s₆ mv.os] at J
    exact ⟨_, ⟨⟨tb ++ more, upd_same, ok₃⟩, fun b hb => upd_ne hb⟩, J⟩
/-- the sum of g over the parts -/
def sum3 (g : Part → Int) (ps : List Part) : Int := (ps.map g).sum
theorem preSum3 (g : Part → Int) (ps : List Part) (val : Nat → Int) (h : ∀ i p, ps[i]? = some p → val i = g p) : ∀ n, n ≤ ps.length → preSum val n = sum3 g (ps.take n)
  | 0, _ => rfl
  | n + 1, hn => by
    have e : ps[n]? = some ps[n] := List.getElem?_eq_getElem hn
    show preSum val n + val n = _
    rw [preSum3 g ps val h n (by omega), h n _ e]
    unfold sum3
    rw [List.take_add_one, e, List.map_append, List.sum_append]
    show _ = _ + (g ps[n] + 0)
    rw [Int.add_zero]
def tSum3 (K : PySem.W.Frag) (P : Addr) (g : Part → Int) (te : TE) : TE := fun σ H Q => te σ H fun v H₁ => ∃ (a : Addr) (vs : List V) (ps : List Part), v = .ref a ∧ (SqL K H₁ a vs ∨ SqT K H₁ a vs) ∧ Pts H₁ vs ps ∧ TabG H₁ P ∧ ∀ H₂, Tabbed P H₁ H₂ → Q (.int (sum3 g ps)) H₂
theorem pe_sum3 {c P : Addr} {elt iter : Expr} {xa xb xc : Str} {pa pb pc pt p pos gpos : Pos} {kt : Nat} {sc : Scope} {g : Part → Int} {te : TE} {k : Nat}
    (room : Room k X.A) (glob : Gl X "sum") (free : X.mg "sum" = none) (TB : TabB X.base X.mg c P) (hcode : X.env.code = .ref c) (own : Own3 X.env sc xa xb xc) (walked : PE X iter te)
    (each : ∀ s₁, EltAt3 X s₁ P sc xa xb xc elt (fun p y => ∃ t, y = .int (g p) t)) (plain : ∀ v, genFold iter X.env v = pure v)
    (one : starEach [gx elt iter xa xb xc pa pb pc pt kt sc gpos] X.env = [(false, eval (gx elt iter xa xb xc pa pb pc pt kt sc gpos) X.env)] := by rfl) :
    PE X (.Call (.Name "sum" p) [gx elt iter xa xb xc pa pb pc pt kt sc gpos] [] pos) (tSum3 X.K P g te) := by
  constructor
  intro pins s σ H Q I h
  refine wpAny_Call_Name_kw (ld_blt I glob free (show bootBuiltins "sum" = some (.builtin "sum") by decide +kernel) (callWith_builtin1 ?_ one (by rfl)) (by decide) (by decide))
  rw [one]
  refine Calls.spliced_cons (made3 (Want := fun ps H₁ => ∀ H₂, Tabbed P H₁ H₂ → Q (.int (sum3 g ps)) H₂) (Gives := fun p y => ∃ t, y = .int (g p) t) room TB hcode own walked plain I (fun s₁ H₁ _ _ => each s₁) h fun ps H₁ gen s₅ want fresh => Calls.spliced_nil ?_)
  obtain ⟨foot, writes, Gens, Item, At, ⟨W, a0, low⟩, items, behind⟩ := fresh
  let val : Nat → Int := fun i => (ps[i]?.map g).getD 0
  have hv : ∀ i p, ps[i]? = some p → val i = g p := fun i p e => by show (ps[i]?.map _).getD 0 = _; rw [e]; rfl
  refine call_sum_walkAnyS (W.self 0 _ _ _ a0 ⟨gen, foot, writes, Gens, ps.length, Item, At, val, rfl, W, a0, low, fun i v it => ?_, fun s₆ t mv => ?_⟩)
  · obtain ⟨p, e, t, ev⟩ := items i v it
    exact ⟨t, by rw [hv i p e]; exact ev⟩
  · obtain ⟨H₂, tabbed, J⟩ := behind s₆ mv
    refine ⟨.int (preSum val ps.length), H₂, J, ⟨t, rfl⟩, ?_⟩
    rw [preSum3 g ps val hv ps.length (Nat.le_refl _), List.take_length]
    exact want H₂ tabbed
end
end G3

/-! ### parts and packings -/
open G3
theorem log_lt {i : Int} (h : i.natAbs < 2 ^ 400) : i.natAbs.log2 < 400 := PySem.Flt.log2_lt_of (by decide) h
def SqH (H : Hp) (a : Addr) (xs : List V) : Prop := H a = some (.lst xs) ∨ H a = some (.tup xs)
theorem SqH.sq {K : PySem.W.Frag} {H : Hp} {a : Addr} {xs : List V} (h : SqH H a xs) : Sq K H a xs := h.elim Sq.list Sq.tup
theorem SqH.same {H H' : Hp} {a : Addr} {xs : List V} (h : SqH H a xs) (s : Same H H') : SqH H' a xs := h.imp (s _ _) (s _ _)
theorem SqH.kp {H H' : Hp} {d c a : Addr} {t : Int} {xs : List V} (h : SqH H a xs) (S : StAt H d c t) (k : Kp d c H H') (n : NoInt xs) : SqH H' a xs := h.imp (fun e => k.lst S e n) (fun e => k.tup S e)
theorem SqH.tab {Pt : Addr} {H H2 : Hp} {a : Addr} {xs : List V} (h : SqH H a xs) (g : GxR.TabG H Pt) (x : GxR.Tabbed Pt H H2) : SqH H2 a xs := h.imp (fun e => tab_at g x e (fun _ z => nomatch z)) (fun e => tab_at g x e (fun _ z => nomatch z))
theorem getElem?_app {α β : Type} {xs ys : List α} {us ws : List β} (l : xs.length = us.length) {i : Nat} {x : α} {u : β} (e1 : (xs ++ ys)[i]? = some x) (e2 : (us ++ ws)[i]? = some u) : (xs[i]? = some x ∧ us[i]? = some u) ∨ (ys[i - xs.length]? = some x ∧ ws[i - xs.length]? = some u) := by
  by_cases hi : i < xs.length
  · rw [List.getElem?_append_left hi] at e1
    rw [List.getElem?_append_left (by omega)] at e2
    exact .inl ⟨e1, e2⟩
  · rw [List.getElem?_append_right (by omega)] at e1 e2
    rw [← l] at e2
    exact .inr ⟨e1, e2⟩
theorem Pts.mono {H H' : Hp} {vs : List V} {ps : List Part} (h : Pts H vs ps) (m : ∀ v p, p ∈ ps → PtV H v p → PtV H' v p) : Pts H' vs ps := ⟨h.1, fun i v p e1 e2 => m v p (List.mem_of_getElem? e2) (h.2 i v p e1 e2)⟩
theorem PtV.same {H H' : Hp} {v : V} {p : Part} (h : PtV H v p) (s : Same H H') : PtV H' v p := let ⟨a, e, r⟩ := h; ⟨a, e, s _ _ r⟩
theorem Pts.same {H H' : Hp} {vs : List V} {ps : List Part} (h : Pts H vs ps) (s : Same H H') : Pts H' vs ps := Pts.mono h fun _ _ _ q => PtV.same q s
theorem PtV.kp {H H' : Hp} {d c : Addr} {t : Int} {v : V} {p : Part} (h : PtV H v p) (S : StAt H d c t) (k : Kp d c H H') : PtV H' v p := let ⟨a, e, r⟩ := h; ⟨a, e, k.tup S r⟩
theorem Pts.kp {H H' : Hp} {d c : Addr} {t : Int} {vs : List V} {ps : List Part} (h : Pts H vs ps) (S : StAt H d c t) (k : Kp d c H H') : Pts H' vs ps := Pts.mono h fun _ _ _ q => PtV.kp q S k
theorem Pts.tab {Pt : Addr} {H H2 : Hp} {vs : List V} {ps : List Part} (h : Pts H vs ps) (g : GxR.TabG H Pt) (x : GxR.Tabbed Pt H H2) : Pts H2 vs ps := Pts.mono h fun _ _ _ ⟨a, e, r⟩ => ⟨a, e, tab_at g x r (fun _ z => nomatch z)⟩
theorem Pts.upd_lst {H : Hp} {l : Addr} {xs : List V} {o : HO} {vs : List V} {ps : List Part} (h : Pts H vs ps) (hl : H l = some (.lst xs)) : Pts (upd H l o) vs ps := Pts.mono h fun _ _ _ ⟨a, e, r⟩ => ⟨a, e, by rw [upd_ne (ne_of r hl (fun z => nomatch z))]; exact r⟩
theorem Pts.nil {H : Hp} : Pts H [] [] := ⟨rfl, fun _ _ _ e => nomatch e⟩
theorem Pts.app {H : Hp} {vs ws : List V} {ps qs : List Part} (h : Pts H vs ps) (h' : Pts H ws qs) : Pts H (vs ++ ws) (ps ++ qs) :=
  ⟨by rw [List.length_append, List.length_append, h.1, h'.1], fun i v p e1 e2 => (getElem?_app h.1 e1 e2).elim (fun z => h.2 i v p z.1 z.2) (fun z => h'.2 _ v p z.1 z.2)⟩
theorem Pts.one {H : Hp} {v : V} {p : Part} (h : PtV H v p) : Pts H [v] [p] := ⟨rfl, fun i u q e1 e2 => by
  have hi : i < 1 := (List.getElem?_eq_some_iff.mp e1).1
  obtain rfl : i = 0 := by omega
  cases e1
  cases e2
  exact h⟩
theorem Pts.at {H : Hp} {vs : List V} {ps : List Part} {i : Nat} {v : V} (h : Pts H vs ps) (e : vs[i]? = some v) : ∃ p, ps[i]? = some p ∧ PtV H v p := by
  have hi : i < ps.length := by rw [← h.1]; exact (List.getElem?_eq_some_iff.mp e).1
  exact ⟨_, List.getElem?_eq_getElem hi, h.2 i v _ e (List.getElem?_eq_getElem hi)⟩
theorem Pts.noInt {H : Hp} {vs : List V} {ps : List Part} (h : Pts H vs ps) : NoInt vs := fun x hx i e => by
  obtain ⟨j, hj, e1⟩ := List.getElem_of_mem hx
  obtain ⟨p, _, a, rfl, _⟩ := Pts.at h (by rw [List.getElem?_eq_getElem hj, e1])
  cases e
/-- where a packing stands -/
def PkA (H : Hp) (b : Addr) (nm : Str) (sz : Int) (ps : List Part) : Prop := ∃ a us, H b = some (.tup [.str nm, .int sz, .ref a]) ∧ SqH H a us ∧ Pts H us ps
theorem PkA.same {H H' : Hp} {b : Addr} {nm : Str} {sz : Int} {ps : List Part} (h : PkA H b nm sz ps) (s : Same H H') : PkA H' b nm sz ps := let ⟨a, us, e, h1, h2⟩ := h; ⟨a, us, s _ _ e, h1.same s, Pts.same h2 s⟩
theorem PkA.kp {H H' : Hp} {d c b : Addr} {t : Int} {nm : Str} {sz : Int} {ps : List Part} (h : PkA H b nm sz ps) (S : StAt H d c t) (k : Kp d c H H') : PkA H' b nm sz ps := let ⟨a, us, e, h1, h2⟩ := h; ⟨a, us, k.tup S e, h1.kp S k (Pts.noInt h2), Pts.kp h2 S k⟩
theorem PkA.tab {Pt : Addr} {H H2 : Hp} {b : Addr} {nm : Str} {sz : Int} {ps : List Part} (h : PkA H b nm sz ps) (g : GxR.TabG H Pt) (x : GxR.Tabbed Pt H H2) : PkA H2 b nm sz ps := let ⟨a, us, e, h1, h2⟩ := h; ⟨a, us, tab_at g x e (fun _ z => nomatch z), h1.tab g x, Pts.tab h2 g x⟩
def Okp (p : Part) : Prop := PyData.strOk p.1 = true ∧ 0 ≤ p.2.1 ∧ p.2.1 ≤ p.2.2 ∧ p.2.2 ≤ 10 ^ 40
def cntP (p : Part) : Int := p.2.2 - p.2.1 + 1
def cntF (ps : List Part) : Int := sum3 cntP ps
theorem cntF_snoc (ps : List Part) (p : Part) : cntF (ps ++ [p]) = cntF ps + cntP p := by
  unfold cntF sum3
  rw [List.map_append, List.sum_append]
  show _ + (cntP p + 0) = _
  rw [Int.add_zero]
theorem take_snoc {α : Type} {l : List α} {i : Nat} {x : α} (e : l[i]? = some x) : l.take (i + 1) = l.take i ++ [x] := by rw [List.take_add_one, e]; rfl
theorem cntF_cons (p : Part) (ps : List Part) : cntF (p :: ps) = cntP p + cntF ps := by unfold cntF sum3; rw [List.map_cons, List.sum_cons]
theorem cntF_bound : ∀ {ps : List Part}, (∀ p ∈ ps, Okp p) → 0 ≤ cntF ps ∧ cntF ps ≤ (10 ^ 40 + 1) * (ps.length : Int)
  | [], _ => ⟨Int.le_refl _, by show (0 : Int) ≤ _; simp⟩
  | p :: r, h => by
    obtain ⟨h1, h2⟩ := cntF_bound (ps := r) fun q hq => h q (List.mem_cons_of_mem _ hq)
    obtain ⟨_, g1, g2, g3⟩ := h p (List.mem_cons_self ..)
    rw [cntF_cons, List.length_cons]
    unfold cntP
    omega
/-- what a case has of a part whose first tin stands at this spot -/
def rowF (sz cs sp : Int) (p : Part) : Option Part :=
  let lo := if cs * sz - (sp - p.2.1) > p.2.1 then cs * sz - (sp - p.2.1) else p.2.1
  let hi := if cs * sz + sz - 1 - (sp - p.2.1) < p.2.2 then cs * sz + sz - 1 - (sp - p.2.1) else p.2.2
  if lo ≤ hi then some (p.1, lo, hi) else none
def rowsG (sz cs : Int) : Int → List Part → List Part
  | _, [] => []
  | sp, p :: r => (rowF sz cs sp p).toList ++ rowsG sz cs (sp + cntP p) r
theorem rowsG_snoc (sz cs : Int) : ∀ (sp : Int) (ps : List Part) (p : Part), rowsG sz cs sp (ps ++ [p]) = rowsG sz cs sp ps ++ (rowF sz cs (sp + cntF ps) p).toList
  | sp, [], p => by
    show (rowF sz cs sp p).toList ++ [] = [] ++ (rowF sz cs (sp + 0) p).toList
    rw [List.append_nil, Int.add_zero]
    rfl
  | sp, q :: r, p => by
    show (rowF sz cs sp q).toList ++ rowsG sz cs (sp + cntP q) (r ++ [p]) = _
    rw [rowsG_snoc sz cs (sp + cntP q) r p, cntF_cons, ← List.append_assoc, Int.add_assoc]
    rfl
theorem rowsG_len (sz cs : Int) : ∀ (sp : Int) (ps : List Part), (rowsG sz cs sp ps).length ≤ ps.length
  | sp, [] => Nat.le_refl _
  | sp, q :: r => by
    have := rowsG_len sz cs (sp + cntP q) r
    have h : (rowF sz cs sp q).toList.length ≤ 1 := by
      cases rowF sz cs sp q
      · exact Nat.zero_le _
      · exact Nat.le_refl _
    show ((rowF sz cs sp q).toList ++ rowsG sz cs (sp + cntP q) r).length ≤ r.length + 1
    rw [List.length_append]
    omega
def spotsF (ps : List Part) (i : Nat) : List Int := (List.range i).map fun j => cntF (ps.take j)
theorem spotsF_snoc (ps : List Part) (i : Nat) : spotsF ps (i + 1) = spotsF ps i ++ [cntF (ps.take i)] := by unfold spotsF; rw [List.range_succ, List.map_append]; rfl
/-! ### tins_packed, cases_of, spots_of, tins_in -/
abbrev sPacked : Stmt := topS 1
theorem scPacked : FnScope ["packing"] ["packing"] (defScope sPacked) := ⟨rfl, rfl, rfl, by decide +kernel, rfl, by decide +kernel, by decide +kernel⟩
def spPacked (Pt : Addr) : Sp := fun vs H Q _ => ∃ (b : Addr) (nm : Str) (sz : Int) (ps : List Part), vs = [.ref b] ∧ PkA H b nm sz ps ∧ GxR.TabG H Pt ∧ ∀ H2, GxR.Tabbed Pt H H2 → Q (.int (cntF ps)) H2
theorem elt_part {X : Cx} {s₁ : Shared} {P : Addr} {scope : Scope} {xa xb xc : Str} {j : Nat} {p1 p2 p3 p4 p5 : Pos} (hk : scope.kind = .function) (lb : scope.names.lookup xb = some .local) (lc : scope.names.lookup xc = some .local)
    (hdb : (xb == ("__debug__" : Str)) = false := by decide) (hdc : (xc == ("__debug__" : Str)) = false := by decide) :
    EltAt3 X s₁ P scope xa xb xc (.BinOp (.BinOp (.Name xc p1) .Sub (.Name xb p2) p3) .Add (.Constant (.int 1) j p4) p5) (fun p y => ∃ t, y = .int (cntP p) t) := by
  intro L code A' E' p t1 t2 t3 s₂ m₂ _ hkp hn hma hmb hmc
  refine wpAny_BinOp (wpAny_BinOp (wpAny_Name (wpAny_loadName_local hk (show scope.names.lookup xc = some .local from lc) hn hmc ?_) hdc))
  refine wpAny_Name (wpAny_loadName_local hk (show scope.names.lookup xb = some .local from lb) hn hmb ?_) hdb
  refine PyProof.Rows.sub_int ?_
  refine wpAny_Constant_int ?_
  exact PyProof.Rows.add_int ⟨⟨_, rfl⟩, ⟨_, _, rfl, fun _ _ e => e⟩⟩
section
variable {K : PySem.W.Frag} {mg : Str → Option Value} {P : Program} {w : World} {base : Heap}
theorem ok_packed {f : Addr} {k : Nat} {c Pt : Addr} {oc kV doc pm ct : Value} {od an : Option Addr} {osl : Array (Option Value)}
    (lk : K.lookup f = some ⟨oc, od, .func (PySem.W.fnOf "tins_packed" "tins_packed" (defArgs sPacked) (defBody sPacked) (defScope sPacked) .none kV doc pm an (.ref c) ct), osl⟩) (hcd : PySem.W.codeIn K (.ref c) "tins_packed" = true)
    (TB : GxR.TabB base mg c Pt) (ms : mg "sum" = none) :
    FnOk P w K mg base CX0 (k + 1) f (PySem.W.fnOf "tins_packed" "tins_packed" (defArgs sPacked) (defBody sPacked) (defScope sPacked) .none kV doc pm an (.ref c) ct) ["packing"] (spPacked Pt) := by
  refine fn_of lk hcd scPacked (fun vs H Q E h => ?_) (fun A outer s H vs Q E hr h => ?_)
  · obtain ⟨b, nm, sz, ps, rfl, _⟩ := h
    rfl
  · obtain ⟨b, nm, sz, ps, rfl, ⟨a, us, eb, ha, hus⟩, ht, q⟩ := h
    refine ⟨_, PSs.nox (pss_one (ps_ret (pe_sum3 (g := cntP) hr (by rfl) ms TB rfl ⟨rfl, rfl, by decide +kernel, by decide +kernel, by decide +kernel, by decide +kernel, by decide +kernel, by decide +kernel, by decide +kernel, by decide +kernel, fun y hy hf => absurd hf ((by decide +kernel : ∀ y ∈ _, y.2 ≠ NameKind.free) y hy)⟩ (pe_ix ix_tup (pv 0) pe_int (fun _ _ => rfl)) (fun s₁ => elt_part rfl (by decide +kernel) (by decide +kernel)) (fun _ => rfl)))), ?_⟩
    exact ⟨_, rfl, b, _, 2, .ref a, rfl, rfl, .inl (.inl eb), atI_nat (j := 2) rfl, a, us, ps, rfl, ha.sq, hus, ht, q⟩
end
abbrev sCases : Stmt := topS 2
theorem scCases : FnScope ["packing", "size"] ["packing"] (defScope sCases) := ⟨rfl, rfl, rfl, by decide +kernel, rfl, by decide +kernel, by decide +kernel⟩
def spCases (Pt : Addr) : Sp := fun vs H Q _ => ∃ (b : Addr) (nm : Str) (sz : Int) (ps : List Part), vs = [.ref b] ∧ PkA H b nm sz ps ∧ 1 ≤ sz ∧ sz ≤ 10 ^ 50 ∧ GxR.TabG H Pt ∧ ∀ H2, GxR.Tabbed Pt H H2 → Q (.int ((cntF ps + sz - 1) / sz)) H2
abbrev sSpots : Stmt := topS 3
theorem scSpots : FnScope ["packing", "spots", "spot", "mark", "first", "last"] ["packing"] (defScope sSpots) := ⟨rfl, rfl, rfl, by decide +kernel, rfl, by decide +kernel, by decide +kernel⟩
def spSpots : Sp := fun vs H Q _ => ∃ (b : Addr) (nm : Str) (sz : Int) (ps : List Part), vs = [.ref b] ∧ PkA H b nm sz ps ∧ ps.length ≤ 900 ∧ ∀ l H', H l = none → H' l = some (.lst ((spotsF ps ps.length).map V.int)) → Same H H' → Q (.ref l) H'
abbrev sTinsIn : Stmt := topS 4
theorem scTinsIn : FnScope ["packing", "case", "size", "told", "spot", "mark", "first", "last", "shift", "low", "high"] ["packing", "case"] (defScope sTinsIn) := ⟨rfl, rfl, rfl, by decide +kernel, rfl, by decide +kernel, by decide +kernel⟩
def spTinsIn : Sp := fun vs H Q _ => ∃ (b : Addr) (nm : Str) (sz cs : Int) (ps : List Part), vs = [.ref b, .int cs] ∧ PkA H b nm sz ps ∧ ps.length ≤ 900 ∧ 1 ≤ sz ∧ sz ≤ 10 ^ 50 ∧ 0 ≤ cs ∧ cs ≤ 10 ^ 60 ∧
  ∀ l ws H', H l = none → H' l = some (.lst ws) → Pts H' ws (rowsG sz cs 0 ps) → Same H H' → Q (.ref l) H'
/-- what stands in tins_in's walk -/
def TinW (H2 : Hp) (b l : Addr) (sz cs : Int) (ps : List Part) (i : Nat) (σ : L2.St) (Hx : Hp) : Prop := ∃ (ws : List V) (y4 y5 y6 y7 y8 y9 y10 : Option V), σ = [some (.ref b), some (.int cs), some (.int sz), some (.ref l), y4, y5, y6, y7, y8, y9, y10] ∧ (∀ c o, c ≠ l → H2 c = some o → Hx c = some o) ∧ Hx l = some (.lst ws) ∧ Pts Hx ws (rowsG sz cs 0 (ps.take i))
/-- a loop over zip of a list and a list or tuple, that both stand still -/
theorem for_zipN {K : PySem.W.Frag} {a b : Addr} {xs ys : List V} {g : TG} {tb : TS} {D : Ends} {σ : L2.St} {H1 : Hp} (ha : H1 a = some (.lst xs)) (hb : SqH H1 b ys) (hl : xs.length = ys.length) (Pv : Nat → L2.St → Hp → Prop) (h0 : Pv 0 σ H1) (hs : ∀ i σ H', Pv i σ H' → (∀ {o}, H1 a = some o → H' a = some o) ∧ (∀ {o}, H1 b = some o → H' b = some o))
    (turn : ∀ i x y T σ H, xs[i]? = some x → ys[i]? = some y → Pv i σ H → H T = none → g (.ref T) σ (upd H T (.tup [x, y])) fun σ2 H2 => tb { D with nx := Pv (i + 1), ct := Pv (i + 1), bk := D.nx } σ2 H2) (fin : ∀ σ H, Pv xs.length σ H → D.nx σ H) :
    ((SqL K H1 a xs ∧ SqL K H1 b ys ∧ ForR (Itz K a b) g tb D σ H1) ∨ (SqL K H1 a xs ∧ SqT K H1 b ys ∧ ForR (ItzM K a b) g tb D σ H1)) := by
  have tn : ∀ i v σ H H', i < xs.length → Pv i σ H → YPair (fun i => xs[i]?) (fun i => ys[i]?) i H v H' → g v σ H' fun σ2 H2 => tb { D with nx := Pv (i + 1), ct := Pv (i + 1), bk := D.nx } σ2 H2 := by
    rintro i v σ H H' _ hp ⟨T, x, y, rfl, nT, rfl, e1, e2⟩
    exact turn i x y T σ H e1 e2 hp nT
  rcases hb with h | h
  · exact .inl ⟨SqL.of ha, SqL.of h, for_it (walk_zip (by omega)) Pv h0 (fun i σ H' _ p => ⟨SqL.of ((hs i σ H' p).1 ha), SqL.of ((hs i σ H' p).2 h)⟩) tn fin⟩
  · exact .inr ⟨SqL.of ha, .inl (.inl h), for_it (walk_zipM hl) Pv h0 (fun i σ H' _ p => ⟨SqL.of ((hs i σ H' p).1 ha), .inl (.inl ((hs i σ H' p).2 h))⟩) tn fin⟩
section
variable {K : PySem.W.Frag} {mg : Str → Option Value} {P : Program} {w : World} {base : Heap}
theorem ok_cases {f Pt : Addr} {fd : FuncData} (F : Fun K "cases_of" "cases_of" sCases f fd) (CP : Cal P w K mg base 1 "tins_packed" ["packing"] (spPacked Pt)) : FnOk P w K mg base CX0 2 f fd ["packing"] (spCases Pt) := by
  refine F.ok scCases (fun vs H Q E h => ?_) (fun cdv A outer s H vs Q E hr h => ?_)
  · obtain ⟨b, nm, sz, ps, rfl, _⟩ := h
    rfl
  · obtain ⟨b, nm, sz, ps, rfl, hb, h1, h2, ht, q⟩ := h
    refine ⟨_, pss_cons (ps_set (i := 1) scCases.nd rfl (.inl rfl) (pe_ix ix_tup (pv 0) pe_int (fun _ _ => rfl)))
      (pss_one (ps_ret (pe_op op_fdivW (pe_op op_sub (pe_op op_add (pe_own CP hr (by rfl) (pa_cons (pv 0) pa_nil)) (pv 1)) pe_int) (pv 1)))), ?_⟩
    obtain ⟨a, us, eb, ha, hus⟩ := id hb
    refine ⟨_, rfl, b, _, 1, .int sz, rfl, rfl, .inl (.inl eb), atI_nat (j := 1) rfl, _, rfl, b, nm, sz, ps, rfl, hb, ht, fun H2 x2 => ?_⟩
    exact ⟨_, rfl, _, sz, rfl, rfl, _, 1, rfl, rfl, _, rfl, _, sz, rfl, rfl, ⟨by omega, Nat.lt_trans (log_lt (by omega)) (by decide)⟩, q H2 x2⟩
theorem ok_spots {f : Addr} {fd : FuncData} {k : Nat} (F : Fun K "spots_of" "spots_of" sSpots f fd) : FnOk P w K mg base CX0 (k + 1) f fd ["packing"] spSpots := by
  refine F.ok scSpots (fun vs H Q E h => ?_) (fun cdv A outer s H vs Q E hr h => ?_)
  · obtain ⟨b, nm, sz, ps, rfl, _⟩ := h
    rfl
  · obtain ⟨b, nm, sz, ps, rfl, ⟨a, us, eb, ha, hus⟩, hl, q⟩ := h
    refine ⟨_, pss_cons (ps_set (i := 1) scSpots.nd rfl (.inl rfl) (pe_lst pa_nil))
      (pss_cons (ps_set (i := 2) scSpots.nd rfl (.inl rfl) pe_int)
      (pss_cons (ps_for PassesOwn.never rfl (pi_seq (pe_ix ix_tup (pv 0) pe_int (fun _ _ => rfl))) (pg_tup rfl (pgs_cons (pg_name (i := 3) scSpots.nd rfl (.inl rfl)) (pgs_cons (pg_name (i := 4) scSpots.nd rfl (.inl rfl)) (pgs_cons (pg_name (i := 5) scSpots.nd rfl (.inl rfl)) pgs_nil))))
        (pss_cons (ps_expr (pe_bm PySem.F.plainAttrs_list PySem.F.slot_list_append PySem.F.type_list_append mt_append (pv 1) (pa_cons (pv 2) pa_nil)))
        (pss_one (ps_aug (i := 2) scSpots.nd rfl (.inl rfl) (pe_op op_add (pe_op op_sub (pv 5) (pv 4)) pe_int) ip_add))))
      (pss_one (ps_ret (pv 1))))), ?_⟩
    refine ⟨Nat.zero_le _, fun l nl => ?_⟩
    have s1 := same_upd (o := .lst []) nl
    refine ⟨_, rfl, b, _, 2, .ref a, rfl, rfl, .inl (.inl (s1 _ _ eb)), atI_nat (j := 2) rfl, a, rfl, for_seqS (xs := us) ha.sq s1 (fun i σ Hx => ∃ (y3 y4 y5 : Option V), σ = [some (.ref b), some (.ref l), some (.int (cntF (ps.take i))), y3, y4, y5] ∧ Same H Hx ∧ Hx l = some (.lst ((spotsF ps i).map V.int)))
      ⟨_, _, _, rfl, s1, upd_same⟩ (fun i σ Hx hP => ?_) (fun i x σ Hx hx hP => ?_) (fun σ Hx hP => ?_)⟩
    · obtain ⟨_, _, _, rfl, sx, _⟩ := hP
      exact sx
    · obtain ⟨y3, y4, y5, rfl, sx, el⟩ := hP
      obtain ⟨p, ep, g, rfl, eg⟩ := Pts.at (Pts.same hus sx) hx
      have hi : i < ps.length := (List.getElem?_eq_some_iff.mp ep).1
      refine ⟨g, _, rfl, .inl (.inl eg), rfl, _, _, rfl, _, _, rfl, _, _, rfl, rfl, ?_⟩
      refine ⟨_, rfl, .inl ⟨rfl, _, SqL.of el⟩, _, rfl, l, _, _, rfl, rfl, el, small1000 (by unfold spotsF; rw [List.length_map, List.length_map, List.length_range]; omega), ?_⟩
      refine ⟨_, rfl, _, rfl, _, rfl, p.2.2, p.2.1, rfl, rfl, _, _, rfl, rfl, _, _, rfl, rfl, some (.str p.1), some (.int p.2.1), some (.int p.2.2), ?_, fun c o e => ?_, ?_⟩
      · rw [take_snoc ep, cntF_snoc]
        rfl
      · rw [upd_ne (ne_of_none e nl)]
        exact sx c o e
      · rw [upd_same, spotsF_snoc, List.map_append]
        rfl
    · obtain ⟨y3, y4, y5, rfl, sx, el⟩ := hP
      rw [hus.1] at el
      exact ⟨_, rfl, q l Hx nl el sx⟩
theorem ok_tinsin {f : Addr} {fd : FuncData} (F : Fun K "tins_in" "tins_in" sTinsIn f fd) (CS : Cal P w K mg base 1 "spots_of" ["packing"] spSpots) (mz : mg "zip" = none) (mx : mg "max" = none) (mn : mg "min" = none) : FnOk P w K mg base CX0 2 f fd ["packing", "case"] spTinsIn := by
  refine F.ok scTinsIn (fun vs H Q E h => ?_) (fun cdv A outer s H vs Q E hr h => ?_)
  · obtain ⟨b, nm, sz, cs, ps, rfl, _⟩ := h
    rfl
  · obtain ⟨b, nm, sz, cs, ps, rfl, hb, hl, h1, h2, h3, h4, q⟩ := h
    refine ⟨_, pss_cons (ps_set (i := 2) scTinsIn.nd rfl (.inl rfl) (pe_ix ix_tup (pv 0) pe_int (fun _ _ => rfl)))
      (pss_cons (ps_set (i := 3) scTinsIn.nd rfl (.inl rfl) (pe_lst pa_nil))
      (pss_cons (ps_for PassesOwn.never rfl (pi_zipM (by rfl) mz (pa_cons (pe_own CS hr (by rfl) (pa_cons (pv 0) pa_nil)) (pa_cons (pe_ix ix_tup (pv 0) pe_int (fun _ _ => rfl)) pa_nil))) (pg_tup rfl (pgs_cons (pg_name (i := 4) scTinsIn.nd rfl (.inl rfl)) (pgs_cons (pg_tup rfl (pgs_cons (pg_name (i := 5) scTinsIn.nd rfl (.inl rfl)) (pgs_cons (pg_name (i := 6) scTinsIn.nd rfl (.inl rfl)) (pgs_cons (pg_name (i := 7) scTinsIn.nd rfl (.inl rfl)) pgs_nil)))) pgs_nil)))
        (pss_cons (ps_set (i := 8) scTinsIn.nd rfl (.inl rfl) (pe_op op_sub (pv 4) (pv 6)))
        (pss_cons (ps_set (i := 9) scTinsIn.nd rfl (.inl rfl) (pe_callB (call_max2 rfl) (by rfl) mx (by decide +kernel) (pa_cons (pv 6) (pa_cons (pe_op op_sub (pe_op op_mulW (pv 1) (pv 2)) (pv 8)) pa_nil))))
        (pss_cons (ps_set (i := 10) scTinsIn.nd rfl (.inl rfl) (pe_callB (call_min2 rfl) (by rfl) mn (by decide +kernel) (pa_cons (pv 7) (pa_cons (pe_op op_sub (pe_op op_sub (pe_op op_add (pe_op op_mulW (pv 1) (pv 2)) (pv 2)) pe_int) (pv 8)) pa_nil))))
        (pss_one (ps_if (pt_cmpR op_le (pv 9) (pv 10) (nomark _)) (pss_one (ps_expr (pe_bm PySem.F.plainAttrs_list PySem.F.slot_list_append PySem.F.type_list_append mt_append (pv 3) (pa_cons (pe_tup (pa_cons (pv 5) (pa_cons (pv 9) (pa_cons (pv 10) pa_nil)))) pa_nil)))) pss_nil))))))
      (pss_one (ps_ret (pv 3))))), ?_⟩
    obtain ⟨a, us, eb, ha, hus⟩ := id hb
    have bits : cs.natAbs.log2 + sz.natAbs.log2 < 1000000 := by
      have z1 := log_lt (i := cs) (by omega)
      have z2 := log_lt (i := sz) (by omega)
      omega
    refine ⟨_, rfl, b, _, 1, .int sz, rfl, rfl, .inl (.inl eb), atI_nat (j := 1) rfl, Nat.zero_le _, fun l nl => ?_⟩
    have s1 := same_upd (o := .lst []) nl
    refine ⟨_, rfl, b, nm, sz, ps, rfl, hb.same s1, hl, fun g H2 ng eg s2 => ?_⟩
    have el2 := s2 _ _ (upd_same (H := H) (a := l) (o := .lst []))
    have s12 := s1.trans s2
    have hlen : ((spotsF ps ps.length).map V.int).length = us.length := by unfold spotsF; rw [List.length_map, List.length_map, List.length_range, hus.1]
    have ea12 := ha.same s12
    have nla : a ≠ l := fun z => by
      rcases ha with h | h <;> (rw [z, nl] at h; cases h)
    have ngl : g ≠ l := fun z => by rw [z, upd_same] at ng; cases ng
    refine ⟨_, rfl, b, _, 2, .ref a, rfl, rfl, .inl (.inl (s12 _ _ eb)), atI_nat (j := 2) rfl, g, a, _, us, rfl, for_zipN (xs := (spotsF ps ps.length).map V.int) (ys := us) eg ea12 hlen (TinW H2 b l sz cs ps)
      ⟨[], _, _, _, _, _, _, _, rfl, fun _ _ _ e => e, el2, Pts.nil⟩ (fun i σ Hx hP => ?_) (fun i x y T σ Hx hx hy hP nT => ?_) (fun σ Hx hP => ?_)⟩
    · obtain ⟨_, _, _, _, _, _, _, _, rfl, kx, _⟩ := hP
      exact ⟨kx _ _ ngl, kx _ _ nla⟩
    · obtain ⟨ws, y4, y5, y6, y7, y8, y9, y10, rfl, kx, el, hws⟩ := hP
      have hp2 : Pts Hx us ps := Pts.mono (Pts.same hus s12) fun v p _ ⟨c, e, r⟩ => ⟨c, e, kx _ _ (ne_of r el2 (fun z => nomatch z)) r⟩
      obtain ⟨p, ep, c, rfl, ec⟩ := Pts.at hp2 hy
      have hi : i < ps.length := (List.getElem?_eq_some_iff.mp ep).1
      have ex : x = .int (cntF (ps.take i)) := by
        unfold spotsF at hx
        rw [List.getElem?_map, List.getElem?_map, List.getElem?_range hi] at hx
        exact (Option.some.inj hx).symm
      subst ex
      have sT := same_upd (o := .tup [.int (cntF (ps.take i)), .ref c]) nT
      have etake := take_snoc ep
      refine ⟨T, _, rfl, .inl (.inl upd_same), rfl, _, _, rfl, _, _, rfl, c, _, rfl, .inl (.inl (sT _ _ ec)), rfl, _, _, rfl, _, _, rfl, _, _, rfl, rfl, rfl, ?_⟩
      refine ⟨_, rfl, _, rfl, cntF (ps.take i), p.2.1, rfl, rfl, ?_⟩
      refine ⟨_, rfl, _, rfl, _, rfl, cs, sz, rfl, rfl, bits, _, rfl, cs * sz, cntF (ps.take i) - p.2.1, rfl, rfl, p.2.1, cs * sz - (cntF (ps.take i) - p.2.1), rfl, ?_⟩
      refine ⟨_, rfl, _, rfl, _, rfl, cs, sz, rfl, rfl, bits, _, rfl, cs * sz, sz, rfl, rfl, cs * sz + sz, 1, rfl, rfl, _, rfl, cs * sz + sz - 1, cntF (ps.take i) - p.2.1, rfl, rfl, p.2.2, cs * sz + sz - 1 - (cntF (ps.take i) - p.2.1), rfl, ?_⟩
      refine ⟨_, rfl, _, rfl, _, _, rfl, rfl, _, rfl, ite2 (fun e => ?_) (fun e => ?_)⟩
      · have e' := of_decide_eq_true e
        have er : rowF sz cs (0 + cntF (ps.take i)) p = some (p.1, (if cs * sz - (cntF (ps.take i) - p.2.1) > p.2.1 then cs * sz - (cntF (ps.take i) - p.2.1) else p.2.1), (if cs * sz + sz - 1 - (cntF (ps.take i) - p.2.1) < p.2.2 then cs * sz + sz - 1 - (cntF (ps.take i) - p.2.1) else p.2.2)) := by
          rw [Int.zero_add]
          exact if_pos e'
        revert er
        generalize (if cs * sz - (cntF (ps.take i) - p.2.1) > p.2.1 then cs * sz - (cntF (ps.take i) - p.2.1) else p.2.1) = lo
        generalize (if cs * sz + sz - 1 - (cntF (ps.take i) - p.2.1) < p.2.2 then cs * sz + sz - 1 - (cntF (ps.take i) - p.2.1) else p.2.2) = hi
        intro er
        refine ⟨_, rfl, .inl ⟨rfl, _, SqL.of (sT _ _ el)⟩, _, rfl, _, rfl, _, rfl, (by show 3 ≤ sizeLine; decide), fun t nt => ?_⟩
        have st := same_upd (o := .tup [.str p.1, .int lo, .int hi]) nt
        have elt := st _ _ (sT _ _ el)
        have hlw : ws.length ≤ 900 := by
          have z1 := hws.1
          have z2 := rowsG_len sz cs 0 (ps.take i)
          have z3 : (ps.take i).length ≤ ps.length := by rw [List.length_take]; omega
          omega
        refine ⟨l, _, _, rfl, rfl, elt, small1000 (by omega), ws ++ [.ref t], _, _, _, _, _, _, _, rfl, fun d o hd e => ?_, upd_same, ?_⟩
        · rw [upd_ne hd]
          exact st _ _ (sT _ _ (kx d o hd e))
        · rw [etake, rowsG_snoc, er]
          exact Pts.upd_lst (Pts.app (Pts.same (Pts.same hws sT) st) (Pts.one ⟨t, rfl, upd_same⟩)) elt
      · have e' : ¬ _ := fun z => e (decide_eq_true z)
        have er : rowF sz cs (0 + cntF (ps.take i)) p = none := by
          rw [Int.zero_add]
          exact if_neg e'
        refine ⟨ws, _, _, _, _, _, _, _, rfl, fun d o hd e => sT _ _ (kx d o hd e), sT _ _ el, ?_⟩
        rw [etake, rowsG_snoc, er]
        show Pts _ ws (_ ++ [])
        rw [List.append_nil]
        exact Pts.same hws sT
    · obtain ⟨ws, y4, y5, y6, y7, y8, y9, y10, rfl, kx, el, hws⟩ := hP
      have e1 : ((spotsF ps ps.length).map V.int).length = ps.length := by rw [hlen, hus.1]
      rw [e1, List.take_length] at hws
      refine ⟨_, rfl, q l ws Hx nl el hws fun c o e => kx _ _ (ne_of_none e nl) (s12 _ _ e)⟩
end

open G3
/-! ### the law's own cases: a range filtered by an interval -/
def ownF (sz cs sp fi : Int) : Nat → List Int
  | 0 => []
  | j + 1 => ownF sz cs sp fi j ++ (if (sp + (fi + (j : Int)) - fi) / sz = cs then [fi + (j : Int)] else [])
theorem ownF_len (sz cs sp fi : Int) : ∀ j, (ownF sz cs sp fi j).length ≤ j
  | 0 => Nat.le_refl _
  | j + 1 => by
    have := ownF_len sz cs sp fi j
    unfold ownF
    rw [List.length_append]
    split
    · exact Nat.succ_le_succ this
    · exact Nat.le_succ_of_le this
theorem ownF_mem {sz cs sp fi : Int} : ∀ {j : Nat} {t : Int}, t ∈ ownF sz cs sp fi j ↔ fi ≤ t ∧ t < fi + j ∧ (sp + t - fi) / sz = cs
  | 0, t => ⟨fun h => (nomatch h), fun ⟨h1, h2, _⟩ => by simp at h2; omega⟩
  | j + 1, t => by
    unfold ownF
    rw [List.mem_append, ownF_mem (j := j)]
    constructor
    · rintro (⟨h1, h2, h3⟩ | h)
      · exact ⟨h1, by omega, h3⟩
      · split at h
        · next c => rw [List.mem_singleton.mp h]; exact ⟨by omega, by omega, c⟩
        · exact nomatch h
    · rintro ⟨h1, h2, h3⟩
      by_cases e : t = fi + (j : Int)
      · right
        rw [e] at h3
        rw [if_pos h3, e]
        exact List.mem_singleton.mpr rfl
      · exact .inl ⟨h1, by omega, h3⟩
theorem ownF_rise (sz cs sp fi : Int) : ∀ j, (ownF sz cs sp fi j).Pairwise (· < ·)
  | 0 => .nil
  | j + 1 => by
    unfold ownF
    rw [List.pairwise_append]
    refine ⟨ownF_rise sz cs sp fi j, ?_, fun x hx y hy => ?_⟩
    · split
      · exact List.pairwise_singleton _ _
      · exact .nil
    · have hx' := ownF_mem.mp hx
      split at hy
      · rw [List.mem_singleton.mp hy]; omega
      · exact nomatch hy
theorem rise_ends {l : List Int} {lo hi : Int} (h : l.Pairwise (· < ·)) (h1 : lo ∈ l) (h2 : hi ∈ l) (hb : ∀ t ∈ l, lo ≤ t ∧ t ≤ hi) : l[0]? = some lo ∧ l[l.length - 1]? = some hi := by
  constructor
  · cases l with
    | nil => exact nomatch h1
    | cons a r =>
      rcases List.mem_cons.mp h1 with e | e
      · rw [e]; rfl
      · have := (List.pairwise_cons.mp h).1 lo e
        have := (hb a (List.mem_cons_self ..)).1
        omega
  · rcases snoc_cases l with e | ⟨l', x, e⟩
    · rw [e] at h1; exact nomatch h1
    · subst e
      rcases List.mem_append.mp h2 with z | z
      · have := (List.pairwise_append.mp h).2.2 hi z x (List.mem_singleton.mpr rfl)
        have := (hb x (List.mem_append.mpr (.inr (List.mem_singleton.mpr rfl)))).2
        omega
      · rw [List.length_append, List.mem_singleton.mp z]
        show (l' ++ [x])[l'.length + 1 - 1]? = _
        rw [Nat.add_sub_cancel, List.getElem?_append_right (Nat.le_refl _), Nat.sub_self]
        rfl
theorem div_iff {x sz cs : Int} (h : 1 ≤ sz) : x / sz = cs ↔ cs * sz ≤ x ∧ x ≤ cs * sz + sz - 1 := by
  constructor
  · rintro rfl
    have e := Int.mul_ediv_add_emod x sz
    have m0 := Int.emod_nonneg x (show sz ≠ 0 by omega)
    have m1 := Int.emod_lt_of_pos x (show 0 < sz by omega)
    rw [Int.mul_comm] at e
    omega
  · rintro ⟨h1, h2⟩
    have e : x = (x - cs * sz) + cs * sz := by omega
    rw [e, Int.add_mul_ediv_right _ _ (by omega), Int.ediv_eq_zero_of_lt (by omega) (by omega), Int.zero_add]
/-- what the law tells of a part is what rowF tells -/
theorem own_row {sz cs sp : Int} {p : Part} (hs : 1 ≤ sz) (hp : p.2.1 ≤ p.2.2) : (ownF sz cs sp p.2.1 (p.2.2 + 1 - p.2.1).toNat = [] ∧ rowF sz cs sp p = none) ∨
    ∃ lo hi, rowF sz cs sp p = some (p.1, lo, hi) ∧ (ownF sz cs sp p.2.1 (p.2.2 + 1 - p.2.1).toNat)[0]? = some lo ∧ (ownF sz cs sp p.2.1 (p.2.2 + 1 - p.2.1).toNat)[(ownF sz cs sp p.2.1 (p.2.2 + 1 - p.2.1).toNat).length - 1]? = some hi := by
  have mem : ∀ t, t ∈ ownF sz cs sp p.2.1 (p.2.2 + 1 - p.2.1).toNat ↔ p.2.1 ≤ t ∧ t ≤ p.2.2 ∧ cs * sz ≤ sp + t - p.2.1 ∧ sp + t - p.2.1 ≤ cs * sz + sz - 1 := fun t => by
    rw [ownF_mem, div_iff hs]
    omega
  unfold rowF
  dsimp only
  generalize cs * sz = m at mem ⊢
  by_cases c : (if m - (sp - p.2.1) > p.2.1 then m - (sp - p.2.1) else p.2.1) ≤ (if m + sz - 1 - (sp - p.2.1) < p.2.2 then m + sz - 1 - (sp - p.2.1) else p.2.2)
  · refine .inr ⟨_, _, if_pos c, rise_ends (ownF_rise ..) ((mem _).mpr ?_) ((mem _).mpr ?_) fun t ht => ?_⟩
    · split at c <;> split at c <;> omega
    · split at c <;> split at c <;> omega
    · have ht' := (mem t).mp ht
      constructor <;> split <;> omega
  · refine .inl ⟨?_, if_neg c⟩
    rw [List.eq_nil_iff_forall_not_mem]
    intro t ht
    have ht' := (mem t).mp ht
    split at c <;> split at c <;> omega

open G3
abbrev sDue : Stmt := topS 16
theorem scDue : FnScope ["_law_packing", "_law_case", "_law_rows", "_law_at", "_law_mark", "_law_first", "_law_last", "_law_own", "_law_tin"] ["_law_packing", "_law_case"] (defScope sDue) := ⟨rfl, rfl, rfl, by decide +kernel, rfl, by decide +kernel, by decide +kernel⟩
/-- a part of few tins -/
def Few (p : Part) : Prop := PyData.strOk p.1 = true ∧ 0 ≤ p.2.1 ∧ p.2.1 ≤ p.2.2 ∧ p.2.2 ≤ 10 ^ 6 ∧ p.2.2 - p.2.1 ≤ 500
def spDue : Sp := fun vs H Q _ => ∃ (b : Addr) (nm : Str) (sz cs : Int) (ps : List Part), vs = [.ref b, .int cs] ∧ PkA H b nm sz ps ∧ ps.length ≤ 900 ∧ (∀ p ∈ ps, Few p) ∧ 1 ≤ sz ∧ sz ≤ 10 ^ 50 ∧
  ∀ l ws H', H l = none → H' l = some (.lst ws) → Pts H' ws (rowsG sz cs 0 ps) → Same H H' → Q (.ref l) H'
theorem eqv_int_nil (ns : List Int) : PyData.eqv (PyData.list (ns.map PyData.int)) (PyData.list []) = ns.isEmpty := by
  cases ns with
  | nil => simp [PyData.eqv, PyData.eqvAll]
  | cons p r => simp [PyData.eqv, PyData.eqvAll]
def DueW (H : Hp) (b l : Addr) (sz cs : Int) (ps : List Part) (i : Nat) (σ : L2.St) (Hx : Hp) : Prop := ∃ (ws : List V) (y4 y5 y6 y7 : Option V), σ = [some (.ref b), some (.int cs), some (.ref l), some (.int (cntF (ps.take i))), y4, y5, y6, y7, none] ∧ Same H Hx ∧ Hx l = some (.lst ws) ∧ Pts Hx ws (rowsG sz cs 0 (ps.take i))
section
variable {K : PySem.W.Frag} {mg : Str → Option Value} {P : Program} {w : World} {base : Heap}
theorem ok_due {f : Addr} {fd : FuncData} {k : Nat} (F : Fun K "_law_due" "_law_due" sDue f fd) (mr : mg "range" = none) : FnOk P w K mg base CX0 (k + 1) f fd ["_law_packing", "_law_case"] spDue := by
  refine F.ok scDue (fun vs H Q E h => ?_) (fun cdv A outer s H vs Q E hr h => ?_)
  · obtain ⟨b, nm, sz, cs, ps, rfl, _⟩ := h
    rfl
  · obtain ⟨b, nm, sz, cs, ps, rfl, ⟨a, us, eb, ha, hus⟩, hl, hf, h1, h2, q⟩ := h
    refine ⟨_, pss_cons (ps_asg (pe_tup (pa_cons (pe_lst pa_nil) (pa_cons pe_int pa_nil))) (pg_tup rfl (pgs_cons (pg_name (i := 2) scDue.nd rfl (.inl rfl)) (pgs_cons (pg_name (i := 3) scDue.nd rfl (.inr rfl)) pgs_nil))))
      (pss_cons (ps_for PassesOwn.never rfl (pi_seq (pe_ix ix_tup (pv 0) pe_int (fun _ _ => rfl))) (pg_tup rfl (pgs_cons (pg_name (i := 4) scDue.nd rfl (.inl rfl)) (pgs_cons (pg_name (i := 5) scDue.nd rfl (.inr rfl)) (pgs_cons (pg_name (i := 6) scDue.nd rfl (.inl rfl)) pgs_nil))))
        (pss_cons (ps_setLc (i := 7) (own := [("_law_tin", 8)]) (g := gName 8) (tt := tTest (tOp rEq (tOp (rI CDivW fun i j => .int (i / j)) (tOp (rI0 fun i j => .int (i - j)) (tOp (rI0 fun i j => .int (i + j)) (tVar 3) (tVar 8)) (tVar 5)) (tOp (rIxT K) (tVar 0) (tC (.int 1)))) (tVar 1))) (te := tVar 8) rfl scDue.nd rfl rfl (sw_true rfl rfl rfl (by decide +kernel)) (pi_range2 rfl mr (pa_cons (pv 5) (pa_cons (pe_op op_add (pv 6) pe_int) pa_nil)))
            (blkOk_by (own := [("_law_tin", 8)]) (N := ["_law_packing", "_law_case", "_law_rows", "_law_at", "_law_mark", "_law_first", "_law_last", "_law_own", "_law_tin"]) (sc := defScope sDue) (by decide +kernel)) (fun _ _ _ _ _ => pg_name (i := 8) scDue.nd rfl (.inl rfl))
            (fun _ _ _ _ _ => pts_one (pt_cmpR op_eq (pe_op op_fdivW (pe_op op_sub (pe_op op_add (pv 3) (pv 8)) (pv 5)) (pe_ix ix_tup (pv 0) pe_int (fun _ _ => rfl))) (pv 1) (nomark _))) (fun _ _ _ _ _ => pv 8))
        (pss_cons (ps_if (pt_cmpR (op_neD hr.units) (pv 7) (pe_lst pa_nil) (nomark _)) (pss_one (ps_expr (pe_bm PySem.F.plainAttrs_list PySem.F.slot_list_append PySem.F.type_list_append mt_append (pv 2) (pa_cons (pe_tup (pa_cons (pv 4) (pa_cons (pe_ix ix_list (pv 7) pe_int (fun _ _ => rfl)) (pa_cons (pe_ix ix_list (pv 7) (pe_un un_neg pe_int) (fun _ _ => rfl)) pa_nil)))) pa_nil)))) pss_nil)
        (pss_one (ps_set (i := 3) scDue.nd rfl (.inr rfl) (pe_op op_add (pe_op op_sub (pe_op op_add (pv 3) (pv 6)) (pv 5)) pe_int))))))
      (pss_one (ps_ret (pv 2)))), ?_⟩
    refine ⟨Nat.zero_le _, fun l nl => ⟨(by show 2 ≤ sizeLine; decide), fun t nt => ?_⟩⟩
    have s1 := same_upd (o := .lst []) nl
    have s2 := same_upd (o := .tup [.ref l, .int 0]) nt
    have S2 := s1.trans s2
    have el0 := s2 _ _ (upd_same (H := H) (a := l) (o := .lst []))
    refine ⟨t, _, rfl, .inl (.inl upd_same), rfl, _, _, rfl, _, _, rfl, rfl, ?_⟩
    refine ⟨_, rfl, b, _, 2, .ref a, rfl, rfl, .inl (.inl (S2 _ _ eb)), atI_nat (j := 2) rfl, a, rfl, for_seqS (xs := us) ha.sq S2 (DueW H b l sz cs ps)
      ⟨[], _, _, _, _, rfl, S2, el0, Pts.nil⟩ (fun i σ Hx hP => ?_) (fun i x σ Hx hx hP => ?_) (fun σ Hx hP => ?_)⟩
    · obtain ⟨_, _, _, _, _, rfl, sx, _⟩ := hP
      exact sx
    · obtain ⟨ws, y4, y5, y6, y7, rfl, sx, el, hws⟩ := hP
      obtain ⟨p, ep, g, rfl, eg⟩ := Pts.at (Pts.same hus sx) hx
      have hi : i < ps.length := (List.getElem?_eq_some_iff.mp ep).1
      obtain ⟨_, f0, f1, f2, f3⟩ := hf p (List.mem_of_getElem? ep)
      have etake := take_snoc ep
      have hlw : ws.length ≤ 900 := by
        have z1 := hws.1
        have z2 := rowsG_len sz cs 0 (ps.take i)
        have z3 : (ps.take i).length ≤ ps.length := by rw [List.length_take]; omega
        omega
      refine ⟨g, _, rfl, .inl (.inl eg), rfl, _, _, rfl, _, _, rfl, _, _, rfl, rfl, ?_⟩
      refine ⟨_, rfl, _, rfl, p.2.2, 1, rfl, rfl, p.2.1, p.2.2 + 1, rfl, ⟨by omega, by omega, by omega, by omega⟩, fun D nD => lc_range (lo := p.2.1) (n := (p.2.2 + 1 - p.2.1).toNat) (fun j H' => Same Hx H' ∧ H' D = some (.lst ((ownF sz cs (cntF (ps.take i)) p.2.1 j).map V.int))) ⟨same_upd nD, upd_same⟩ (fun j H' hj hP => ?_) (fun H2 hP => ?_)⟩
      · obtain ⟨sm, eD⟩ := hP
        have S := sx.trans sm
        refine ⟨rfl, _, rfl, _, rfl, cntF (ps.take i), p.2.1 + (j : Int), rfl, rfl, _, rfl, _, p.2.1, rfl, rfl, _, rfl, b, _, 1, .int sz, rfl, rfl, .inl (.inl (S _ _ eb)), atI_nat (j := 1) rfl, _, sz, rfl, rfl, ⟨by omega, Nat.lt_trans (log_lt (by omega)) (by decide)⟩, _, rfl, rfl, _, rfl, ite2 (fun c1 => ?_) (fun c1 => ?_)⟩
        · have c1' := V.int.inj (of_decide_eq_true c1)
          refine ⟨_, rfl, _, eD, small1000 (by have := ownF_len sz cs (cntF (ps.take i)) p.2.1 j; rw [List.length_map]; omega), fun y o e => ?_, ?_⟩
          · rw [upd_ne (ne_of_none e nD)]
            exact sm y o e
          · rw [upd_same, ownF, if_pos c1', List.map_append]
            rfl
        · refine ⟨sm, ?_⟩
          rw [ownF, if_neg (fun z => c1 (decide_eq_true (congrArg V.int z))), List.append_nil]
          exact eD
      · obtain ⟨sm, eD⟩ := hP
        have rows := own_row (cs := cs) (sp := cntF (ps.take i)) h1 f1
        revert eD rows
        generalize ownF sz cs (cntF (ps.take i)) p.2.1 (p.2.2 + 1 - p.2.1).toNat = ns
        intro eD rows
        refine ⟨_, rfl, Nat.zero_le _, fun z nz => ?_⟩
        have sz' := same_upd (o := .lst []) nz
        refine ⟨_, _, .lst (SqL.of (sz' _ _ eD)) (dp_ints ns), .lst (SqL.of upd_same) .nil, shaped_ints _, shaped_ints [], _, rfl, ?_⟩
        rw [eqv_int_nil]
        have S := sm.trans sz'
        have el3 := S _ _ el
        have hws3 := Pts.same hws S
        have eD3 := sz' _ _ eD
        have sx3 := sx.trans S
        revert el3 hws3 eD3 sx3
        generalize upd H2 z (.lst []) = H3
        intro el3 hws3 eD3 sx3
        have ecnt : cntF (ps.take i) + p.2.2 - p.2.1 + 1 = cntF (ps.take (i + 1)) := by
          rw [etake, cntF_snoc]
          unfold cntP
          omega
        refine ite2 (fun c1 => ?_) (fun c1 => ?_)
        · rcases rows with ⟨e0, _⟩ | ⟨lo, hi', er, g0, g1⟩
          · rw [e0] at c1; exact absurd c1 (by decide)
          rcases snoc_cases ns with e0 | ⟨ns', x, e0⟩
          · rw [e0] at c1; exact absurd c1 (by decide)
          have ex : x = hi' := by
            rw [e0, List.length_append] at g1
            have g2 : (ns' ++ [x])[ns'.length]? = some hi' := g1
            rw [List.getElem?_append_right (Nat.le_refl _), Nat.sub_self] at g2
            exact Option.some.inj g2
          have a1 : atI (ns.map V.int) (-1) = some (.int hi') := by
            rw [e0, List.map_append, ex]
            exact atI_last _ _
          have a0 : atI (ns.map V.int) 0 = some (.int lo) := atI_nat (j := 0) (by rw [List.getElem?_map, g0]; rfl)
          refine ⟨_, rfl, .inl ⟨rfl, _, SqL.of el3⟩, _, rfl, _, rfl, D, _, 0, .int lo, rfl, rfl, SqL.of eD3, a0, _, rfl, 1, rfl, D, _, -1, .int hi', rfl, rfl, SqL.of eD3, a1, (by show 3 ≤ sizeLine; decide), fun t2 nt2 => ?_⟩
          have st := same_upd (o := .tup [.str p.1, .int lo, .int hi']) nt2
          have elt := st _ _ el3
          refine ⟨l, _, _, rfl, rfl, elt, small1000 (by omega), ?_⟩
          refine ⟨_, rfl, _, rfl, _, _, rfl, rfl, _, rfl, _, _, rfl, rfl, _, 1, rfl, rfl, ws ++ [.ref t2], _, _, _, _, (by rw [← ecnt]; rfl), fun d o e => ?_, upd_same, ?_⟩
          · rw [upd_ne (ne_of_none e nl)]
            exact st _ _ (sx3 d o e)
          · rw [etake, rowsG_snoc, Int.zero_add, er]
            exact Pts.upd_lst (Pts.app (Pts.same hws3 st) (Pts.one ⟨t2, rfl, upd_same⟩)) elt
        · rcases rows with ⟨_, er⟩ | ⟨lo, hi', er, g0, g1⟩
          · refine ⟨_, rfl, _, rfl, _, _, rfl, rfl, _, rfl, _, _, rfl, rfl, _, 1, rfl, rfl, ws, _, _, _, _, (by rw [← ecnt]; rfl), sx3, el3, ?_⟩
            rw [etake, rowsG_snoc, Int.zero_add, er]
            show Pts _ ws (_ ++ [])
            rw [List.append_nil]
            exact hws3
          · exfalso
            cases ns with
            | nil => cases g0
            | cons => exact c1 rfl
    · obtain ⟨ws, y4, y5, y6, y7, rfl, sx, el, hws⟩ := hP
      rw [hus.1, List.take_length] at hws
      exact ⟨_, rfl, q l ws Hx nl el hws sx⟩
end

/-- an expression, then a word of what it gives: what follows is shown once -/
def tMid (te : TE) : TE := fun σ H Q => ∃ M : V → Hp → Prop, te σ H M ∧ ∀ v H', M v H' → Q v H'
theorem pe_mid {X : Cx} {e : Expr} {te : TE} (h : PE X e te) : PE X e (tMid te) := ⟨fun pins s σ H Q I ⟨M, h1, h2⟩ => thn (h.run pins s σ H M I h1) fun _ _ ⟨y, H1, I1, r, q⟩ => ⟨y, H1, I1, r, h2 _ _ q⟩⟩

open G3
/-! ### _law_laid_out, _law_given -/
abbrev sLaid : Stmt := topS 14
theorem scLaid : FnScope ["_law_packing", "_law_tins", "_law_mark", "_law_first", "_law_last", "_law_tin"] ["_law_packing"] (defScope sLaid) := ⟨rfl, rfl, rfl, by decide +kernel, rfl, by decide +kernel, by decide +kernel⟩
/-- a list as long as there are tins -/
def spLaid : Sp := fun vs H Q _ => ∃ (b : Addr) (nm : Str) (sz : Int) (ps : List Part), vs = [.ref b] ∧ PkA H b nm sz ps ∧ (∀ p ∈ ps, Few p) ∧ cntF ps ≤ 900 ∧
  ∀ l (ws : List V) H', H l = none → H' l = some (.lst ws) → (ws.length : Int) = cntF ps → NoInt ws → Same H H' → Q (.ref l) H'
abbrev sGiven : Stmt := topS 15
theorem scGiven : FnScope ["_law_state", "_law_packing"] ["_law_state", "_law_packing"] (defScope sGiven) := ⟨rfl, rfl, rfl, by decide +kernel, rfl, by decide +kernel, by decide +kernel⟩
def spGiven : Sp := fun vs H Q _ => ∃ (d c b : Addr) (t : Int) (nm : Str) (sz : Int) (ps : List Part), vs = [.ref d, .ref b] ∧ StAt H d c t ∧ t < 2 ^ 60 ∧ PkA H b nm sz ps ∧ ∀ (b' : Addr) H', PkA H' b' nm sz ps → StAt H' d c (t + 1) → Kp d c H H' → Q (.ref b') H'
section
variable {K : PySem.W.Frag} {mg : Str → Option Value} {P : Program} {w : World} {base : Heap}
theorem ok_given {f : Addr} {fd : FuncData} (F : Fun K "_law_given" "_law_given" sGiven f fd) (CT : Cal P w K mg base 1 "_law_take" ["_law_state", "_law_many"] spTake) (ml : mg "list" = none) (mt : mg "tuple" = none) : FnOk P w K mg base CX0 2 f fd ["_law_state", "_law_packing"] spGiven := by
  refine F.ok scGiven (fun vs H Q E h => ?_) (fun cdv A outer s H vs Q E hr h => ?_)
  · obtain ⟨d, c, b, t, nm, sz, ps, rfl, _⟩ := h
    rfl
  · obtain ⟨d, c, b, t, nm, sz, ps, rfl, hS, ht, ⟨a, us, eb, ha, hus⟩, q⟩ := h
    refine ⟨_, pss_one (ps_ret (pe_tup (pa_cons (pe_ix ix_tup (pv 1) pe_int (fun _ _ => rfl)) (pa_cons (pe_ix ix_tup (pv 1) pe_int (fun _ _ => rfl)) (pa_cons (pe_ix ix_list (pe_lst (pa_cons (pe_callTy call_list_of (by rfl) ml (by decide +kernel) (pa_cons (pe_ix ix_tup (pv 1) pe_int (fun _ _ => rfl)) pa_nil)) (pa_cons (pe_mid (pe_callTy call_tuple_of (by rfl) mt (by decide +kernel) (pa_cons (pe_ix ix_tup (pv 1) pe_int (fun _ _ => rfl)) pa_nil))) pa_nil))) (pe_own CT hr (by rfl) (pa_cons (pv 0) (pa_cons pe_int pa_nil))) (fun _ _ => rfl)) pa_nil))))), ?_⟩
    refine ⟨_, rfl, b, _, 0, .str nm, rfl, rfl, .inl (.inl eb), atI_nat (j := 0) rfl, _, rfl, b, _, 1, .int sz, rfl, rfl, .inl (.inl eb), atI_nat (j := 1) rfl, ?_⟩
    refine ⟨_, rfl, b, _, 2, .ref a, rfl, rfl, .inl (.inl eb), atI_nat (j := 2) rfl, a, us, rfl, ha.elim (fun h => .inl (SqL.of h)) (fun h => .inr (.inl (.inl h))), fun g1 ng1 => ?_⟩
    have sg1 := same_upd (o := .lst us) ng1
    have eg1 := upd_same (H := H) (a := g1) (o := .lst us)
    have eb' := sg1 _ _ eb
    refine ⟨fun v H' => ∃ g2, v = .ref g2 ∧ H' g2 = some (.tup us) ∧ Same (upd H g1 (.lst us)) H', ?_, fun v H5 hM => ?_⟩
    · refine ⟨_, rfl, b, _, 2, .ref a, rfl, rfl, .inl (.inl eb'), atI_nat (j := 2) rfl, a, us, rfl, ?_⟩
      rcases ha with h | h
      · exact .inl ⟨SqL.of (sg1 _ _ h), fun g2 ng2 => ⟨g2, rfl, upd_same, same_upd ng2⟩⟩
      · exact .inr ⟨.inl (.inl (sg1 _ _ h)), a, rfl, sg1 _ _ h, Same.refl _⟩
    obtain ⟨g2, rfl, eg2, s5⟩ := hM
    refine ⟨(by show 2 ≤ sizeLine; decide), fun z nz => ?_⟩
    have sz' := same_upd (o := .lst [.ref g1, .ref g2]) nz
    have S6 := (sg1.trans s5).trans sz'
    have offz := ((hS.same sg1).same s5).off nz
    have off1 := hS.off ng1
    have eg1' := sz' _ _ (s5 _ _ eg1)
    have eg2' := sz' _ _ eg2
    refine ⟨_, rfl, d, c, t, 2, rfl, hS.same S6, ht, by decide, by decide, fun r H7 r0 r1 hS7 k7 => ?_⟩
    have kx7 : Kp d c H H7 := (Kp.same d c S6).trans k7
    obtain ⟨gg, hat, hgg⟩ : ∃ gg, atI [V.ref g1, V.ref g2] r = some (.ref gg) ∧ SqH H7 gg us := by
      have : r = 0 ∨ r = 1 := by omega
      rcases this with rfl | rfl
      · exact ⟨g1, rfl, .inl (k7 _ _ off1.1 off1.2 eg1')⟩
      · exact ⟨g2, rfl, .inr (k7.tup (hS.same S6) eg2')⟩
    refine ⟨z, _, r, .ref gg, rfl, rfl, SqL.of (k7 _ _ offz.1 offz.2 upd_same), hat, (by show 3 ≤ sizeLine; decide), fun Tt nTt => ?_⟩
    have sT := same_upd (o := .tup [.str nm, .int sz, .ref gg]) nTt
    exact q Tt _ ⟨gg, us, upd_same, hgg.same sT, Pts.same (Pts.kp hus hS kx7) sT⟩ (hS7.same sT) (kx7.trans (Kp.same d c sT))
end

open G3
def LaidW (H : Hp) (b l : Addr) (ps : List Part) (i : Nat) (σ : L2.St) (Hx : Hp) : Prop := ∃ (ws : List V) (y2 y3 y4 : Option V), σ = [some (.ref b), some (.ref l), y2, y3, y4, none] ∧ Same H Hx ∧ Hx l = some (.lst ws) ∧ (ws.length : Int) = cntF (ps.take i) ∧ NoInt ws
theorem cntF_take_le {ps : List Part} (h : ∀ p ∈ ps, Few p) (i : Nat) : cntF (ps.take i) ≤ cntF ps := by
  have e : cntF ps = cntF (ps.take i) + cntF (ps.drop i) := by
    have z : ps.take i ++ ps.drop i = ps := List.take_append_drop i ps
    unfold cntF sum3
    rw [← List.sum_append, ← List.map_append, z]
  have : 0 ≤ cntF (ps.drop i) := (cntF_bound fun p hp => by
    obtain ⟨g0, g1, g2, g3, _⟩ := h p (List.mem_of_mem_drop hp)
    exact ⟨g0, g1, g2, by omega⟩).1
  omega
section
variable {K : PySem.W.Frag} {mg : Str → Option Value} {P : Program} {w : World} {base : Heap}
theorem ok_laid {f : Addr} {fd : FuncData} {k : Nat} (F : Fun K "_law_laid_out" "_law_laid_out" sLaid f fd) (mr : mg "range" = none) : FnOk P w K mg base CX0 (k + 1) f fd ["_law_packing"] spLaid := by
  refine F.ok scLaid (fun vs H Q E h => ?_) (fun cdv A outer s H vs Q E hr h => ?_)
  · obtain ⟨b, nm, sz, ps, rfl, _⟩ := h
    rfl
  · obtain ⟨b, nm, sz, ps, rfl, ⟨a, us, eb, ha, hus⟩, hf, hc, q⟩ := h
    refine ⟨_, pss_cons (ps_set (i := 1) scLaid.nd rfl (.inl rfl) (pe_lst pa_nil))
      (pss_cons (ps_for PassesOwn.never rfl (pi_seq (pe_ix ix_tup (pv 0) pe_int (fun _ _ => rfl))) (pg_tup rfl (pgs_cons (pg_name (i := 2) scLaid.nd rfl (.inr rfl)) (pgs_cons (pg_name (i := 3) scLaid.nd rfl (.inl rfl)) (pgs_cons (pg_name (i := 4) scLaid.nd rfl (.inl rfl)) pgs_nil))))
        (pss_one (ps_expr (pe_bm PySem.F.plainAttrs_list PySem.F.slot_list_extend PySem.F.type_list_extend mt_extend (pv 1) (pa_cons (pe_lc (own := [("_law_tin", 5)]) (g := gName 5) (tt := tYes) (te := tTup (tCons (tVar 2) (tCons (tVar 5) tNil))) rfl scLaid.nd (pi_range2 rfl mr (pa_cons (pv 3) (pa_cons (pe_op op_add (pv 4) pe_int) pa_nil)))
            (blkOk_by (own := [("_law_tin", 5)]) (N := ["_law_packing", "_law_tins", "_law_mark", "_law_first", "_law_last", "_law_tin"]) (sc := defScope sLaid) (by decide +kernel)) (fun _ _ _ _ _ => pg_name (i := 5) scLaid.nd rfl (.inl rfl)) (fun _ _ _ _ _ => pts_nil) (fun _ _ _ _ _ => pe_tup (pa_cons (pv 2) (pa_cons (pv 5) pa_nil)))) pa_nil)))))
      (pss_one (ps_ret (pv 1)))), ?_⟩
    refine ⟨Nat.zero_le _, fun l nl => ?_⟩
    have s1 := same_upd (o := .lst []) nl
    refine ⟨_, rfl, b, _, 2, .ref a, rfl, rfl, .inl (.inl (s1 _ _ eb)), atI_nat (j := 2) rfl, a, rfl, for_seqS (xs := us) ha.sq s1 (LaidW H b l ps)
      ⟨[], _, _, _, rfl, s1, upd_same, rfl, fun _ z => nomatch z⟩ (fun i σ Hx hP => ?_) (fun i x σ Hx hx hP => ?_) (fun σ Hx hP => ?_)⟩
    · obtain ⟨_, _, _, _, rfl, sx, _⟩ := hP
      exact sx
    · obtain ⟨ws, y2, y3, y4, rfl, sx, el, hlen, hni⟩ := hP
      obtain ⟨p, ep, g, rfl, eg⟩ := Pts.at (Pts.same hus sx) hx
      obtain ⟨_, f0, f1, f2, f3⟩ := hf p (List.mem_of_getElem? ep)
      have etake := take_snoc ep
      have hle := cntF_take_le hf (i + 1)
      have hcn : cntF (ps.take (i + 1)) = cntF (ps.take i) + cntP p := by rw [etake, cntF_snoc]
      unfold cntP at hcn
      refine ⟨g, _, rfl, .inl (.inl eg), rfl, _, _, rfl, _, _, rfl, _, _, rfl, rfl, ?_⟩
      refine ⟨_, rfl, .inl ⟨rfl, _, SqL.of el⟩, _, rfl, _, rfl, p.2.2, 1, rfl, rfl, p.2.1, p.2.2 + 1, rfl, ⟨by omega, by omega, by omega, by omega⟩, fun D nD => lc_range (lo := p.2.1) (n := (p.2.2 + 1 - p.2.1).toNat) (fun j H' => Same Hx H' ∧ ∃ zs : List V, H' D = some (.lst zs) ∧ zs.length = j ∧ NoInt zs) ⟨same_upd nD, [], upd_same, rfl, fun _ z => nomatch z⟩ (fun j H' hj hP => ?_) (fun H2 hP => ?_)⟩
      · obtain ⟨sm, zs, eD, hz, hzi⟩ := hP
        refine ⟨rfl, _, rfl, _, rfl, (by show 2 ≤ sizeLine; decide), fun t nt => ?_⟩
        have st := same_upd (o := .tup [.str p.1, .int (p.2.1 + (j : Int))]) nt
        refine ⟨_, st _ _ eD, small1000 (by omega), fun c o e => ?_, zs ++ [.ref t], upd_same, by rw [List.length_append, hz]; rfl, fun y hy n e => ?_⟩
        · rw [upd_ne (ne_of_none e nD)]
          exact st _ _ (sm c o e)
        · rcases List.mem_append.mp hy with y1 | y1
          · exact hzi y y1 n e
          · rw [List.mem_singleton.mp y1] at e; cases e
      · obtain ⟨sm, zs, eD, hz, hzi⟩ := hP
        refine ⟨l, D, ws, zs, rfl, rfl, sm _ _ el, eD, Nat.le_trans (show ws.length + zs.length ≤ 1000 by omega) (by decide), ws ++ zs, _, _, _, rfl, fun c o e => ?_, upd_same, by rw [List.length_append]; omega, fun y hy n e => ?_⟩
        · rw [upd_ne (ne_of_none e nl)]
          exact sm _ _ (sx c o e)
        · rcases List.mem_append.mp hy with y1 | y1
          · exact hni y y1 n e
          · exact hzi y y1 n e
    · obtain ⟨ws, y2, y3, y4, rfl, sx, el, hlen, hni⟩ := hP
      rw [hus.1, List.take_length] at hlen
      exact ⟨_, rfl, q l ws Hx nl el hlen hni sx⟩
end

open G3
/-! ### parts as data -/
def partD (p : Part) : PyData := .tuple [.str p.1, .int p.2.1, .int p.2.2]
theorem pts_tail {H : Hp} {u : V} {us : List V} {p : Part} {ps : List Part} (h : Pts H (u :: us) (p :: ps)) : PtV H u p ∧ Pts H us ps :=
  ⟨h.2 0 u p rfl rfl, Nat.succ.inj h.1, fun i v q e1 e2 => h.2 (i + 1) v q e1 e2⟩
theorem dp_pts {K : PySem.W.Frag} {H : Hp} : ∀ {us : List V} {ps : List Part}, Pts H us ps → DpAll K H us (ps.map partD)
  | [], [], _ => .nil
  | [], _ :: _, h => nomatch h.1
  | _ :: _, [], h => nomatch h.1
  | u :: us, p :: ps, h => by
    obtain ⟨⟨a, eu, e2⟩, hr⟩ := pts_tail h
    subst eu
    exact .cons (.tup (.inl (.inl e2)) (.cons (.str _) (.cons (.int _) (.cons (.int _) .nil)))) (dp_pts hr)
theorem lay_pts : ∀ {ps : List Part}, (∀ p ∈ ps, PyData.strOk p.1 = true) → PyData.canLayAll0 (ps.map partD) = true
  | [], _ => by simp only [List.map_nil, PyData.canLayAll0]
  | p :: r, h => by
    rw [List.map_cons, PyData.canLayAll0, lay_pts fun q hq => h q (List.mem_cons_of_mem _ hq)]
    have := h p (List.mem_cons_self ..)
    simp only [partD, PyData.canLay0, PyData.canLayAll0, this, Bool.and_true]
theorem depth_pts : ∀ ps : List Part, PyData.depthAll (ps.map partD) ≤ 1
  | [] => by simp only [List.map_nil, PyData.depthAll]; omega
  | p :: r => by
    rw [List.map_cons, PyData.depthAll]  -- a part, and what is behind it
    have := depth_pts r
    simp [partD, PyData.depth, PyData.depthAll]
    omega
theorem shaped_pts {ps : List Part} (h : ∀ p ∈ ps, PyData.strOk p.1 = true) : SeqAt.shaped (PyData.list (ps.map partD)) = true := by
  unfold SeqAt.shaped
  rw [PyData.canLay0, lay_pts h, PyData.depth, Bool.true_and]
  exact decide_eq_true (by have := depth_pts ps; omega)
theorem eqv_pts {ps : List Part} (h : ∀ p ∈ ps, PyData.strOk p.1 = true) : PyData.eqv (PyData.list (ps.map partD)) (PyData.list (ps.map partD)) = true := SeqAt.eqv_refl _ (by rw [PyData.canLay0]; exact lay_pts h)
theorem eqv_pts_nil (ps : List Part) : PyData.eqv (PyData.list (ps.map partD)) (PyData.list []) = ps.isEmpty := by
  cases ps with
  | nil => simp [PyData.eqv, PyData.eqvAll]
  | cons p r => simp [PyData.eqv, PyData.eqvAll]
theorem pts_dat {H : Hp} {a : Addr} {us : List V} {ps : List Part} (e : H a = some (.lst us)) (h : Pts H us ps) : Dat H (.ref a) (.list (ps.map partD)) := .lst e (by rw [List.length_map]; exact h.1) fun i x d e1 e2 => by
  obtain ⟨p, ep, b, rfl, eb⟩ := Pts.at h e1
  rw [List.getElem?_map, ep] at e2
  have ed : partD p = d := Option.some.inj e2
  rw [← ed]
  refine .tup eb rfl fun j y d f1 f2 => ?_
  have hj : j < 3 := (List.getElem?_eq_some_iff.mp f1).1
  have : j = 0 ∨ j = 1 ∨ j = 2 := by omega
  rcases this with rfl | rfl | rfl
  · cases f1; cases f2; exact .str _
  · cases f1; cases f2; exact .int _
  · cases f1; cases f2; exact .int _
theorem sm_pts {ps : List Part} (h : ps.length ≤ 900) : Sm 2 (.list (ps.map partD)) := by
  refine ⟨by rw [List.length_map]; exact h, fun d hd => ?_⟩
  obtain ⟨p, _, rfl⟩ := List.mem_map.mp hd
  refine ⟨by show 3 ≤ 900; decide, fun d hd => ?_⟩
  rcases List.mem_cons.mp hd with e | hd
  · rw [e]; trivial
  rcases List.mem_cons.mp hd with e | hd
  · rw [e]; trivial
  · rw [List.mem_singleton.mp hd]; trivial
theorem noBl_pts (ps : List Part) : NoBl (.list (ps.map partD)) := by
  rw [NoBl]
  refine noBls_of fun d hd => ?_
  obtain ⟨p, _, rfl⟩ := List.mem_map.mp hd
  simp only [partD, NoBl, NoBls, and_self]

open G3
/-! ### _law_parts_by -/
abbrev sParts : Stmt := topS 12
theorem scParts : FnScope ["_law_state", "_law_marks", "_law_many", "_law_great", "_law_parts", "_law_turn", "_law_mark", "_law_first", "_law_near"] ["_law_state", "_law_marks", "_law_many", "_law_great"] (defScope sParts) := ⟨rfl, rfl, rfl, by decide +kernel, rfl, by decide +kernel, by decide +kernel⟩
/-- how great: few, or of thirty figures -/
def grB (gr : Int) : Int := if gr = 0 then 40 else 10 ^ 30
def Drawn (gr : Int) (n : Nat) (p : Part) : Prop := PyData.strOk p.1 = true ∧ 0 ≤ p.2.1 ∧ p.2.1 ≤ p.2.2 ∧ p.2.2 ≤ 2 * grB gr * n ∧ p.2.2 - p.2.1 < grB gr
theorem grB_pos (gr : Int) : 40 ≤ grB gr := by unfold grB; split <;> decide
theorem Drawn.up {gr : Int} {n : Nat} {p : Part} (h : Drawn gr n p) : Drawn gr (n + 1) p := by
  obtain ⟨h1, h2, h3, h4, h5⟩ := h
  have := grB_pos gr
  refine ⟨h1, h2, h3, Int.le_trans h4 ?_, h5⟩
  rw [Int.natCast_add, Int.mul_add]
  omega
def spParts : Sp := fun vs H Q _ => ∃ (d c ml : Addr) (t m gr : Int) (xs : List Str), vs = [.ref d, .ref ml, .int m, .int gr] ∧ StAt H d c t ∧ t + 300 < 2 ^ 60 ∧ H ml = some (.lst (xs.map V.str)) ∧ (∀ x ∈ xs, PyData.strOk x = true) ∧ xs ≠ [] ∧ xs.length ≤ 100 ∧ 0 ≤ m ∧ m ≤ 12 ∧ (gr = 0 ∨ gr = 1) ∧
  ∀ l (us : List V) (ps : List Part) (t' : Int) H', H l = none → H' l = some (.lst us) → Pts H' us ps → (ps.length : Int) = m → (∀ p ∈ ps, Drawn gr ps.length p) → t ≤ t' → t' ≤ t + 20 * m → StAt H' d c t' → Kp d c H H' → Q (.ref l) H'
def PartsW (H : Hp) (d c ml l : Addr) (t m gr : Int) (i : Nat) (σ : L2.St) (Hx : Hp) : Prop := ∃ (us : List V) (ps : List Part) (t' : Int) (y5 y6 y7 y8 : Option V), σ = [some (.ref d), some (.ref ml), some (.int m), some (.int gr), some (.ref l), y5, y6, y7, y8] ∧ Hx l = some (.lst us) ∧ Pts Hx us ps ∧ ps.length = i ∧ (∀ p ∈ ps, Drawn gr i p) ∧ t ≤ t' ∧ t' ≤ t + 20 * i ∧ StAt Hx d c t' ∧ Kp d c H Hx
section
variable {K : PySem.W.Frag} {mg : Str → Option Value} {P : Program} {w : World} {base : Heap}
theorem ok_parts {f : Addr} {fd : FuncData} (F : Fun K "_law_parts_by" "_law_parts_by" sParts f fd) (CT : Cal P w K mg base 1 "_law_take" ["_law_state", "_law_many"] spTake) (CN : Cal P w K mg base 2 "_law_number" ["_law_state", "_law_sort"] spNumber) (mr : mg "range" = none) (me : mg "len" = none) (mx : mg "max" = none) : FnOk P w K mg base CX0 3 f fd ["_law_state", "_law_marks", "_law_many", "_law_great"] spParts := by
  refine F.ok scParts (fun vs H Q E h => ?_) (fun cdv A outer s H vs Q E hr h => ?_)
  · obtain ⟨d, c, ml, t, m, gr, xs, rfl, _⟩ := h
    rfl
  · obtain ⟨d, c, ml, t, m, gr, xs, rfl, hS, ht, em, hxs, hne, hxl, m0, m1, hgr, q⟩ := h
    have hr1 := hr.mono (show 1 ≤ 2 by decide)
    refine ⟨_, pss_cons (ps_set (i := 4) scParts.nd rfl (.inl rfl) (pe_lst pa_nil))
      (pss_cons (ps_for PassesOwn.never rfl (pi_range1 rfl mr (pa_cons (pv 2) pa_nil)) (pg_name (i := 5) scParts.nd rfl (.inl rfl))
        (pss_cons (ps_par rfl scParts.nd (i := 6) (j := 7) rfl rfl (by decide) rfl rfl (pa_cons (pe_ix ix_list (pv 1) (pe_own CT hr1 (by rfl) (pa_cons (pv 0) (pa_cons (pe_callB call_len_seq (by rfl) me PySem.boot_len (pa_cons (pv 1) pa_nil)) pa_nil))) (fun _ _ => rfl)) (pa_cons (pe_own CN hr (by rfl) (pa_cons (pv 0) (pa_cons (pe_ix ix_list (pe_lst (pa_cons pe_int (pa_cons pe_int pa_nil))) (pv 3) (fun _ _ => rfl)) pa_nil))) pa_nil)) (by rfl))
        (Evl.pss_cut (ps_if (PW.pt (pw_and (pt_cmpR (op_neD hr.units) (pv 4) (pe_lst pa_nil) (nomark _)) (pw_and1 (pt_cmpR op_eq (pe_own CT hr1 (by rfl) (pa_cons (pv 0) (pa_cons pe_int pa_nil))) pe_int (nomark _)))))
          (pss_cons (ps_set (i := 8) scParts.nd rfl (.inl rfl) (pe_ix ix_list (pv 4) (pe_own CT hr1 (by rfl) (pa_cons (pv 0) (pa_cons (pe_callB call_len_seq (by rfl) me PySem.boot_len (pa_cons (pv 4) pa_nil)) pa_nil))) (fun _ _ => rfl)))
          (pss_one (ps_par rfl scParts.nd (i := 6) (j := 7) rfl rfl (by decide) rfl rfl (pa_cons (pe_ix ix_tup (pv 8) pe_int (fun _ _ => rfl)) (pa_cons (pe_ix ix_list (pe_lst (pa_cons (pe_ix ix_tup (pv 8) pe_int (fun _ _ => rfl)) (pa_cons (pe_ix ix_tup (pv 8) pe_int (fun _ _ => rfl)) (pa_cons (pe_op op_add (pe_ix ix_tup (pv 8) pe_int (fun _ _ => rfl)) pe_int) (pa_cons (pe_callB (call_max2 rfl) (by rfl) mx (by decide +kernel) (pa_cons pe_int (pa_cons (pe_op op_sub (pe_ix ix_tup (pv 8) pe_int (fun _ _ => rfl)) pe_int) pa_nil))) pa_nil))))) (pe_own CT hr1 (by rfl) (pa_cons (pv 0) (pa_cons pe_int pa_nil))) (fun _ _ => rfl)) pa_nil)) (by rfl)))) pss_nil)
        (pss_one (ps_expr (pe_bm PySem.F.plainAttrs_list PySem.F.slot_list_append PySem.F.type_list_append mt_append (pv 4) (pa_cons (pe_tup (pa_cons (pv 6) (pa_cons (pv 7) (pa_cons (pe_op op_add (pv 7) (pe_own CN hr (by rfl) (pa_cons (pv 0) (pa_cons (pe_ix ix_list (pe_ix ix_list (pe_lst (pa_cons (pe_lst (pa_cons pe_int (pa_cons pe_int pa_nil))) (pa_cons (pe_lst (pa_cons pe_int (pa_cons pe_int pa_nil))) pa_nil))) (pv 3) (fun _ _ => rfl)) (pe_own CT hr1 (by rfl) (pa_cons (pv 0) (pa_cons pe_int pa_nil))) (fun _ _ => rfl)) pa_nil)))) pa_nil)))) pa_nil)))))))
      (pss_one (ps_ret (pv 4)))), ?_⟩
    refine ⟨Nat.zero_le _, fun l nl => ?_⟩
    have s1 := same_upd (o := .lst []) nl
    have offl := hS.off nl
    have G := grB_pos gr
    refine ⟨_, rfl, m, rfl, by omega, by omega, for_range (n := m.toNat) (PartsW H d c ml l t m gr)
      ⟨[], [], t, _, _, _, _, rfl, upd_same, Pts.nil, rfl, (fun _ z => nomatch z), by omega, by omega, hS.same s1, Kp.same d c s1⟩ (fun i σ Hx hi hP => ?_) (fun σ Hx hP => ?_)⟩
    · obtain ⟨us, ps, t', y5, y6, y7, y8, rfl, el, hus, hpl, hps, u0, u1, hSx, kx⟩ := hP
      have hi12 : i < 12 := by omega
      have hul : us.length = i := by rw [hus.1, hpl]
      have emx := kx.lst hS em (noInt_strs xs)
      have lenm : (xs.map V.str).length = xs.length := List.length_map ..
      have hxp : 0 < xs.length := List.length_pos_iff.mpr hne
      -- a mark, a first tin
      refine ⟨_, rfl, _, rfl, _, rfl, ml, _, rfl, Sq.list emx, d, c, t', (xs.length : Int), by rw [lenm]; rfl, hSx, by omega, by omega, by omega, fun r H1 r0 r1 hS1 k1 => ?_⟩
      obtain ⟨jr, rfl⟩ := Int.eq_ofNat_of_zero_le r0
      have hjr : jr < xs.length := by omega
      have hat : atI (xs.map V.str) (jr : Int) = some (.str xs[jr]) := atI_nat (by rw [List.getElem?_map, List.getElem?_eq_getElem hjr]; rfl)
      refine ⟨ml, _, (jr : Int), .str xs[jr], rfl, rfl, SqL.of (k1.lst hSx emx (noInt_strs xs)), hat, ?_⟩
      refine ⟨_, rfl, (by show 2 ≤ sizeLine; decide), fun z nz => ?_⟩
      have sz := same_upd (o := .lst [.int 1, .int 3]) nz
      obtain ⟨kd, kd0, kdB, hat2⟩ : ∃ kd : Int, 0 ≤ kd ∧ sortB kd = grB gr ∧ atI [V.int 1, V.int 3] gr = some (.int kd) := by
        rcases hgr with rfl | rfl
        · exact ⟨1, by decide, by decide, rfl⟩
        · exact ⟨3, by decide, by decide, rfl⟩
      refine ⟨_, rfl, z, _, gr, .int kd, rfl, rfl, SqL.of upd_same, hat2, d, c, t' + 1, kd, rfl, hS1.same sz, by omega, kd0, fun f t2 H2 f0 f1 v0 v1 hS2 k2 => ?_⟩
      rw [kdB] at f1
      have k02 : Kp d c Hx H2 := k1.trans ((Kp.same d c sz).trans k2)
      have hA : (0 : Int) ≤ 2 * grB gr * (i : Int) := Int.mul_nonneg (by omega) (by omega)
      have hA1 : 2 * grB gr * ((i + 1 : Nat) : Int) = 2 * grB gr * (i : Int) + 2 * grB gr := by rw [Int.natCast_add, Int.mul_add]; simp
      have offl2 := offl
      have el2 := k02 _ _ offl.1 offl.2 el
      have hus2 := Pts.kp hus hSx k02
      have k2' : Kp d c H H2 := kx.trans k02
      refine ⟨_, _, rfl, ?_⟩
      refine ⟨fun σ' H' => ∃ (mk : Str) (fi t3 : Int) (y8 : Option V), σ' = [some (.ref d), some (.ref ml), some (.int m), some (.int gr), some (.ref l), some (.int (0 + (i : Int))), some (.str mk), some (.int fi), y8] ∧ PyData.strOk mk = true ∧ 0 ≤ fi ∧ fi ≤ 2 * grB gr * (i : Int) + grB gr ∧ t2 ≤ t3 ∧ t3 ≤ t2 + 3 ∧ H' l = some (.lst us) ∧ Pts H' us ps ∧ StAt H' d c t3 ∧ Kp d c H H', ?_, fun σ' H' hM => ?_⟩
      · -- near another one
        refine ⟨_, rfl, Nat.zero_le _, fun z2 nz2 => ?_⟩
        have sz2 := same_upd (o := .lst []) nz2
        refine ⟨_, _, .lst (SqL.of (sz2 _ _ el2)) (dp_pts (Pts.same hus2 sz2)), .lst (SqL.of upd_same) .nil, shaped_pts (fun p hp => (hps p hp).1), shaped_pts (ps := []) (fun _ z => nomatch z), _, rfl, ?_⟩
        have k3 : Kp d c H2 (upd H2 z2 (.lst [])) := Kp.same d c sz2
        have hS3 := hS2.same sz2
        have el3 := sz2 _ _ el2
        have hus3 := Pts.same hus2 sz2
        revert k3 hS3 el3 hus3
        generalize upd H2 z2 (.lst []) = H3
        intro k3 hS3 el3 hus3
        rw [eqv_pts_nil]
        refine ite2 (fun c1 => ?_) (fun c1 => ?_)
        · have hne2 : ps ≠ [] := fun z => by rw [z] at c1; exact absurd c1 (by decide)
          have hip : 0 < ps.length := List.length_pos_iff.mpr hne2
          refine ⟨_, rfl, d, c, t2, 2, rfl, hS3, by omega, by decide, by decide, fun r4 H4 r40 r41 hS4 k4 => ⟨rfl, _, rfl, ?_⟩⟩
          have el4 := k4 _ _ offl.1 offl.2 el3
          have hus4 := Pts.kp hus3 hS3 k4
          have k04 := (k2'.trans k3).trans k4
          refine ite2 (fun c2 => ?_) (fun c2 => ?_)
          · refine ⟨_, rfl, _, rfl, _, rfl, l, _, rfl, Sq.list el4, d, c, t2 + 1, (us.length : Int), rfl, hS4, by omega, by omega, by omega, fun r5 H5 r50 r51 hS5 k5 => ?_⟩
            obtain ⟨j5, rfl⟩ := Int.eq_ofNat_of_zero_le r50
            have hj5 : j5 < us.length := by omega
            have hus5 := Pts.kp hus4 hS4 k5
            have el5 := k5 _ _ offl.1 offl.2 el4
            obtain ⟨p, ep, g, eg0, eg⟩ := Pts.at hus5 (List.getElem?_eq_getElem hj5)
            obtain ⟨o0, o1, o2, o3, o4⟩ := hps p (List.mem_of_getElem? ep)
            refine ⟨l, _, (j5 : Int), .ref g, rfl, rfl, SqL.of el5, atI_nat (by rw [List.getElem?_eq_getElem hj5, eg0]), ?_⟩
            refine ⟨_, rfl, g, _, 0, .str p.1, rfl, rfl, .inl (.inl eg), atI_nat (j := 0) rfl, ?_⟩
            refine ⟨_, rfl, g, _, 1, .int p.2.1, rfl, rfl, .inl (.inl eg), atI_nat (j := 1) rfl, _, rfl, g, _, 2, .int p.2.2, rfl, rfl, .inl (.inl eg), atI_nat (j := 2) rfl, _, rfl, g, _, 2, .int p.2.2, rfl, rfl, .inl (.inl eg), atI_nat (j := 2) rfl, p.2.2, 1, rfl, rfl, _, rfl, g, _, 1, .int p.2.1, rfl, rfl, .inl (.inl eg), atI_nat (j := 1) rfl, p.2.1, 1, rfl, rfl, 0, p.2.1 - 1, rfl, (by show 4 ≤ sizeLine; decide), fun z6 nz6 => ?_⟩
            have sz6 := same_upd (o := .lst [.int p.2.1, .int p.2.2, .int (p.2.2 + 1), .int (if p.2.1 - 1 > 0 then p.2.1 - 1 else 0)]) nz6
            have off6 := hS5.off nz6
            refine ⟨_, rfl, d, c, t2 + 1 + 1, 4, rfl, hS5.same sz6, by omega, by decide, by decide, fun r7 H7 r70 r71 hS7 k7 => ?_⟩
            obtain ⟨fv, fv0, fv1, hat7⟩ : ∃ fv : Int, 0 ≤ fv ∧ fv ≤ p.2.2 + 1 ∧ atI [V.int p.2.1, V.int p.2.2, V.int (p.2.2 + 1), V.int (if p.2.1 - 1 > 0 then p.2.1 - 1 else 0)] r7 = some (.int fv) := by
              have : r7 = 0 ∨ r7 = 1 ∨ r7 = 2 ∨ r7 = 3 := by omega
              rcases this with rfl | rfl | rfl | rfl
              · exact ⟨_, o1, by omega, rfl⟩
              · exact ⟨_, by omega, by omega, rfl⟩
              · exact ⟨_, by omega, by omega, rfl⟩
              · exact ⟨_, by split <;> omega, by split <;> omega, rfl⟩
            have k57 : Kp d c H5 H7 := (Kp.same d c sz6).trans k7
            refine ⟨z6, _, r7, .int fv, rfl, rfl, SqL.of (k7 _ _ off6.1 off6.2 upd_same), hat7, _, _, rfl, ?_⟩
            exact ⟨p.1, fv, t2 + 1 + 1 + 1, _, rfl, o0, fv0, by omega, by omega, by omega, k57 _ _ offl.1 offl.2 el5, Pts.kp hus5 hS5 k57, hS7, (k04.trans k5).trans k57⟩
          · exact ⟨xs[jr], f, t2 + 1, _, rfl, hxs _ (List.getElem_mem hjr), f0, by omega, by omega, by omega, el4, hus4, hS4, k04⟩
        · exact iteF ⟨xs[jr], f, t2, _, rfl, hxs _ (List.getElem_mem hjr), f0, by omega, by omega, by omega, el3, hus3, hS3, k2'.trans k3⟩
      · obtain ⟨mk, fi, t3, y8', rfl, hmk, fi0, fi1, w0, w1, el3, hus3, hS3, k03⟩ := hM
        refine ⟨_, rfl, .inl ⟨rfl, _, SqL.of el3⟩, _, rfl, _, rfl, _, rfl, _, rfl, (by show 2 ≤ sizeLine; decide), fun z1 nz1 => ⟨(by show 2 ≤ sizeLine; decide), fun z2 nz2 => ⟨(by show 2 ≤ sizeLine; decide), fun z3 nz3 => ?_⟩⟩⟩
        have q1 := same_upd (o := .lst [.int 0, .int 1]) nz1
        have q2 := same_upd (o := .lst [.int 0, .int 3]) nz2
        have q3 := same_upd (o := .lst [.ref z1, .ref z2]) nz3
        have Q3 := (q1.trans q2).trans q3
        have off1 := hS3.off nz1
        have off2 := (hS3.same q1).off nz2
        have e1 := q3 _ _ (q2 _ _ (upd_same (H := H') (a := z1) (o := .lst [.int 0, .int 1])))
        have e2 := q3 _ _ (upd_same (H := upd H' z1 (.lst [.int 0, .int 1])) (a := z2) (o := .lst [.int 0, .int 3]))
        have hS4 := hS3.same Q3
        obtain ⟨zz, ww, ez, ew, hat3⟩ : ∃ zz ww, atI [V.ref z1, V.ref z2] gr = some (.ref zz) ∧ (∀ Hy, Kp d c (upd (upd (upd H' z1 (.lst [.int 0, .int 1])) z2 (.lst [.int 0, .int 3])) z3 (.lst [.ref z1, .ref z2])) Hy → Hy zz = some (.lst ww)) ∧ ∀ r : Int, 0 ≤ r → r < 2 → ∃ kd : Int, 0 ≤ kd ∧ sortB kd ≤ grB gr ∧ atI ww r = some (.int kd) := by
          rcases hgr with rfl | rfl
          · refine ⟨z1, _, rfl, fun Hy ky => ky _ _ off1.1 off1.2 e1, fun r r0 r1 => ?_⟩
            have : r = 0 ∨ r = 1 := by omega
            rcases this with rfl | rfl
            · exact ⟨0, by decide, by decide, rfl⟩
            · exact ⟨1, by decide, by decide, rfl⟩
          · refine ⟨z2, _, rfl, fun Hy ky => ky _ _ off2.1 off2.2 e2, fun r r0 r1 => ?_⟩
            have : r = 0 ∨ r = 1 := by omega
            rcases this with rfl | rfl
            · exact ⟨0, by decide, by decide, rfl⟩
            · exact ⟨3, by decide, by decide, rfl⟩
        refine ⟨_, rfl, z3, _, gr, .ref zz, rfl, rfl, SqL.of upd_same, ez, _, rfl, d, c, t3, 2, rfl, hS4, by omega, by decide, by decide, fun r5 H5 r50 r51 hS5 k5 => ?_⟩
        obtain ⟨kd2, kd20, kd2B, hat5⟩ := hat3 r5 r50 r51
        refine ⟨zz, _, r5, .int kd2, rfl, rfl, SqL.of (ew _ k5), hat5, d, c, t3 + 1, kd2, rfl, hS5, by omega, kd20, fun r6 t6 H6 r60 r61 v60 v61 hS6 k6 => ?_⟩
        have k36 : Kp d c H' H6 := (Kp.same d c Q3).trans (k5.trans k6)
        refine ⟨fi, r6, rfl, rfl, (by show 3 ≤ sizeLine; decide), fun T nT => ?_⟩
        have sT := same_upd (o := .tup [.str mk, .int fi, .int (fi + r6)]) nT
        have el6 := sT _ _ (k36 _ _ offl.1 offl.2 el3)
        refine ⟨l, _, _, rfl, rfl, el6, small1000 (by omega), us ++ [.ref T], ps ++ [(mk, fi, fi + r6)], t6, _, _, _, _, rfl, upd_same, Pts.upd_lst (Pts.app (Pts.same (Pts.kp hus3 hS3 k36) sT) (Pts.one ⟨T, rfl, upd_same⟩)) el6, by rw [List.length_append, hpl]; rfl, fun p hp => ?_, by omega, by omega, (hS6.same sT).upd offl.1 offl.2, fun b o b1 b2 e => ?_⟩
        · rcases List.mem_append.mp hp with z | z
          · exact (hps p z).up
          · rw [List.mem_singleton.mp z]
            refine ⟨hmk, fi0, (by show fi ≤ fi + r6; omega), (by show fi + r6 ≤ _; rw [hA1]; omega), (by show fi + r6 - fi < _; omega)⟩
        · rw [upd_ne (ne_of_none e nl)]
          exact sT _ _ (k36 b o b1 b2 (k03 b o b1 b2 e))
    · obtain ⟨us, ps, t', y5, y6, y7, y8, rfl, el, hus, hpl, hps, u0, u1, hSx, kx⟩ := hP
      exact ⟨_, rfl, q l us ps t' Hx nl el hus (by omega) (by rw [hpl]; exact hps) u0 (by omega) hSx kx⟩
end

open G3
/-! ### _law_packing_by -/
abbrev sPackBy : Stmt := topS 13
theorem scPackBy : FnScope ["_law_state", "_law_name", "_law_marks", "_law_great", "_law_parts", "_law_many", "_law_sizes", "_law_mark", "_law_first", "_law_last"] ["_law_state", "_law_name", "_law_marks", "_law_great"] (defScope sPackBy) := ⟨rfl, rfl, rfl, by decide +kernel, rfl, by decide +kernel, by decide +kernel⟩
/-- a packing with a list of its parts, as it is drawn -/
def spPackBy : Sp := fun vs H Q _ => ∃ (d c ml : Addr) (t gr : Int) (nm : Str) (xs : List Str), vs = [.ref d, .str nm, .ref ml, .int gr] ∧ StAt H d c t ∧ t + 400 < 2 ^ 60 ∧ H ml = some (.lst (xs.map V.str)) ∧ (∀ x ∈ xs, PyData.strOk x = true) ∧ xs ≠ [] ∧ xs.length ≤ 100 ∧ (gr = 0 ∨ gr = 1) ∧
  ∀ (b l : Addr) (us : List V) (ps : List Part) (sz t' : Int) H', H' b = some (.tup [.str nm, .int sz, .ref l]) → H' l = some (.lst us) → Pts H' us ps → ps.length ≤ 12 → (∀ p ∈ ps, Drawn gr ps.length p) → 1 ≤ sz → (sz ≤ 10 ^ 50) → t ≤ t' → t' ≤ t + 260 → StAt H' d c t' → Kp d c H H' → Q (.ref b) H'
theorem Drawn.ok {gr : Int} {n : Nat} {p : Part} (h : Drawn gr n p) (hn : n ≤ 12) : Okp p := by
  obtain ⟨h1, h2, h3, h4, h5⟩ := h
  refine ⟨h1, h2, h3, Int.le_trans h4 ?_⟩
  have hn' : (n : Int) ≤ 12 := by omega
  have hg : grB gr ≤ 10 ^ 30 := by unfold grB; split <;> decide
  have h0 := grB_pos gr
  have : 2 * grB gr * (n : Int) ≤ 2 * grB gr * 12 := Int.mul_le_mul_of_nonneg_left hn' (by omega)
  have e40 : (10 : Int) ^ 40 = 10 ^ 10 * 10 ^ 30 := by decide
  omega
theorem sum_snoc (ns : List Int) (x : Int) : (ns ++ [x]).sum = ns.sum + x := by rw [List.sum_append]; simp
section
variable {K : PySem.W.Frag} {mg : Str → Option Value} {P : Program} {w : World} {base : Heap}
theorem ok_packby {f : Addr} {fd : FuncData} (F : Fun K "_law_packing_by" "_law_packing_by" sPackBy f fd) (CT : Cal P w K mg base 1 "_law_take" ["_law_state", "_law_many"] spTake) (CN : Cal P w K mg base 2 "_law_number" ["_law_state", "_law_sort"] spNumber) (CP : Cal P w K mg base 3 "_law_parts_by" ["_law_state", "_law_marks", "_law_many", "_law_great"] spParts) (ms : mg "sum" = none) (mx : mg "max" = none) : FnOk P w K mg base CX0 4 f fd ["_law_state", "_law_name", "_law_marks", "_law_great"] spPackBy := by
  refine F.ok scPackBy (fun vs H Q E h => ?_) (fun cdv A outer s H vs Q E hr h => ?_)
  · obtain ⟨d, c, ml, t, gr, nm, xs, rfl, _⟩ := h
    rfl
  · obtain ⟨d, c, ml, t, gr, nm, xs, rfl, hS, ht, em, hxs, hne, hxl, hgr, q⟩ := h
    have hr1 := hr.mono (show 1 ≤ 3 by decide)
    have hr2 := hr.mono (show 2 ≤ 3 by decide)
    refine ⟨_, pss_cons (ps_set (i := 4) scPackBy.nd rfl (.inl rfl) (pe_own CP hr (by rfl) (pa_cons (pv 0) (pa_cons (pv 2) (pa_cons (pe_ix ix_list (pe_lst (pa_cons pe_int (pa_cons pe_int (pa_cons pe_int (pa_cons pe_int (pa_cons pe_int pa_nil)))))) (pe_own CT hr1 (by rfl) (pa_cons (pv 0) (pa_cons pe_int pa_nil))) (fun _ _ => rfl)) (pa_cons (pv 3) pa_nil))))))
      (pss_cons (ps_set (i := 5) scPackBy.nd rfl (.inl rfl) (pe_callB (cr_sum rfl) (by rfl) ms (by decide +kernel) (pa_cons (pe_lc (own := [("_law_mark", 7), ("_law_first", 8), ("_law_last", 9)]) (g := gTup K 3 (gCons (gName 7) (gCons (gName 8) (gCons (gName 9) gNil)))) (tt := tYes) (te := tOp (rI0 fun i j => .int (i + j)) (tOp (rI0 fun i j => .int (i - j)) (tVar 9) (tVar 8)) (tC (.int 1))) rfl scPackBy.nd (pi_list (pv 4))
            (blkOk_by (own := [("_law_mark", 7), ("_law_first", 8), ("_law_last", 9)]) (N := ["_law_state", "_law_name", "_law_marks", "_law_great", "_law_parts", "_law_many", "_law_sizes", "_law_mark", "_law_first", "_law_last"]) (sc := defScope sPackBy) (by decide +kernel)) (fun _ _ _ _ _ => pg_tup rfl (pgs_cons (pg_name (i := 7) scPackBy.nd rfl (.inl rfl)) (pgs_cons (pg_name (i := 8) scPackBy.nd rfl (.inl rfl)) (pgs_cons (pg_name (i := 9) scPackBy.nd rfl (.inl rfl)) pgs_nil)))) (fun _ _ _ _ _ => pts_nil) (fun _ _ _ _ _ => pe_op op_add (pe_op op_sub (pv 9) (pv 8)) pe_int)) pa_nil)))
      (pss_cons (ps_set (i := 6) scPackBy.nd rfl (.inl rfl) (pe_lst (pa_cons pe_int (pa_cons (pe_op op_add pe_int (pe_own CT hr1 (by rfl) (pa_cons (pv 0) (pa_cons pe_int pa_nil)))) (pa_cons (pe_callB (call_max2 rfl) (by rfl) mx (by decide +kernel) (pa_cons pe_int (pa_cons (pv 5) pa_nil))) (pa_cons (pe_op op_add (pv 5) pe_int) (pa_cons (pe_op op_add pe_int (pe_own CN hr2 (by rfl) (pa_cons (pv 0) (pa_cons (pe_ix ix_list (pe_lst (pa_cons pe_int (pa_cons pe_int pa_nil))) (pv 3) (fun _ _ => rfl)) pa_nil)))) pa_nil)))))))
      (pss_one (ps_ret (pe_tup (pa_cons (pv 1) (pa_cons (pe_ix ix_list (pv 6) (pe_own CT hr1 (by rfl) (pa_cons (pv 0) (pa_cons pe_int pa_nil))) (fun _ _ => rfl)) (pa_cons (pv 4) pa_nil)))))))), ?_⟩
    -- parts
    refine ⟨_, rfl, _, rfl, (by show 5 ≤ sizeLine; decide), fun z nz => ?_⟩
    have sz1 := same_upd (o := .lst [.int 0, .int 1, .int 2, .int 3, .int 12]) nz
    have offz := hS.off nz
    refine ⟨_, rfl, d, c, t, 5, rfl, hS.same sz1, by omega, by decide, by decide, fun r H1 r0 r1 hS1 k1 => ?_⟩
    obtain ⟨m, m0, m1, hat⟩ : ∃ m : Int, 0 ≤ m ∧ m ≤ 12 ∧ atI [V.int 0, V.int 1, V.int 2, V.int 3, V.int 12] r = some (.int m) := by
      have : r = 0 ∨ r = 1 ∨ r = 2 ∨ r = 3 ∨ r = 4 := by omega
      rcases this with rfl | rfl | rfl | rfl | rfl
      · exact ⟨_, by decide, by decide, rfl⟩
      · exact ⟨_, by decide, by decide, rfl⟩
      · exact ⟨_, by decide, by decide, rfl⟩
      · exact ⟨_, by decide, by decide, rfl⟩
      · exact ⟨_, by decide, by decide, rfl⟩
    have k01 : Kp d c H H1 := (Kp.same d c sz1).trans k1
    refine ⟨z, _, r, .int m, rfl, rfl, SqL.of (k1 _ _ offz.1 offz.2 upd_same), hat, _, rfl, d, c, ml, t + 1, m, gr, xs, rfl, hS1, by omega, k01.lst hS em (noInt_strs xs), hxs, hne, hxl, m0, m1, hgr, fun l us ps t2 H2 nl el hus hpm hps u0 u1 hS2 k2 => ?_⟩
    have hpl : ps.length ≤ 12 := by omega
    have hok : ∀ p ∈ ps, Okp p := fun p hp => (hps p hp).ok hpl
    have offl := hS1.off nl
    -- many
    refine ⟨_, rfl, l, rfl, ⟨_, SqL.of el⟩, fun D nD => lc_list (xs := us) (fun j H' => Same H2 H' ∧ H' D = some (.lst (((ps.take j).map cntP).map V.int))) ⟨same_upd nD, upd_same⟩ (fun j H' _ hP => SqL.of (hP.1 _ _ el)) (fun j x H' hx hP => ?_) (fun H3 hP => ?_)⟩
    · obtain ⟨sm, eD⟩ := hP
      obtain ⟨p, ep, g, rfl, eg⟩ := Pts.at (Pts.same hus sm) hx
      refine ⟨g, _, rfl, .inl (.inl eg), rfl, _, _, rfl, _, _, rfl, _, _, rfl, rfl, rfl, ?_⟩
      refine ⟨_, rfl, _, rfl, p.2.2, p.2.1, rfl, rfl, _, 1, rfl, rfl, _, eD, small1000 (by rw [List.length_map, List.length_map, List.length_take]; omega), fun c o e => ?_, ?_⟩
      · rw [upd_ne (ne_of_none e nD)]
        exact sm c o e
      · rw [upd_same, take_snoc ep, List.map_append, List.map_append]
        rfl
    · obtain ⟨s3, eD⟩ := hP
      rw [hus.1, List.take_length] at eD
      have hcb := cntF_bound hok
      refine ⟨D, ps.map cntP, rfl, SqL.of eD, ?_⟩
      have esum : (ps.map cntP).sum = cntF ps := rfl
      rw [esum]
      have hS3 := hS2.same s3
      have el3 := s3 _ _ el
      have hus3 := Pts.same hus s3
      have k3 : Kp d c H H3 := (k01.trans k2).trans (Kp.same d c s3)
      -- sizes
      refine ⟨_, rfl, d, c, t2, 12, rfl, hS3, by omega, by decide, by decide, fun r4 H4 r40 r41 hS4 k4 => ⟨1, r4, rfl, rfl, ?_⟩⟩
      refine ⟨_, rfl, 1, cntF ps, rfl, _, rfl, cntF ps, 1, rfl, rfl, _, rfl, (by show 2 ≤ sizeLine; decide), fun z5 nz5 => ?_⟩
      have sz5 := same_upd (o := .lst [.int 1, .int 3]) nz5
      obtain ⟨kd, kd0, hat5⟩ : ∃ kd : Int, 0 ≤ kd ∧ atI [V.int 1, V.int 3] gr = some (.int kd) := by
        rcases hgr with rfl | rfl
        · exact ⟨1, by decide, rfl⟩
        · exact ⟨3, by decide, rfl⟩
      refine ⟨_, rfl, z5, _, gr, .int kd, rfl, rfl, SqL.of upd_same, hat5, d, c, t2 + 1, kd, rfl, hS4.same sz5, by omega, kd0, fun r6 t6 H6 r60 r61 v60 v61 hS6 k6 => ⟨1, r6, rfl, rfl, (by show 5 ≤ sizeLine; decide), fun z7 nz7 => ?_⟩⟩
      have hr6 := sortB_le kd
      have sz7 := same_upd (o := .lst [.int 1, .int (1 + r4), .int (if cntF ps > 1 then cntF ps else 1), .int (cntF ps + 1), .int (1 + r6)]) nz7
      have off7 := hS6.off nz7
      have k36 : Kp d c H3 H6 := k4.trans ((Kp.same d c sz5).trans k6)
      have hE : (10 : Int) ^ 50 = 10 ^ 10 * 10 ^ 40 := by decide
      have hE3 : (10 : Int) ^ 40 = 10 ^ 10 * 10 ^ 30 := by decide
      have hcb2 : cntF ps ≤ (10 ^ 40 + 1) * 12 := Int.le_trans hcb.2 (Int.mul_le_mul_of_nonneg_left (by omega) (by decide))
      refine ⟨_, rfl, _, rfl, _, rfl, d, c, t6, 5, rfl, hS6.same sz7, by omega, by decide, by decide, fun r8 H8 r80 r81 hS8 k8 => ?_⟩
      obtain ⟨sz, sz0, szB, hat8⟩ : ∃ sz : Int, 1 ≤ sz ∧ sz ≤ 10 ^ 50 ∧ atI [V.int 1, V.int (1 + r4), V.int (if cntF ps > 1 then cntF ps else 1), V.int (cntF ps + 1), V.int (1 + r6)] r8 = some (.int sz) := by
        have : r8 = 0 ∨ r8 = 1 ∨ r8 = 2 ∨ r8 = 3 ∨ r8 = 4 := by omega
        rcases this with rfl | rfl | rfl | rfl | rfl
        · exact ⟨_, by omega, by omega, rfl⟩
        · exact ⟨_, by omega, by omega, rfl⟩
        · exact ⟨_, by split <;> omega, by split <;> omega, rfl⟩
        · exact ⟨_, by omega, by omega, rfl⟩
        · exact ⟨_, by omega, by omega, rfl⟩
      refine ⟨z7, _, r8, .int sz, rfl, rfl, SqL.of (k8 _ _ off7.1 off7.2 upd_same), hat8, _, rfl, (by show 3 ≤ sizeLine; decide), fun T nT => ?_⟩
      have sT := same_upd (o := .tup [.str nm, .int sz, .ref l]) nT
      have k38 : Kp d c H3 (upd H8 T (.tup [.str nm, .int sz, .ref l])) := (k36.trans ((Kp.same d c sz7).trans k8)).trans (Kp.same d c sT)
      exact q T l us ps sz (t6 + 1) _ upd_same (k38 _ _ offl.1 offl.2 el3) (Pts.kp hus3 hS3 k38) hpl hps sz0 szB (by omega) (by omega) (hS8.same sT) (k3.trans k38)
end

open G3
/-! ### how many cases, and where none has tins -/
theorem rowF_none {sz cs sp : Int} {p : Part} (hs : 1 ≤ sz) (hp : p.2.1 ≤ p.2.2) : rowF sz cs sp p = none ↔ ¬ (sp < cs * sz + sz ∧ cs * sz < sp + cntP p) := by
  unfold rowF cntP
  dsimp only
  generalize cs * sz = m
  by_cases c : (if m - (sp - p.2.1) > p.2.1 then m - (sp - p.2.1) else p.2.1) ≤ (if m + sz - 1 - (sp - p.2.1) < p.2.2 then m + sz - 1 - (sp - p.2.1) else p.2.2)
  · rw [if_pos c]
    refine ⟨fun z => (nomatch z), fun z => ?_⟩
    split at c <;> split at c <;> omega
  · rw [if_neg c]
    refine ⟨fun _ => ?_, fun _ => rfl⟩
    split at c <;> split at c <;> omega
theorem cntF_nonneg : ∀ {ps : List Part}, (∀ p ∈ ps, p.2.1 ≤ p.2.2) → 0 ≤ cntF ps
  | [], _ => Int.le_refl _
  | p :: r, h => by
    have h1 := cntF_nonneg (ps := r) fun q hq => h q (List.mem_cons_of_mem _ hq)
    have h2 := h p (List.mem_cons_self ..)
    rw [cntF_cons]
    unfold cntP
    omega
theorem rowsG_nil {sz cs : Int} (hs : 1 ≤ sz) : ∀ {sp : Int} {ps : List Part}, (∀ p ∈ ps, p.2.1 ≤ p.2.2) → (rowsG sz cs sp ps = [] ↔ ¬ (0 < cntF ps ∧ sp < cs * sz + sz ∧ cs * sz < sp + cntF ps))
  | sp, [], _ => ⟨fun _ h => absurd h.1 (by decide), fun _ => rfl⟩
  | sp, p :: r, h => by
    have hr : ∀ q ∈ r, q.2.1 ≤ q.2.2 := fun q hq => h q (List.mem_cons_of_mem _ hq)
    have hp := h p (List.mem_cons_self ..)
    have ih := rowsG_nil hs (cs := cs) (sp := sp + cntP p) hr
    have h0 := cntF_nonneg hr
    have hc : 1 ≤ cntP p := by unfold cntP; omega
    have hf := rowF_none (cs := cs) (sp := sp) hs hp
    have e : rowsG sz cs sp (p :: r) = [] ↔ rowF sz cs sp p = none ∧ rowsG sz cs (sp + cntP p) r = [] := by
      show (rowF sz cs sp p).toList ++ _ = [] ↔ _
      rw [List.append_eq_nil_iff]
      cases rowF sz cs sp p
      · exact ⟨fun z => ⟨rfl, z.2⟩, fun z => ⟨rfl, z.2⟩⟩
      · exact ⟨fun z => (nomatch z.1), fun z => (nomatch z.1)⟩
    rw [e, hf, ih, cntF_cons]
    generalize cs * sz = m
    omega
def casesF (sz : Int) (ps : List Part) : Int := (cntF ps + sz - 1) / sz
theorem cases_mul {sz C : Int} (hs : 1 ≤ sz) : (C + sz - 1) / sz * sz ≤ C + sz - 1 ∧ C ≤ (C + sz - 1) / sz * sz := by
  have h := (div_iff (x := C + sz - 1) (cs := (C + sz - 1) / sz) hs).mp rfl
  omega
theorem rows_nil {sz cs : Int} {ps : List Part} (hs : 1 ≤ sz) (hc : 0 ≤ cs) (hp : ∀ p ∈ ps, p.2.1 ≤ p.2.2) : (rowsG sz cs 0 ps).isEmpty = decide (casesF sz ps ≤ cs) := by
  rw [Bool.eq_iff_iff, List.isEmpty_iff, decide_eq_true_iff, rowsG_nil hs hp]
  have h0 := cntF_nonneg hp
  have hm : 0 ≤ cs * sz := Int.mul_nonneg hc (by omega)
  have ⟨g1, g2⟩ := cases_mul (C := cntF ps) hs
  unfold casesF
  revert g1 g2
  generalize (cntF ps + sz - 1) / sz = k
  intro g1 g2
  constructor
  · intro h
    have h1 : cntF ps ≤ cs * sz := by omega
    by_cases c : k ≤ cs
    · exact c
    · have := Int.mul_le_mul_of_nonneg_right (show cs + 1 ≤ k by omega) (show 0 ≤ sz by omega)
      rw [Int.add_mul] at this
      omega
  · intro h
    have := Int.mul_le_mul_of_nonneg_right h (show 0 ≤ sz by omega)
    omega
theorem cases_le {sz : Int} {ps : List Part} (hs : 1 ≤ sz) (hp : ∀ p ∈ ps, p.2.1 ≤ p.2.2) : 0 ≤ casesF sz ps ∧ casesF sz ps ≤ cntF ps := by
  have h0 := cntF_nonneg hp
  have ⟨g1, g2⟩ := cases_mul (C := cntF ps) hs
  unfold casesF
  revert g1 g2
  have hk : 0 ≤ (cntF ps + sz - 1) / sz := Int.ediv_nonneg (by omega) (by omega)
  revert hk
  generalize (cntF ps + sz - 1) / sz = k
  intro hk g1 g2
  refine ⟨hk, ?_⟩
  by_cases c : k ≤ cntF ps
  · exact c
  · have h1 := Int.mul_le_mul_of_nonneg_right (show cntF ps + 1 ≤ k by omega) (show 0 ≤ sz by omega)
    have h2 := Int.mul_le_mul_of_nonneg_left hs h0
    rw [Int.add_mul] at h1
    omega
theorem drawn0 {n : Nat} {p : Part} (h : Drawn 0 n p) (hn : n ≤ 12) : Few p := by
  obtain ⟨h1, h2, h3, h4, h5⟩ := h
  have e : grB 0 = 40 := rfl
  rw [e] at h4 h5
  exact ⟨h1, h2, h3, by omega, by omega⟩
theorem cntF40 : ∀ {ps : List Part} {n : Nat}, (∀ p ∈ ps, Drawn 0 n p) → cntF ps ≤ 40 * (ps.length : Int)
  | [], _, _ => by show (0 : Int) ≤ _; simp
  | p :: r, n, h => by
    have h1 := cntF40 (ps := r) fun q hq => h q (List.mem_cons_of_mem _ hq)
    obtain ⟨_, _, _, _, h5⟩ := h p (List.mem_cons_self ..)
    have e : grB 0 = 40 := rfl
    rw [e] at h5
    rw [cntF_cons, List.length_cons]
    unfold cntP
    omega
theorem rowF_ok {sz cs sp : Int} {p q : Part} (h : PyData.strOk p.1 = true) (e : rowF sz cs sp p = some q) : PyData.strOk q.1 = true := by
  unfold rowF at e
  dsimp only at e
  revert e
  generalize (if cs * sz - (sp - p.2.1) > p.2.1 then cs * sz - (sp - p.2.1) else p.2.1) = lo
  generalize (if cs * sz + sz - 1 - (sp - p.2.1) < p.2.2 then cs * sz + sz - 1 - (sp - p.2.1) else p.2.2) = hi
  intro e
  split at e
  · cases e; exact h
  · cases e
theorem rowsG_ok {sz cs : Int} : ∀ {sp : Int} {ps : List Part}, (∀ p ∈ ps, PyData.strOk p.1 = true) → ∀ q ∈ rowsG sz cs sp ps, PyData.strOk q.1 = true
  | _, [], _, _, hq => nomatch hq
  | sp, p :: r, h, q, hq => by
    rcases List.mem_append.mp hq with z | z
    · exact rowF_ok (h p (List.mem_cons_self ..)) (Option.mem_toList.mp z)
    · exact rowsG_ok (fun q hq => h q (List.mem_cons_of_mem _ hq)) q z
/-! ### the law -/
abbrev sLaw : Stmt := topS 17
theorem scLaw : FnScope ["_law_script", "_law_state", "_law_marks", "_law_name", "_law_packing", "_law_handed", "_law_tins", "_law_many", "_law_some", "_law_case", "_law_due_here", "_law_found", "_law_turn"] ["_law_script"] (defScope sLaw) := ⟨rfl, rfl, rfl, by decide +kernel, rfl, by decide +kernel, by decide +kernel⟩
def spLaw (K : PySem.W.Frag) (Pt : Addr) : Sp := fun vs H Q _ => ∃ (a : Addr) (ns : List Int), vs = [.ref a] ∧ SqL K H a (ns.map V.int) ∧ ns.length ≤ 63 ∧ GxR.TabG H Pt ∧ ∀ H', Q (.bl true) H'
/-- what stands while a packing is gone through -/
structure MidP (Pt d c ml nl b b' l : Addr) (t : Int) (nm : Str) (sz : Int) (us : List V) (ps : List Part) (xs ns : List Str) (H : Hp) : Prop where
  st : StAt H d c t
  tab : GxR.TabG H Pt
  em : H ml = some (.lst (xs.map V.str))
  en : H nl = some (.lst (ns.map V.str))
  eb : H b = some (.tup [.str nm, .int sz, .ref l])
  el : H l = some (.lst us)
  hus : Pts H us ps
  hb : PkA H b' nm sz ps
theorem MidP.same {Pt d c ml nl b b' l : Addr} {t : Int} {nm : Str} {sz : Int} {us : List V} {ps : List Part} {xs ns : List Str} {H H' : Hp} (m : MidP Pt d c ml nl b b' l t nm sz us ps xs ns H) (s : Same H H') : MidP Pt d c ml nl b b' l t nm sz us ps xs ns H' :=
  ⟨m.st.same s, tabG_same m.tab s, s _ _ m.em, s _ _ m.en, s _ _ m.eb, s _ _ m.el, Pts.same m.hus s, m.hb.same s⟩
theorem MidP.kp {Pt d c ml nl b b' l : Addr} {t t' : Int} {nm : Str} {sz : Int} {us : List V} {ps : List Part} {xs ns : List Str} {H H' : Hp} (m : MidP Pt d c ml nl b b' l t nm sz us ps xs ns H) (S : StAt H' d c t') (k : Kp d c H H') : MidP Pt d c ml nl b b' l t' nm sz us ps xs ns H' :=
  ⟨S, tabG_kp m.tab m.st k, k.lst m.st m.em (noInt_strs xs), k.lst m.st m.en (noInt_strs ns), k.tup m.st m.eb, k.lst m.st m.el (Pts.noInt m.hus), Pts.kp m.hus m.st k, m.hb.kp m.st k⟩
theorem MidP.tabd {Pt d c ml nl b b' l : Addr} {t : Int} {nm : Str} {sz : Int} {us : List V} {ps : List Part} {xs ns : List Str} {H H' : Hp} (m : MidP Pt d c ml nl b b' l t nm sz us ps xs ns H) (x : GxR.Tabbed Pt H H') : MidP Pt d c ml nl b b' l t nm sz us ps xs ns H' :=
  ⟨m.st.tab m.tab x, x.1, tab_at m.tab x m.em (fun _ z => nomatch z), tab_at m.tab x m.en (fun _ z => nomatch z), tab_at m.tab x m.eb (fun _ z => nomatch z), tab_at m.tab x m.el (fun _ z => nomatch z), Pts.tab m.hus m.tab x, m.hb.tab m.tab x⟩
theorem MidP.pk {Pt d c ml nl b b' l : Addr} {t : Int} {nm : Str} {sz : Int} {us : List V} {ps : List Part} {xs ns : List Str} {H : Hp} (m : MidP Pt d c ml nl b b' l t nm sz us ps xs ns H) : PkA H b nm sz ps := ⟨l, us, m.eb, .inl m.el, m.hus⟩
theorem rg_ints (m : Int) : rgV 0 m = ((List.range m.toNat).map fun i => ((i : Nat) : Int)).map V.int := by
  unfold rgV
  rw [List.map_map, Int.sub_zero]
  refine List.map_congr_left fun i _ => ?_
  show V.int (0 + (i : Int)) = V.int (i : Int)
  rw [Int.zero_add]
section
variable {K : PySem.W.Frag} {mg : Str → Option Value} {P : Program} {w : World} {base : Heap}
theorem ok_law {f Pt : Addr} {fd : FuncData} (F : Fun K "law" "law" sLaw f fd) (CB : Cal P w K mg base 1 "_law_begin" ["_law_script"] (spBegin K)) (CT : Cal P w K mg base 1 "_law_take" ["_law_state", "_law_many"] spTake) (CU : Cal P w K mg base 2 "_law_number" ["_law_state", "_law_sort"] spNumber) (CN : Cal P w K mg base 2 "_law_names" ["_law_state", "_law_many"] spNames) (CM : Cal P w K mg base 2 "_law_marks_by" ["_law_state", "_law_many"] spNames)
    (CK : Cal P w K mg base 4 "_law_packing_by" ["_law_state", "_law_name", "_law_marks", "_law_great"] spPackBy) (CG : Cal P w K mg base 2 "_law_given" ["_law_state", "_law_packing"] spGiven) (CL : Cal P w K mg base 1 "_law_laid_out" ["_law_packing"] spLaid) (CE : Cal P w K mg base 3 "_law_same" ["_law_found", "_law_due_here"] (spSame 2)) (CD : Cal P w K mg base 1 "_law_due" ["_law_packing", "_law_case"] spDue) (CC : Cal P w K mg base 2 "cases_of" ["packing"] (spCases Pt)) (CI : Cal P w K mg base 2 "tins_in" ["packing", "case"] spTinsIn)
    (mr : mg "range" = none) (ml' : mg "list" = none) (me : mg "len" = none) (mm : mg "min" = none) :
    FnOk P w K mg base CX0 5 f fd ["_law_script"] (spLaw K Pt) := by
  refine F.ok scLaw (fun vs H Q E h => ?_) (fun cdv A outer s H vs Q E hr h => ?_)
  · obtain ⟨a, ns, rfl, _⟩ := h
    rfl
  · obtain ⟨a, ns, rfl, hS, hlen, hT, q⟩ := h
    have hr1 := hr.mono (show 1 ≤ 4 by decide)
    have hr2 := hr.mono (show 2 ≤ 4 by decide)
    have hr3 := hr.mono (show 3 ≤ 4 by decide)
    refine ⟨_, pss_cons (ps_set (i := 1) scLaw.nd rfl (.inr rfl) (pe_own CB hr1 (by rfl) (pa_cons (pv 0) pa_nil)))
      (pss_cons (ps_set (i := 2) scLaw.nd rfl (.inl rfl) (pe_own CM hr2 (by rfl) (pa_cons (pv 1) (pa_cons pe_int pa_nil))))
      (pss_cons (ps_for PassesOwn.never rfl (pi_list (pe_own CN hr2 (by rfl) (pa_cons (pv 1) (pa_cons pe_int pa_nil)))) (pg_name (i := 3) scLaw.nd rfl (.inl rfl))
        (pss_cons (ps_set (i := 4) scLaw.nd rfl (.inl rfl) (pe_own CK hr (by rfl) (pa_cons (pv 1) (pa_cons (pv 3) (pa_cons (pv 2) (pa_cons pe_int pa_nil))))))
        (pss_cons (ps_par rfl scLaw.nd (i := 5) (j := 6) rfl rfl (by decide) rfl rfl (pa_cons (pe_own CG hr2 (by rfl) (pa_cons (pv 1) (pa_cons (pv 4) pa_nil))) (pa_cons (pe_own CL hr1 (by rfl) (pa_cons (pv 4) pa_nil)) pa_nil)) (by rfl))
        (pss_cons (ps_set (i := 7) scLaw.nd rfl (.inr rfl) (pe_own CC hr2 (by rfl) (pa_cons (pv 5) pa_nil)))
        (pss_cons (ps_if (pt_not (pt_val (pe_own CE hr3 (by rfl) (pa_cons (pv 7) (pa_cons (pe_op op_fdivW (pe_op op_sub (pe_op op_add (pe_callB call_len_seq (by rfl) me PySem.boot_len (pa_cons (pv 6) pa_nil)) (pe_ix ix_tup (pv 4) pe_int (fun _ _ => rfl))) pe_int) (pe_ix ix_tup (pv 4) pe_int (fun _ _ => rfl))) pa_nil))))) (pss_one (ps_ret pe_bl)) pss_nil)
        (pss_cons (ps_set (i := 8) scLaw.nd rfl (.inl rfl) (pe_op op_cat (pe_listRg rfl (by rfl) ml' (prg_1 (by rfl) mr (pe_callB (call_min2 rfl) (by rfl) mm (by decide +kernel) (pa_cons (pv 7) (pa_cons pe_int pa_nil))))) (pe_lc (own := [("_law_turn", 12)]) (g := gName 12) (tt := tYes) (te := tOp (rI0 fun i j => .int (i - j)) (tOp (rI0 fun i j => .int (i - j)) (tVar 7) (tC (.int 1))) (tCall spTake [] E0 (tCons (tVar 1) (tCons (tVar 7) tNil)))) rfl scLaw.nd (pi_range1 (by rfl) mr (pa_cons (pe_mid (pe_ifExp (pt_cmpR op_gt (pv 7) pe_int (nomark _)) pe_int pe_int)) pa_nil))
            (blkOk_by (own := [("_law_turn", 12)]) (N := ["_law_script", "_law_state", "_law_marks", "_law_name", "_law_packing", "_law_handed", "_law_tins", "_law_many", "_law_some", "_law_case", "_law_due_here", "_law_found", "_law_turn"]) (sc := defScope sLaw) (by decide +kernel)) (fun _ _ _ _ _ => pg_name (i := 12) scLaw.nd rfl (.inl rfl)) (fun _ _ _ _ _ => pts_nil) (fun _ _ _ _ _ => pe_op op_sub (pe_op op_sub (pv 7) pe_int) (pe_own CT hr1 (by rfl) (pa_cons (pv 1) (pa_cons (pv 7) pa_nil)))))))
        (pss_cons (ps_for PassesOwn.never rfl (pi_list (pe_op op_cat (pv 8) (pe_lst (pa_cons (pv 7) (pa_cons (pe_op op_add (pv 7) pe_int) (pa_cons (pe_op op_add (pv 7) (pe_own CU hr2 (by rfl) (pa_cons (pv 1) (pa_cons pe_int pa_nil)))) pa_nil)))))) (pg_name (i := 9) scLaw.nd rfl (.inl rfl))
          (pss_cons (ps_set (i := 10) scLaw.nd rfl (.inl rfl) (pe_own CD hr1 (by rfl) (pa_cons (pv 4) (pa_cons (pv 9) pa_nil))))
          (pss_cons (ps_set (i := 11) scLaw.nd rfl (.inl rfl) (pe_own CI hr2 (by rfl) (pa_cons (pv 5) (pa_cons (pv 9) pa_nil))))
          (pss_cons (ps_if (PW.pt (pw_or (pt_not (pt_val (pe_own CE hr3 (by rfl) (pa_cons (pv 11) (pa_cons (pv 10) pa_nil))))) (pw_or1 (pt_cmpR op_ne (pe_cmpR (op_eqD hr.units) (pv 10) (pe_lst pa_nil) (nomark _)) (pe_cmpR op_ge (pv 9) (pv 7) (nomark _)) (nomark _))))) (pss_one (ps_ret pe_bl)) pss_nil)
          (pss_cons (ps_expr (pe_bm PySem.F.plainAttrs_list PySem.F.slot_list_append PySem.F.type_list_append mt_append (pv 11) (pa_cons (pe_tup (pa_cons pe_str (pa_cons pe_int (pa_cons pe_int pa_nil)))) pa_nil)))
          (pss_one (ps_if (pt_not (pt_val (pe_own CE hr3 (by rfl) (pa_cons (pe_own CI hr2 (by rfl) (pa_cons (pv 5) (pa_cons (pv 9) pa_nil))) (pa_cons (pv 10) pa_nil))))) (pss_one (ps_ret pe_bl)) pss_nil)))))))
        (pss_one (ps_if (pt_cmpR (op_neD hr.units) (pe_callTy call_list_of (by rfl) ml' (by decide +kernel) (pa_cons (pe_ix ix_tup (pv 5) pe_int (fun _ _ => rfl)) pa_nil)) (pe_ix ix_tup (pv 4) pe_int (fun _ _ => rfl)) (nomark _)) (pss_one (ps_ret pe_bl)) pss_nil)))))))))
      (pss_one (ps_ret pe_bl)))), ?_⟩
    refine ⟨.ref a, rfl, a, ns, rfl, hS, hlen, fun d c H1 s1 nd nc hS1 => ?_⟩
    refine ⟨_, rfl, d, c, 0, 3, rfl, hS1, by decide, by decide, by decide, fun ml xs t2 H2 nml eml hxs hxl t20 t21 hS2 k2 => ?_⟩
    refine ⟨_, rfl, d, c, t2, 3, rfl, hS2, by omega, by decide, by decide, fun nl nms t3 H3 nnl enl hns hnl t30 t31 hS3 k3 => ?_⟩
    have hT3 : GxR.TabG H3 Pt := tabG_kp (tabG_kp (tabG_same hT s1) hS1 k2) hS2 k3
    have hne : xs ≠ [] := fun z => by rw [z] at hxl; exact absurd hxl (by decide)
    refine ⟨nl, rfl, ⟨_, SqL.of enl⟩, for_list (xs := nms.map V.str) (fun i σ Hx => ∃ (t : Int) (y3 y4 y5 y6 y7 y8 y9 y10 y11 : Option V), σ = [some (.ref a), some (.ref d), some (.ref ml), y3, y4, y5, y6, y7, y8, y9, y10, y11, none] ∧ 0 ≤ t ∧ t ≤ 40 + 400 * i ∧ StAt Hx d c t ∧ GxR.TabG Hx Pt ∧ Hx ml = some (.lst (xs.map V.str)) ∧ Hx nl = some (.lst (nms.map V.str)))
      ⟨t3, _, _, _, _, _, _, _, _, _, rfl, by omega, by omega, hS3, hT3, k3.lst hS2 eml (noInt_strs xs), enl⟩ (fun i σ Hx _ hP => ?_) (fun i x σ Hx hx hP => ?_) (fun σ Hx hP => ?_)⟩
    · obtain ⟨_, _, _, _, _, _, _, _, _, _, rfl, _, _, _, _, _, e⟩ := hP
      exact SqL.of e
    · obtain ⟨t, y3, y4, y5, y6, y7, y8, y9, y10, y11, rfl, t0, t1, hSx, hTx, emx, enx⟩ := hP
      obtain ⟨nm, emk, rfl⟩ : ∃ nm, nms[i]? = some nm ∧ x = .str nm := by
        rw [List.getElem?_map] at hx
        cases h : nms[i]? with
        | none => rw [h] at hx; cases hx
        | some n => rw [h] at hx; exact ⟨n, rfl, (Option.some.inj hx).symm⟩
      have hi : i < 3 := by
        have := (List.getElem?_eq_some_iff.mp emk).1
        omega
      -- packing
      refine ⟨_, rfl, _, rfl, _, rfl, d, c, ml, t, 0, nm, xs, rfl, hSx, by omega, emx, hxs, hne, by omega, .inl rfl, fun b l us ps sz t5 H5 eb el hus hpl hps sz0 szB t50 t51 hS5 k5 => ?_⟩
      have hfew : ∀ p ∈ ps, Few p := fun p hp => drawn0 (hps p hp) hpl
      have hok : ∀ p ∈ ps, PyData.strOk p.1 = true := fun p hp => (hps p hp).1
      have hle : ∀ p ∈ ps, p.2.1 ≤ p.2.2 := fun p hp => (hps p hp).2.2.1
      have hcnt := cntF40 hps
      have hcs := cases_le sz0 hle
      -- handed, tins
      refine ⟨_, rfl, _, rfl, d, c, b, t5, nm, sz, ps, rfl, hS5, by omega, ⟨l, us, eb, .inl el, hus⟩, fun b' H6 hb' hS6 k6 => ?_⟩
      have m6 : MidP Pt d c ml nl b b' l (t5 + 1) nm sz us ps xs nms H6 := ⟨hS6, tabG_kp (tabG_kp hTx hSx k5) hS5 k6, k6.lst hS5 (k5.lst hSx emx (noInt_strs xs)) (noInt_strs xs), k6.lst hS5 (k5.lst hSx enx (noInt_strs nms)) (noInt_strs nms), k6.tup hS5 eb, k6.lst hS5 el (Pts.noInt hus), Pts.kp hus hS5 k6, hb'⟩
      refine ⟨_, rfl, b, nm, sz, ps, rfl, m6.pk, hfew, by omega, fun l7 ws H7 nl7 el7 hwl hni s7 => ?_⟩
      have m7 := m6.same s7
      refine ⟨_, _, rfl, ?_⟩
      -- many
      refine ⟨_, rfl, b', nm, sz, ps, rfl, m7.hb, sz0, szB, m7.tab, fun H8 x8 => ?_⟩
      have m8 := m7.tabd x8
      have el8 := tab_at m7.tab x8 el7 (fun _ z => nomatch z)
      refine ⟨_, rfl, _, rfl, l7, ws, rfl, Sq.list el8, _, rfl, b, _, 1, .int sz, rfl, rfl, .inl (.inl m8.eb), atI_nat (j := 1) rfl, (ws.length : Int), sz, rfl, rfl, _, 1, rfl, rfl, _, rfl, b, _, 1, .int sz, rfl, rfl, .inl (.inl m8.eb), atI_nat (j := 1) rfl, _, sz, rfl, rfl, ⟨by omega, Nat.lt_trans (log_lt (by omega)) (by decide)⟩, ?_⟩
      refine ⟨_, _, .int (casesF sz ps), rfl, .int _, (by rw [hwl]; exact .int _), trivial, (by simp only [NoBl]), fun H9 s9 => ⟨_, rfl, iteF ?_⟩⟩
      have m9 := m8.same s9
      have ecs : (cntF ps + sz - 1) / sz = casesF sz ps := rfl
      rw [ecs]
      revert hcs
      have hrows : ∀ x : Int, 0 ≤ x → (rowsG sz x 0 ps).isEmpty = decide (casesF sz ps ≤ x) := fun x hx => rows_nil sz0 hx hle
      revert hrows
      generalize casesF sz ps = many
      intro hrows hcs
      -- some
      refine ⟨_, rfl, many, 12, rfl, _, rfl, RgOk.of_le (by decide) (by split <;> omega) (by decide) (by split <;> omega), fun q8 nq8 => ?_⟩
      have sq8 := same_upd (o := .lst (rgV 0 (if (12 : Int) < many then 12 else many))) nq8
      have offq := m9.st.off nq8
      have m10 := m9.same sq8
      have eq10 := upd_same (H := H9) (a := q8) (o := .lst (rgV 0 (if (12 : Int) < many then 12 else many)))
      revert m10 eq10
      generalize upd H9 q8 (.lst (rgV 0 (if (12 : Int) < many then 12 else many))) = H10
      intro m10 eq10
      refine ⟨fun v H' => ∃ n : Int, v = .int n ∧ (n = 0 ∨ (n = 3 ∧ 0 < many)) ∧ H' = H10, ?_, fun v H' hM => ?_⟩
      · refine ⟨_, rfl, many, 0, rfl, rfl, _, rfl, ite2 (fun c1 => ?_) (fun c1 => ?_)⟩
        · exact ⟨3, rfl, .inr ⟨rfl, of_decide_eq_true c1⟩, rfl⟩
        · exact ⟨0, rfl, .inl rfl, rfl⟩
      obtain ⟨n, rfl, hn, rfl⟩ := hM
      refine ⟨n, rfl, by omega, by omega, fun D nD => lc_range (n := n.toNat) (fun j Hy => ∃ (t' : Int) (zs : List Int), t5 + 1 ≤ t' ∧ t' ≤ t5 + 1 + j ∧ StAt Hy d c t' ∧ Kp d c H' Hy ∧ Hy D = some (.lst (zs.map V.int)) ∧ zs.length = j ∧ ∀ z ∈ zs, 0 ≤ z ∧ z < many)
        ⟨t5 + 1, [], by omega, by omega, m10.st.same (same_upd nD), Kp.same d c (same_upd nD), upd_same, rfl, fun _ z => nomatch z⟩ (fun j Hy hj hP => ?_) (fun Hy hP => ?_)⟩
      · obtain ⟨t', zs, u0, u1, hSy, ky, eDy, hzl, hzs⟩ := hP
        have offD := m10.st.off nD
        refine ⟨rfl, _, rfl, many, 1, rfl, rfl, _, rfl, _, rfl, d, c, t', many, rfl, hSy, by omega, by omega, by omega, fun r Hz r0 r1 hSz kz => ?_⟩
        have ezz := kz _ _ offD.1 offD.2 eDy
        refine ⟨many - 1, r, rfl, rfl, _, ezz, small1000 (by rw [List.length_map]; omega), t' + 1, zs ++ [many - 1 - r], by omega, by omega, hSz.upd offD.1 offD.2, fun b o b1 b2 e => ?_, by rw [upd_same, List.map_append]; rfl, by rw [List.length_append, hzl]; rfl, fun z hz => ?_⟩
        · rw [upd_ne (ne_of_none e nD)]
          exact kz b o b1 b2 (ky b o b1 b2 e)
        · rcases List.mem_append.mp hz with e | e
          · exact hzs z e
          · rw [List.mem_singleton.mp e]; omega
      obtain ⟨t', zs, u0, u1, hSy, ky, eDy, hzl, hzs⟩ := hP
      have my := m10.kp hSy ky
      have eqy := ky _ _ offq.1 offq.2 eq10
      have hrg : (rgV 0 (if (12 : Int) < many then 12 else many)).length ≤ 12 := by rw [rgV_length]; split <;> omega
      refine ⟨q8, D, _, _, rfl, rfl, eqy, eDy, Nat.le_trans (show _ ≤ 1000 by rw [List.length_map]; omega) (by decide), fun s11 ns11 => ?_⟩
      have off11 := my.st.off ns11
      have ss11 := same_upd (o := .lst (rgV 0 (if (12 : Int) < many then 12 else many) ++ zs.map V.int)) ns11
      have m11 := my.same ss11
      have e11 := upd_same (H := Hy) (a := s11) (o := .lst (rgV 0 (if (12 : Int) < many then 12 else many) ++ zs.map V.int))
      revert m11 e11
      generalize upd Hy s11 (.lst (rgV 0 (if (12 : Int) < many then 12 else many) ++ zs.map V.int)) = H11
      intro m11 e11
      -- each case
      refine ⟨_, rfl, _, rfl, _, rfl, many, 1, rfl, rfl, _, rfl, _, rfl, d, c, t', 3, rfl, m11.st, by omega, by decide, fun r6 t6 H12 r60 r61 v60 v61 hS12 k12 => ?_⟩
      have hr6 := sortB_le 3
      have m12 := m11.kp hS12 k12
      have e12 := k12 _ _ off11.1 off11.2 e11
      refine ⟨many, r6, rfl, rfl, (by show 3 ≤ sizeLine; decide), fun z13 nz13 => ?_⟩
      have sz13 := same_upd (o := .lst [.int many, .int (many + 1), .int (many + r6)]) nz13
      refine ⟨s11, z13, rgV 0 (if (12 : Int) < many then 12 else many) ++ zs.map V.int, [V.int many, V.int (many + 1), V.int (many + r6)], rfl, rfl, sz13 _ _ e12, upd_same, Nat.le_trans (show _ ≤ 1000 by rw [List.length_append, List.length_map]; show _ + 3 ≤ _; omega) (by decide), fun p14 np14 => ?_⟩
      obtain ⟨cs, ecs2, hcs2⟩ : ∃ cs : List Int, (rgV 0 (if (12 : Int) < many then 12 else many) ++ zs.map V.int) ++ [V.int many, V.int (many + 1), V.int (many + r6)] = cs.map V.int ∧ ∀ x ∈ cs, 0 ≤ x ∧ x ≤ 2 * 10 ^ 30 := by
        refine ⟨(((List.range (if (12 : Int) < many then 12 else many).toNat).map fun i => ((i : Nat) : Int)) ++ zs) ++ [many, many + 1, many + r6], by rw [rg_ints, List.map_append, List.map_append]; rfl, fun x hx => ?_⟩
        rcases List.mem_append.mp hx with h | h
        · rcases List.mem_append.mp h with h | h
          · obtain ⟨j, hj, rfl⟩ := List.mem_map.mp h
            have hj' := List.mem_range.mp hj
            have : (if (12 : Int) < many then 12 else many).toNat ≤ 12 := by split <;> omega
            omega
          · have := hzs x h
            omega
        · simp only [List.mem_cons, List.mem_nil_iff, or_false] at h
          rcases h with rfl | rfl | rfl <;> omega
      rw [ecs2]
      have sp14 := same_upd (o := .lst (cs.map V.int)) np14
      have m14 := (m12.same sz13).same sp14
      refine ⟨p14, rfl, ⟨_, SqL.of upd_same⟩, for_list (xs := cs.map V.int) (fun j σ Hy => ∃ (y9 y10 y11 : Option V), σ = [some (.ref a), some (.ref d), some (.ref ml), some (.str nm), some (.ref b), some (.ref b'), some (.ref l7), some (.int many), some (.ref s11), y9, y10, y11, none] ∧ MidP Pt d c ml nl b b' l t6 nm sz us ps xs nms Hy ∧ Hy p14 = some (.lst (cs.map V.int)))
        ⟨_, _, _, rfl, m14, upd_same⟩ (fun j σ Hy _ hP => ?_) (fun j x σ Hy hx hP => ?_) (fun σ Hy hP => ?_)⟩
      · obtain ⟨_, _, _, rfl, _, e⟩ := hP
        exact SqL.of e
      · obtain ⟨y9, y10, y11, rfl, my, ey⟩ := hP
        obtain ⟨x, ex, rfl⟩ : ∃ n, cs[j]? = some n ∧ x = .int n := by
          rw [List.getElem?_map] at hx
          cases h : cs[j]? with
          | none => rw [h] at hx; cases hx
          | some n => rw [h] at hx; exact ⟨n, rfl, (Option.some.inj hx).symm⟩
        obtain ⟨x0, x1⟩ := hcs2 x (List.mem_of_getElem? ex)
        have x60 : x ≤ 10 ^ 60 := Int.le_trans x1 (by decide)
        have hrl := rowsG_len sz x 0 ps
        have hrok := rowsG_ok (sz := sz) (cs := x) (sp := 0) hok
        -- due
        refine ⟨_, rfl, _, rfl, b, nm, sz, x, ps, rfl, my.pk, by omega, hfew, sz0, szB, fun l1 ws1 H15 nl1 el1 hws1 s15 => ?_⟩
        have m15 := my.same s15
        -- found
        refine ⟨_, rfl, _, rfl, b', nm, sz, x, ps, rfl, m15.hb, by omega, sz0, szB, x0, x60, fun l2 ws2 H16 nl2 el2 hws2 s16 => ?_⟩
        have d16 := (pts_dat el1 hws1).same s16
        refine ⟨_, rfl, _, rfl, .ref l2, .ref l1, _, rfl, pts_dat el2 hws2, d16, sm_pts (by omega), noBl_pts _, fun H17 s17 => ⟨_, rfl, iteF ?_⟩⟩
        have el1' := s17 _ _ (s16 _ _ el1)
        have hws1' := Pts.same (Pts.same hws1 s16) s17
        refine ⟨_, rfl, Nat.zero_le _, fun z18 nz18 => ?_⟩
        have s18 := same_upd (o := .lst []) nz18
        refine ⟨_, _, .lst (SqL.of (s18 _ _ el1')) (dp_pts (Pts.same hws1' s18)), .lst (SqL.of upd_same) .nil, shaped_pts hrok, shaped_pts (ps := []) (fun _ z => nomatch z), _, rfl, _, rfl, x, many, rfl, rfl, rfl, false, ?_, iteF ?_⟩
        · refine congrArg V.bl ?_
          rw [decide_eq_true (congrArg V.bl (show PyData.eqv _ _ = decide (x ≥ many) from by rw [eqv_pts_nil, hrows x x0]))]
          rfl
        have S18 := (s16.trans s17).trans s18
        have el2' := s18 _ _ (s17 _ _ el2)
        refine ⟨_, rfl, .inl ⟨rfl, _, SqL.of el2'⟩, (by show 3 ≤ sizeLine; decide), fun tt ntt => ?_⟩
        have stt := same_upd (o := .tup [.str "more", .int 0, .int 0]) ntt
        have el3' := stt _ _ el2'
        have hwl2 := hws2.1
        refine ⟨l2, _, _, rfl, rfl, el3', small1000 (by omega), ?_⟩
        have s19 : Same H15 (upd (upd (upd H17 z18 (.lst [])) tt (.tup [.str "more", .int 0, .int 0])) l2 (.lst (ws2 ++ [.ref tt]))) := fun x o e => by
          rw [upd_ne (ne_of_none e nl2)]
          exact stt _ _ (S18 x o e)
        have m19 := m15.same s19
        have d19 := (pts_dat el1 hws1).same s19
        have ey19 := s19 _ _ (s15 _ _ ey)
        revert m19 d19 ey19
        generalize upd (upd (upd H17 z18 (.lst [])) tt (.tup [.str "more", .int 0, .int 0])) l2 (.lst (ws2 ++ [.ref tt])) = H19
        intro m19 d19 ey19
        -- found again
        refine ⟨_, rfl, _, rfl, b', nm, sz, x, ps, rfl, m19.hb, by omega, sz0, szB, x0, x60, fun l3 ws3 H20 nl3 el3 hws3 s20 => ?_⟩
        refine ⟨_, rfl, .ref l3, .ref l1, _, rfl, pts_dat el3 hws3, d19.same s20, sm_pts (by omega), noBl_pts _, fun H21 s21 => ⟨_, rfl, iteF ?_⟩⟩
        exact ⟨_, _, _, rfl, (m19.same s20).same s21, s21 _ _ (s20 _ _ ey19)⟩
      · obtain ⟨y9, y10, y11, rfl, my, ey⟩ := hP
        obtain ⟨a2, us2, eb2, ha2, hus2⟩ := my.hb
        refine ⟨_, rfl, b', _, 2, .ref a2, rfl, rfl, .inl (.inl eb2), atI_nat (j := 2) rfl, a2, us2, rfl, ha2.elim (fun h => .inl (SqL.of h)) (fun h => .inr (.inl (.inl h))), fun g ng => ?_⟩
        have sg := same_upd (o := .lst us2) ng
        have mg' := my.same sg
        refine ⟨_, rfl, b, _, 2, .ref l, rfl, rfl, .inl (.inl mg'.eb), atI_nat (j := 2) rfl, _, _, .lst (SqL.of upd_same) (dp_pts (Pts.same hus2 sg)), .lst (SqL.of mg'.el) (dp_pts mg'.hus), shaped_pts hok, shaped_pts hok, _, rfl, ?_⟩
        rw [eqv_pts hok]
        refine iteF ?_
        exact ⟨t6, _, _, _, _, _, _, _, _, _, rfl, by omega, by omega, mg'.st, mg'.tab, mg'.em, mg'.en⟩
    · obtain ⟨t, y3, y4, y5, y6, y7, y8, y9, y10, y11, rfl, t0, t1, hSx, hTx, emx, enx⟩ := hP
      exact q _
end

/-! ### the end: what the top has left, the tables of code objects among it -/
/-- each def of the text has a code object with an empty table -/
def Tabs (q : Program) (mg : Str → Option Value) (h : Heap) : Prop := ∀ dr ∈ recsOf q, ∃ (f : Addr) (o : Obj) (fd : FuncData) (c P : Addr), mg dr.name = some (.ref f) ∧ h.get? f = some o ∧ o.data = .func fd ∧ fd.code = .ref c ∧ PySem.W.CodeHd h c P ∧ h.get? P = some (PySem.W.tabObj #[])
theorem tab_in {q : Program} {mg : Str → Option Value} {h : Heap} {K : PySem.W.Frag} {y : Str} {f c P : Addr} {oc e : Value} {od dd : Option Addr} {fd : FuncData} {osl sl : Array (Option Value)} {vs : Array Value} (TT : Tabs q mg h) (X : K.In h) (rec : ((recsOf q).any fun r => r.name == y) = true)
    (g : mg y = some (.ref f)) (lf : K.lookup f = some ⟨oc, od, .func fd, osl⟩) (hc : fd.code = .ref c) (lc : K.lookup c = some ⟨e, dd, .fields vs, sl⟩) (v : vs[11]? = some (.ref P)) : PySem.W.CodeHd h c P ∧ h.get? P = some (PySem.W.tabObj #[]) := by
  obtain ⟨dr, mem, nm⟩ := List.any_eq_true.mp rec
  obtain ⟨f', o', fd', c', P', t1, t2, t3, t4, t5, t6⟩ := TT dr mem
  have ef : f' = f := by
    rw [beq_iff_eq.mp nm, g] at t1
    exact (Value.ref.inj (Option.some.inj t1)).symm
  rw [ef, X _ _ lf] at t2
  rw [← Option.some.inj t2] at t3
  have efd : fd = fd' := Data.func.inj t3
  rw [← efd, hc] at t4
  have ec : c = c' := Value.ref.inj t4
  rw [← ec] at t5
  have t5' := t5
  obtain ⟨oc', us, _, _, _, _, _, _, _, u1, _, u3, u4, _⟩ := t5'
  rw [X _ _ lc] at u1
  rw [← Option.some.inj u1] at u3
  have eu : vs = us := Data.fields.inj u3
  rw [← eu, v] at u4
  have eP : P = P' := Value.ref.inj (Option.some.inj u4)
  rw [eP]
  exact ⟨t5, t6⟩
theorem law_end {l : PySem.W.OpenLaw} {k : Nat} {q : Program} {loose : List Str} {XP : (Str → Option Value) → Heap → Prop} {YP : World → Heap → Prop} {d : DefRec} {K : Params → PySem.W.Frag} (most : l.most = some 63) (plain : d.params.defaults = []) (room : Room k callerA)
    (part : ∀ w h, YP w h → (K w.params).In h) (made : ∀ (w : World) (mg : Str → Option Value) (f : Addr) (h : Heap), (K w.params).In h → h.Ns mainGlobals mg → mg d.name = some (.ref f) → Tabs q mg h → LamX.LawAtS l w (K w.params) CX0 k 63 "_law_script" mg f h) : PySem.W.WalkO q loose XP YP l.row.toRowW d [] (fun f vs => PySem.call f vs) := by
  refine Att.attach_callB most plain ?_
  intro w _ s₁ mg _ f _ _ _ _ a vs ns ground said _ _ _ name script nums len size still
  have X := part w _ said
  have tabs : Tabs q mg s₁.heap := fun dr mem => by
    obtain ⟨f', o', fd', c', P', t1, t2, t3, t4, t5, t6⟩ := ground.T.tab dr mem
    exact ⟨f', o', fd', c', P', t1, t2, t3, t4, PySem.W.CodeHd.of t5 t6, t6.2⟩
  obtain ⟨fd, cs, sp, e1, e2, e3, e4, e5, e6⟩ := made w mg f _ X ground.T.g name tabs
  exact LamX.law_callTs X ground.T.g ground.T.b ground.T.builtins ground.T.nolimit still e1 e2 e3 ground.T.bmain script nums (Nat.le_trans len (by decide)) room e6 e4 (fun H z1 z2 => e5 H a ns len size z1 z2) fun _ _ _ z => z

theorem all_mk {l : PySem.W.OpenLaw} {q : Program} {w : World} {K : PySem.W.Frag} {h : Heap} {mg : Str → Option Value} {fa f0 f1 f2 f3 f4 f5 f6 f7 f8 f9 f10 f11 f12 f13 f14 f15 : Addr} {c0 P0 : Addr} (X : K.In h) (G : h.Ns mainGlobals mg) (hfa : mg "law" = some (.ref fa)) (TT : Tabs q mg h)
    {od0 an0 od1 an1 od2 an2 od3 an3 od4 an4 od5 an5 od6 an6 od7 an7 od8 an8 od9 an9 od10 an10 od11 an11 od12 an12 od13 an13 od14 an14 od15 an15 : Option Addr} {sl0 sl1 sl2 sl3 sl4 sl5 sl6 sl7 sl8 sl9 sl10 sl11 sl12 sl13 sl14 sl15 : Array (Option Value)} {oc0 kV0 dc0 pm0 ct0 oc1 kV1 dc1 pm1 ct1 cd1 oc2 kV2 dc2 pm2 ct2 cd2 oc3 kV3 dc3 pm3 ct3 cd3 oc4 kV4 dc4 pm4 ct4 cd4 oc5 kV5 dc5 pm5 ct5 cd5 oc6 kV6 dc6 pm6 ct6 cd6 oc7 kV7 dc7 pm7 ct7 cd7 oc8 kV8 dc8 pm8 ct8 cd8 oc9 kV9 dc9 pm9 ct9 cd9 oc10 kV10 dc10 pm10 ct10 cd10 oc11 kV11 dc11 pm11 ct11 cd11 oc12 kV12 dc12 pm12 ct12 cd12 oc13 kV13 dc13 pm13 ct13 cd13 oc14 kV14 dc14 pm14 ct14 cd14 oc15 kV15 dc15 pm15 ct15 cd15 : Value}
    {e0 : Value} {dd0 : Option Addr} {vs0 : Array Value} {sc0 : Array (Option Value)}
    (a0 : PySem.W.nsIn K mainGlobals "tins_packed" = some (some (.ref f0))) (l0 : K.lookup f0 = some ⟨oc0, od0, .func (PySem.W.fnOf "tins_packed" "tins_packed" (defArgs sPacked) (defBody sPacked) (defScope sPacked) .none kV0 dc0 pm0 an0 (.ref c0) ct0), sl0⟩) (c0' : PySem.W.codeIn K (.ref c0) "tins_packed" = true) (k0 : PySem.W.keepIn K (.ref f0) = true)
    (a1 : PySem.W.nsIn K mainGlobals "cases_of" = some (some (.ref f1))) (l1 : K.lookup f1 = some ⟨oc1, od1, .func (PySem.W.fnOf "cases_of" "cases_of" (defArgs sCases) (defBody sCases) (defScope sCases) .none kV1 dc1 pm1 an1 cd1 ct1), sl1⟩) (c1' : PySem.W.codeIn K cd1 "cases_of" = true) (k1 : PySem.W.keepIn K (.ref f1) = true)
    (a2 : PySem.W.nsIn K mainGlobals "spots_of" = some (some (.ref f2))) (l2 : K.lookup f2 = some ⟨oc2, od2, .func (PySem.W.fnOf "spots_of" "spots_of" (defArgs sSpots) (defBody sSpots) (defScope sSpots) .none kV2 dc2 pm2 an2 cd2 ct2), sl2⟩) (c2' : PySem.W.codeIn K cd2 "spots_of" = true) (k2 : PySem.W.keepIn K (.ref f2) = true)
    (a3 : PySem.W.nsIn K mainGlobals "tins_in" = some (some (.ref f3))) (l3 : K.lookup f3 = some ⟨oc3, od3, .func (PySem.W.fnOf "tins_in" "tins_in" (defArgs sTinsIn) (defBody sTinsIn) (defScope sTinsIn) .none kV3 dc3 pm3 an3 cd3 ct3), sl3⟩) (c3' : PySem.W.codeIn K cd3 "tins_in" = true) (k3 : PySem.W.keepIn K (.ref f3) = true)
    (a4 : PySem.W.nsIn K mainGlobals "_law_begin" = some (some (.ref f4))) (l4 : K.lookup f4 = some ⟨oc4, od4, .func (PySem.W.fnOf "_law_begin" "_law_begin" (defArgs sBegin) (defBody sBegin) (defScope sBegin) .none kV4 dc4 pm4 an4 cd4 ct4), sl4⟩) (c4' : PySem.W.codeIn K cd4 "_law_begin" = true) (k4 : PySem.W.keepIn K (.ref f4) = true)
    (a5 : PySem.W.nsIn K mainGlobals "_law_take" = some (some (.ref f5))) (l5 : K.lookup f5 = some ⟨oc5, od5, .func (PySem.W.fnOf "_law_take" "_law_take" (defArgs sTake) (defBody sTake) (defScope sTake) .none kV5 dc5 pm5 an5 cd5 ct5), sl5⟩) (c5' : PySem.W.codeIn K cd5 "_law_take" = true) (k5 : PySem.W.keepIn K (.ref f5) = true)
    (a6 : PySem.W.nsIn K mainGlobals "_law_same" = some (some (.ref f6))) (l6 : K.lookup f6 = some ⟨oc6, od6, .func (PySem.W.fnOf "_law_same" "_law_same" (defArgs sSame) (defBody sSame) (defScope sSame) .none kV6 dc6 pm6 an6 cd6 ct6), sl6⟩) (c6' : PySem.W.codeIn K cd6 "_law_same" = true) (k6 : PySem.W.keepIn K (.ref f6) = true)
    (a7 : PySem.W.nsIn K mainGlobals "_law_number" = some (some (.ref f7))) (l7 : K.lookup f7 = some ⟨oc7, od7, .func (PySem.W.fnOf "_law_number" "_law_number" (defArgs sNumber) (defBody sNumber) (defScope sNumber) .none kV7 dc7 pm7 an7 cd7 ct7), sl7⟩) (c7' : PySem.W.codeIn K cd7 "_law_number" = true) (k7 : PySem.W.keepIn K (.ref f7) = true)
    (a8 : PySem.W.nsIn K mainGlobals "_law_names" = some (some (.ref f8))) (l8 : K.lookup f8 = some ⟨oc8, od8, .func (PySem.W.fnOf "_law_names" "_law_names" (defArgs sNames) (defBody sNames) (defScope sNames) .none kV8 dc8 pm8 an8 cd8 ct8), sl8⟩) (c8' : PySem.W.codeIn K cd8 "_law_names" = true) (k8 : PySem.W.keepIn K (.ref f8) = true)
    (a9 : PySem.W.nsIn K mainGlobals "_law_marks_by" = some (some (.ref f9))) (l9 : K.lookup f9 = some ⟨oc9, od9, .func (PySem.W.fnOf "_law_marks_by" "_law_marks_by" (defArgs sMarks) (defBody sMarks) (defScope sMarks) .none kV9 dc9 pm9 an9 cd9 ct9), sl9⟩) (c9' : PySem.W.codeIn K cd9 "_law_marks_by" = true) (k9 : PySem.W.keepIn K (.ref f9) = true)
    (a10 : PySem.W.nsIn K mainGlobals "_law_parts_by" = some (some (.ref f10))) (l10 : K.lookup f10 = some ⟨oc10, od10, .func (PySem.W.fnOf "_law_parts_by" "_law_parts_by" (defArgs sParts) (defBody sParts) (defScope sParts) .none kV10 dc10 pm10 an10 cd10 ct10), sl10⟩) (c10' : PySem.W.codeIn K cd10 "_law_parts_by" = true) (k10 : PySem.W.keepIn K (.ref f10) = true)
    (a11 : PySem.W.nsIn K mainGlobals "_law_packing_by" = some (some (.ref f11))) (l11 : K.lookup f11 = some ⟨oc11, od11, .func (PySem.W.fnOf "_law_packing_by" "_law_packing_by" (defArgs sPackBy) (defBody sPackBy) (defScope sPackBy) .none kV11 dc11 pm11 an11 cd11 ct11), sl11⟩) (c11' : PySem.W.codeIn K cd11 "_law_packing_by" = true) (k11 : PySem.W.keepIn K (.ref f11) = true)
    (a12 : PySem.W.nsIn K mainGlobals "_law_laid_out" = some (some (.ref f12))) (l12 : K.lookup f12 = some ⟨oc12, od12, .func (PySem.W.fnOf "_law_laid_out" "_law_laid_out" (defArgs sLaid) (defBody sLaid) (defScope sLaid) .none kV12 dc12 pm12 an12 cd12 ct12), sl12⟩) (c12' : PySem.W.codeIn K cd12 "_law_laid_out" = true) (k12 : PySem.W.keepIn K (.ref f12) = true)
    (a13 : PySem.W.nsIn K mainGlobals "_law_given" = some (some (.ref f13))) (l13 : K.lookup f13 = some ⟨oc13, od13, .func (PySem.W.fnOf "_law_given" "_law_given" (defArgs sGiven) (defBody sGiven) (defScope sGiven) .none kV13 dc13 pm13 an13 cd13 ct13), sl13⟩) (c13' : PySem.W.codeIn K cd13 "_law_given" = true) (k13 : PySem.W.keepIn K (.ref f13) = true)
    (a14 : PySem.W.nsIn K mainGlobals "_law_due" = some (some (.ref f14))) (l14 : K.lookup f14 = some ⟨oc14, od14, .func (PySem.W.fnOf "_law_due" "_law_due" (defArgs sDue) (defBody sDue) (defScope sDue) .none kV14 dc14 pm14 an14 cd14 ct14), sl14⟩) (c14' : PySem.W.codeIn K cd14 "_law_due" = true) (k14 : PySem.W.keepIn K (.ref f14) = true)
    (a15 : PySem.W.nsIn K mainGlobals "law" = some (some (.ref f15))) (l15 : K.lookup f15 = some ⟨oc15, od15, .func (PySem.W.fnOf "law" "law" (defArgs sLaw) (defBody sLaw) (defScope sLaw) .none kV15 dc15 pm15 an15 cd15 ct15), sl15⟩) (c15' : PySem.W.codeIn K cd15 "law" = true) (k15 : PySem.W.keepIn K (.ref f15) = true)
    (lc0 : K.lookup c0 = some ⟨e0, dd0, .fields vs0, sc0⟩) (v0 : vs0[11]? = some (.ref P0)) (nP0 : K.lookup P0 = none) (r0 : ((recsOf q).any fun e => e.name == ("tins_packed" : Str)) = true)
    (z_all : PySem.W.nsIn K mainGlobals "all" = some none) (z_bool : PySem.W.nsIn K mainGlobals "bool" = some none) (z_divmod : PySem.W.nsIn K mainGlobals "divmod" = some none) (z_int : PySem.W.nsIn K mainGlobals "int" = some none) (z_isinstance : PySem.W.nsIn K mainGlobals "isinstance" = some none) (z_len : PySem.W.nsIn K mainGlobals "len" = some none) (z_list : PySem.W.nsIn K mainGlobals "list" = some none) (z_max : PySem.W.nsIn K mainGlobals "max" = some none) (z_min : PySem.W.nsIn K mainGlobals "min" = some none) (z_range : PySem.W.nsIn K mainGlobals "range" = some none) (z_str : PySem.W.nsIn K mainGlobals "str" = some none) (z_sum : PySem.W.nsIn K mainGlobals "sum" = some none) (z_tuple : PySem.W.nsIn K mainGlobals "tuple" = some none) (z_zip : PySem.W.nsIn K mainGlobals "zip" = some none) :
    LamX.LawAtS l w K CX0 5 63 "_law_script" mg fa h := by
  cases hfa.symm.trans (PySem.W.mg_of X G a15)
  have F0 := fun_mk (st := sPacked) l0 c0' k0
  have b0 := F0.binds (ps := ["packing"]) fun _ _ _ _ _ _ us hl => match us, hl with | [_], _ => rfl
  have F1 := fun_mk (st := sCases) l1 c1' k1
  have b1 := F1.binds (ps := ["packing"]) fun _ _ _ _ _ _ us hl => match us, hl with | [_], _ => rfl
  have F2 := fun_mk (st := sSpots) l2 c2' k2
  have b2 := F2.binds (ps := ["packing"]) fun _ _ _ _ _ _ us hl => match us, hl with | [_], _ => rfl
  have F3 := fun_mk (st := sTinsIn) l3 c3' k3
  have b3 := F3.binds (ps := ["packing", "case"]) fun _ _ _ _ _ _ us hl => match us, hl with | [_, _], _ => rfl
  have F4 := fun_mk (st := sBegin) l4 c4' k4
  have b4 := F4.binds (ps := ["_law_script"]) fun _ _ _ _ _ _ us hl => match us, hl with | [_], _ => rfl
  have F5 := fun_mk (st := sTake) l5 c5' k5
  have b5 := F5.binds (ps := ["_law_state", "_law_many"]) fun _ _ _ _ _ _ us hl => match us, hl with | [_, _], _ => rfl
  have F6 := fun_mk (st := sSame) l6 c6' k6
  have b6 := F6.binds (ps := ["_law_found", "_law_due_here"]) fun _ _ _ _ _ _ us hl => match us, hl with | [_, _], _ => rfl
  have F7 := fun_mk (st := sNumber) l7 c7' k7
  have b7 := F7.binds (ps := ["_law_state", "_law_sort"]) fun _ _ _ _ _ _ us hl => match us, hl with | [_, _], _ => rfl
  have F8 := fun_mk (st := sNames) l8 c8' k8
  have b8 := F8.binds (ps := ["_law_state", "_law_many"]) fun _ _ _ _ _ _ us hl => match us, hl with | [_, _], _ => rfl
  have F9 := fun_mk (st := sMarks) l9 c9' k9
  have b9 := F9.binds (ps := ["_law_state", "_law_many"]) fun _ _ _ _ _ _ us hl => match us, hl with | [_, _], _ => rfl
  have F10 := fun_mk (st := sParts) l10 c10' k10
  have b10 := F10.binds (ps := ["_law_state", "_law_marks", "_law_many", "_law_great"]) fun _ _ _ _ _ _ us hl => match us, hl with | [_, _, _, _], _ => rfl
  have F11 := fun_mk (st := sPackBy) l11 c11' k11
  have b11 := F11.binds (ps := ["_law_state", "_law_name", "_law_marks", "_law_great"]) fun _ _ _ _ _ _ us hl => match us, hl with | [_, _, _, _], _ => rfl
  have F12 := fun_mk (st := sLaid) l12 c12' k12
  have b12 := F12.binds (ps := ["_law_packing"]) fun _ _ _ _ _ _ us hl => match us, hl with | [_], _ => rfl
  have F13 := fun_mk (st := sGiven) l13 c13' k13
  have b13 := F13.binds (ps := ["_law_state", "_law_packing"]) fun _ _ _ _ _ _ us hl => match us, hl with | [_, _], _ => rfl
  have F14 := fun_mk (st := sDue) l14 c14' k14
  have b14 := F14.binds (ps := ["_law_packing", "_law_case"]) fun _ _ _ _ _ _ us hl => match us, hl with | [_, _], _ => rfl
  have F15 := fun_mk (st := sLaw) l15 c15' k15
  have m_all := PySem.W.mg_none_of X G z_all
  have m_bool := PySem.W.mg_none_of X G z_bool
  have m_divmod := PySem.W.mg_none_of X G z_divmod
  have m_int := PySem.W.mg_none_of X G z_int
  have m_isinstance := PySem.W.mg_none_of X G z_isinstance
  have m_len := PySem.W.mg_none_of X G z_len
  have m_list := PySem.W.mg_none_of X G z_list
  have m_max := PySem.W.mg_none_of X G z_max
  have m_min := PySem.W.mg_none_of X G z_min
  have m_range := PySem.W.mg_none_of X G z_range
  have m_str := PySem.W.mg_none_of X G z_str
  have m_sum := PySem.W.mg_none_of X G z_sum
  have m_tuple := PySem.W.mg_none_of X G z_tuple
  have m_zip := PySem.W.mg_none_of X G z_zip
  have tb0 := tab_in TT X r0 (PySem.W.mg_of X G a0) l0 rfl lc0 v0
  refine ⟨PySem.W.fnOf "law" "law" (defArgs sLaw) (defBody sLaw) (defScope sLaw) .none kV15 dc15 pm15 an15 cd15 ct15, [(c0, P0)], spLaw K P0, List.forall_mem_cons.mpr ⟨tb0.2, fun _ z => nomatch z⟩, List.forall_mem_cons.mpr ⟨nP0, fun _ z => nomatch z⟩, List.forall_mem_cons.mpr ⟨tb0.1, fun _ z => nomatch z⟩, fun s v => .of_eq rfl, fun H a ns hl _ hH hS => ?_, fun base _ _ TB => ?_⟩
  · have hT0 : GxR.TabG H P0 := ⟨#[], hH (c0, P0) (List.mem_cons_self ..), trivial⟩; exact ⟨a, ns, rfl, hS, hl, hT0, fun _ => rfl⟩
  · have g := fun {x : Str} {f : Addr} (a : PySem.W.nsIn K mainGlobals x = some (some (.ref f))) => PySem.W.mg_of X G a
    have T0 : GxR.TabB base mg c0 P0 := let t := TB (c0, P0) (List.mem_cons_self ..); ⟨t.code, t.bm, t.gP⟩
    have CT : Cal l.prog w K mg base 1 "_law_take" ["_law_state", "_law_many"] spTake := ⟨_, _, ok_take F5 m_len m_divmod, g a5, k5, b5⟩
    have CB : Cal l.prog w K mg base 1 "_law_begin" ["_law_script"] (spBegin K) := ⟨_, _, ok_begin F4 m_list, g a4, k4, b4⟩
    have CU : Cal l.prog w K mg base 2 "_law_number" ["_law_state", "_law_sort"] spNumber := ⟨_, _, ok_number F7 CT m_range, g a7, k7, b7⟩
    have CN : Cal l.prog w K mg base 2 "_law_names" ["_law_state", "_law_many"] spNames := ⟨_, _, ok_Names F8 CT m_range m_len, g a8, k8, b8⟩
    have CM : Cal l.prog w K mg base 2 "_law_marks_by" ["_law_state", "_law_many"] spNames := ⟨_, _, ok_Marks F9 CT m_range m_len, g a9, k9, b9⟩
    have PA : Cal l.prog w K mg base 3 "_law_parts_by" ["_law_state", "_law_marks", "_law_many", "_law_great"] spParts := ⟨_, _, ok_parts F10 CT CU m_range m_len m_max, g a10, k10, b10⟩
    have PB : Cal l.prog w K mg base 4 "_law_packing_by" ["_law_state", "_law_name", "_law_marks", "_law_great"] spPackBy := ⟨_, _, ok_packby F11 CT CU PA m_sum m_max, g a11, k11, b11⟩
    have GI : Cal l.prog w K mg base 2 "_law_given" ["_law_state", "_law_packing"] spGiven := ⟨_, _, ok_given F13 CT m_list m_tuple, g a13, k13, b13⟩
    have LA : Cal l.prog w K mg base 1 "_law_laid_out" ["_law_packing"] spLaid := ⟨_, _, ok_laid F12 m_range, g a12, k12, b12⟩
    have E0_ : Cal l.prog w K mg base 1 "_law_same" ["_law_found", "_law_due_here"] (spSame 0) := ⟨_, _, ok_same0 F6 m_isinstance m_list m_tuple m_bool m_str m_int, g a6, k6, b6⟩
    have E1_ : Cal l.prog w K mg base 2 "_law_same" ["_law_found", "_law_due_here"] (spSame 1) := ⟨_, _, ok_sameS F6 E0_ m_isinstance m_list m_tuple m_bool m_str m_int m_len m_all m_zip, g a6, k6, b6⟩
    have E2_ : Cal l.prog w K mg base 3 "_law_same" ["_law_found", "_law_due_here"] (spSame 2) := ⟨_, _, ok_sameS F6 E1_ m_isinstance m_list m_tuple m_bool m_str m_int m_len m_all m_zip, g a6, k6, b6⟩
    have DU : Cal l.prog w K mg base 1 "_law_due" ["_law_packing", "_law_case"] spDue := ⟨_, _, ok_due F14 m_range, g a14, k14, b14⟩
    have TP : Cal l.prog w K mg base 1 "tins_packed" ["packing"] (spPacked P0) := ⟨_, _, ok_packed l0 c0' T0 m_sum, g a0, k0, b0⟩
    have CO : Cal l.prog w K mg base 2 "cases_of" ["packing"] (spCases P0) := ⟨_, _, ok_cases F1 TP, g a1, k1, b1⟩
    have SP : Cal l.prog w K mg base 1 "spots_of" ["packing"] spSpots := ⟨_, _, ok_spots F2, g a2, k2, b2⟩
    have TI : Cal l.prog w K mg base 2 "tins_in" ["packing", "case"] spTinsIn := ⟨_, _, ok_tinsin F3 SP m_zip m_max m_min, g a3, k3, b3⟩
    exact ok_law F15 CB CT CU CN CM PB GI LA E2_ DU CO TI m_range m_list m_len m_min
end TK
open PySem PySem.W PyProof.Rows
set_option maxHeartbeats 0 in
theorem PySem.Challenge.cw_tinrecall_k24_cases_laid_out_holds : PySem.Challenge.rw_tinrecall_k24_cases_laid_out.Holds := by
  w_on; o_law; k_head; (case hw => w_witness2)
  k_fill
  refine TK.law_end (l := PySem.Challenge.rw_tinrecall_k24_cases_laid_out) (k := 5) rfl rfl ⟨rfl, by decide, by decide⟩ (fun w h Y => PySem.W.kIn_of Y) ?made
  case made =>
    intro w mg f h KX G hmg TT
    refine' TK.all_mk KX G hmg TT ?a0 ?l0 ?c0 ?k0 ?a1 ?l1 ?c1 ?k1 ?a2 ?l2 ?c2 ?k2 ?a3 ?l3 ?c3 ?k3 ?a4 ?l4 ?c4 ?k4 ?a5 ?l5 ?c5 ?k5 ?a6 ?l6 ?c6 ?k6 ?a7 ?l7 ?c7 ?k7 ?a8 ?l8 ?c8 ?k8 ?a9 ?l9 ?c9 ?k9 ?a10 ?l10 ?c10 ?k10 ?a11 ?l11 ?c11 ?k11 ?a12 ?l12 ?c12 ?k12 ?a13 ?l13 ?c13 ?k13 ?a14 ?l14 ?c14 ?k14 ?a15 ?l15 ?c15 ?k15 ?lc0 ?v0 ?nP0 ?r0 ?z_all ?z_bool ?z_divmod ?z_int ?z_isinstance ?z_len ?z_list ?z_max ?z_min ?z_range ?z_str ?z_sum ?z_tuple ?z_zip
    (case a0 => k_is); (case l0 => k_is); (case c0 => k_is); (case k0 => k_is)
    (case a1 => k_is); (case l1 => k_is); (case c1 => k_is); (case k1 => k_is)
    (case a2 => k_is); (case l2 => k_is); (case c2 => k_is); (case k2 => k_is)
    (case a3 => k_is); (case l3 => k_is); (case c3 => k_is); (case k3 => k_is)
    (case a4 => k_is); (case l4 => k_is); (case c4 => k_is); (case k4 => k_is)
    (case a5 => k_is); (case l5 => k_is); (case c5 => k_is); (case k5 => k_is)
    (case a6 => k_is); (case l6 => k_is); (case c6 => k_is); (case k6 => k_is)
    (case a7 => k_is); (case l7 => k_is); (case c7 => k_is); (case k7 => k_is)
    (case a8 => k_is); (case l8 => k_is); (case c8 => k_is); (case k8 => k_is)
    (case a9 => k_is); (case l9 => k_is); (case c9 => k_is); (case k9 => k_is)
    (case a10 => k_is); (case l10 => k_is); (case c10 => k_is); (case k10 => k_is)
    (case a11 => k_is); (case l11 => k_is); (case c11 => k_is); (case k11 => k_is)
    (case a12 => k_is); (case l12 => k_is); (case c12 => k_is); (case k12 => k_is)
    (case a13 => k_is); (case l13 => k_is); (case c13 => k_is); (case k13 => k_is)
    (case a14 => k_is); (case l14 => k_is); (case c14 => k_is); (case k14 => k_is)
    (case a15 => k_is); (case l15 => k_is); (case c15 => k_is); (case k15 => k_is)
    (case lc0 => k_is); (case v0 => exact rfl); (case nP0 => exact rfl); (case r0 => decide +kernel)
    (case z_all => k_is); (case z_bool => k_is); (case z_divmod => k_is); (case z_int => k_is); (case z_isinstance => k_is); (case z_len => k_is); (case z_list => k_is); (case z_max => k_is); (case z_min => k_is); (case z_range => k_is); (case z_str => k_is); (case z_sum => k_is); (case z_tuple => k_is); (case z_zip => k_is)

