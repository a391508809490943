import PyProof.Rows.All
import Wide.All
import OpenK.AllK
import Wide.FinOn
import HandS.ForMost
import HandS.WideBits
import HandS.IsInst
import HandS.Style
import HandS.AnyAll
import HandS.Nested
import HandS.Walk
import HandS.Evl
import HandS.EndTab
import HandS.SortInts
import HandS.SortRule
import HandS.Conv
import HandS.Star
import HandS.Codes
import HandS.Wide
import HandS.Zip
import HandS.More
import KE.KDictPairs
import KE.GoesMore
import PyProof.SumAny
import PyProof.WalksPairs
import PyProof.GenCompT
import PySem.Challenge.RW_tinrecall_k21_reached_by_trying_all
set_option Elab.async false
set_option linter.all false
set_option maxRecDepth 100000
set_option maxHeartbeats 5000000
namespace GP
open PySem PySem.Spec PyProof.Rows L2
/-- the values vs are tuples that hold the pairs ps -/
def Prs (H : Hp) (vs : List V) (ps : List (Int × Int)) : Prop := vs.length = ps.length ∧ ∀ (i : Nat) p, ps[i]? = some p → ∃ a, vs[i]? = some (.ref a) ∧ H a = some (.tup [.int p.1, .int p.2])
/-- the sum of g over the pairs -/
def sumP (g : Int → Int → Int) (ps : List (Int × Int)) : Int := (ps.map fun p => g p.1 p.2).sum
def anyP (g : Int → Int → Bool) (ps : List (Int × Int)) : Bool := ps.any fun p => g p.1 p.2
end GP

namespace TK
open PySem PySem.Spec PyProof.Rows L2 GP
def topS (i : Nat) : Stmt := PySem.Challenge.pw_tinrecall_k21_reached_by_trying_all.main.body.getD i (.Pass ⟨0, 0, 0, 0⟩)

/-- the draws' state: its dict at d, its cells at c -/
structure StAt (H : Hp) (d c : Addr) (t : Int) : Prop where
  dict : H d = some (.dK [(.inr "cells", .ref c), (.inr "turn", .int t)])
  cells : ∃ cs : List Int, H c = some (.lst (cs.map V.int)) ∧ cs ≠ [] ∧ cs.length ≤ 63
  pos : 0 ≤ t
theorem StAt.ne {H : Hp} {d c : Addr} {t : Int} (h : StAt H d c t) : d ≠ c := by
  obtain ⟨cs, hc, _⟩ := h.cells
  exact ne_of h.dict hc (by intro z; cases z)
/-- all but the state is as it was -/
def Kp (d c : Addr) (H H' : Hp) : Prop := ∀ b o, b ≠ d → b ≠ c → H b = some o → H' b = some o
theorem Kp.refl (d c : Addr) (H : Hp) : Kp d c H H := fun _ _ _ _ h => h
theorem Kp.trans {d c : Addr} {H H1 H2 : Hp} (a : Kp d c H H1) (b : Kp d c H1 H2) : Kp d c H H2 := fun x o h1 h2 h => b x o h1 h2 (a x o h1 h2 h)

theorem ixN_of {n j : Nat} (h : j < n) : ixN n (j : Int) = some j := by
  unfold ixN
  rw [if_pos (Int.natCast_nonneg j), if_pos (by omega), Int.toNat_natCast]
def spTake : Sp := fun vs H Q _ => ∃ (d c : Addr) (t m : Int), vs = [.ref d, .int m] ∧ StAt H d c t ∧ t < 2 ^ 60 ∧ 0 < m ∧ m.natAbs < 2 ^ 250 ∧
  ∀ r H', 0 ≤ r → r < m → StAt H' d c (t + 1) → Kp d c H H' → Q (.int r) H'

abbrev sTake : Stmt := topS 17
theorem scTake : FnScope ["_law_state", "_law_many", "_law_turn", "_law_place", "_law_cell", "_law_digit", "_law_mixed"] ["_law_state", "_law_many"] (defScope sTake) := ⟨rfl, rfl, rfl, by decide +kernel, rfl, by decide +kernel, by decide +kernel⟩
section
variable {K : PySem.W.Frag} {mg : Str → Option Value} {P : Program} {w : World} {base : Heap}
theorem ok_take {f : Addr} {fd : FuncData} {k : Nat} (F : Fun K "_law_take" "_law_take" sTake f fd) (ml : mg "len" = none) (md : mg "divmod" = none) : FnOk P w K mg base CX0 (k + 1) f fd ["_law_state", "_law_many"] spTake := by
  refine F.ok scTake (fun vs H Q E h => ?_) (fun cdv A outer s H vs Q E hr h => ?_)
  · obtain ⟨d, c, t, m, rfl, _⟩ := h
    rfl
  · obtain ⟨d, c, t, m, rfl, hS, ht, hm, hm2, q⟩ := h
    refine ⟨_, pss_cons (ps_set (i := 2) scTake.nd rfl (.inl rfl) (pe_op op_add (pe_dget (hu_of hr) (pv 0) pe_str (fun _ _ => rfl)) pe_int))
      (pss_cons (ps_dput (hu_of hr) (pv 0) pe_str (pv 2) rfl)
      (pss_cons (ps_set (i := 3) scTake.nd rfl (.inl rfl) (pe_op op_mod (pv 2) (pe_callB call_len_seq (by rfl) ml PySem.boot_len (pa_cons (pe_dget (hu_of hr) (pv 0) pe_str (fun _ _ => rfl)) pa_nil))))
      (pss_cons (ps_set (i := 4) scTake.nd rfl (.inl rfl) (pe_ix ix_list (pe_dget (hu_of hr) (pv 0) pe_str (fun _ _ => rfl)) (pv 3) (fun _ _ => rfl)))
      (pss_cons (ps_if (pt_cmpR op_ge (pv 4) (pe_op op_pow pe_int pe_int) (nomark _))
        (pss_cons (ps_asg (pe_callB call_divmodW (by rfl) md (by decide +kernel) (pa_cons (pv 4) (pa_cons (pv 1) pa_nil)))
            (pg_tup rfl (pgs_cons (pg_sub (pe_dget (hu_of hr) (pv 0) pe_str (fun _ _ => rfl)) (pv 3) set_list) (pgs_cons (pg_name (i := 5) scTake.nd rfl (.inl rfl)) pgs_nil))))
          (pss_one (ps_ret (pv 5)))) pss_nil)
      (pss_cons (ps_set (i := 6) scTake.nd rfl (.inl rfl) (pe_op op_mod (pe_op op_mul (pe_op op_add (pe_op op_add (pe_op op_mod (pv 4) pe_int) (pe_op op_mul (pe_op op_mul (pv 2) (pv 2)) pe_int)) pe_int) pe_int) pe_int))
      (pss_cons (ps_set (i := 6) scTake.nd rfl (.inl rfl) (pe_op op_mod (pe_op op_mul (pv 6) (pv 6)) pe_int))
      (pss_one (ps_ret (pe_op op_mod (pe_op op_fdiv (pe_op op_mod (pe_op op_mul (pe_op op_add (pv 6) (pe_op op_mul (pv 2) pe_int)) pe_int) pe_int) pe_int) (pv 1)))))))))), ?_⟩
    obtain ⟨hd, ⟨cs, hc, hne, hlen⟩, hpos⟩ := hS
    have ndc : d ≠ c := ne_of hd hc (by intro z; cases z)
    -- turn = state['turn'] + 1
    refine ⟨.ref d, rfl, d, .int t, rfl, DGet.k (k := Sum.inr "turn") hd, t, 1, rfl, rfl, ?_⟩
    -- state['turn'] = turn
    refine ⟨_, rfl, .ref d, rfl, d, _, rfl, DPut.k (k := Sum.inr "turn") hd (by show 2 < sizeLine; decide), ?_⟩
    have hput : putK [((.inr "cells" : Key), V.ref c), (.inr "turn", .int t)] (.inr "turn") (.int (t + 1)) = [(.inr "cells", .ref c), (.inr "turn", .int (t + 1))] := rfl
    rw [show (.int (t + 1) : V) = V.int (t + 1) from rfl] at *
    rw [hput]
    generalize hH1 : upd H d (.dK [((.inr "cells" : Key), V.ref c), (.inr "turn", .int (t + 1))]) = H1
    have hd1 : H1 d = some (.dK [(.inr "cells", .ref c), (.inr "turn", .int (t + 1))]) := by rw [← hH1]; exact upd_same
    have hc1 : H1 c = some (.lst (cs.map V.int)) := by rw [← hH1, upd_ne ndc.symm]; exact hc
    have k1 : Kp d c H H1 := fun b o h1 h2 e => by rw [← hH1, upd_ne h1]; exact e
    have hlp : 0 < cs.length := List.length_pos_iff.mpr hne
    -- place = turn % len(state['cells'])
    refine ⟨_, rfl, .ref d, rfl, d, .ref c, rfl, DGet.k (k := Sum.inr "cells") hd1, c, _, rfl, .inl (SqL.of hc1), _, _, rfl, rfl, (by show (0 : Int) < ((cs.map V.int).length : Int); rw [List.length_map]; omega), ?_⟩
    dsimp only
    rw [List.length_map]
    have hj0 : 0 ≤ (t + 1) % (cs.length : Int) := Int.emod_nonneg _ (by omega)
    have hj1 : (t + 1) % (cs.length : Int) < cs.length := Int.emod_lt_of_pos _ (by omega)
    obtain ⟨j, hj⟩ := Int.eq_ofNat_of_zero_le hj0
    have hjl : j < cs.length := by omega
    rw [hj]
    have gj : (cs.map V.int)[j]? = some (.int cs[j]) := by rw [List.getElem?_map, List.getElem?_eq_getElem hjl]; rfl
    -- cell = state['cells'][place]
    refine ⟨.ref d, rfl, d, .ref c, rfl, DGet.k (k := Sum.inr "cells") hd1, _, rfl, c, _, _, .int cs[j], rfl, rfl, SqL.of hc1, atI_nat gj, ?_⟩
    generalize cs[j] = x
    -- if cell >= 10 ** 18
    refine ⟨_, rfl, 10, 18, rfl, rfl, ⟨by decide, by decide, by decide⟩, _, _, rfl, rfl, _, rfl, ite2 (fun e => ?_) (fun e => ?_)⟩
    · have hdp : CDivP x m := ⟨hm, PyProof.noPylong_of_log2 (Nat.lt_trans (PySem.Flt.log2_lt_of (by decide) hm2) (by decide))⟩
      refine ⟨_, rfl, _, rfl, x, m, rfl, hdp, fun p hp => ?_⟩
      have npd : d ≠ p := ne_of_none hd1 hp
      have npc : c ≠ p := ne_of_none hc1 hp
      have hd2 : upd H1 p (.tup [.int (x / m), .int (x % m)]) d = some (.dK [(.inr "cells", .ref c), (.inr "turn", .int (t + 1))]) := by rw [upd_ne npd]; exact hd1
      have hc2 : upd H1 p (.tup [.int (x / m), .int (x % m)]) c = some (.lst (cs.map V.int)) := by rw [upd_ne npc]; exact hc1
      refine ⟨p, _, rfl, .inl (.inl upd_same), rfl, _, _, rfl, .ref d, rfl, d, .ref c, rfl, DGet.k (k := Sum.inr "cells") hd2, _, rfl, c, _, _, j, rfl, rfl, hc2, ixN_of (by rw [List.length_map]; exact hjl), _, _, rfl, rfl, ?_⟩
      refine ⟨_, rfl, ?_⟩
      refine q _ _ (Int.emod_nonneg _ (by omega)) (Int.emod_lt_of_pos _ hm) ⟨?_, ⟨cs.set j (x / m), ?_, ?_, ?_⟩, by omega⟩ ?_
      · rw [upd_ne ndc]; exact hd2
      · rw [upd_same, List.map_set]
      · intro z
        have z2 : (cs.set j (x / m)).length = 0 := by rw [z]; rfl
        rw [List.length_set] at z2
        omega
      · rw [List.length_set]; exact hlen
      · intro b o h1 h2 e
        rw [upd_ne h2, upd_ne (ne_of_none (k1 b o h1 h2 e) hp)]
        exact k1 b o h1 h2 e
    · have t1 : t + 1 < 2 ^ 61 := by omega
      -- mixed
      refine ⟨_, rfl, _, _, rfl, rfl, (show (0 : Int) < 2147483629 by decide), _, rfl, _, rfl, t + 1, t + 1, rfl, rfl, .inl ⟨by omega, by omega⟩, _, _, rfl, rfl, .inr ⟨by decide, by decide⟩, _, _, rfl, rfl, _, _, rfl, rfl, _, _, rfl, rfl, .inr ⟨by decide, by decide⟩, _, 2147483647, rfl, rfl, (show (0 : Int) < 2147483647 by decide), ?_⟩
      dsimp only
      generalize hy : ((x % 2147483629 + (t + 1) * (t + 1) * 7919 + 11) * 48271) = y
      have y0 : 0 ≤ y % 2147483647 := Int.emod_nonneg _ (by decide)
      have y1 : y % 2147483647 < 2147483647 := Int.emod_lt_of_pos _ (by decide)
      refine ⟨_, rfl, _, rfl, y % 2147483647, y % 2147483647, rfl, rfl, .inl ⟨by omega, by omega⟩, _, 2147483587, rfl, rfl, (show (0 : Int) < 2147483587 by decide), ?_⟩
      refine ⟨_, rfl, _, rfl, t + 1, 104729, rfl, rfl, .inr ⟨by decide, by decide⟩, _, _, rfl, rfl, _, _, rfl, rfl, .inr ⟨by decide, by decide⟩, _, 2147483629, rfl, rfl, (show (0 : Int) < 2147483629 by decide), _, 64, rfl, rfl, ⟨by decide, by decide⟩, _, rfl, _, m, rfl, rfl, hm, ?_⟩
      exact q _ _ (Int.emod_nonneg _ (by omega)) (Int.emod_lt_of_pos _ hm) ⟨hd1, ⟨cs, hc1, hne, hlen⟩, by omega⟩ k1
end

abbrev sBegin : Stmt := topS 16
theorem scBegin : FnScope ["_law_script", "_law_cells"] ["_law_script"] (defScope sBegin) := ⟨rfl, rfl, rfl, by decide +kernel, rfl, by decide +kernel, by decide +kernel⟩
theorem same_upd {H : Hp} {p : Addr} {o : HO} (h : H p = none) : Same H (upd H p o) := fun b x e => by
  rw [upd_ne (ne_of_none e h)]
  exact e
theorem cut_front (xs : List V) (m : Nat) : cutV xs none (some (m : Int)) = xs.take m := by
  unfold cutV
  rw [HT.sIx_none, HT.sIx_nat]
  show List.take (min m xs.length - 0) (xs.drop 0) = xs.take m
  rw [Nat.sub_zero, List.drop_zero]
  by_cases h : m ≤ xs.length
  · rw [Nat.min_eq_left h]
  · rw [Nat.min_eq_right (by omega), List.take_length, List.take_of_length_le (by omega)]
theorem dp_ints {K : PySem.W.Frag} {H : Hp} : ∀ ns : List Int, DpAll K H (ns.map V.int) (ns.map PyData.int)
  | [] => .nil
  | n :: r => .cons (.int n) (dp_ints r)
theorem lay_ints : ∀ ns : List Int, PyData.canLayAll0 (ns.map PyData.int) = true
  | [] => by simp only [List.map_nil, PyData.canLayAll0]
  | n :: r => by
    rw [List.map_cons, PyData.canLayAll0, lay_ints r]
    simp [PyData.canLay0]
theorem depth_ints : ∀ ns : List Int, PyData.depthAll (ns.map PyData.int) = 0
  | [] => by simp only [List.map_nil, PyData.depthAll]
  | n :: r => by
    rw [List.map_cons, PyData.depthAll, depth_ints r]
    simp [PyData.depth]
theorem shaped_ints (ns : List Int) : SeqAt.shaped (PyData.list (ns.map PyData.int)) = true := by
  unfold SeqAt.shaped
  rw [PyData.canLay0, lay_ints, PyData.depth, depth_ints]
  rfl
theorem eqv_nil (n : Int) (r : List Int) : PyData.eqv (PyData.list ((n :: r).map PyData.int)) (PyData.list []) = false := by
  simp [PyData.eqv, PyData.eqvAll]
theorem eqv_nil0 : PyData.eqv (PyData.list (([] : List Int).map PyData.int)) (PyData.list []) = true := by
  simp [PyData.eqv, PyData.eqvAll]
def spBegin (K : PySem.W.Frag) : Sp := fun vs H Q _ => ∃ (a : Addr) (ns : List Int), vs = [.ref a] ∧ SqL K H a (ns.map V.int) ∧ ns.length ≤ 63 ∧
  ∀ d c H', Same H H' → H d = none → H c = none → StAt H' d c 0 → Q (.ref d) H'
section
variable {K : PySem.W.Frag} {mg : Str → Option Value} {P : Program} {w : World} {base : Heap}
theorem ok_begin {f : Addr} {fd : FuncData} {k : Nat} (F : Fun K "_law_begin" "_law_begin" sBegin f fd) (ml : mg "list" = none) : FnOk P w K mg base CX0 (k + 1) f fd ["_law_script"] (spBegin K) := by
  refine F.ok scBegin (fun vs H Q E h => ?_) (fun cdv A outer s H vs Q E hr h => ?_)
  · obtain ⟨a, ns, rfl, _⟩ := h
    rfl
  · obtain ⟨a, ns, rfl, hS, hlen, q⟩ := h
    refine ⟨_, pss_cons (ps_set (i := 1) scBegin.nd rfl (.inl rfl) (pe_callTy call_list_of (by rfl) ml (by decide +kernel) (pa_cons (pe_slice sl_list (pv 0) po_none (po_some pe_int)) pa_nil)))
      (pss_cons (ps_if (pt_cmpR (op_eqD hr.units) (pv 1) (pe_lst pa_nil) (nomark _)) (pss_one (ps_set (i := 1) scBegin.nd rfl (.inl rfl) (pe_lst (pa_cons pe_int pa_nil)))) pss_nil)
      (pss_one (ps_ret (pe_disp (pps_cons pe_str (pv 1) (pps_cons pe_str pe_int pps_nil)) (by rfl) (by rfl) (fun z => by cases z) (by decide))))), ?_⟩
    -- the end: a dict of what stands at the cells' place
    have fin : ∀ (H1 : Hp) (c : Addr) (cs : List Int) (y : Option V), Same H H1 → H c = none → H1 c = some (.lst (cs.map V.int)) → cs ≠ [] → cs.length ≤ 63 →
        (tRet (tDisp [(tC (.str "cells"), tVar 1), (tC (.str "turn"), tC (.int 0))])) { nx := fun _ H' => Q .non H', rt := Q } [some (.ref a), some (.ref c)] H1 := by
      intro H1 c cs y s1 nc ec hne hl
      refine fun d nd => ⟨_, rfl, upd_same, [(.inr "cells", .ref c), (.inr "turn", .int 0)], rfl, (by show 2 ≤ 15; decide), ?_⟩
      have ndc : c ≠ d := ne_of_none ec nd
      refine q d c _ (fun b o e => ?_) (s1.free nd) nc ⟨?_, ⟨cs, ?_, hne, hl⟩, by decide⟩
      · have nb : b ≠ d := ne_of_none (s1 b o e) nd
        rw [upd_ne nb, upd_ne nb]
        exact s1 b o e
      · exact upd_same
      · rw [upd_ne ndc, upd_ne ndc]
        exact ec
    refine ⟨.ref a, rfl, 63, rfl, a, ns.map V.int, rfl, hS, fun p np => ?_⟩
    have s1 : Same H (upd H p (.lst (cutV (ns.map V.int) none (some 63)))) := same_upd np
    refine ⟨p, _, rfl, .inl (SqL.of upd_same), fun l nl => ?_⟩
    have s2 := s1.trans (same_upd (o := .lst (cutV (ns.map V.int) none (some 63))) nl)
    have ecut : cutV (ns.map V.int) none (some 63) = ns.map V.int := by
      have e := cut_front (ns.map V.int) 63
      have e2 : cutV (ns.map V.int) none (some 63) = (ns.map V.int).take 63 := e
      rw [e2, List.take_of_length_le (by rw [List.length_map]; exact hlen)]
    have el : upd (upd H p (.lst (cutV (ns.map V.int) none (some 63)))) l (.lst (cutV (ns.map V.int) none (some 63))) l = some (.lst (ns.map V.int)) := by
      rw [upd_same, ecut]
    revert s2 el
    generalize upd (upd H p (.lst (cutV (ns.map V.int) none (some 63)))) l (.lst (cutV (ns.map V.int) none (some 63))) = H2
    intro s2 el
    have nlH : H l = none := s1.free nl
    -- if cells == []
    refine ⟨.ref l, rfl, Nat.zero_le _, fun z nz => ?_⟩
    have s3 := s2.trans (same_upd (o := .lst []) nz)
    have nlz : l ≠ z := ne_of_none el nz
    have el3 : upd H2 z (.lst []) l = some (.lst (ns.map V.int)) := by rw [upd_ne nlz]; exact el
    refine ⟨.list (ns.map PyData.int), .list [], .lst (SqL.of el3) (dp_ints ns), .lst (SqL.of upd_same) .nil, shaped_ints ns, shaped_ints [], ?_⟩
    cases ns with
    | nil =>
      refine ⟨true, by rw [eqv_nil0], iteT ?_⟩
      refine ⟨(by show 1 ≤ sizeLine; decide), fun c nc => ?_⟩
      exact fin _ c [_] none (s3.trans (same_upd nc)) (s3.free nc) upd_same (by simp) (by decide)
    | cons n r =>
      refine ⟨false, by rw [eqv_nil], iteF ?_⟩
      exact fin _ l (n :: r) none s3 nlH el3 (by simp) hlen
end

/-- a def of the text that keeps a promise, as its callers see it -/
def Cal (P : Program) (w : World) (K : PySem.W.Frag) (mg : Str → Option Value) (base : Heap) (k : Nat) (x : Str) (ps : List Str) (sp : Sp) : Prop :=
  ∃ f fd, FnOk P w K mg base CX0 k f fd ps sp ∧ mg x = some (.ref f) ∧ PySem.W.keepIn K (.ref f) = true ∧ Binds K fd ps []
theorem pe_own {X : Cx} {k : Nat} {x : Str} {ps : List Str} {sp : Sp} {e : Expr} {es : List Expr} {t : TA} {p pos : Pos} (C : Cal X.prog X.w X.K X.mg X.base k x ps sp) (hr : Room k X.A) (hg : Gl X x) (ha : PA X (e :: es) t)
    (dbg : (x == ("__debug__" : Str)) = false := by decide) (one : starEach (e :: es) X.env = (false, eval e X.env) :: starEach es X.env := by rfl) (star : (backTo pos (starEach es X.env)).any (·.1) = false := by rfl) :
    PE X (.Call (.Name x p) (e :: es) [] pos) (tCall sp [] E0 t) := by
  obtain ⟨f, fd, F, hm, hk, hb⟩ := C
  exact pe_call F hr hg hm hk hb .nil pass0 ha dbg one star
theorem StAt.same {H H' : Hp} {d c : Addr} {t : Int} (h : StAt H d c t) (s : Same H H') : StAt H' d c t :=
  ⟨s _ _ h.dict, let ⟨cs, e, r⟩ := h.cells; ⟨cs, s _ _ e, r⟩, h.pos⟩
theorem Kp.same {H H' : Hp} (d c : Addr) (s : Same H H') : Kp d c H H' := fun b o _ _ e => s b o e
/-- what is made behind the state stays -/
theorem Kp.at {H H' : Hp} {d c a : Addr} {t : Int} {o : HO} (k : Kp d c H H') (S : StAt H d c t) (e : H a = some o) (h1 : ∀ kvs, o ≠ .dK kvs) (h2 : ∀ ns : List Int, o ≠ .lst (ns.map V.int)) : H' a = some o := by
  obtain ⟨cs, ec, _⟩ := S.cells
  refine k a o (fun z => ?_) (fun z => ?_) e
  · rw [z, S.dict] at e
    exact h1 _ (Option.some.inj e).symm
  · rw [z, ec] at e
    exact h2 _ (Option.some.inj e).symm
theorem StAt.upd {H : Hp} {d c l : Addr} {t : Int} {o : HO} (S : StAt H d c t) (h1 : l ≠ d) (h2 : l ≠ c) : StAt (L2.upd H l o) d c t := by
  refine ⟨by rw [upd_ne h1.symm]; exact S.dict, ?_, S.pos⟩
  obtain ⟨cs, ec, r⟩ := S.cells
  exact ⟨cs, by rw [upd_ne h2.symm]; exact ec, r⟩

theorem _root_.GP.Prs.same {H H' : Hp} {vs : List V} {ps : List (Int × Int)} (h : Prs H vs ps) (s : Same H H') : Prs H' vs ps :=
  ⟨h.1, fun i p e => let ⟨a, e1, e2⟩ := h.2 i p e; ⟨a, e1, s _ _ e2⟩⟩
theorem _root_.GP.Prs.kp {H H' : Hp} {d c : Addr} {t : Int} {vs : List V} {ps : List (Int × Int)} (h : Prs H vs ps) (S : StAt H d c t) (k : Kp d c H H') : Prs H' vs ps :=
  ⟨h.1, fun i p e => let ⟨a, e1, e2⟩ := h.2 i p e; ⟨a, e1, k.at S e2 (fun _ z => nomatch z) (fun _ z => nomatch z)⟩⟩
theorem _root_.GP.Prs.upd_lst {H : Hp} {l : Addr} {xs : List V} {o : HO} {vs : List V} {ps : List (Int × Int)} (h : Prs H vs ps) (hl : H l = some (.lst xs)) : Prs (upd H l o) vs ps :=
  ⟨h.1, fun i p e => let ⟨a, e1, e2⟩ := h.2 i p e; ⟨a, e1, by rw [upd_ne (ne_of e2 hl (fun z => nomatch z))]; exact e2⟩⟩
theorem _root_.GP.Prs.nil {H : Hp} : Prs H [] [] := ⟨rfl, fun i p e => by simp at e⟩
theorem _root_.GP.Prs.snoc {H : Hp} {a : Addr} {x y : Int} {vs : List V} {ps : List (Int × Int)} (h : Prs H vs ps) (e : H a = some (.tup [.int x, .int y])) : Prs H (vs ++ [.ref a]) (ps ++ [(x, y)]) := by
  refine ⟨by simp [h.1], fun i p ep => ?_⟩
  by_cases hi : i < ps.length
  · rw [List.getElem?_append_left hi] at ep
    obtain ⟨b, e1, e2⟩ := h.2 i p ep
    exact ⟨b, by rw [List.getElem?_append_left (by rw [h.1]; exact hi)]; exact e1, e2⟩
  · rw [List.getElem?_append_right (by omega)] at ep
    have hz : i - ps.length = 0 := by
      cases hq : i - ps.length with
      | zero => rfl
      | succ n => rw [hq] at ep; simp at ep
    rw [hz] at ep
    have ep' : (x, y) = p := by simpa using ep
    subst ep'
    refine ⟨a, ?_, e⟩
    rw [List.getElem?_append_right (by rw [h.1]; omega), h.1, hz]
    rfl
/-- rising stretches with gaps, from lo on -/
def Ris : Int → List (Int × Int) → Prop
  | _, [] => True
  | lo, p :: r => lo ≤ p.1 ∧ p.1 ≤ p.2 ∧ Ris (p.2 + 2) r
theorem Ris.snoc : ∀ {lo : Int} {ps : List (Int × Int)} {a b : Int}, Ris lo ps → lo ≤ a → (∀ p ∈ ps, p.2 + 2 ≤ a) → a ≤ b → Ris lo (ps ++ [(a, b)])
  | lo, [], a, b, _, h1, _, h3 => ⟨h1, h3, True.intro⟩
  | lo, p :: r, a, b, h, h1, h2, h3 => ⟨h.1, h.2.1, Ris.snoc h.2.2 (h2 p (List.mem_cons_self ..)) (fun q hq => h2 q (List.mem_cons_of_mem _ hq)) h3⟩
theorem pick2 {x y r : Int} (Pv : Int → Prop) (h0 : 0 ≤ r) (h1 : r < 2) (hx : Pv x) (hy : Pv y) : ∃ v, Pv v ∧ atI [V.int x, V.int y] r = some (.int v) := by
  have : r = 0 ∨ r = 1 := by omega
  rcases this with rfl | rfl
  · exact ⟨x, hx, rfl⟩
  · exact ⟨y, hy, rfl⟩
theorem pick3 {x y z r : Int} (Pv : Int → Prop) (h0 : 0 ≤ r) (h1 : r < 3) (hx : Pv x) (hy : Pv y) (hz : Pv z) : ∃ v, Pv v ∧ atI [V.int x, V.int y, V.int z] r = some (.int v) := by
  have : r = 0 ∨ r = 1 ∨ r = 2 := by omega
  rcases this with rfl | rfl | rfl
  · exact ⟨x, hx, rfl⟩
  · exact ⟨y, hy, rfl⟩
  · exact ⟨z, hz, rfl⟩
/-- a new object stands through the state's change -/
theorem Kp.new {H H' : Hp} {d c l : Addr} {t : Int} {o : HO} (k : Kp d c (upd H l o) H') (S : StAt H d c t) (n : H l = none) : H' l = some o := by
  obtain ⟨cs, ec, _⟩ := S.cells
  exact k l o (ne_of_none S.dict n).symm (ne_of_none ec n).symm upd_same
theorem drop_at {α : Type} {l : List α} {i : Nat} {x : α} (h : l[i]? = some x) : l.drop i = x :: l.drop (i + 1) := by
  obtain ⟨lt, e⟩ := List.getElem?_eq_some_iff.mp h
  rw [← e]
  exact List.drop_eq_getElem_cons lt
theorem prs_at {H : Hp} {vs : List V} {ps : List (Int × Int)} {i : Nat} {x : V} (h : Prs H vs ps) (e : vs[i]? = some x) : ∃ (p : Int × Int) (a : Addr), ps[i]? = some p ∧ x = .ref a ∧ H a = some (.tup [.int p.1, .int p.2]) := by
  obtain ⟨hi, _⟩ := List.getElem?_eq_some_iff.mp e
  have hi2 : i < ps.length := by rw [← h.1]; exact hi
  obtain ⟨a, e1, e2⟩ := h.2 i ps[i] (List.getElem?_eq_getElem hi2)
  rw [e] at e1
  exact ⟨ps[i], a, List.getElem?_eq_getElem hi2, Option.some.inj e1, e2⟩

theorem sumP_append (g : Int → Int → Int) (ps qs : List (Int × Int)) : sumP g (ps ++ qs) = sumP g ps + sumP g qs := by
  unfold sumP
  rw [List.map_append, List.sum_append]
def inB (n a b : Int) : Bool := decide (a ≤ n) && decide (n ≤ b)
theorem Ris.le : ∀ {lo : Int} {ps : List (Int × Int)}, Ris lo ps → ∀ p ∈ ps, lo ≤ p.1 ∧ p.1 ≤ p.2
  | _, [], _, _, hp => nomatch hp
  | lo, q :: r, h, p, hp => by
    rcases List.mem_cons.mp hp with e | e'
    · rw [e]; exact ⟨h.1, h.2.1⟩
    · have := Ris.le h.2.2 p e'
      have := h.2.1
      have := h.1
      omega

/-! ### walks over a list or a tuple -/
def Sq (K : PySem.W.Frag) (H : Hp) (a : Addr) (xs : List V) : Prop := SqL K H a xs ∨ SqT K H a xs
def iSeq (K : PySem.W.Frag) (tl : TE) : TI := fun σ H R => tl σ H fun x H1 => ∃ a, x = .ref a ∧ (((∃ xs, SqL K H1 a xs) ∧ R (Itl K a) H1) ∨ ((∃ xs, SqT K H1 a xs) ∧ R (Itt K a) H1))
/-- the iterator that was just laid is no one's -/
theorem lone {X : Cx} {pins : List (Addr × Obj)} {σ : L2.St} {H : Hp} {s : Shared} (I : Inv X pins σ H s) : ∀ b ∈ [s.heap.objs.size], FpOk X pins H b := fun b hb => by
  rw [List.mem_singleton.mp hb]
  exact I.fpOk (H' := H) (Nat.le_refl _) (I.hok.fresh (Nat.le_refl _))
theorem pi_seq {X : Cx} {tg l : Expr} {tl : TE} (walked : PE X l tl) : PI X tg l (iSeq X.K tl) := by
  constructor
  intro pins s σ H R I h
  refine thn (walked.run pins s σ H _ I h) fun u s1 had => ?_
  obtain ⟨_, H1, J, rel, a, rfl, had⟩ := had
  cases rel
  have laid : ∀ o, Inv X pins σ H1 { s1 with heap := s1.heap.push o } := fun o => J.kept (t' := s1.toks) fun _ _ e => Heap.get?_push_of_some _ e
  rcases had with ⟨⟨xs, hq⟩, q⟩ | ⟨⟨xs, hq⟩, q⟩
  · obtain ⟨its, _, isL, _⟩ := J.list hq
    exact wpAny_pyIter_list isL.isList ⟨_, _, _, _, H1, rfl, laid _, turn_list a _, ⟨_, Heap.get?_push_size _ rfl, rfl, rfl⟩, lone J, q⟩
  · obtain ⟨its, _, isT, _⟩ := J.tuple hq
    exact wpAny_pyIter_tuple (items := its.toArray) isT ⟨_, _, _, _, H1, rfl, laid _, turn_tuple a _, ⟨_, Heap.get?_push_size _ rfl, rfl, rfl⟩, lone J, q⟩
/-- the walked thing stands as it stood -/
def SqTo (K : PySem.W.Frag) (H H' : Hp) (a : Addr) (xs : List V) : Prop := (SqL K H a xs → SqL K H' a xs) ∧ (SqT K H a xs → SqT K H' a xs)
theorem SqTo.refl {K : PySem.W.Frag} {H : Hp} {a : Addr} {xs : List V} : SqTo K H H a xs := ⟨fun h => h, fun h => h⟩
theorem same_t {K : PySem.W.Frag} {H H' : Hp} {a : Addr} {xs : List V} (s : Same H H') (h : SqT K H a xs) : SqT K H' a xs :=
  h.elim (fun r => .inl (r.elim (fun e => .inl (s a _ e)) fun ⟨o, e⟩ => .inr ⟨o, s a _ e⟩)) .inr
theorem SqTo.same {K : PySem.W.Frag} {H H' : Hp} {a : Addr} {xs : List V} (s : Same H H') : SqTo K H H' a xs := ⟨s.seq, same_t s⟩
theorem Sq.same {K : PySem.W.Frag} {H H' : Hp} {a : Addr} {xs : List V} (h : Sq K H a xs) (s : Same H H') : Sq K H' a xs := h.elim (fun h => .inl (s.seq h)) fun h => .inr (same_t s h)
theorem Sq.list {K : PySem.W.Frag} {H : Hp} {a : Addr} {xs : List V} (h : H a = some (.lst xs)) : Sq K H a xs := .inl (SqL.of h)
theorem Sq.tup {K : PySem.W.Frag} {H : Hp} {a : Addr} {xs : List V} (h : H a = some (.tup xs)) : Sq K H a xs := .inr (.inl (.inl h))
abbrev ForR (J : It) (g : TG) (tb : TS) (D : Ends) (σ : L2.St) (H1 : Hp) : Prop := ∃ W : Nat → Nat → L2.St → Hp → Prop, (∃ m, W 0 m σ H1) ∧ ∀ i m σ H, W i m σ H →
  (J.stop i H ∧ D.nx σ H) ∨ (J.go i H ∧ ∃ N : L2.St → Hp → Prop, (∀ σ' H', N σ' H' → ∃ m', m' < m ∧ W (i + 1) m' σ' H') ∧ ∀ x H', J.yld i H x H' → g x σ H' fun σ2 H2 => tb { D with nx := N, ct := N, bk := D.nx } σ2 H2)
theorem for_seq {K : PySem.W.Frag} {a : Addr} {xs : List V} {g : TG} {tb : TS} {D : Ends} {σ : L2.St} {H1 : Hp} (hq : Sq K H1 a xs) (Pv : Nat → L2.St → Hp → Prop) (h0 : Pv 0 σ H1)
    (hl : ∀ i σ H', i ≤ xs.length → Pv i σ H' → SqTo K H1 H' a xs)
    (turn : ∀ i x σ H, xs[i]? = some x → Pv i σ H → g x σ H fun σ2 H2 => tb { D with nx := Pv (i + 1), ct := Pv (i + 1), bk := D.nx } σ2 H2) (fin : ∀ σ H, Pv xs.length σ H → D.nx σ H) :
    ((∃ xs, SqL K H1 a xs) ∧ ForR (Itl K a) g tb D σ H1) ∨ ((∃ xs, SqT K H1 a xs) ∧ ForR (Itt K a) g tb D σ H1) := by
  rcases hq with h | h
  · exact .inl ⟨⟨xs, h⟩, for_list (xs := xs) Pv h0 (fun i σ H' hi p => (hl i σ H' hi p).1 h) turn fin⟩
  · exact .inr ⟨⟨xs, h⟩, for_tup (xs := xs) Pv h0 (fun i σ H' hi p => (hl i σ H' hi p).2 h) turn fin⟩

/-! ### pairs as data -/
def pairD (p : Int × Int) : PyData := .tuple [.int p.1, .int p.2]
theorem dp_prs {K : PySem.W.Frag} {H : Hp} : ∀ {us : List V} {ps : List (Int × Int)}, Prs H us ps → DpAll K H us (ps.map pairD)
  | [], [], _ => .nil
  | [], _ :: _, h => nomatch h.1
  | _ :: _, [], h => nomatch h.1
  | u :: us, p :: ps, h => by
    obtain ⟨a, e1, e2⟩ := h.2 0 p rfl
    have eu : u = .ref a := Option.some.inj e1
    subst eu
    refine .cons (.tup (.inl (.inl e2)) (.cons (.int _) (.cons (.int _) .nil))) (dp_prs ⟨Nat.succ.inj h.1, fun i q e => ?_⟩)
    obtain ⟨b, f1, f2⟩ := h.2 (i + 1) q e
    exact ⟨b, f1, f2⟩
theorem lay_prs : ∀ ps : List (Int × Int), PyData.canLayAll0 (ps.map pairD) = true
  | [] => by simp only [List.map_nil, PyData.canLayAll0]
  | p :: r => by
    rw [List.map_cons, PyData.canLayAll0, lay_prs r]
    simp [pairD, PyData.canLay0, PyData.canLayAll0]
theorem depth_prs : ∀ ps : List (Int × Int), PyData.depthAll (ps.map pairD) ≤ 1
  | [] => by simp only [List.map_nil, PyData.depthAll]; omega
  | p :: r => by
    rw [List.map_cons, PyData.depthAll]  -- a pair, then the rest
    have := depth_prs r
    simp [pairD, PyData.depth, PyData.depthAll]
    omega
theorem shaped_prs (ps : List (Int × Int)) : SeqAt.shaped (PyData.list (ps.map pairD)) = true := by
  unfold SeqAt.shaped
  rw [PyData.canLay0, lay_prs, PyData.depth, Bool.true_and]
  exact decide_eq_true (by have := depth_prs ps; omega)
theorem eqv_prs (ps : List (Int × Int)) : PyData.eqv (PyData.list (ps.map pairD)) (PyData.list (ps.map pairD)) = true := SeqAt.eqv_refl _ (by rw [PyData.canLay0]; exact lay_prs ps)
theorem tabG_tabbed {Pt Pu : Addr} {H H2 : Hp} (g : GxR.TabG H Pu) (x : GxR.Tabbed Pt H H2) : GxR.TabG H2 Pu := by
  by_cases e : Pu = Pt
  · rw [e]; exact x.1
  · obtain ⟨ps, h, r⟩ := g
    exact ⟨ps, by rw [x.2 _ e]; exact h, r⟩

theorem Kp.free {H H' : Hp} {d c l : Addr} {t' : Int} (k : Kp d c H H') (S' : StAt H' d c t') (n : H' l = none) : H l = none := by
  cases e : H l with
  | none => rfl
  | some o =>
    obtain ⟨cs1, ec1, _⟩ := S'.cells
    have z := k l o (ne_of_none S'.dict n).symm (ne_of_none ec1 n).symm e
    rw [n] at z
    cases z
theorem StAt.off {H : Hp} {d c l : Addr} {t : Int} (S : StAt H d c t) (n : H l = none) : l ≠ d ∧ l ≠ c := by
  obtain ⟨cs1, ec1, _⟩ := S.cells
  exact ⟨(ne_of_none S.dict n).symm, (ne_of_none ec1 n).symm⟩
/-- no whole number among these: so it's not the draws' cells -/
def NoInt (xs : List V) : Prop := ∀ x ∈ xs, ∀ i, x ≠ .int i
theorem Kp.lst {H H' : Hp} {d c a : Addr} {t : Int} {xs : List V} (k : Kp d c H H') (S : StAt H d c t) (e : H a = some (.lst xs)) (h : NoInt xs) : H' a = some (.lst xs) := by
  obtain ⟨cs, ec, hne, _⟩ := S.cells
  refine k a _ (fun z => ?_) (fun z => ?_) e
  · rw [z, S.dict] at e
    cases e
  · rw [z, ec] at e
    have e' : cs.map V.int = xs := HO.lst.inj (Option.some.inj e)
    cases cs with
    | nil => exact hne rfl
    | cons n r => exact h (.int n) (e' ▸ List.mem_cons_self ..) n rfl
theorem Kp.tup {H H' : Hp} {d c a : Addr} {t : Int} {xs : List V} (k : Kp d c H H') (S : StAt H d c t) (e : H a = some (.tup xs)) : H' a = some (.tup xs) := k.at S e (fun _ z => nomatch z) (fun _ z => nomatch z)
theorem noInt_strs (xs : List Str) : NoInt (xs.map V.str) := fun x hx i e => by
  obtain ⟨y, _, rfl⟩ := List.mem_map.mp hx
  cases e
theorem noInt_prs {H : Hp} {us : List V} {ps : List (Int × Int)} (h : Prs H us ps) : NoInt us := fun x hx i e => by
  obtain ⟨j, hj, e1⟩ := List.getElem_of_mem hx
  obtain ⟨p, a, _, rfl, _⟩ := prs_at h (by rw [List.getElem?_eq_getElem hj, e1])
  cases e

abbrev sNumber : Stmt := topS 19
theorem scNumber : FnScope ["_law_state", "_law_sort", "_law_number_here", "_law_turn"] ["_law_state", "_law_sort"] (defScope sNumber) := ⟨rfl, rfl, rfl, by decide +kernel, rfl, by decide +kernel, by decide +kernel⟩
def spNumber : Sp := fun vs H Q _ => ∃ (d c : Addr) (t kd : Int), vs = [.ref d, .int kd] ∧ StAt H d c t ∧ t + 5 < 2 ^ 60 ∧ 0 ≤ kd ∧
  ∀ r t' H', 0 ≤ r → r < 10 ^ 30 → t ≤ t' → t' ≤ t + 5 → StAt H' d c t' → Kp d c H H' → Q (.int r) H'
section
variable {K : PySem.W.Frag} {mg : Str → Option Value} {P : Program} {w : World} {base : Heap}
theorem ok_number {f : Addr} {fd : FuncData} (F : Fun K "_law_number" "_law_number" sNumber f fd) (CT : Cal P w K mg base 1 "_law_take" ["_law_state", "_law_many"] spTake) (mr : mg "range" = none) :
    FnOk P w K mg base CX0 2 f fd ["_law_state", "_law_sort"] spNumber := by
  refine F.ok scNumber (fun vs H Q E h => ?_) (fun cdv A outer s H vs Q E hr h => ?_)
  · obtain ⟨d, c, t, kd, rfl, _⟩ := h
    rfl
  · obtain ⟨d, c, t, kd, rfl, hS, ht, hk, q⟩ := h
    refine ⟨_, pss_cons (ps_if (pt_cmpR op_lt (pv 1) pe_int (nomark _)) (pss_one (ps_ret (pe_own CT hr (by rfl) (pa_cons (pv 0) (pa_cons (pe_ix ix_list (pe_lst (pa_cons pe_int (pa_cons pe_int (pa_cons (pe_op op_pow pe_int pe_int) pa_nil)))) (pv 1) (fun _ _ => rfl)) pa_nil))))) pss_nil)
      (pss_cons (ps_set (i := 2) scNumber.nd rfl (.inl rfl) pe_int)
      (pss_cons (ps_for PassesOwn.never rfl (pi_range1 rfl mr (pa_cons pe_int pa_nil)) (pg_name (i := 3) scNumber.nd rfl (.inl rfl))
        (pss_one (ps_set (i := 2) scNumber.nd rfl (.inl rfl) (pe_op op_add (pe_op op_mul (pv 2) (pe_op op_pow pe_int pe_int)) (pe_own CT hr (by rfl) (pa_cons (pv 0) (pa_cons (pe_op op_pow pe_int pe_int) pa_nil)))))))
      (pss_one (ps_ret (pv 2))))), ?_⟩
    refine ⟨_, rfl, _, _, rfl, rfl, _, rfl, ite2 (fun e => ?_) (fun e => ?_)⟩
    · have e' := of_decide_eq_true e
      refine ⟨_, rfl, 10, 7, rfl, rfl, ⟨by decide, by decide, by decide⟩, (by show 3 ≤ sizeLine; decide), fun p np => ?_⟩
      have s1 : Same H (upd H p (.lst [.int 4, .int 40, .int (10 ^ (7 : Int).toNat)])) := same_upd np
      obtain ⟨m, ⟨hm0, hm1⟩, hat⟩ := pick3 (x := 4) (y := 40) (z := 10 ^ (7 : Int).toNat) (r := kd) (fun m => 0 < m ∧ m ≤ 10 ^ 7) hk e' (by decide) (by decide) (by decide)
      refine ⟨_, rfl, p, _, kd, .int m, rfl, rfl, SqL.of upd_same, hat, d, c, t, m, rfl, hS.same s1, by omega, hm0, by omega, fun r H' h0 h1 hS' k' => ?_⟩
      exact q r (t + 1) H' h0 (by omega) (by omega) (by omega) hS' ((Kp.same d c s1).trans k')
    · refine ⟨5, rfl, by decide, by decide, for_range (n := 5) (fun i σ H1 => ∃ (x t' : Int) (y : Option V), σ = [some (.ref d), some (.int kd), some (.int x), y] ∧ 0 ≤ x ∧ x < 10 ^ (6 * i) ∧ t ≤ t' ∧ t' ≤ t + i ∧ StAt H1 d c t' ∧ Kp d c H H1) ⟨0, t, none, rfl, by decide, by decide, by omega, by omega, hS, Kp.refl d c H⟩ (fun i σ H1 hi hP => ?_) (fun σ H1 hP => ?_)⟩
      · obtain ⟨x, t', y, rfl, x0, x1, h0, h1, hS1, k1⟩ := hP
        have x2 : x < 10 ^ 30 := by
          have : i = 0 ∨ i = 1 ∨ i = 2 ∨ i = 3 ∨ i = 4 := by omega
          rcases this with rfl | rfl | rfl | rfl | rfl <;> omega
        refine ⟨_, rfl, 10, 6, rfl, rfl, ⟨by decide, by decide, by decide⟩, x, 10 ^ 6, rfl, rfl, .inr ⟨by decide, by decide⟩, _, rfl, 10, 6, rfl, rfl, ⟨by decide, by decide, by decide⟩, d, c, t', 10 ^ 6, rfl, hS1, by omega, by decide, by decide, fun r H2 r0 r1 hS2 k2 => ?_⟩
        refine ⟨x * 10 ^ 6, r, rfl, rfl, x * 10 ^ 6 + r, t' + 1, _, rfl, by omega, ?_, by omega, by omega, hS2, k1.trans k2⟩
        have : i = 0 ∨ i = 1 ∨ i = 2 ∨ i = 3 ∨ i = 4 := by omega
        rcases this with rfl | rfl | rfl | rfl | rfl <;> omega
      · obtain ⟨x, t', y, rfl, x0, x1, h0, h1, hS1, k1⟩ := hP
        exact ⟨_, rfl, q x t' H1 x0 (by omega) h0 (by omega) hS1 k1⟩
end

/-- a text of one sign -/
def sgS (c : Nat) : Str := ⟨#[c]⟩
def sgn (c : Nat) : V := .str (sgS c)
def spNames : Sp := fun vs H Q _ => ∃ (d c : Addr) (t m : Int), vs = [.ref d, .int m] ∧ StAt H d c t ∧ t + 100 < 2 ^ 60 ∧ 0 ≤ m ∧ m ≤ 20 ∧
  ∀ (l : Addr) (xs : List Str) (t' : Int) H', H l = none → H' l = some (.lst (xs.map V.str)) → (∀ x ∈ xs, PyData.strOk x = true) → (xs.length : Int) = m → xs.Nodup → t ≤ t' → t' ≤ t + 20 → StAt H' d c t' → Kp d c H H' → Q (.ref l) H'
theorem join_small {cs : List Nat} (h : cs.length ≤ 10) : ((cs.map sgS).map (·.length)).sum + (cs.map sgS).length * ("" : Str).length ≤ 16777216 := by
  have e : ((cs.map sgS).map (·.length)).sum = cs.length := by
    induction cs with
    | nil => rfl
    | cons c r ih =>
      rw [List.map_cons, List.map_cons, List.sum_cons, ih (by rw [List.length_cons] at h; omega), List.length_cons]
      show 1 + r.length = r.length + 1
      omega
  rw [e, show ("" : Str).length = 0 from rfl, Nat.mul_zero]
  omega
theorem joinL_ones : ∀ cs : List Nat, TL.joinL [] (cs.map fun c => [c]) = cs
  | [] => rfl
  | [_] => rfl
  | c :: c2 :: r => by
    have ih := joinL_ones (c2 :: r)
    show [c] ++ ([] ++ TL.joinL [] ((c2 :: r).map fun c => [c])) = _
    rw [ih]
    rfl
theorem join_ok {cs : List Nat} (h : ∀ c ∈ cs, c < 1114112) : PyData.strOk (Txt.join "" (cs.map sgS)) = true := by
  have e : Txt.join "" (cs.map sgS) = SX.S cs := by
    have z := SX.join_S [] (cs.map fun c => [c])
    rw [joinL_ones, List.map_map] at z
    exact z
  rw [e]
  show (Array.all _ _) = true
  rw [Array.all_eq_true']
  intro c hc
  exact decide_eq_true (h c (by simpa using hc))
/-- words that are unlike at one sign -/
def Spelt (abc : Str) (N fi sv : Int) (js : Nat) (xs : List Str) : Prop := ∀ (k : Nat) x, xs[k]? = some x → ∃ (cs : List Nat) (ch : Nat), x = SX.S cs ∧ cs[js]? = some ch ∧ atI abc.cps.toList ((fi + sv * (k : Int)) % N) = some ch
theorem join_eq (cs : List Nat) : Txt.join "" (cs.map sgS) = SX.S cs := by
  have z := SX.join_S [] (cs.map fun c => [c])
  rw [joinL_ones, List.map_map] at z
  exact z
theorem Spelt.snoc {abc : Str} {N fi sv : Int} {js i : Nat} {xs : List Str} {cs : List Nat} {ch : Nat} (h : Spelt abc N fi sv js xs) (hl : xs.length = i) (e1 : cs[js]? = some ch) (e2 : atI abc.cps.toList ((fi + sv * (i : Int)) % N) = some ch) : Spelt abc N fi sv js (xs ++ [Txt.join "" (cs.map sgS)]) := fun k x e => by
  by_cases hk : k < xs.length
  · rw [List.getElem?_append_left hk] at e
    exact h k x e
  · rw [List.getElem?_append_right (by omega)] at e
    have hz : k - xs.length = 0 := by
      cases hq : k - xs.length with
      | zero => rfl
      | succ n => rw [hq] at e; cases e
    rw [hz] at e
    cases e
    have hki : k = i := by omega
    subst hki
    exact ⟨cs, ch, join_eq cs, e1, e2⟩
theorem Spelt.nodup {abc : Str} {N fi sv : Int} {js : Nat} {xs : List Str} (h : Spelt abc N fi sv js xs) (hN : 0 < N) (hl : (abc.cps.toList.length : Int) = N) (hn : abc.cps.toList.Nodup) (far : ∀ k k' : Nat, k < xs.length → k' < xs.length → (fi + sv * (k : Int)) % N = (fi + sv * (k' : Int)) % N → k = k') : xs.Nodup := by
  refine List.pairwise_iff_getElem.mpr fun i j hi hj hij ex => ?_
  obtain ⟨cs1, c1, e1, f1, g1⟩ := h i xs[i] (List.getElem?_eq_getElem hi)
  obtain ⟨cs2, c2, e2, f2, g2⟩ := h j xs[j] (List.getElem?_eq_getElem hj)
  rw [e1, e2] at ex
  have ec : cs1 = cs2 := SX.S_inj ex
  rw [ec, f2] at f1
  have ecc : c2 = c1 := Option.some.inj f1
  rw [← ecc] at g1
  obtain ⟨a, ha⟩ := Int.eq_ofNat_of_zero_le (Int.emod_nonneg (fi + sv * (i : Int)) (show N ≠ 0 by omega))
  obtain ⟨b, hb⟩ := Int.eq_ofNat_of_zero_le (Int.emod_nonneg (fi + sv * (j : Int)) (show N ≠ 0 by omega))
  have la := Int.emod_lt_of_pos (fi + sv * (i : Int)) hN
  have lb := Int.emod_lt_of_pos (fi + sv * (j : Int)) hN
  rw [ha] at g1 la
  rw [hb] at g2 lb
  have a1 : a < abc.cps.toList.length := by omega
  have b1 : b < abc.cps.toList.length := by omega
  have g1' : abc.cps.toList[a]? = some c2 := by
    have z := atI_nat (List.getElem?_eq_getElem a1)
    rw [z] at g1
    rw [List.getElem?_eq_getElem a1]
    exact g1
  have g2' : abc.cps.toList[b]? = some c2 := by
    have z := atI_nat (List.getElem?_eq_getElem b1)
    rw [z] at g2
    rw [List.getElem?_eq_getElem b1]
    exact g2
  have eab : a = b := (List.getElem?_inj a1 hn).mp (g1'.trans g2'.symm)
  have := far i j (by omega) hj (by rw [ha, hb, eab])
  omega
/-! ### _law_names -/
abbrev sNames : Stmt := topS 20
theorem scNames : FnScope ["_law_state", "_law_many", "_law_letters", "_law_k", "_law_word", "_law_spot", "_law_first", "_law_step", "_law_made"] ["_law_state", "_law_many"] (defScope sNames) := ⟨rfl, rfl, rfl, by decide +kernel, rfl, by decide +kernel, by decide +kernel⟩
abbrev letNames : Str := "abcdefghijklmnopqrstuvwxyz"
theorem atNames {r : Int} (h0 : 0 ≤ r) (h1 : r < 26) : ∃ ch : Nat, atI letNames.cps.toList r = some ch ∧ ch < 1114112 := by
  obtain ⟨j, rfl⟩ := Int.eq_ofNat_of_zero_le h0
  have hl : letNames.cps.toList.length = 26 := by decide +kernel
  have hj : j < letNames.cps.toList.length := by omega
  have hall : ∀ c ∈ letNames.cps.toList, c < 1114112 := by decide +kernel
  exact ⟨_, atI_nat (List.getElem?_eq_getElem hj), hall _ (List.getElem_mem hj)⟩
section
variable {K : PySem.W.Frag} {mg : Str → Option Value} {P : Program} {w : World} {base : Heap}
theorem ok_Names {f : Addr} {fd : FuncData} (F : Fun K "_law_names" "_law_names" sNames f fd) (CT : Cal P w K mg base 1 "_law_take" ["_law_state", "_law_many"] spTake) (mr : mg "range" = none) (me : mg "len" = none) : FnOk P w K mg base CX0 2 f fd ["_law_state", "_law_many"] spNames := by
  refine F.ok scNames (fun vs H Q E h => ?_) (fun cdv A outer s H vs Q E hr h => ?_)
  · obtain ⟨d, c, t, m, rfl, _⟩ := h
    rfl
  · obtain ⟨d, c, t, m, rfl, hS, ht, hm0, hm1, q⟩ := h
    refine ⟨_, pss_cons (ps_set (i := 2) scNames.nd rfl (.inr rfl) pe_str)
      (pss_cons (ps_setLc (i := 4) (own := [("_law_k", 3)]) (g := gName 3) (tt := tYes) (te := tOp L2.rIxS (tVar 2) (tCall spTake [] E0 (tCons (tVar 0) (tCons (tC (.int 26)) tNil)))) rfl scNames.nd rfl rfl rfl (pi_range1 rfl mr (pa_cons (pe_op op_add pe_int (pe_own CT hr (by rfl) (pa_cons (pv 0) (pa_cons pe_int pa_nil)))) pa_nil))
            (blkOk_by (own := [("_law_k", 3)]) (N := ["_law_state", "_law_many", "_law_letters", "_law_k", "_law_word", "_law_spot", "_law_first", "_law_step", "_law_made"]) (sc := defScope sNames) (by decide +kernel)) (fun _ _ _ _ _ => pg_name (i := 3) scNames.nd rfl (.inl rfl)) (fun _ _ _ _ _ => pts_nil) (fun _ _ _ _ _ => pe_ix ix_str (pv 2) (pe_own CT hr (by rfl) (pa_cons (pv 0) (pa_cons pe_int pa_nil))) (fun _ _ => rfl)))
      (pss_cons (ps_par3 rfl scNames.nd (i := 5) (j := 6) (l := 7) rfl rfl rfl (by decide) (by decide) (by decide) rfl rfl rfl (pa_cons (pe_own CT hr (by rfl) (pa_cons (pv 0) (pa_cons (pe_callB call_len_seq (by rfl) me PySem.boot_len (pa_cons (pv 4) pa_nil)) pa_nil))) (pa_cons (pe_own CT hr (by rfl) (pa_cons (pv 0) (pa_cons pe_int pa_nil))) (pa_cons (pe_ix ix_list (pe_lst (pa_cons pe_int (pa_cons pe_int (pa_cons pe_int (pa_cons pe_int pa_nil))))) (pe_own CT hr (by rfl) (pa_cons (pv 0) (pa_cons pe_int pa_nil))) (fun _ _ => rfl)) pa_nil))) (by rfl))
      (pss_cons (ps_set (i := 8) scNames.nd rfl (.inl rfl) (pe_lst pa_nil))
      (pss_cons (ps_for PassesOwn.never rfl (pi_range1 rfl mr (pa_cons (pv 1) pa_nil)) (pg_name (i := 3) scNames.nd rfl (.inl rfl))
        (pss_cons (ps_asg (pe_ix ix_str (pv 2) (pe_op op_mod (pe_op op_add (pv 6) (pe_op op_mul (pv 7) (pv 3))) pe_int) (fun _ _ => rfl)) (pg_sub (pv 4) (pv 5) set_list))
        (pss_one (ps_expr (pe_bm PySem.F.plainAttrs_list PySem.F.slot_list_append PySem.F.type_list_append mt_append (pv 8) (pa_cons (pe_join pe_str (pv 4)) pa_nil))))))
      (pss_one (ps_ret (pv 8))))))), ?_⟩
    refine ⟨_, rfl, d, c, t, 8, rfl, hS, by omega, by decide, by decide, fun r H1 r0 r1 hS1 k1 => ⟨1, r, rfl, rfl, 1 + r, rfl, by omega, by omega, fun D nD => ?_⟩⟩
    have offD := hS1.off nD
    refine lc_range (n := (1 + r).toNat) (fun j H' => ∃ (t' : Int) (cs : List Nat), H' D = some (.lst (cs.map sgn)) ∧ cs.length = j ∧ (∀ ch ∈ cs, ch < 1114112) ∧ t ≤ t' ∧ t' ≤ t + 1 + j ∧ StAt H' d c t' ∧ Kp d c H1 H') ⟨t + 1, [], upd_same, rfl, (fun _ z => nomatch z), by omega, by omega, hS1.same (same_upd nD), Kp.same d c (same_upd nD)⟩ (fun j H' hj hP => ?_) (fun H2 hP => ?_)
    · obtain ⟨t', cs, eD, hcl, hcs, u0, u1, hS', k'⟩ := hP
      have hj2 : j ≤ 10 := by omega
      refine ⟨rfl, _, rfl, _, rfl, d, c, t', 26, rfl, hS', by omega, by decide, by decide, fun r2 H3 r20 r21 hS3 k3 => ?_⟩
      obtain ⟨ch, hat, hch⟩ := atNames r20 r21
      have eD3 := k3 _ _ offD.1 offD.2 eD
      refine ⟨_, r2, ch, rfl, rfl, (by show letNames.length ≤ sizeLine; decide +kernel), hat, ?_⟩
      refine ⟨_, eD3, small1000 (by rw [List.length_map]; omega), t' + 1, cs ++ [ch], by rw [upd_same, List.map_append]; rfl, by rw [List.length_append, hcl]; rfl, fun x hx => ?_, by omega, by omega, hS3.upd offD.1 offD.2, fun b o b1 b2 e => ?_⟩
      · rcases List.mem_append.mp hx with z | z
        · exact hcs x z
        · rw [List.mem_singleton.mp z]; exact hch
      · rw [upd_ne (ne_of_none e nD)]
        exact k3 b o b1 b2 (k' b o b1 b2 e)
    obtain ⟨t', cs, eD, hcl, hcs, u0, u1, hS2, k2⟩ := hP
    have hcl1 : 1 ≤ cs.length := by omega
    have hcl2 : cs.length ≤ 10 := by omega
    have lenm : (cs.map sgn).length = cs.length := List.length_map ..
    -- spot, first, step
    refine ⟨_, rfl, _, rfl, D, _, rfl, Sq.list eD, d, c, t', (cs.length : Int), by rw [lenm]; rfl, hS2, by omega, by omega, by omega, fun sp H3 sp0 sp1 hS3 k3 => ?_⟩
    refine ⟨_, rfl, d, c, t' + 1, 26, rfl, hS3, by omega, by decide, by decide, fun fi H4 fi0 fi1 hS4 k4 => ?_⟩
    refine ⟨(by show 4 ≤ sizeLine; decide), fun z nz => ?_⟩
    have sz := same_upd (o := .lst [.int 1, .int 5, .int 7, .int 25]) nz
    have offz := hS4.off nz
    refine ⟨_, rfl, d, c, t' + 1 + 1, 4, rfl, hS4.same sz, by omega, by decide, by decide, fun r4 H5 r40 r41 hS5 k5 => ?_⟩
    obtain ⟨sv, hsv, hsv0, hsv1, hat4⟩ : ∃ sv : Int, (sv = 1 ∨ sv = 5 ∨ sv = 7 ∨ sv = 25) ∧ 0 ≤ sv ∧ sv ≤ 36 ∧ atI [V.int 1, V.int 5, V.int 7, V.int 25] r4 = some (.int sv) := by
      have : r4 = 0 ∨ r4 = 1 ∨ r4 = 2 ∨ r4 = 3 := by omega
      rcases this with rfl | rfl | rfl | rfl
      · exact ⟨1, .inl rfl, by decide, by decide, rfl⟩
      · exact ⟨5, .inr (.inl rfl), by decide, by decide, rfl⟩
      · exact ⟨7, .inr (.inr (.inl rfl)), by decide, by decide, rfl⟩
      · exact ⟨25, .inr (.inr (.inr rfl)), by decide, by decide, rfl⟩
    refine ⟨z, _, r4, .int sv, rfl, rfl, SqL.of (k5 _ _ offz.1 offz.2 upd_same), hat4, _, _, _, rfl, ?_⟩
    obtain ⟨js, rfl⟩ := Int.eq_ofNat_of_zero_le sp0
    have k25 : Kp d c H2 H5 := (k3.trans k4).trans ((Kp.same d c sz).trans k5)
    have eD5 := k25 _ _ offD.1 offD.2 eD
    -- made
    refine ⟨Nat.zero_le _, fun l nl => ?_⟩
    have sl := same_upd (o := .lst []) nl
    have offl := hS5.off nl
    have nlD : D ≠ l := ne_of_none eD5 nl
    have kall : Kp d c H H5 := (k1.trans k2).trans k25
    have nlH : H l = none := Kp.free kall hS5 nl
    have nDH : H D = none := Kp.free k1 hS1 nD
    refine ⟨_, rfl, m, rfl, by omega, by omega, for_range (n := m.toNat) (fun i σ Hx => ∃ (cs : List Nat) (xs : List Str) (y3 : Option V), σ = [some (.ref d), some (.int m), some (.str letNames), y3, some (.ref D), some (.int (js : Int)), some (.int fi), some (.int sv), some (.ref l)] ∧ Hx D = some (.lst (cs.map sgn)) ∧ 1 ≤ cs.length ∧ cs.length ≤ 10 ∧ js < cs.length ∧ (∀ ch ∈ cs, ch < 1114112) ∧ Hx l = some (.lst (xs.map V.str)) ∧ xs.length = i ∧ (∀ x ∈ xs, PyData.strOk x = true) ∧ Spelt letNames 26 fi sv js xs ∧ StAt Hx d c (t' + 1 + 1 + 1) ∧ Kp d c H Hx)
      ⟨cs, [], _, rfl, sl _ _ eD5, hcl1, hcl2, by omega, hcs, upd_same, rfl, (fun _ z => nomatch z), (fun _ _ e => nomatch e), hS5.same sl, kall.trans (Kp.same d c sl)⟩ (fun i σ Hx hi hP => ?_) (fun σ Hx hP => ?_)⟩
    · obtain ⟨cs, xs, y3, rfl, eDx, g1, g2, g3, hcs, elx, hxl, hxs, hsp, hSx, kx⟩ := hP
      have hi2 : (i : Int) < 40 := by omega
      have hmod0 : 0 ≤ (fi + sv * (0 + (i : Int))) % 26 := Int.emod_nonneg _ (by decide)
      have hmod1 : (fi + sv * (0 + (i : Int))) % 26 < 26 := Int.emod_lt_of_pos _ (by decide)
      obtain ⟨ch, hat, hch⟩ := atNames hmod0 hmod1
      refine ⟨_, rfl, _, rfl, _, rfl, _, rfl, sv, 0 + (i : Int), rfl, rfl, .inl ⟨by omega, by omega⟩, fi, _, rfl, rfl, _, 26, rfl, rfl, (show (0 : Int) < 26 by decide), _, _, ch, rfl, rfl, (by show letNames.length ≤ sizeLine; decide +kernel), hat, ?_⟩
      refine ⟨_, rfl, _, rfl, D, _, (js : Int), js, rfl, rfl, eDx, ixN_of (by rw [List.length_map]; exact g3), ?_⟩
      have es : (cs.map sgn).set js (.str ⟨#[ch]⟩) = (cs.set js ch).map sgn := by rw [List.map_set]; rfl
      rw [es]
      have hcs' : ∀ x ∈ cs.set js ch, x < 1114112 := fun x hx => by
        rcases List.mem_or_eq_of_mem_set hx with z | z
        · exact hcs x z
        · rw [z]; exact hch
      have hlen' : (cs.set js ch).length = cs.length := List.length_set ..
      have hjs : (cs.set js ch)[js]? = some ch := by rw [List.getElem?_set_self g3]
      have eD6 : upd Hx D (.lst ((cs.set js ch).map sgn)) D = some (.lst ((cs.set js ch).map sgn)) := upd_same
      have el6 : upd Hx D (.lst ((cs.set js ch).map sgn)) l = some (.lst (xs.map V.str)) := by rw [upd_ne nlD.symm]; exact elx
      have hS6 := hSx.upd (o := .lst ((cs.set js ch).map sgn)) offD.1 offD.2
      have k6 : Kp d c H (upd Hx D (.lst ((cs.set js ch).map sgn))) := fun b o b1 b2 e => by rw [upd_ne (ne_of_none e nDH)]; exact kx b o b1 b2 e
      revert eD6 el6 hS6 k6
      rw [← hlen'] at g1 g2 g3
      generalize upd Hx D (.lst ((cs.set js ch).map sgn)) = H6
      generalize cs.set js ch = cs2 at g1 g2 g3 hcs' hjs ⊢
      intro eD6 el6 hS6 k6
      refine ⟨_, rfl, .inl ⟨rfl, _, SqL.of el6⟩, ⟨_, rfl⟩, _, rfl, _, D, cs2.map sgS, rfl, rfl, .inl (SqL.of (by rw [eD6, List.map_map]; rfl)), join_small g2, ?_⟩
      refine ⟨l, _, _, rfl, rfl, el6, small1000 (by rw [List.length_map]; omega), cs2, xs ++ [Txt.join "" (cs2.map sgS)], _, rfl, by rw [upd_ne nlD]; exact eD6, g1, g2, g3, hcs', by rw [upd_same, List.map_append]; rfl, by rw [List.length_append, hxl]; rfl, fun x hx => ?_, hsp.snoc hxl hjs (by rw [Int.zero_add] at hat; exact hat), hS6.upd offl.1 offl.2, fun b o b1 b2 e => ?_⟩
      · rcases List.mem_append.mp hx with z | z
        · exact hxs x z
        · rw [List.mem_singleton.mp z]; exact join_ok hcs'
      · rw [upd_ne (ne_of_none e nlH)]
        exact k6 b o b1 b2 e
    · obtain ⟨cs, xs, y3, rfl, eDx, g1, g2, g3, hcs, elx, hxl, hxs, hsp, hSx, kx⟩ := hP
      exact ⟨_, rfl, q l xs _ Hx nlH elx hxs (by omega) (hsp.nodup (by decide) (by decide +kernel) (by decide +kernel) fun k k' hk hk' e => by rcases hsv with rfl | rfl | rfl | rfl <;> omega) (by omega) (by omega) hSx kx⟩
end
/-! ### _law_marks_by -/
abbrev sMarks : Stmt := topS 21
theorem scMarks : FnScope ["_law_state", "_law_many", "_law_signs", "_law_k", "_law_word", "_law_spot", "_law_first", "_law_step", "_law_made"] ["_law_state", "_law_many"] (defScope sMarks) := ⟨rfl, rfl, rfl, by decide +kernel, rfl, by decide +kernel, by decide +kernel⟩
abbrev letMarks : Str := "abcdefghijklmnopqrstuvwxyz0123456789"
theorem atMarks {r : Int} (h0 : 0 ≤ r) (h1 : r < 36) : ∃ ch : Nat, atI letMarks.cps.toList r = some ch ∧ ch < 1114112 := by
  obtain ⟨j, rfl⟩ := Int.eq_ofNat_of_zero_le h0
  have hl : letMarks.cps.toList.length = 36 := by decide +kernel
  have hj : j < letMarks.cps.toList.length := by omega
  have hall : ∀ c ∈ letMarks.cps.toList, c < 1114112 := by decide +kernel
  exact ⟨_, atI_nat (List.getElem?_eq_getElem hj), hall _ (List.getElem_mem hj)⟩
section
variable {K : PySem.W.Frag} {mg : Str → Option Value} {P : Program} {w : World} {base : Heap}
theorem ok_Marks {f : Addr} {fd : FuncData} (F : Fun K "_law_marks_by" "_law_marks_by" sMarks f fd) (CT : Cal P w K mg base 1 "_law_take" ["_law_state", "_law_many"] spTake) (mr : mg "range" = none) (me : mg "len" = none) : FnOk P w K mg base CX0 2 f fd ["_law_state", "_law_many"] spNames := by
  refine F.ok scMarks (fun vs H Q E h => ?_) (fun cdv A outer s H vs Q E hr h => ?_)
  · obtain ⟨d, c, t, m, rfl, _⟩ := h
    rfl
  · obtain ⟨d, c, t, m, rfl, hS, ht, hm0, hm1, q⟩ := h
    refine ⟨_, pss_cons (ps_set (i := 2) scMarks.nd rfl (.inr rfl) pe_str)
      (pss_cons (ps_setLc (i := 4) (own := [("_law_k", 3)]) (g := gName 3) (tt := tYes) (te := tOp L2.rIxS (tVar 2) (tCall spTake [] E0 (tCons (tVar 0) (tCons (tC (.int 36)) tNil)))) rfl scMarks.nd rfl rfl rfl (pi_range1 rfl mr (pa_cons (pe_op op_add pe_int (pe_own CT hr (by rfl) (pa_cons (pv 0) (pa_cons pe_int pa_nil)))) pa_nil))
            (blkOk_by (own := [("_law_k", 3)]) (N := ["_law_state", "_law_many", "_law_signs", "_law_k", "_law_word", "_law_spot", "_law_first", "_law_step", "_law_made"]) (sc := defScope sMarks) (by decide +kernel)) (fun _ _ _ _ _ => pg_name (i := 3) scMarks.nd rfl (.inl rfl)) (fun _ _ _ _ _ => pts_nil) (fun _ _ _ _ _ => pe_ix ix_str (pv 2) (pe_own CT hr (by rfl) (pa_cons (pv 0) (pa_cons pe_int pa_nil))) (fun _ _ => rfl)))
      (pss_cons (ps_par3 rfl scMarks.nd (i := 5) (j := 6) (l := 7) rfl rfl rfl (by decide) (by decide) (by decide) rfl rfl rfl (pa_cons (pe_own CT hr (by rfl) (pa_cons (pv 0) (pa_cons (pe_callB call_len_seq (by rfl) me PySem.boot_len (pa_cons (pv 4) pa_nil)) pa_nil))) (pa_cons (pe_own CT hr (by rfl) (pa_cons (pv 0) (pa_cons pe_int pa_nil))) (pa_cons (pe_ix ix_list (pe_lst (pa_cons pe_int (pa_cons pe_int (pa_cons pe_int (pa_cons pe_int pa_nil))))) (pe_own CT hr (by rfl) (pa_cons (pv 0) (pa_cons pe_int pa_nil))) (fun _ _ => rfl)) pa_nil))) (by rfl))
      (pss_cons (ps_set (i := 8) scMarks.nd rfl (.inl rfl) (pe_lst pa_nil))
      (pss_cons (ps_for PassesOwn.never rfl (pi_range1 rfl mr (pa_cons (pv 1) pa_nil)) (pg_name (i := 3) scMarks.nd rfl (.inl rfl))
        (pss_cons (ps_asg (pe_ix ix_str (pv 2) (pe_op op_mod (pe_op op_add (pv 6) (pe_op op_mul (pv 7) (pv 3))) pe_int) (fun _ _ => rfl)) (pg_sub (pv 4) (pv 5) set_list))
        (pss_one (ps_expr (pe_bm PySem.F.plainAttrs_list PySem.F.slot_list_append PySem.F.type_list_append mt_append (pv 8) (pa_cons (pe_join pe_str (pv 4)) pa_nil))))))
      (pss_one (ps_ret (pv 8))))))), ?_⟩
    refine ⟨_, rfl, d, c, t, 7, rfl, hS, by omega, by decide, by decide, fun r H1 r0 r1 hS1 k1 => ⟨4, r, rfl, rfl, 4 + r, rfl, by omega, by omega, fun D nD => ?_⟩⟩
    have offD := hS1.off nD
    refine lc_range (n := (4 + r).toNat) (fun j H' => ∃ (t' : Int) (cs : List Nat), H' D = some (.lst (cs.map sgn)) ∧ cs.length = j ∧ (∀ ch ∈ cs, ch < 1114112) ∧ t ≤ t' ∧ t' ≤ t + 1 + j ∧ StAt H' d c t' ∧ Kp d c H1 H') ⟨t + 1, [], upd_same, rfl, (fun _ z => nomatch z), by omega, by omega, hS1.same (same_upd nD), Kp.same d c (same_upd nD)⟩ (fun j H' hj hP => ?_) (fun H2 hP => ?_)
    · obtain ⟨t', cs, eD, hcl, hcs, u0, u1, hS', k'⟩ := hP
      have hj2 : j ≤ 10 := by omega
      refine ⟨rfl, _, rfl, _, rfl, d, c, t', 36, rfl, hS', by omega, by decide, by decide, fun r2 H3 r20 r21 hS3 k3 => ?_⟩
      obtain ⟨ch, hat, hch⟩ := atMarks r20 r21
      have eD3 := k3 _ _ offD.1 offD.2 eD
      refine ⟨_, r2, ch, rfl, rfl, (by show letMarks.length ≤ sizeLine; decide +kernel), hat, ?_⟩
      refine ⟨_, eD3, small1000 (by rw [List.length_map]; omega), t' + 1, cs ++ [ch], by rw [upd_same, List.map_append]; rfl, by rw [List.length_append, hcl]; rfl, fun x hx => ?_, by omega, by omega, hS3.upd offD.1 offD.2, fun b o b1 b2 e => ?_⟩
      · rcases List.mem_append.mp hx with z | z
        · exact hcs x z
        · rw [List.mem_singleton.mp z]; exact hch
      · rw [upd_ne (ne_of_none e nD)]
        exact k3 b o b1 b2 (k' b o b1 b2 e)
    obtain ⟨t', cs, eD, hcl, hcs, u0, u1, hS2, k2⟩ := hP
    have hcl1 : 1 ≤ cs.length := by omega
    have hcl2 : cs.length ≤ 10 := by omega
    have lenm : (cs.map sgn).length = cs.length := List.length_map ..
    -- spot, first, step
    refine ⟨_, rfl, _, rfl, D, _, rfl, Sq.list eD, d, c, t', (cs.length : Int), by rw [lenm]; rfl, hS2, by omega, by omega, by omega, fun sp H3 sp0 sp1 hS3 k3 => ?_⟩
    refine ⟨_, rfl, d, c, t' + 1, 36, rfl, hS3, by omega, by decide, by decide, fun fi H4 fi0 fi1 hS4 k4 => ?_⟩
    refine ⟨(by show 4 ≤ sizeLine; decide), fun z nz => ?_⟩
    have sz := same_upd (o := .lst [.int 1, .int 5, .int 7, .int 35]) nz
    have offz := hS4.off nz
    refine ⟨_, rfl, d, c, t' + 1 + 1, 4, rfl, hS4.same sz, by omega, by decide, by decide, fun r4 H5 r40 r41 hS5 k5 => ?_⟩
    obtain ⟨sv, hsv, hsv0, hsv1, hat4⟩ : ∃ sv : Int, (sv = 1 ∨ sv = 5 ∨ sv = 7 ∨ sv = 35) ∧ 0 ≤ sv ∧ sv ≤ 36 ∧ atI [V.int 1, V.int 5, V.int 7, V.int 35] r4 = some (.int sv) := by
      have : r4 = 0 ∨ r4 = 1 ∨ r4 = 2 ∨ r4 = 3 := by omega
      rcases this with rfl | rfl | rfl | rfl
      · exact ⟨1, .inl rfl, by decide, by decide, rfl⟩
      · exact ⟨5, .inr (.inl rfl), by decide, by decide, rfl⟩
      · exact ⟨7, .inr (.inr (.inl rfl)), by decide, by decide, rfl⟩
      · exact ⟨35, .inr (.inr (.inr rfl)), by decide, by decide, rfl⟩
    refine ⟨z, _, r4, .int sv, rfl, rfl, SqL.of (k5 _ _ offz.1 offz.2 upd_same), hat4, _, _, _, rfl, ?_⟩
    obtain ⟨js, rfl⟩ := Int.eq_ofNat_of_zero_le sp0
    have k25 : Kp d c H2 H5 := (k3.trans k4).trans ((Kp.same d c sz).trans k5)
    have eD5 := k25 _ _ offD.1 offD.2 eD
    -- made
    refine ⟨Nat.zero_le _, fun l nl => ?_⟩
    have sl := same_upd (o := .lst []) nl
    have offl := hS5.off nl
    have nlD : D ≠ l := ne_of_none eD5 nl
    have kall : Kp d c H H5 := (k1.trans k2).trans k25
    have nlH : H l = none := Kp.free kall hS5 nl
    have nDH : H D = none := Kp.free k1 hS1 nD
    refine ⟨_, rfl, m, rfl, by omega, by omega, for_range (n := m.toNat) (fun i σ Hx => ∃ (cs : List Nat) (xs : List Str) (y3 : Option V), σ = [some (.ref d), some (.int m), some (.str letMarks), y3, some (.ref D), some (.int (js : Int)), some (.int fi), some (.int sv), some (.ref l)] ∧ Hx D = some (.lst (cs.map sgn)) ∧ 1 ≤ cs.length ∧ cs.length ≤ 10 ∧ js < cs.length ∧ (∀ ch ∈ cs, ch < 1114112) ∧ Hx l = some (.lst (xs.map V.str)) ∧ xs.length = i ∧ (∀ x ∈ xs, PyData.strOk x = true) ∧ Spelt letMarks 36 fi sv js xs ∧ StAt Hx d c (t' + 1 + 1 + 1) ∧ Kp d c H Hx)
      ⟨cs, [], _, rfl, sl _ _ eD5, hcl1, hcl2, by omega, hcs, upd_same, rfl, (fun _ z => nomatch z), (fun _ _ e => nomatch e), hS5.same sl, kall.trans (Kp.same d c sl)⟩ (fun i σ Hx hi hP => ?_) (fun σ Hx hP => ?_)⟩
    · obtain ⟨cs, xs, y3, rfl, eDx, g1, g2, g3, hcs, elx, hxl, hxs, hsp, hSx, kx⟩ := hP
      have hi2 : (i : Int) < 40 := by omega
      have hmod0 : 0 ≤ (fi + sv * (0 + (i : Int))) % 36 := Int.emod_nonneg _ (by decide)
      have hmod1 : (fi + sv * (0 + (i : Int))) % 36 < 36 := Int.emod_lt_of_pos _ (by decide)
      obtain ⟨ch, hat, hch⟩ := atMarks hmod0 hmod1
      refine ⟨_, rfl, _, rfl, _, rfl, _, rfl, sv, 0 + (i : Int), rfl, rfl, .inl ⟨by omega, by omega⟩, fi, _, rfl, rfl, _, 36, rfl, rfl, (show (0 : Int) < 36 by decide), _, _, ch, rfl, rfl, (by show letMarks.length ≤ sizeLine; decide +kernel), hat, ?_⟩
      refine ⟨_, rfl, _, rfl, D, _, (js : Int), js, rfl, rfl, eDx, ixN_of (by rw [List.length_map]; exact g3), ?_⟩
      have es : (cs.map sgn).set js (.str ⟨#[ch]⟩) = (cs.set js ch).map sgn := by rw [List.map_set]; rfl
      rw [es]
      have hcs' : ∀ x ∈ cs.set js ch, x < 1114112 := fun x hx => by
        rcases List.mem_or_eq_of_mem_set hx with z | z
        · exact hcs x z
        · rw [z]; exact hch
      have hlen' : (cs.set js ch).length = cs.length := List.length_set ..
      have hjs : (cs.set js ch)[js]? = some ch := by rw [List.getElem?_set_self g3]
      have eD6 : upd Hx D (.lst ((cs.set js ch).map sgn)) D = some (.lst ((cs.set js ch).map sgn)) := upd_same
      have el6 : upd Hx D (.lst ((cs.set js ch).map sgn)) l = some (.lst (xs.map V.str)) := by rw [upd_ne nlD.symm]; exact elx
      have hS6 := hSx.upd (o := .lst ((cs.set js ch).map sgn)) offD.1 offD.2
      have k6 : Kp d c H (upd Hx D (.lst ((cs.set js ch).map sgn))) := fun b o b1 b2 e => by rw [upd_ne (ne_of_none e nDH)]; exact kx b o b1 b2 e
      revert eD6 el6 hS6 k6
      rw [← hlen'] at g1 g2 g3
      generalize upd Hx D (.lst ((cs.set js ch).map sgn)) = H6
      generalize cs.set js ch = cs2 at g1 g2 g3 hcs' hjs ⊢
      intro eD6 el6 hS6 k6
      refine ⟨_, rfl, .inl ⟨rfl, _, SqL.of el6⟩, ⟨_, rfl⟩, _, rfl, _, D, cs2.map sgS, rfl, rfl, .inl (SqL.of (by rw [eD6, List.map_map]; rfl)), join_small g2, ?_⟩
      refine ⟨l, _, _, rfl, rfl, el6, small1000 (by rw [List.length_map]; omega), cs2, xs ++ [Txt.join "" (cs2.map sgS)], _, rfl, by rw [upd_ne nlD]; exact eD6, g1, g2, g3, hcs', by rw [upd_same, List.map_append]; rfl, by rw [List.length_append, hxl]; rfl, fun x hx => ?_, hsp.snoc hxl hjs (by rw [Int.zero_add] at hat; exact hat), hS6.upd offl.1 offl.2, fun b o b1 b2 e => ?_⟩
      · rcases List.mem_append.mp hx with z | z
        · exact hxs x z
        · rw [List.mem_singleton.mp z]; exact join_ok hcs'
      · rw [upd_ne (ne_of_none e nlH)]
        exact k6 b o b1 b2 e
    · obtain ⟨cs, xs, y3, rfl, eDx, g1, g2, g3, hcs, elx, hxl, hxs, hsp, hSx, kx⟩ := hP
      exact ⟨_, rfl, q l xs _ Hx nlH elx hxs (by omega) (hsp.nodup (by decide) (by decide +kernel) (by decide +kernel) fun k k' hk hk' e => by rcases hsv with rfl | rfl | rfl | rfl <;> omega) (by omega) (by omega) hSx kx⟩
end

theorem snoc_cases {α : Type} (l : List α) : l = [] ∨ ∃ l' x, l = l' ++ [x] := by
  rcases List.eq_nil_or_concat l with h | ⟨l', x, h⟩
  · exact .inl h
  · exact .inr ⟨l', x, by rw [h]; simp⟩
theorem _root_.GP.Prs.last {H : Hp} {us : List V} {ps : List (Int × Int)} {p : Int × Int} (h : Prs H us (ps ++ [p])) : ∃ us' T, us = us' ++ [.ref T] ∧ H T = some (.tup [.int p.1, .int p.2]) ∧ Prs H us' ps := by
  have hl := h.1
  rw [List.length_append] at hl
  rcases snoc_cases us with e | ⟨us', x, e⟩
  · rw [e] at hl
    simp at hl
  · subst e
    rw [List.length_append] at hl
    have hl' : us'.length = ps.length := Nat.add_right_cancel hl
    obtain ⟨T, e1, e2⟩ := h.2 ps.length p (by rw [List.getElem?_append_right (Nat.le_refl _), Nat.sub_self]; rfl)
    rw [List.getElem?_append_right (by omega), hl', Nat.sub_self] at e1
    refine ⟨us', T, by rw [Option.some.inj e1], e2, hl', fun i q eq => ?_⟩
    have hi : i < ps.length := (List.getElem?_eq_some_iff.mp eq).1
    obtain ⟨b, f1, f2⟩ := h.2 i q (by rw [List.getElem?_append_left hi]; exact eq)
    rw [List.getElem?_append_left (by omega)] at f1
    exact ⟨b, f1, f2⟩
theorem eqv_pr_nil (ps : List (Int × Int)) : PyData.eqv (PyData.list (ps.map pairD)) (PyData.list []) = ps.isEmpty := by
  cases ps with
  | nil => simp [PyData.eqv, PyData.eqvAll]
  | cons p r => simp [PyData.eqv, PyData.eqvAll]
def rIxS (K : PySem.W.Frag) : R2 := fun x y H Q => ∃ p xs i v, x = .ref p ∧ y = .int i ∧ Sq K H p xs ∧ atI xs i = some v ∧ Q v H
theorem ix_seq {X : Cx} : IxR X (rIxS X.K) := by
  intro value slice pins s σ H x y v u Q I rx ry h hs
  obtain ⟨p, xs, i, z, e1, e2, hq, he, q⟩ := h
  rcases hq with hq | hq
  · exact ix_list value slice pins s σ H x y v u Q I rx ry ⟨p, xs, i, z, e1, e2, hq, he, q⟩ hs
  · exact ix_tup value slice pins s σ H x y v u Q I rx ry ⟨p, xs, i, z, e1, e2, hq, he, q⟩ hs

/-! ### passes and batches -/
inductive Pas
  | line (place : Str) (st lo by_ : Int)
  | racks (place : Str) (per : Int) (stays : List (Int × Int))
def Pas.place : Pas → Str
  | .line p _ _ _ => p
  | .racks p _ _ => p
/-- as it is drawn, for so many tins -/
def Pas.Good (T : Int) : Pas → Prop
  | .line p st lo b => PyData.strOk p = true ∧ 0 ≤ st ∧ st < 10 ^ 40 ∧ 0 ≤ lo ∧ lo < 10 ^ 30 ∧ 1 ≤ b ∧ b ≤ 10 ^ 30
  | .racks p per ss => PyData.strOk p = true ∧ 1 ≤ per ∧ per ≤ T ∧ T ≤ per * ss.length ∧ ss.length ≤ 12 ∧ ∀ s ∈ ss, 0 ≤ s.1 ∧ s.1 ≤ s.2 ∧ s.2 ≤ 10 ^ 40
/-- of no great minutes -/
def Pas.Low : Pas → Prop
  | .line _ st _ _ => st < 10 ^ 30
  | .racks _ _ ss => ∀ s ∈ ss, s.2 ≤ 10 ^ 32
/-- a list or a tuple of these -/
def SqH (H : Hp) (a : Addr) (xs : List V) : Prop := H a = some (.lst xs) ∨ H a = some (.tup xs)
theorem SqH.sq {K : PySem.W.Frag} {H : Hp} {a : Addr} {xs : List V} (h : SqH H a xs) : Sq K H a xs := h.elim Sq.list Sq.tup
theorem SqH.same {H H' : Hp} {a : Addr} {xs : List V} (h : SqH H a xs) (s : Same H H') : SqH H' a xs := h.imp (s _ _) (s _ _)
theorem SqH.kp {H H' : Hp} {d c a : Addr} {t : Int} {xs : List V} (h : SqH H a xs) (S : StAt H d c t) (k : Kp d c H H') (n : NoInt xs) : SqH H' a xs := h.imp (fun e => k.lst S e n) (fun e => k.tup S e)
/-- where a pass stands -/
def PasV (H : Hp) (v : V) : Pas → Prop
  | .line p st lo b => ∃ a, v = .ref a ∧ H a = some (.tup [.str "line", .str p, .int st, .int lo, .int b])
  | .racks p per ss => ∃ a s us, v = .ref a ∧ H a = some (.tup [.str "racks", .str p, .int per, .ref s]) ∧ SqH H s us ∧ Prs H us ss
theorem PasV.same {H H' : Hp} {v : V} {p : Pas} (h : PasV H v p) (s : Same H H') : PasV H' v p := by
  cases p with
  | line => obtain ⟨a, e, h⟩ := h; exact ⟨a, e, s _ _ h⟩
  | racks => obtain ⟨a, b, us, e, h1, h2, h3⟩ := h; exact ⟨a, b, us, e, s _ _ h1, h2.same s, h3.same s⟩
theorem PasV.kp {H H' : Hp} {d c : Addr} {t : Int} {v : V} {p : Pas} (h : PasV H v p) (S : StAt H d c t) (k : Kp d c H H') : PasV H' v p := by
  cases p with
  | line => obtain ⟨a, e, h⟩ := h; exact ⟨a, e, k.tup S h⟩
  | racks => obtain ⟨a, b, us, e, h1, h2, h3⟩ := h; exact ⟨a, b, us, e, k.tup S h1, h2.kp S k (noInt_prs h3), h3.kp S k⟩
theorem PasV.ref {H : Hp} {v : V} {p : Pas} (h : PasV H v p) : ∃ a, v = .ref a := by
  cases p with
  | line => obtain ⟨a, e, _⟩ := h; exact ⟨a, e⟩
  | racks => obtain ⟨a, b, us, e, _⟩ := h; exact ⟨a, e⟩
def PassA (H : Hp) (vs : List V) (ps : List Pas) : Prop := vs.length = ps.length ∧ ∀ (i : Nat) v p, vs[i]? = some v → ps[i]? = some p → PasV H v p
theorem PassA.same {H H' : Hp} {vs : List V} {ps : List Pas} (h : PassA H vs ps) (s : Same H H') : PassA H' vs ps := ⟨h.1, fun i v p e1 e2 => (h.2 i v p e1 e2).same s⟩
theorem PassA.kp {H H' : Hp} {d c : Addr} {t : Int} {vs : List V} {ps : List Pas} (h : PassA H vs ps) (S : StAt H d c t) (k : Kp d c H H') : PassA H' vs ps := ⟨h.1, fun i v p e1 e2 => (h.2 i v p e1 e2).kp S k⟩
theorem PassA.at {H : Hp} {vs : List V} {ps : List Pas} {i : Nat} {v : V} (h : PassA H vs ps) (e : vs[i]? = some v) : ∃ p, ps[i]? = some p ∧ PasV H v p := by
  have hi : i < ps.length := by rw [← h.1]; exact (List.getElem?_eq_some_iff.mp e).1
  exact ⟨_, List.getElem?_eq_getElem hi, h.2 i v _ e (List.getElem?_eq_getElem hi)⟩
theorem PassA.noInt {H : Hp} {vs : List V} {ps : List Pas} (h : PassA H vs ps) : NoInt vs := fun x hx i e => by
  obtain ⟨j, hj, e1⟩ := List.getElem_of_mem hx
  obtain ⟨p, _, hp⟩ := h.at (by rw [List.getElem?_eq_getElem hj, e1])
  obtain ⟨a, rfl⟩ := hp.ref
  cases e
theorem PassA.nil {H : Hp} : PassA H [] [] := ⟨rfl, fun _ _ _ e => nomatch e⟩
theorem getElem?_app {α β : Type} {xs ys : List α} {us ws : List β} (l : xs.length = us.length) {i : Nat} {x : α} {u : β} (e1 : (xs ++ ys)[i]? = some x) (e2 : (us ++ ws)[i]? = some u) : (xs[i]? = some x ∧ us[i]? = some u) ∨ (ys[i - xs.length]? = some x ∧ ws[i - xs.length]? = some u) := by
  by_cases hi : i < xs.length
  · rw [List.getElem?_append_left hi] at e1
    rw [List.getElem?_append_left (by omega)] at e2
    exact .inl ⟨e1, e2⟩
  · rw [List.getElem?_append_right (by omega)] at e1 e2
    rw [← l] at e2
    exact .inr ⟨e1, e2⟩
theorem PassA.app {H : Hp} {vs ws : List V} {ps qs : List Pas} (h : PassA H vs ps) (h' : PassA H ws qs) : PassA H (vs ++ ws) (ps ++ qs) :=
  ⟨by rw [List.length_append, List.length_append, h.1, h'.1], fun i v p e1 e2 => (getElem?_app h.1 e1 e2).elim (fun z => h.2 i v p z.1 z.2) (fun z => h'.2 _ v p z.1 z.2)⟩
theorem PassA.one {H : Hp} {v : V} {p : Pas} (h : PasV H v p) : PassA H [v] [p] := ⟨rfl, fun i u q e1 e2 => by
  have hi : i < 1 := (List.getElem?_eq_some_iff.mp e1).1
  have : i = 0 := by omega
  subst this
  cases e1
  cases e2
  exact h⟩
theorem PassA.take {H : Hp} {vs : List V} {ps : List Pas} (h : PassA H vs ps) (k : Nat) : PassA H (vs.take k) (ps.take k) := ⟨by rw [List.length_take, List.length_take, h.1], fun i v p e1 e2 => by
  rw [List.getElem?_take] at e1 e2
  split at e1
  · rename_i hi
    rw [if_pos hi] at e2
    exact h.2 i v p e1 e2
  · cases e1⟩
theorem PassA.drop {H : Hp} {vs : List V} {ps : List Pas} (h : PassA H vs ps) (k : Nat) : PassA H (vs.drop k) (ps.drop k) := ⟨by rw [List.length_drop, List.length_drop, h.1], fun i v p e1 e2 => by
  rw [List.getElem?_drop] at e1 e2
  exact h.2 _ v p e1 e2⟩
/-- where a batch stands -/
def BatA (H : Hp) (b : Addr) (mark : Str) (T : Int) (ps : List Pas) : Prop := ∃ a vs, H b = some (.tup [.str mark, .int T, .ref a]) ∧ SqH H a vs ∧ PassA H vs ps
theorem BatA.same {H H' : Hp} {b : Addr} {m : Str} {T : Int} {ps : List Pas} (h : BatA H b m T ps) (s : Same H H') : BatA H' b m T ps := let ⟨a, vs, e, h1, h2⟩ := h; ⟨a, vs, s _ _ e, h1.same s, h2.same s⟩
theorem BatA.kp {H H' : Hp} {d c : Addr} {t : Int} {b : Addr} {m : Str} {T : Int} {ps : List Pas} (h : BatA H b m T ps) (S : StAt H d c t) (k : Kp d c H H') : BatA H' b m T ps := let ⟨a, vs, e, h1, h2⟩ := h; ⟨a, vs, k.tup S e, h1.kp S k h2.noInt, h2.kp S k⟩
def pick4 {x y z u r : Int} (Pv : Int → Prop) (h0 : 0 ≤ r) (h1 : r < 4) (hx : Pv x) (hy : Pv y) (hz : Pv z) (hu : Pv u) : ∃ v, Pv v ∧ atI [V.int x, V.int y, V.int z, V.int u] r = some (.int v) := by
  have : r = 0 ∨ r = 1 ∨ r = 2 ∨ r = 3 := by omega
  rcases this with rfl | rfl | rfl | rfl
  · exact ⟨x, hx, rfl⟩
  · exact ⟨y, hy, rfl⟩
  · exact ⟨z, hz, rfl⟩
  · exact ⟨u, hu, rfl⟩
/-- log2 of what is below 2 ^ 200 -/
theorem log_lt {i : Int} (h : i.natAbs < 2 ^ 400) : i.natAbs.log2 < 400 := PySem.Flt.log2_lt_of (by decide) h
theorem ceil_up {T R : Int} (hT : 1 ≤ T) (hR : 1 ≤ R) : 1 ≤ (T + R - 1) / R ∧ (T + R - 1) / R ≤ T ∧ T ≤ (T + R - 1) / R * R := by
  have e := Int.mul_ediv_add_emod (T + R - 1) R
  have m0 := Int.emod_nonneg (T + R - 1) (show R ≠ 0 by omega)
  have m1 := Int.emod_lt_of_pos (T + R - 1) (show 0 < R by omega)
  rw [Int.mul_comm] at e
  have hge : T ≤ (T + R - 1) / R * R := by omega
  refine ⟨?_, ?_, hge⟩
  · have : 0 < (T + R - 1) / R := by
      rcases Int.lt_or_le 0 ((T + R - 1) / R) with z | z
      · exact z
      · have := Int.mul_le_mul_of_nonneg_right z (show 0 ≤ R by omega)
        omega
    omega
  · have h1 : 1 * T ≤ R * T := Int.mul_le_mul_of_nonneg_right hR (by omega)
    have h2 : (T + R - 1) / R < T + 1 := Int.ediv_lt_of_lt_mul (by omega) (by rw [Int.add_mul, Int.mul_comm T R]; omega)
    omega
theorem ceil_le {T per R : Int} (hp : 1 ≤ per) (h : T ≤ per * R) : (T + per - 1) / per ≤ R := by
  have h2 : (T + per - 1) / per < R + 1 := Int.ediv_lt_of_lt_mul (by omega) (by rw [Int.add_mul, Int.mul_comm R per]; omega)
  omega

abbrev sPass : Stmt := topS 22
theorem scPass : FnScope ["_law_state", "_law_place", "_law_tins", "_law_great", "_law_sort", "_law_long", "_law_by", "_law_racks", "_law_per", "_law_stays", "_law_turn", "_law_first"] ["_law_state", "_law_place", "_law_tins", "_law_great"] (defScope sPass) := ⟨rfl, rfl, rfl, by decide +kernel, rfl, by decide +kernel, by decide +kernel⟩
def spPass : Sp := fun vs H Q _ => ∃ (d c : Addr) (t T gr : Int) (pl : Str), vs = [.ref d, .str pl, .int T, .int gr] ∧ StAt H d c t ∧ t + 500 < 2 ^ 60 ∧ PyData.strOk pl = true ∧ 1 ≤ T ∧ T ≤ 10 ^ 30 ∧ 0 ≤ gr ∧ gr < 2 ∧
  ∀ (v : V) (p : Pas) (t' : Int) H', PasV H' v p → p.Good T → p.Low → p.place = pl → t ≤ t' → t' ≤ t + 200 → StAt H' d c t' → Kp d c H H' → Q v H'
section
variable {K : PySem.W.Frag} {mg : Str → Option Value} {P : Program} {w : World} {base : Heap}
theorem ok_pass {f : Addr} {fd : FuncData} (F : Fun K "_law_pass" "_law_pass" sPass f fd) (CT : Cal P w K mg base 1 "_law_take" ["_law_state", "_law_many"] spTake) (CN : Cal P w K mg base 2 "_law_number" ["_law_state", "_law_sort"] spNumber) (mr : mg "range" = none) :
    FnOk P w K mg base CX0 3 f fd ["_law_state", "_law_place", "_law_tins", "_law_great"] spPass := by
  refine F.ok scPass (fun vs H Q E h => ?_) (fun cdv A outer s H vs Q E hr h => ?_)
  · obtain ⟨d, c, t, T, gr, pl, rfl, _⟩ := h
    rfl
  · obtain ⟨d, c, t, T, gr, pl, rfl, hS, ht, hpl, hT1, hT2, hg0, hg1, q⟩ := h
    have hr1 := hr.mono (show 1 ≤ 2 by decide)
    refine ⟨_, pss_cons (ps_set (i := 4) scPass.nd rfl (.inl rfl) (pe_ix ix_list (pe_lst (pa_cons (pe_own CT hr1 (by rfl) (pa_cons (pv 0) (pa_cons pe_int pa_nil))) (pa_cons pe_int pa_nil))) (pv 3) (fun _ _ => rfl)))
      (pss_cons (ps_if (pt_cmpR op_eq (pe_own CT hr1 (by rfl) (pa_cons (pv 0) (pa_cons pe_int pa_nil))) pe_int (nomark _))
        (pss_cons (ps_set (i := 5) scPass.nd rfl (.inl rfl) (pe_ix ix_list (pe_lst (pa_cons pe_int (pa_cons pe_int (pa_cons (pe_own CT hr1 (by rfl) (pa_cons (pv 0) (pa_cons pe_int pa_nil))) (pa_cons (pe_own CN hr (by rfl) (pa_cons (pv 0) (pa_cons (pv 4) pa_nil))) pa_nil))))) (pe_own CT hr1 (by rfl) (pa_cons (pv 0) (pa_cons pe_int pa_nil))) (fun _ _ => rfl)))
        (pss_cons (ps_set (i := 6) scPass.nd rfl (.inl rfl) (pe_op op_add pe_int (pe_ix ix_list (pe_lst (pa_cons pe_int (pa_cons (pe_own CT hr1 (by rfl) (pa_cons (pv 0) (pa_cons pe_int pa_nil))) (pa_cons (pe_own CN hr (by rfl) (pa_cons (pv 0) (pa_cons (pv 4) pa_nil))) pa_nil)))) (pe_own CT hr1 (by rfl) (pa_cons (pv 0) (pa_cons pe_int pa_nil))) (fun _ _ => rfl))))
        (pss_one (ps_ret (pe_tup (pa_cons pe_str (pa_cons (pv 1) (pa_cons (pe_own CN hr (by rfl) (pa_cons (pv 0) (pa_cons (pv 4) pa_nil))) (pa_cons (pv 5) (pa_cons (pv 6) pa_nil)))))))))) pss_nil)
      (pss_cons (ps_set (i := 7) scPass.nd rfl (.inl rfl) (pe_op op_add pe_int (pe_own CT hr1 (by rfl) (pa_cons (pv 0) (pa_cons pe_int pa_nil)))))
      (pss_cons (ps_par rfl scPass.nd (i := 8) (j := 9) rfl rfl (by decide) rfl rfl (pa_cons (pe_op op_fdivW (pe_op op_sub (pe_op op_add (pv 2) (pv 7)) pe_int) (pv 7)) (pa_cons (pe_lst pa_nil) pa_nil)) (by rfl))
      (pss_cons (ps_for PassesOwn.never rfl (pi_range1 rfl mr (pa_cons (pe_op op_fdivW (pe_op op_sub (pe_op op_add (pv 2) (pv 8)) pe_int) (pv 8)) pa_nil)) (pg_name (i := 10) scPass.nd rfl (.inl rfl))
        (pss_cons (ps_set (i := 11) scPass.nd rfl (.inl rfl) (pe_own CN hr (by rfl) (pa_cons (pv 0) (pa_cons (pv 4) pa_nil))))
        (Evl.pss_cut (ps_if (PW.pt (pw_and (pt_cmpR (op_neD hr.units) (pv 9) (pe_lst pa_nil) (nomark _)) (pw_and1 (pt_cmpR op_eq (pe_own CT hr1 (by rfl) (pa_cons (pv 0) (pa_cons pe_int pa_nil))) pe_int (nomark _)))))
          (pss_one (ps_set (i := 11) scPass.nd rfl (.inl rfl) (pe_op op_add (pe_ix ix_tup (pe_ix ix_list (pv 9) (pe_un un_neg pe_int) (fun _ _ => rfl)) pe_int (fun _ _ => rfl)) (pe_own CT hr1 (by rfl) (pa_cons (pv 0) (pa_cons pe_int pa_nil)))))) pss_nil)
        (pss_one (ps_expr (pe_bm PySem.F.plainAttrs_list PySem.F.slot_list_append PySem.F.type_list_append mt_append (pv 9) (pa_cons (pe_tup (pa_cons (pv 11) (pa_cons (pe_op op_add (pv 11) (pe_ix ix_list (pe_lst (pa_cons pe_int (pa_cons (pe_own CT hr1 (by rfl) (pa_cons (pv 0) (pa_cons pe_int pa_nil))) (pa_cons (pe_own CN hr (by rfl) (pa_cons (pv 0) (pa_cons (pv 4) pa_nil))) pa_nil)))) (pe_own CT hr1 (by rfl) (pa_cons (pv 0) (pa_cons pe_int pa_nil))) (fun _ _ => rfl))) pa_nil))) pa_nil)))))))
      (pss_one (ps_ret (pe_tup (pa_cons pe_str (pa_cons (pv 1) (pa_cons (pv 8) (pa_cons (pv 9) pa_nil))))))))))), ?_⟩
    -- sort
    refine ⟨_, rfl, d, c, t, 2, rfl, hS, by omega, by decide, by decide, fun r1 H1 r10 r11 hS1 k1 => ⟨(by show 2 ≤ sizeLine; decide), fun z1 nz1 => ?_⟩⟩
    have sz1 := same_upd (o := .lst [.int r1, .int 3]) nz1
    obtain ⟨so, hso, hat1⟩ := pick2 (x := r1) (y := 3) (fun v => 0 ≤ v) hg0 hg1 r10 (by decide)
    refine ⟨_, rfl, z1, _, gr, .int so, rfl, rfl, SqL.of upd_same, hat1, ?_⟩
    have hS2 := hS1.same sz1
    have k2 : Kp d c H (upd H1 z1 (.lst [.int r1, .int 3])) := k1.trans (Kp.same d c sz1)
    revert hS2 k2
    generalize upd H1 z1 (.lst [.int r1, .int 3]) = H2
    intro hS2 k2
    refine ⟨_, rfl, d, c, t + 1, 2, rfl, hS2, by omega, by decide, by decide, fun r2 H3 r20 r21 hS3 k3' => ⟨rfl, _, rfl, ite2 (fun _ => ?_) (fun _ => ?_)⟩⟩
    · have k3 := k2.trans k3'
      -- a line
      refine ⟨_, rfl, d, c, t + 1 + 1, 9, rfl, hS3, by omega, by decide, by decide, fun a1 H4 a10 a11 hS4 k4 => ?_⟩
      refine ⟨_, rfl, _, rfl, d, c, _, so, rfl, hS4, by omega, hso, fun a2 t5 H5 a20 a21 t50 t51 hS5 k5 => ⟨(by show 4 ≤ sizeLine; decide), fun z2 nz2 => ?_⟩⟩
      have sz2 := same_upd (o := .lst [.int 0, .int 1, .int a1, .int a2]) nz2
      refine ⟨_, rfl, d, c, t5, 4, rfl, hS5.same sz2, by omega, by decide, by decide, fun r3 H6 r30 r31 hS6 k6 => ?_⟩
      obtain ⟨lo, ⟨hlo0, hlo1⟩, hat2⟩ := pick4 (x := 0) (y := 1) (z := a1) (u := a2) (fun v => 0 ≤ v ∧ v < 10 ^ 30) r30 r31 (by decide) (by decide) (by omega) (by omega)
      refine ⟨z2, _, r3, .int lo, rfl, rfl, SqL.of (k6.new hS5 nz2), hat2, ?_⟩
      have k36 : Kp d c H H6 := ((k3.trans k4).trans k5).trans ((Kp.same d c sz2).trans k6)
      refine ⟨_, rfl, d, c, _, 9, rfl, hS6, by omega, by decide, by decide, fun b1 H7 b10 b11 hS7 k7 => ?_⟩
      refine ⟨_, rfl, _, rfl, d, c, _, so, rfl, hS7, by omega, hso, fun b2 t8 H8 b20 b21 t80 t81 hS8 k8 => ⟨(by show 3 ≤ sizeLine; decide), fun z3 nz3 => ?_⟩⟩
      have sz3 := same_upd (o := .lst [.int 0, .int b1, .int b2]) nz3
      refine ⟨_, rfl, d, c, t8, 3, rfl, hS8.same sz3, by omega, by decide, by decide, fun r4 H9 r40 r41 hS9 k9 => ?_⟩
      obtain ⟨by_, ⟨hb0, hb1⟩, hat3⟩ := pick3 (x := 0) (y := b1) (z := b2) (fun v => 0 ≤ v ∧ v < 10 ^ 30) r40 r41 (by decide) (by omega) (by omega)
      refine ⟨z3, _, r4, .int by_, rfl, rfl, SqL.of (k9.new hS8 nz3), hat3, 1, by_, rfl, rfl, ?_⟩
      have k39 : Kp d c H H9 := ((k36.trans k7).trans k8).trans ((Kp.same d c sz3).trans k9)
      refine ⟨_, rfl, _, rfl, _, rfl, d, c, _, so, rfl, hS9, by omega, hso, fun st t10 H10 st0 st1 t100 t101 hS10 k10 => ?_⟩
      refine ⟨_, rfl, _, rfl, (by show 5 ≤ sizeLine; decide), fun Tt nTt => ?_⟩
      have sT := same_upd (o := .tup [.str "line", .str pl, .int st, .int lo, .int (1 + by_)]) nTt
      exact q _ (.line pl st lo (1 + by_)) t10 _ ⟨Tt, rfl, upd_same⟩ ⟨hpl, st0, by omega, hlo0, hlo1, by omega, by omega⟩ st1 rfl (by omega) (by omega) (hS10.same sT) ((k39.trans k10).trans (Kp.same d c sT))
    · have k3 := k2.trans k3'
      -- racks
      refine ⟨_, rfl, d, c, t + 1 + 1, 12, rfl, hS3, by omega, by decide, by decide, fun r3 H4 r30 r31 hS4 k4' => ⟨1, r3, rfl, rfl, ?_⟩⟩
      have k4 := k3.trans k4'
      obtain ⟨c1, c2, c3⟩ := ceil_up (T := T) (R := 1 + r3) hT1 (by omega)
      refine ⟨_, rfl, _, rfl, T, 1 + r3, rfl, rfl, _, 1, rfl, rfl, _, rfl, T + (1 + r3) - 1, 1 + r3, rfl, rfl, ⟨by omega, Nat.lt_trans (log_lt (by omega)) (by decide)⟩, Nat.zero_le _, fun sy nsy => ⟨_, _, rfl, ?_⟩⟩
      have ssy := same_upd (o := .lst []) nsy
      have offs := hS4.off nsy
      have nsH : H sy = none := Kp.free k4 hS4 nsy
      dsimp only
      revert c1 c2 c3
      generalize (T + (1 + r3) - 1) / (1 + r3) = per
      intro c1 c2 c3
      obtain ⟨e1, _, e3⟩ := ceil_up (T := T) (R := per) hT1 c1
      have e4 := ceil_le (T := T) (per := per) (R := 1 + r3) c1 c3
      obtain ⟨cnt, hcnt⟩ : ∃ cnt, (T + per - 1) / per = cnt := ⟨_, rfl⟩
      rw [hcnt] at e1 e3 e4
      refine ⟨_, rfl, _, rfl, T, per, rfl, rfl, _, 1, rfl, rfl, _, rfl, T + per - 1, per, rfl, rfl, ⟨by omega, Nat.lt_trans (log_lt (by omega)) (by decide)⟩, cnt, (by show [V.int ((T + per - 1) / per)] = [V.int cnt]; rw [hcnt]), by omega, by omega, ?_⟩
      refine for_range (n := cnt.toNat) (fun i σ Hx => ∃ (t' : Int) (ms : List V) (ss : List (Int × Int)) (y10 y11 : Option V), σ = [some (.ref d), some (.str pl), some (.int T), some (.int gr), some (.int so), none, none, some (.int (1 + r3)), some (.int per), some (.ref sy), y10, y11] ∧ Hx sy = some (.lst ms) ∧ Prs Hx ms ss ∧ ss.length = i ∧ (∀ s ∈ ss, 0 ≤ s.1 ∧ s.1 ≤ s.2 ∧ s.2 ≤ 2 * 10 ^ 30 * (i : Int)) ∧ t ≤ t' ∧ t' ≤ t + 3 + 14 * i ∧ StAt Hx d c t' ∧ Kp d c H Hx)
        ⟨t + 1 + 1 + 1, [], [], none, none, rfl, upd_same, Prs.nil, rfl, (fun _ z => nomatch z), by omega, by omega, hS4.same ssy, k4.trans (Kp.same d c ssy)⟩ (fun i σ Hx hi hP => ?_) (fun σ Hx hP => ?_)
      · obtain ⟨t', ms, ss, y10, y11, rfl, esy, hms, hsl, hbs, u0, u1, hSx, kx⟩ := hP
        have hi2 : (i : Int) < 12 := by omega
        refine ⟨_, rfl, _, rfl, d, c, t', so, rfl, hSx, by omega, hso, fun fi t5 H5 fi0 fi1 t50 t51 hS5 k5 => ?_⟩
        have kx5 := k5
        have esy5 := k5 _ _ offs.1 offs.2 esy
        have hms5 := hms.kp hSx k5
        refine ⟨fun σ' H' => ∃ (fi t6 : Int), σ' = [some (.ref d), some (.str pl), some (.int T), some (.int gr), some (.int so), none, none, some (.int (1 + r3)), some (.int per), some (.ref sy), some (.int (0 + (i : Int))), some (.int fi)] ∧ H' sy = some (.lst ms) ∧ Prs H' ms ss ∧ (0 ≤ fi ∧ fi ≤ 2 * 10 ^ 30 * (i : Int) + 10 ^ 30) ∧ t5 ≤ t6 ∧ t6 ≤ t5 + 2 ∧ StAt H' d c t6 ∧ Kp d c H H', ?_, fun σ' H' hM => ?_⟩
        · refine ⟨_, rfl, Nat.zero_le _, fun z nz => ?_⟩
          have sz := same_upd (o := .lst []) nz
          refine ⟨_, _, .lst (SqL.of (sz _ _ esy5)) (dp_prs (hms5.same sz)), .lst (SqL.of upd_same) .nil, shaped_prs ss, shaped_ints [], ?_⟩
          rw [eqv_pr_nil]
          have hS6 := hS5.same sz
          have k6 : Kp d c H (upd H5 z (.lst [])) := (kx.trans k5).trans (Kp.same d c sz)
          have esy6 := sz _ _ esy5
          have hms6 := hms5.same sz
          revert hS6 k6 esy6 hms6
          generalize upd H5 z (.lst []) = H6
          intro hS6 k6 esy6 hms6
          refine ⟨_, rfl, ite2 (fun c4 => ?_) (fun c4 => iteF ⟨fi, t5, rfl, esy6, hms6, ⟨fi0, by omega⟩, by omega, by omega, hS6, k6⟩)⟩
          refine ⟨_, rfl, d, c, t5, 3, rfl, hS6, by omega, by decide, by decide, fun r5 H7 r50 r51 hS7 k7 => ?_⟩
          have esy7 := k7 _ _ offs.1 offs.2 esy6
          have hms7 := hms6.kp hS6 k7
          refine ⟨rfl, _, rfl, ite2 (fun _ => ?_) (fun _ => ⟨fi, t5 + 1, rfl, esy7, hms7, ⟨fi0, by omega⟩, by omega, by omega, hS7, k6.trans k7⟩)⟩
          rcases snoc_cases ss with z0 | ⟨ss', p, z0⟩
          · rw [z0] at c4
            exact absurd c4 (by decide)
          subst z0
          obtain ⟨ms', T0, ems, eT0, _⟩ := hms7.last
          have hbp := hbs p (List.mem_append_right _ (List.mem_singleton.mpr rfl))
          refine ⟨_, rfl, 1, rfl, sy, ms, -1, .ref T0, rfl, rfl, SqL.of esy7, by rw [ems]; exact atI_last _ _, T0, _, 1, .int p.2, rfl, rfl, .inl (.inl eT0), atI_nat (j := 1) rfl, ?_⟩
          refine ⟨_, rfl, d, c, t5 + 1, 3, rfl, hS7, by omega, by decide, by decide, fun r6 H8 r60 r61 hS8 k8 => ⟨p.2, r6, rfl, rfl, p.2 + r6, t5 + 1 + 1, rfl, k8 _ _ offs.1 offs.2 esy7, hms7.kp hS7 k8, ⟨by omega, by omega⟩, by omega, by omega, hS8, (k6.trans k7).trans k8⟩⟩
        · obtain ⟨fi, t6, rfl, esy6, hms6, ⟨hf0, hf1⟩, v0, v1, hS6, k6⟩ := hM
          refine ⟨_, rfl, .inl ⟨rfl, _, SqL.of esy6⟩, _, rfl, _, rfl, _, rfl, d, c, t6, 9, rfl, hS6, by omega, by decide, by decide, fun b1 H7 b10 b11 hS7 k7 => ?_⟩
          refine ⟨_, rfl, _, rfl, d, c, _, so, rfl, hS7, by omega, hso, fun b2 t8 H8 b20 b21 t80 t81 hS8 k8 => ⟨(by show 3 ≤ sizeLine; decide), fun z3 nz3 => ?_⟩⟩
          have sz3 := same_upd (o := .lst [.int 0, .int b1, .int b2]) nz3
          refine ⟨_, rfl, d, c, t8, 3, rfl, hS8.same sz3, by omega, by decide, by decide, fun r4 H9 r40 r41 hS9 k9 => ?_⟩
          obtain ⟨ad, ⟨ad0, ad1⟩, hat3⟩ := pick3 (x := 0) (y := b1) (z := b2) (fun v => 0 ≤ v ∧ v < 10 ^ 30) r40 r41 (by decide) (by omega) (by omega)
          have k69 : Kp d c _ H9 := (k7.trans k8).trans ((Kp.same d c sz3).trans k9)
          refine ⟨z3, _, r4, .int ad, rfl, rfl, SqL.of (k9.new hS8 nz3), hat3, fi, ad, rfl, rfl, (by show 2 ≤ sizeLine; decide), fun Tt nTt => ?_⟩
          have sT := same_upd (o := .tup [.int fi, .int (fi + ad)]) nTt
          have esy9 := sT _ _ (k69 _ _ offs.1 offs.2 esy6)
          have hnew : ∀ s ∈ ss ++ [(fi, fi + ad)], 0 ≤ s.1 ∧ s.1 ≤ s.2 ∧ s.2 ≤ 2 * 10 ^ 30 * ((i + 1 : Nat) : Int) := fun s hs => by
            rcases List.mem_append.mp hs with z | z
            · have := hbs s z
              omega
            · rw [List.mem_singleton.mp z]
              refine ⟨hf0, ?_, ?_⟩
              · show fi ≤ fi + ad
                omega
              · show fi + ad ≤ _
                omega
          refine ⟨sy, _, _, rfl, rfl, esy9, small1000 (by rw [hms.1, hsl]; omega), t8 + 1, _, ss ++ [(fi, fi + ad)], _, _, rfl, upd_same, (((hms6.kp hS6 k69).same sT).snoc upd_same).upd_lst esy9, by rw [List.length_append, hsl]; rfl, hnew, by omega, by omega, (hS9.same sT).upd offs.1 offs.2, fun b o b1 b2 e => ?_⟩
          rw [upd_ne (ne_of_none e nsH)]
          exact sT _ _ (k69 b o b1 b2 (k6 b o b1 b2 e))
      · obtain ⟨t', ms, ss, y10, y11, rfl, esy, hms, hsl, hbs, u0, u1, hSx, kx⟩ := hP
        refine ⟨_, rfl, _, rfl, _, rfl, (by show 4 ≤ sizeLine; decide), fun Tt nTt => ?_⟩
        have sT := same_upd (o := .tup [.str "racks", .str pl, .int per, .ref sy]) nTt
        have hcn : (ss.length : Int) = cnt := by omega
        refine q _ (.racks pl per ss) t' _ ⟨Tt, sy, ms, rfl, upd_same, .inl (sT _ _ esy), hms.same sT⟩ ⟨hpl, c1, c2, by rw [hcn, Int.mul_comm]; exact e3, by omega, fun s hs => by have := hbs s hs; omega⟩ (fun s hs => by have := hbs s hs; omega) rfl (by omega) (by omega) (hSx.same sT) (kx.trans (Kp.same d c sT))
end

/-- stays are no passes -/
theorem stays_ne {H : Hp} {vs us : List V} {ps : List Pas} {ss : List (Int × Int)} {a s : Addr} (e : H a = some (.lst vs)) (hv : PassA H vs ps) (hs : SqH H s us) (hp : Prs H us ss) (hne : ss ≠ []) : s ≠ a := fun z => by
  subst z
  rcases hs with h | h
  · rw [h] at e
    have eu : us = vs := HO.lst.inj (Option.some.inj e)
    subst eu
    cases ss with
    | nil => exact hne rfl
    | cons q r =>
      obtain ⟨b, f1, f2⟩ := hp.2 0 q rfl
      obtain ⟨p, _, pv⟩ := hv.at f1
      cases p with
      | line => obtain ⟨b', e', h'⟩ := pv; cases e'; rw [f2] at h'; cases h'
      | racks => obtain ⟨b', _, _, e', h', _⟩ := pv; cases e'; rw [f2] at h'; cases h'
  · rw [h] at e
    cases e
theorem Pas.Good.stays {T : Int} {p : Str} {per : Int} {ss : List (Int × Int)} (h : (Pas.racks p per ss).Good T) (hT : 1 ≤ T) : ss ≠ [] := fun z => by
  have := h.2.2.2.1
  rw [z] at this
  have e : per * (([] : List (Int × Int)).length : Int) = 0 := by simp
  omega

/-! ### a batch -/
/-- a batch whose passes stand at one of these -/
def BatF (N : Addr → Prop) (H : Hp) (b : Addr) (mark : Str) (T : Int) (ps : List Pas) : Prop := ∃ a vs, H b = some (.tup [.str mark, .int T, .ref a]) ∧ SqH H a vs ∧ PassA H vs ps ∧ N a
theorem BatF.bat {N : Addr → Prop} {H : Hp} {b : Addr} {m : Str} {T : Int} {ps : List Pas} (h : BatF N H b m T ps) : BatA H b m T ps := let ⟨a, vs, h1, h2, h3, _⟩ := h; ⟨a, vs, h1, h2, h3⟩
theorem BatF.same {N : Addr → Prop} {H H' : Hp} {b : Addr} {m : Str} {T : Int} {ps : List Pas} (h : BatF N H b m T ps) (s : Same H H') : BatF N H' b m T ps := let ⟨a, vs, h1, h2, h3, h4⟩ := h; ⟨a, vs, s _ _ h1, h2.same s, h3.same s, h4⟩
theorem BatF.kp {N : Addr → Prop} {H H' : Hp} {d c : Addr} {t : Int} {b : Addr} {m : Str} {T : Int} {ps : List Pas} (h : BatF N H b m T ps) (S : StAt H d c t) (k : Kp d c H H') : BatF N H' b m T ps := let ⟨a, vs, h1, h2, h3, h4⟩ := h; ⟨a, vs, k.tup S h1, h2.kp S k h3.noInt, h3.kp S k, h4⟩
theorem BatF.weak {N N' : Addr → Prop} {H : Hp} {b : Addr} {m : Str} {T : Int} {ps : List Pas} (h : BatF N H b m T ps) (n : ∀ x, N x → N' x) : BatF N' H b m T ps := let ⟨a, vs, h1, h2, h3, h4⟩ := h; ⟨a, vs, h1, h2, h3, n _ h4⟩
abbrev sBatch : Stmt := topS 23
theorem scBatch : FnScope ["_law_state", "_law_mark", "_law_places", "_law_great", "_law_tins", "_law_passes", "_law_place"] ["_law_state", "_law_mark", "_law_places", "_law_great"] (defScope sBatch) := ⟨rfl, rfl, rfl, by decide +kernel, rfl, by decide +kernel, by decide +kernel⟩
def spBatch : Sp := fun vs H Q _ => ∃ (d c l : Addr) (t gr : Int) (mark : Str) (pls : List Str), vs = [.ref d, .str mark, .ref l, .int gr] ∧ StAt H d c t ∧ t + 3000 < 2 ^ 60 ∧ H l = some (.lst (pls.map V.str)) ∧ (∀ x ∈ pls, PyData.strOk x = true) ∧ pls.length ≤ 6 ∧ 0 ≤ gr ∧ gr < 2 ∧
  ∀ (b : Addr) (T : Int) (ps : List Pas) (t' : Int) H', BatF (fun x => H x = none) H' b mark T ps → 1 ≤ T → T ≤ 10 ^ 30 → (gr = 0 → T ≤ 40) → (∀ p ∈ ps, p.Good T) → (∀ p ∈ ps, p.Low) → (pls.Nodup → (ps.map Pas.place).Nodup) → ps.length ≤ 6 → t ≤ t' → t' ≤ t + 1300 → StAt H' d c t' → Kp d c H H' → Q (.ref b) H'
section
variable {K : PySem.W.Frag} {mg : Str → Option Value} {P : Program} {w : World} {base : Heap}
theorem ok_batch {f : Addr} {fd : FuncData} (F : Fun K "_law_batch_by" "_law_batch_by" sBatch f fd) (CT : Cal P w K mg base 1 "_law_take" ["_law_state", "_law_many"] spTake) (CN : Cal P w K mg base 2 "_law_number" ["_law_state", "_law_sort"] spNumber) (CP : Cal P w K mg base 3 "_law_pass" ["_law_state", "_law_place", "_law_tins", "_law_great"] spPass) (me : mg "len" = none) :
    FnOk P w K mg base CX0 4 f fd ["_law_state", "_law_mark", "_law_places", "_law_great"] spBatch := by
  refine F.ok scBatch (fun vs H Q E h => ?_) (fun cdv A outer s H vs Q E hr h => ?_)
  · obtain ⟨d, c, l, t, gr, mark, pls, rfl, _⟩ := h
    rfl
  · obtain ⟨d, c, l, t, gr, mark, pls, rfl, hS, ht, el, hok, hpl, hg0, hg1, q⟩ := h
    have hr1 := hr.mono (show 1 ≤ 3 by decide)
    have hr2 := hr.mono (show 2 ≤ 3 by decide)
    refine ⟨_, pss_cons (ps_set (i := 4) scBatch.nd rfl (.inl rfl) (pe_op op_add pe_int (pe_ix ix_list (pe_lst (pa_cons (pe_own CT hr1 (by rfl) (pa_cons (pv 0) (pa_cons pe_int pa_nil))) (pa_cons (pe_own CN hr2 (by rfl) (pa_cons (pv 0) (pa_cons pe_int pa_nil))) pa_nil))) (pv 3) (fun _ _ => rfl))))
      (pss_cons (ps_set (i := 5) scBatch.nd rfl (.inl rfl) (pe_lst pa_nil))
      (pss_cons (ps_for PassesOwn.never rfl (pi_list (pv 2)) (pg_name (i := 6) scBatch.nd rfl (.inl rfl))
        (pss_one (ps_if (pt_cmpR op_gt (pe_own CT hr1 (by rfl) (pa_cons (pv 0) (pa_cons pe_int pa_nil))) pe_int (nomark _))
          (pss_one (ps_expr (pe_bm PySem.F.plainAttrs_list PySem.F.slot_list_insert PySem.F.type_list_insert mt_insert (pv 5) (pa_cons (pe_own CT hr1 (by rfl) (pa_cons (pv 0) (pa_cons (pe_op op_add (pe_callB call_len_seq (by rfl) me PySem.boot_len (pa_cons (pv 5) pa_nil)) pe_int) pa_nil))) (pa_cons (pe_own CP hr (by rfl) (pa_cons (pv 0) (pa_cons (pv 6) (pa_cons (pv 4) (pa_cons (pv 3) pa_nil))))) pa_nil))))) pss_nil)))
      (pss_one (ps_ret (pe_tup (pa_cons (pv 1) (pa_cons (pv 4) (pa_cons (pv 5) pa_nil)))))))), ?_⟩
    refine ⟨_, rfl, d, c, t, 40, rfl, hS, by omega, by decide, by decide, fun r1 H1 r10 r11 hS1 k1 => ?_⟩
    refine ⟨_, rfl, d, c, t + 1, 3, rfl, hS1, by omega, by decide, fun r2 t2 H2 r20 r21 t20 t21 hS2 k2 => ⟨(by show 2 ≤ sizeLine; decide), fun z nz => ?_⟩⟩
    have sz := same_upd (o := .lst [.int r1, .int r2]) nz
    obtain ⟨T0, ⟨hT0, hT1, hT40⟩, hat⟩ : ∃ v, (0 ≤ v ∧ v < 10 ^ 30 ∧ (gr = 0 → v < 40)) ∧ atI [V.int r1, V.int r2] gr = some (.int v) := by
      have : gr = 0 ∨ gr = 1 := by omega
      rcases this with rfl | rfl
      · exact ⟨r1, ⟨r10, by omega, fun _ => r11⟩, rfl⟩
      · exact ⟨r2, ⟨r20, r21, fun z => absurd z (by decide)⟩, rfl⟩
    refine ⟨_, rfl, z, _, gr, .int T0, rfl, rfl, SqL.of upd_same, hat, 1, T0, rfl, rfl, ?_⟩
    have hS3 := hS2.same sz
    have k3 : Kp d c H (upd H2 z (.lst [.int r1, .int r2])) := (k1.trans k2).trans (Kp.same d c sz)
    revert hS3 k3
    generalize upd H2 z (.lst [.int r1, .int r2]) = H3
    intro hS3 k3
    refine ⟨Nat.zero_le _, fun pa npa => ?_⟩
    have spa := same_upd (o := .lst []) npa
    have offp := hS3.off npa
    have npH : H pa = none := Kp.free k3 hS3 npa
    have k4 := k3.trans (Kp.same d c spa)
    refine ⟨_, rfl, l, rfl, ⟨_, SqL.of (k4.lst hS el (noInt_strs pls))⟩, for_list (xs := pls.map V.str) (fun i σ Hx => ∃ (t' : Int) (vs : List V) (ps : List Pas) (y6 : Option V), σ = [some (.ref d), some (.str mark), some (.ref l), some (.int gr), some (.int (1 + T0)), some (.ref pa), y6] ∧ Hx pa = some (.lst vs) ∧ PassA Hx vs ps ∧ ps.length ≤ i ∧ (∀ p ∈ ps, (p.Good (1 + T0) ∧ p.Low) ∧ ∃ j, j < i ∧ pls[j]? = some p.place) ∧ (pls.Nodup → (ps.map Pas.place).Nodup) ∧ t ≤ t' ∧ t' ≤ t + 6 + 202 * i ∧ StAt Hx d c t' ∧ Kp d c H Hx)
      ⟨t2, [], [], none, rfl, upd_same, PassA.nil, Nat.le_refl _, (fun _ z => nomatch z), (fun _ => List.nodup_nil), by omega, by omega, hS3.same spa, k4⟩ (fun i σ Hx _ hP => ?_) (fun i x σ Hx hx hP => ?_) (fun σ Hx hP => ?_)⟩
    · obtain ⟨_, _, _, _, rfl, _, _, _, _, _, _, _, _, kx⟩ := hP
      exact SqL.of (kx.lst hS el (noInt_strs pls))
    · obtain ⟨t', vs, ps, y6, rfl, epa, hvs, hpl2, hgd, hnd, u0, u1, hSx, kx⟩ := hP
      obtain ⟨pl, epl, rfl⟩ : ∃ pl, pls[i]? = some pl ∧ x = .str pl := by
        rw [List.getElem?_map] at hx
        cases h : pls[i]? with
        | none => rw [h] at hx; cases hx
        | some n => rw [h] at hx; exact ⟨n, rfl, (Option.some.inj hx).symm⟩
      have hi : i < 6 := Nat.lt_of_lt_of_le (List.getElem?_eq_some_iff.mp epl).1 hpl
      refine ⟨_, rfl, d, c, t', 4, rfl, hSx, by omega, by decide, by decide, fun r3 H4 r30 r31 hS4 k4' => ⟨r3, 0, rfl, rfl, _, rfl, ite2 (fun _ => ?_) (fun _ => ?_)⟩⟩
      · have ep4 := k4' _ _ offp.1 offp.2 epa
        refine ⟨_, rfl, .inl ⟨rfl, _, SqL.of ep4⟩, _, rfl, _, rfl, pa, vs, rfl, Sq.list ep4, (vs.length : Int), 1, rfl, rfl, d, c, t' + 1, (vs.length : Int) + 1, rfl, hS4, by omega, by omega, by have := hvs.1; omega, fun r5 H5 r50 r51 hS5 k5 => ?_⟩
        refine ⟨_, rfl, _, rfl, _, rfl, _, rfl, d, c, t' + 1 + 1, 1 + T0, gr, pl, rfl, hS5, by omega, hok pl (List.mem_of_getElem? epl), by omega, by omega, hg0, hg1, fun v p t6 H6 hv hgp hlow hplc v0 v1 hS6 k6 => ?_⟩
        have kx6 := (k4'.trans k5).trans k6
        have ep6 := kx6 _ _ offp.1 offp.2 epa
        have hvs6 := hvs.kp hSx kx6
        have hvl : vs.length ≤ 6 := by rw [hvs.1]; omega
        have gdn : ∀ x ∈ ps.take r5.toNat ++ [p] ++ ps.drop r5.toNat, (x.Good (1 + T0) ∧ x.Low) ∧ ∃ j, j < i + 1 ∧ pls[j]? = some x.place := fun x hx => by
          have old : x ∈ ps → (x.Good (1 + T0) ∧ x.Low) ∧ ∃ j, j < i + 1 ∧ pls[j]? = some x.place := fun y => let ⟨g, j, lt, e⟩ := hgd x y; ⟨g, j, Nat.lt_succ_of_lt lt, e⟩
          rcases List.mem_append.mp hx with z | z
          · rcases List.mem_append.mp z with y | y
            · exact old (List.mem_of_mem_take y)
            · rw [List.mem_singleton.mp y]; exact ⟨⟨hgp, hlow⟩, i, Nat.lt_succ_self i, by rw [hplc]; exact epl⟩
          · exact old (List.mem_of_mem_drop z)
        have ndn : pls.Nodup → ((ps.take r5.toNat ++ [p] ++ ps.drop r5.toNat).map Pas.place).Nodup := fun hh => by
          have perm : (ps.take r5.toNat ++ [p] ++ ps.drop r5.toNat).Perm (p :: ps) := by
            rw [List.append_assoc]
            refine List.perm_middle.trans (List.Perm.cons _ ?_)
            exact List.Perm.of_eq (List.take_append_drop _ _)
          refine (perm.map Pas.place).nodup_iff.mpr ?_
          rw [List.map_cons, List.nodup_cons]
          refine ⟨fun hm => ?_, hnd hh⟩
          obtain ⟨y, hy, ey⟩ := List.mem_map.mp hm
          obtain ⟨_, j, lt, ej⟩ := hgd y hy
          rw [ey, hplc, ← epl] at ej
          have hji : j < pls.length := by
            have := (List.getElem?_eq_some_iff.mp epl).1
            omega
          have := (List.getElem?_inj hji hh).mp ej
          omega
        refine ⟨pa, vs, r5, v, rfl, rfl, ep6, small1000 (by omega), r50, by omega, t6, _, ps.take r5.toNat ++ [p] ++ ps.drop r5.toNat, _, rfl, upd_same, ?_, ?_, gdn, ndn, by omega, by omega, hS6.upd offp.1 offp.2, fun b o b1 b2 e => ?_⟩
        · have hnew : PassA H6 (vs.take r5.toNat ++ [v] ++ vs.drop r5.toNat) (ps.take r5.toNat ++ [p] ++ ps.drop r5.toNat) := ((hvs6.take r5.toNat).app (PassA.one hv)).app (hvs6.drop r5.toNat)
          exact ⟨hnew.1, fun j u q e1 e2 => by
            have z := hnew.2 j u q e1 e2
            have gq := (gdn q (List.mem_of_getElem? e2)).1.1
            cases q with
            | line => obtain ⟨a, e, h⟩ := z; exact ⟨a, e, by rw [upd_ne (ne_of h ep6 (fun z => nomatch z))]; exact h⟩
            | racks =>
              obtain ⟨a, s, us, e, h1, h2, h3⟩ := z
              have ns := stays_ne ep6 hvs6 h2 h3 (gq.stays (by omega))
              exact ⟨a, s, us, e, by rw [upd_ne (ne_of h1 ep6 (fun z => nomatch z))]; exact h1, h2.imp (fun h => by rw [upd_ne ns]; exact h) (fun h => by rw [upd_ne ns]; exact h), h3.upd_lst ep6⟩⟩
        · rw [List.length_append, List.length_append, List.length_take, List.length_drop, List.length_singleton]
          omega
        · rw [upd_ne (ne_of_none e npH)]
          exact kx6 b o b1 b2 (kx b o b1 b2 e)
      · exact ⟨t' + 1, vs, ps, _, rfl, k4' _ _ offp.1 offp.2 epa, hvs.kp hSx k4', by omega, (fun x hx => let ⟨g, j, lt, e⟩ := hgd x hx; ⟨g, j, Nat.lt_succ_of_lt lt, e⟩), hnd, by omega, by omega, hS4, kx.trans k4'⟩
    · obtain ⟨t', vs, ps, y6, rfl, epa, hvs, hpl2, hgd, hnd, u0, u1, hSx, kx⟩ := hP
      rw [List.length_map] at hpl2 u1
      refine ⟨_, rfl, _, rfl, _, rfl, (by show 3 ≤ sizeLine; decide), fun Tt nTt => ?_⟩
      have sT := same_upd (o := .tup [.str mark, .int (1 + T0), .ref pa]) nTt
      exact q Tt (1 + T0) ps t' _ ⟨pa, vs, upd_same, .inl (sT _ _ epa), hvs.same sT, npH⟩ (by omega) (by omega) (fun z => by have := hT40 z; omega) (fun p hp => (hgd p hp).1.1) (fun p hp => (hgd p hp).1.2) hnd (by omega) u0 (by omega) (hSx.same sT) (kx.trans (Kp.same d c sT))
end

/-! ### windows: the mathematics -/
def winF (pl : Str) (tin : Int) : List Pas → Option (Int × Int)
  | [] => none
  | .line p st lo b :: r => if p = pl then some (st + tin * lo / b, st + tin * lo / b) else winF pl tin r
  | .racks p per ss :: r => if p = pl then ss[(tin / per).toNat]? else winF pl tin r
def passF (pl : Str) : List Pas → Option Pas
  | [] => none
  | p :: r => if p.place = pl then some p else passF pl r
theorem passF_mem {pl : Str} {p : Pas} : ∀ {ps : List Pas}, passF pl ps = some p → p ∈ ps
  | [], e => nomatch e
  | q :: r, e => by
    unfold passF at e
    split at e
    · cases e
      exact List.mem_cons_self ..
    · exact List.mem_cons_of_mem _ (passF_mem e)
def winP (tin : Int) : Option Pas → Option (Int × Int)
  | none => none
  | some (.line _ st lo b) => some (st + tin * lo / b, st + tin * lo / b)
  | some (.racks _ per ss) => ss[(tin / per).toNat]?
theorem win_eq (pl : Str) (tin : Int) : ∀ ps : List Pas, winF pl tin ps = winP tin (passF pl ps)
  | [] => rfl
  | .line p st lo b :: r => by
    unfold winF passF
    by_cases h : p = pl
    · rw [if_pos h, if_pos (show (Pas.line p st lo b).place = pl from h)]
      rfl
    · rw [if_neg h, if_neg (show ¬ (Pas.line p st lo b).place = pl from h), win_eq pl tin r]
  | .racks p per ss :: r => by
    unfold winF passF
    by_cases h : p = pl
    · rw [if_pos h, if_pos (show (Pas.racks p per ss).place = pl from h)]
      rfl
    · rw [if_neg h, if_neg (show ¬ (Pas.racks p per ss).place = pl from h), win_eq pl tin r]
/-- where a tin's stay is -/
theorem stay_at {T tin per : Int} {ss : List (Int × Int)} (h0 : 0 ≤ tin) (h1 : tin < T) (hp : 1 ≤ per) (h : T ≤ per * ss.length) : ∃ j : Nat, tin / per = (j : Int) ∧ j < ss.length := by
  have z0 : 0 ≤ tin / per := Int.ediv_nonneg h0 (by omega)
  have z1 : tin / per < ss.length := Int.ediv_lt_of_lt_mul (by omega) (by rw [Int.mul_comm]; omega)
  obtain ⟨j, e⟩ := Int.eq_ofNat_of_zero_le z0
  exact ⟨j, e, by omega⟩
def WinV (H : Hp) (v : V) : Option (Int × Int) → Prop
  | none => v = .non
  | some p => ∃ a, v = .ref a ∧ H a = some (.tup [.int p.1, .int p.2])
/-! ### the law's own window -/
abbrev sLWin : Stmt := topS 24
theorem scLWin : FnScope ["_law_batch", "_law_place", "_law_tin", "_law_one", "_law_minute"] ["_law_batch", "_law_place", "_law_tin"] (defScope sLWin) := ⟨rfl, rfl, rfl, by decide +kernel, rfl, by decide +kernel, by decide +kernel⟩
def spWin : Sp := fun vs H Q _ => ∃ (b : Addr) (mark pl : Str) (T tin : Int) (ps : List Pas), vs = [.ref b, .str pl, .int tin] ∧ BatA H b mark T ps ∧ 0 ≤ tin ∧ tin < T ∧ T ≤ 10 ^ 30 ∧ (∀ p ∈ ps, p.Good T) ∧
  ∀ v H', WinV H' v (winF pl tin ps) → Same H H' → Q v H'
section
variable {K : PySem.W.Frag} {mg : Str → Option Value} {P : Program} {w : World} {base : Heap}
theorem ok_lwin {f : Addr} {fd : FuncData} {k : Nat} (F : Fun K "_law_window" "_law_window" sLWin f fd) : FnOk P w K mg base CX0 (k + 1) f fd ["_law_batch", "_law_place", "_law_tin"] spWin := by
  refine F.ok scLWin (fun vs H Q E h => ?_) (fun cdv A outer s H vs Q E hr h => ?_)
  · obtain ⟨b, mark, pl, T, tin, ps, rfl, _⟩ := h
    rfl
  · obtain ⟨b, mark, pl, T, tin, ps, rfl, ⟨a, us, eb, ha, hus⟩, h0, h1, hT, hgd, q⟩ := h
    refine ⟨_, pss_cons (ps_for PassesOwn.never rfl (pi_seq (pe_ix ix_tup (pv 0) pe_int (fun _ _ => rfl))) (pg_name (i := 3) scLWin.nd rfl (.inl rfl))
        (pss_cons (ps_if (PW.pt (pw_and (pt_cmpR op_eq (pe_ix ix_tup (pv 3) pe_int (fun _ _ => rfl)) (pv 1) (nomark _)) (pw_and1 (pt_cmpR op_eq (pe_ix ix_tup (pv 3) pe_int (fun _ _ => rfl)) pe_str (nomark _)))))
          (pss_cons (ps_set (i := 4) scLWin.nd rfl (.inl rfl) (pe_op op_add (pe_ix ix_tup (pv 3) pe_int (fun _ _ => rfl)) (pe_op op_fdivW (pe_op op_mulW (pv 2) (pe_ix ix_tup (pv 3) pe_int (fun _ _ => rfl))) (pe_ix ix_tup (pv 3) pe_int (fun _ _ => rfl)))))
          (pss_one (ps_ret (pe_tup (pa_cons (pv 4) (pa_cons (pv 4) pa_nil)))))) pss_nil)
        (pss_one (ps_if (pt_cmpR op_eq (pe_ix ix_tup (pv 3) pe_int (fun _ _ => rfl)) (pv 1) (nomark _)) (pss_one (ps_ret (pe_ix ix_seq (pe_ix ix_tup (pv 3) pe_int (fun _ _ => rfl)) (pe_op op_fdivW (pv 2) (pe_ix ix_tup (pv 3) pe_int (fun _ _ => rfl))) (fun _ _ => rfl)))) pss_nil))))
      (pss_one (ps_ret pe_non)), ?_⟩
    refine ⟨_, rfl, b, _, 2, .ref a, rfl, rfl, .inl (.inl eb), atI_nat (j := 2) rfl, a, rfl, for_seq (xs := us) ha.sq (fun i σ H1 => ∃ (y3 y4 : Option V), σ = [some (.ref b), some (.str pl), some (.int tin), y3, y4] ∧ H1 = H ∧ ∀ v H', WinV H' v (winF pl tin (ps.drop i)) → Same H H' → Q v H') ⟨none, none, rfl, rfl, q⟩
      (fun i σ H1 _ hP => ?_) (fun i x σ H1 hx hP => ?_) (fun σ H1 hP => ?_)⟩
    · obtain ⟨_, _, rfl, rfl, _⟩ := hP
      exact SqTo.refl
    · obtain ⟨y3, y4, rfl, rfl, q⟩ := hP
      obtain ⟨p, ep, hv⟩ := hus.at hx
      have hg := hgd p (List.mem_of_getElem? ep)
      rw [drop_at ep] at q
      cases p with
      | line p st lo by_ =>
        obtain ⟨g, rfl, eg⟩ := hv
        obtain ⟨_, st0, st1, lo0, lo1, b0, b1⟩ := hg
        refine ⟨_, rfl, g, _, 1, .str p, rfl, rfl, .inl (.inl eg), atI_nat (j := 1) rfl, _, rfl, rfl, _, rfl, ite2 (fun c => ?_) (fun c => ?_)⟩
        · have c' : p = pl := V.str.inj (of_decide_eq_true c)
          unfold winF at q
          rw [if_pos c'] at q
          refine ⟨_, rfl, g, _, 0, .str "line", rfl, rfl, .inl (.inl eg), atI_nat (j := 0) rfl, rfl, true, congrArg V.bl (decide_eq_true rfl), iteT ?_⟩
          refine ⟨_, rfl, g, _, 2, .int st, rfl, rfl, .inl (.inl eg), atI_nat (j := 2) rfl, _, rfl, _, rfl, g, _, 3, .int lo, rfl, rfl, .inl (.inl eg), atI_nat (j := 3) rfl, tin, lo, rfl, rfl, ?_, _, rfl, g, _, 4, .int by_, rfl, rfl, .inl (.inl eg), atI_nat (j := 4) rfl, tin * lo, by_, rfl, rfl, ⟨by omega, Nat.lt_trans (log_lt (by omega)) (by decide)⟩, st, _, rfl, rfl, ?_⟩
          · have z1 := log_lt (i := tin) (by omega)
            have z2 := log_lt (i := lo) (by omega)
            show tin.natAbs.log2 + lo.natAbs.log2 < 1000000
            omega
          · refine ⟨_, rfl, _, rfl, (by show 2 ≤ sizeLine; decide), fun Tt nTt => ?_⟩
            exact q _ _ ⟨Tt, rfl, upd_same⟩ (same_upd nTt)
        · have c' : ¬ p = pl := fun z => c (decide_eq_true (congrArg V.str z))
          unfold winF at q
          rw [if_neg c'] at q
          refine iteF ?_
          refine ⟨_, rfl, g, _, 1, .str p, rfl, rfl, .inl (.inl eg), atI_nat (j := 1) rfl, _, rfl, rfl, false, congrArg V.bl (Bool.eq_false_iff.mpr c), iteF ?_⟩
          exact ⟨_, _, rfl, rfl, q⟩
      | racks p per ss =>
        obtain ⟨g, sy, ws, rfl, eg, hsy, hws⟩ := hv
        obtain ⟨_, p0, p1, p2, p3⟩ := hg
        have hline : decide (V.str "racks" = V.str "line") = false := by decide +kernel
        unfold winF at q
        refine ⟨_, rfl, g, _, 1, .str p, rfl, rfl, .inl (.inl eg), atI_nat (j := 1) rfl, _, rfl, rfl, _, rfl, ite2 (fun c => ?_) (fun c => ?_)⟩
        · have c' : p = pl := V.str.inj (of_decide_eq_true c)
          rw [if_pos c'] at q
          refine ⟨_, rfl, g, _, 0, .str "racks", rfl, rfl, .inl (.inl eg), atI_nat (j := 0) rfl, rfl, false, congrArg V.bl hline, iteF ?_⟩
          refine ⟨_, rfl, g, _, 1, .str p, rfl, rfl, .inl (.inl eg), atI_nat (j := 1) rfl, _, rfl, rfl, true, congrArg V.bl c, iteT ?_⟩
          obtain ⟨j, ej, hj⟩ := stay_at h0 h1 p0 p2
          have hget : ss[j]? = some ss[j] := List.getElem?_eq_getElem hj
          obtain ⟨T0, f1, f2⟩ := hws.2 j _ hget
          refine ⟨_, rfl, g, _, 3, .ref sy, rfl, rfl, .inl (.inl eg), atI_nat (j := 3) rfl, _, rfl, _, rfl, g, _, 2, .int per, rfl, rfl, .inl (.inl eg), atI_nat (j := 2) rfl, tin, per, rfl, rfl, ⟨by omega, Nat.lt_trans (log_lt (by omega)) (by decide)⟩, sy, ws, tin / per, .ref T0, rfl, rfl, hsy.sq, by rw [ej]; exact atI_nat f1, ?_⟩
          refine q _ _ ?_ (Same.refl _)
          rw [ej, Int.toNat_natCast, hget]
          exact ⟨T0, rfl, f2⟩
        · have c' : ¬ p = pl := fun z => c (decide_eq_true (congrArg V.str z))
          rw [if_neg c'] at q
          refine iteF ?_
          refine ⟨_, rfl, g, _, 1, .str p, rfl, rfl, .inl (.inl eg), atI_nat (j := 1) rfl, _, rfl, rfl, false, congrArg V.bl (Bool.eq_false_iff.mpr c), iteF ?_⟩
          exact ⟨_, _, rfl, rfl, q⟩
    · obtain ⟨y3, y4, rfl, rfl, q⟩ := hP
      rw [hus.1, List.drop_length] at q
      exact q .non _ rfl (Same.refl _)
end
/-! ### the program's -/
abbrev sPassAt : Stmt := topS 5
theorem scPassAt : FnScope ["batch", "place", "passed"] ["batch", "place"] (defScope sPassAt) := ⟨rfl, rfl, rfl, by decide +kernel, rfl, by decide +kernel, by decide +kernel⟩
def PasO (H : Hp) (v : V) : Option Pas → Prop
  | none => v = .non
  | some p => PasV H v p
def spPassAt : Sp := fun vs H Q _ => ∃ (b : Addr) (mark pl : Str) (T : Int) (ps : List Pas), vs = [.ref b, .str pl] ∧ BatA H b mark T ps ∧ ∀ v, PasO H v (passF pl ps) → Q v H
section
variable {K : PySem.W.Frag} {mg : Str → Option Value} {P : Program} {w : World} {base : Heap}
theorem ok_passat {f : Addr} {fd : FuncData} {k : Nat} (F : Fun K "pass_at" "pass_at" sPassAt f fd) : FnOk P w K mg base CX0 (k + 1) f fd ["batch", "place"] spPassAt := by
  refine F.ok scPassAt (fun vs H Q E h => ?_) (fun cdv A outer s H vs Q E hr h => ?_)
  · obtain ⟨b, mark, pl, T, ps, rfl, _⟩ := h
    rfl
  · obtain ⟨b, mark, pl, T, ps, rfl, ⟨a, us, eb, ha, hus⟩, q⟩ := h
    refine ⟨_, pss_cons (ps_for PassesOwn.never rfl (pi_seq (pe_ix ix_tup (pv 0) pe_int (fun _ _ => rfl))) (pg_name (i := 2) scPassAt.nd rfl (.inl rfl))
        (pss_one (ps_if (pt_cmpR op_eq (pe_ix ix_tup (pv 2) pe_int (fun _ _ => rfl)) (pv 1) (nomark _)) (pss_one (ps_ret (pv 2))) pss_nil)))
      (pss_one (ps_ret pe_non)), ?_⟩
    refine ⟨_, rfl, b, _, 2, .ref a, rfl, rfl, .inl (.inl eb), atI_nat (j := 2) rfl, a, rfl, for_seq (xs := us) ha.sq (fun i σ H1 => ∃ (y2 : Option V), σ = [some (.ref b), some (.str pl), y2] ∧ H1 = H ∧ ∀ v, PasO H v (passF pl (ps.drop i)) → Q v H) ⟨none, rfl, rfl, q⟩
      (fun i σ H1 _ hP => ?_) (fun i x σ H1 hx hP => ?_) (fun σ H1 hP => ?_)⟩
    · obtain ⟨_, rfl, rfl, _⟩ := hP
      exact SqTo.refl
    · obtain ⟨y2, rfl, rfl, q⟩ := hP
      obtain ⟨p, ep, hv⟩ := hus.at hx
      rw [drop_at ep] at q
      obtain ⟨g, us', rfl, eg⟩ : ∃ (g : Addr) (r : List V), x = .ref g ∧ ∃ z, H1 g = some (.tup (.str z :: .str p.place :: r)) := by
        cases p with
        | line => obtain ⟨g, e, h⟩ := hv; exact ⟨g, _, e, _, h⟩
        | racks => obtain ⟨g, _, _, e, h, _⟩ := hv; exact ⟨g, _, e, _, h⟩
      obtain ⟨z, eg⟩ := eg
      unfold passF at q
      refine ⟨_, rfl, g, _, 1, .str p.place, rfl, rfl, .inl (.inl eg), atI_nat (j := 1) rfl, _, rfl, rfl, _, rfl, ite2 (fun c => ?_) (fun c => ?_)⟩
      · have c' : p.place = pl := V.str.inj (of_decide_eq_true c)
        rw [if_pos c'] at q
        exact ⟨_, rfl, q _ hv⟩
      · have c' : ¬ p.place = pl := fun z => c (decide_eq_true (congrArg V.str z))
        rw [if_neg c'] at q
        exact ⟨_, rfl, rfl, q⟩
    · obtain ⟨y2, rfl, rfl, q⟩ := hP
      rw [hus.1, List.drop_length] at q
      exact q .non rfl
end

/-- an expression, then a word of what it gives: what follows is shown once -/
def tMid (te : TE) : TE := fun σ H Q => ∃ M : V → Hp → Prop, te σ H M ∧ ∀ v H', M v H' → Q v H'
theorem pe_mid {X : Cx} {e : Expr} {te : TE} (h : PE X e te) : PE X e (tMid te) := ⟨fun pins s σ H Q I ⟨M, h1, h2⟩ => thn (h.run pins s σ H M I h1) fun _ _ ⟨y, H1, I1, r, q⟩ => ⟨y, H1, I1, r, h2 _ _ q⟩⟩

/-! ### handed in otherwise -/
theorem PasV.upd {H : Hp} {pa : Addr} {vs : List V} {ps : List Pas} {u : V} {p : Pas} {T : Int} {o : HO} (e : H pa = some (.lst vs)) (hv : PassA H vs ps) (h : PasV H u p) (g : p.Good T) (hT : 1 ≤ T) : PasV (upd H pa o) u p := by
  cases p with
  | line => obtain ⟨a, e', h⟩ := h; exact ⟨a, e', by rw [upd_ne (ne_of h e (fun z => nomatch z))]; exact h⟩
  | racks =>
    obtain ⟨a, s, us, e', h1, h2, h3⟩ := h
    have ns := stays_ne e hv h2 h3 (g.stays hT)
    exact ⟨a, s, us, e', by rw [upd_ne (ne_of h1 e (fun z => nomatch z))]; exact h1, h2.imp (fun h => by rw [upd_ne ns]; exact h) (fun h => by rw [upd_ne ns]; exact h), h3.upd_lst e⟩
/-- a walk over a list or a tuple that stays as it is -/
theorem for_seqH {K : PySem.W.Frag} {a : Addr} {xs : List V} {g : TG} {tb : TS} {D : Ends} {σ : L2.St} {H1 : Hp} (hq : SqH H1 a xs) (Pv : Nat → L2.St → Hp → Prop) (h0 : Pv 0 σ H1)
    (hl : ∀ i σ H', Pv i σ H' → (H1 a = some (.lst xs) → H' a = some (.lst xs)) ∧ (H1 a = some (.tup xs) → H' a = some (.tup xs)))
    (turn : ∀ i x σ H, xs[i]? = some x → Pv i σ H → g x σ H fun σ2 H2 => tb { D with nx := Pv (i + 1), ct := Pv (i + 1), bk := D.nx } σ2 H2) (fin : ∀ σ H, Pv xs.length σ H → D.nx σ H) :
    ((∃ xs, SqL K H1 a xs) ∧ ForR (Itl K a) g tb D σ H1) ∨ ((∃ xs, SqT K H1 a xs) ∧ ForR (Itt K a) g tb D σ H1) := by
  rcases hq with h | h
  · exact .inl ⟨⟨xs, SqL.of h⟩, for_list (xs := xs) Pv h0 (fun i σ H' _ p => SqL.of ((hl i σ H' p).1 h)) turn fin⟩
  · exact .inr ⟨⟨xs, .inl (.inl h)⟩, for_tup (xs := xs) Pv h0 (fun i σ H' _ p => .inl (.inl ((hl i σ H' p).2 h))) turn fin⟩
abbrev sHanded : Stmt := topS 28
theorem scHanded : FnScope ["_law_state", "_law_batch", "_law_passes", "_law_one"] ["_law_state", "_law_batch"] (defScope sHanded) := ⟨rfl, rfl, rfl, by decide +kernel, rfl, by decide +kernel, by decide +kernel⟩
def spHanded : Sp := fun vs H Q _ => ∃ (d c b : Addr) (t T : Int) (mark : Str) (ps : List Pas), vs = [.ref d, .ref b] ∧ StAt H d c t ∧ t + 100 < 2 ^ 60 ∧ BatA H b mark T ps ∧ 1 ≤ T ∧ (∀ p ∈ ps, p.Good T) ∧ ps.length ≤ 6 ∧
  ∀ (b' : Addr) (t' : Int) H', BatF (fun x => H x = none) H' b' mark T ps → t ≤ t' → t' ≤ t + 10 → StAt H' d c t' → Kp d c H H' → Q (.ref b') H'
section
variable {K : PySem.W.Frag} {mg : Str → Option Value} {P : Program} {w : World} {base : Heap}
theorem ok_handed {f : Addr} {fd : FuncData} (F : Fun K "_law_handed" "_law_handed" sHanded f fd) (CT : Cal P w K mg base 1 "_law_take" ["_law_state", "_law_many"] spTake) (ml : mg "list" = none) (mt : mg "tuple" = none) : FnOk P w K mg base CX0 2 f fd ["_law_state", "_law_batch"] spHanded := by
  refine F.ok scHanded (fun vs H Q E h => ?_) (fun cdv A outer s H vs Q E hr h => ?_)
  · obtain ⟨d, c, b, t, T, mark, ps, rfl, _⟩ := h
    rfl
  · obtain ⟨d, c, b, t, T, mark, ps, rfl, hS, ht, ⟨a, us, eb, ha, hus⟩, hT, hgd, hpl, q⟩ := h
    refine ⟨_, pss_cons (ps_set (i := 2) scHanded.nd rfl (.inl rfl) (pe_lst pa_nil))
      (pss_cons (ps_for PassesOwn.never rfl (pi_seq (pe_ix ix_tup (pv 1) pe_int (fun _ _ => rfl))) (pg_name (i := 3) scHanded.nd rfl (.inl rfl))
        (Evl.pss_cut (ps_if (pt_cmpR op_eq (pe_ix ix_tup (pv 3) pe_int (fun _ _ => rfl)) pe_str (nomark _))
          (pss_one (ps_set (i := 3) scHanded.nd rfl (.inl rfl) (pe_tup (pa_cons (pe_ix ix_tup (pv 3) pe_int (fun _ _ => rfl)) (pa_cons (pe_ix ix_tup (pv 3) pe_int (fun _ _ => rfl)) (pa_cons (pe_ix ix_tup (pv 3) pe_int (fun _ _ => rfl)) (pa_cons (pe_ix ix_list (pe_lst (pa_cons (pe_callTy call_list_of (by rfl) ml (by decide +kernel) (pa_cons (pe_ix ix_tup (pv 3) pe_int (fun _ _ => rfl)) pa_nil)) (pa_cons (pe_mid (pe_callTy call_tuple_of (by rfl) mt (by decide +kernel) (pa_cons (pe_ix ix_tup (pv 3) pe_int (fun _ _ => rfl)) pa_nil))) pa_nil))) (pe_own CT hr (by rfl) (pa_cons (pv 0) (pa_cons pe_int pa_nil))) (fun _ _ => rfl)) pa_nil))))))) pss_nil)
        (pss_one (ps_expr (pe_bm PySem.F.plainAttrs_list PySem.F.slot_list_append PySem.F.type_list_append mt_append (pv 2) (pa_cons (pv 3) pa_nil))))))
      (pss_one (ps_ret (pe_tup (pa_cons (pe_ix ix_tup (pv 1) pe_int (fun _ _ => rfl)) (pa_cons (pe_ix ix_tup (pv 1) pe_int (fun _ _ => rfl)) (pa_cons (pe_ix ix_list (pe_lst (pa_cons (pv 2) (pa_cons (pe_callTy call_tuple_of (by rfl) mt (by decide +kernel) (pa_cons (pv 2) pa_nil)) pa_nil))) (pe_own CT hr (by rfl) (pa_cons (pv 0) (pa_cons pe_int pa_nil))) (fun _ _ => rfl)) pa_nil))))))), ?_⟩
    refine ⟨Nat.zero_le _, fun pa npa => ?_⟩
    have spa := same_upd (o := .lst []) npa
    have offp := hS.off npa
    have hus0 := hus.same spa
    refine ⟨_, rfl, b, _, 2, .ref a, rfl, rfl, .inl (.inl (spa _ _ eb)), atI_nat (j := 2) rfl, a, rfl, for_seqH (xs := us) (ha.same spa) (fun i σ Hx => ∃ (t' : Int) (vs : List V) (y3 : Option V), σ = [some (.ref d), some (.ref b), some (.ref pa), y3] ∧ Hx pa = some (.lst vs) ∧ PassA Hx vs (ps.take i) ∧ t ≤ t' ∧ t' ≤ t + i ∧ StAt Hx d c t' ∧ Kp d c H Hx)
      ⟨t, [], none, rfl, upd_same, PassA.nil, by omega, by omega, hS.same spa, Kp.same d c spa⟩ (fun i σ Hx hP => ?_) (fun i x σ Hx hx hP => ?_) (fun σ Hx hP => ?_)⟩
    · obtain ⟨_, _, _, rfl, _, _, _, _, _, kx⟩ := hP
      have nap : a ≠ pa := fun z => by
        rcases ha with h | h <;> (rw [z, npa] at h; cases h)
      exact ⟨fun h => kx.lst hS (by rw [upd_ne nap] at h; exact h) hus.noInt, fun h => kx.tup hS (by rw [upd_ne nap] at h; exact h)⟩
    · obtain ⟨t', vs, y3, rfl, epa, hvs, u0, u1, hSx, kx⟩ := hP
      obtain ⟨p, ep, hv0⟩ := hus.at hx
      have hv := hv0.kp hS kx
      have hg := hgd p (List.mem_of_getElem? ep)
      have hi : i < 6 := Nat.lt_of_lt_of_le (List.getElem?_eq_some_iff.mp ep).1 hpl
      have etake : ps.take (i + 1) = ps.take i ++ [p] := by rw [List.take_add_one, ep]; rfl
      refine ⟨fun σ' H' => ∃ (v : V) (t6 : Int), σ' = [some (.ref d), some (.ref b), some (.ref pa), some v] ∧ H' pa = some (.lst vs) ∧ PassA H' vs (ps.take i) ∧ PasV H' v p ∧ t' ≤ t6 ∧ t6 ≤ t' + 1 ∧ StAt H' d c t6 ∧ Kp d c H H', ?_, fun σ' H' hM => ?_⟩
      · cases p with
        | line p st lo by_ =>
          obtain ⟨g, rfl, eg⟩ := hv
          have hline : decide (V.str "line" = V.str "racks") = false := by decide +kernel
          refine ⟨_, rfl, g, _, 0, .str "line", rfl, rfl, .inl (.inl eg), atI_nat (j := 0) rfl, rfl, false, congrArg V.bl hline, iteF ?_⟩
          exact ⟨.ref g, t', rfl, epa, hvs, ⟨g, rfl, eg⟩, by omega, by omega, hSx, kx⟩
        | racks p per ss =>
          obtain ⟨g, sy, ws, rfl, eg, hsy, hws⟩ := hv
          refine ⟨_, rfl, g, _, 0, .str "racks", rfl, rfl, .inl (.inl eg), atI_nat (j := 0) rfl, rfl, true, congrArg V.bl (decide_eq_true rfl), iteT ?_⟩
          refine ⟨_, rfl, g, _, 0, .str "racks", rfl, rfl, .inl (.inl eg), atI_nat (j := 0) rfl, _, rfl, g, _, 1, .str p, rfl, rfl, .inl (.inl eg), atI_nat (j := 1) rfl, _, rfl, g, _, 2, .int per, rfl, rfl, .inl (.inl eg), atI_nat (j := 2) rfl, ?_⟩
          refine ⟨_, rfl, g, _, 3, .ref sy, rfl, rfl, .inl (.inl eg), atI_nat (j := 3) rfl, sy, ws, rfl, hsy.elim (fun h => .inl (SqL.of h)) (fun h => .inr (.inl (.inl h))), fun g1 ng1 => ?_⟩
          have sg1 := same_upd (o := .lst ws) ng1
          have eg1 := upd_same (H := Hx) (a := g1) (o := .lst ws)
          have eg' := sg1 _ _ eg
          refine ⟨fun v H' => ∃ g2, v = .ref g2 ∧ H' g2 = some (.tup ws) ∧ Same (upd Hx g1 (.lst ws)) H', ?_, fun v H5 hM => ?_⟩
          · refine ⟨_, rfl, g, _, 3, .ref sy, rfl, rfl, .inl (.inl eg'), atI_nat (j := 3) rfl, sy, ws, rfl, ?_⟩
            rcases hsy with h | h
            · exact .inl ⟨SqL.of (sg1 _ _ h), fun g2 ng2 => ⟨g2, rfl, upd_same, same_upd ng2⟩⟩
            · exact .inr ⟨.inl (.inl (sg1 _ _ h)), sy, rfl, sg1 _ _ h, Same.refl _⟩
          obtain ⟨g2, rfl, eg2, s5⟩ := hM
          refine ⟨(by show 2 ≤ sizeLine; decide), fun z nz => ?_⟩
          have sz := same_upd (o := .lst [.ref g1, .ref g2]) nz
          have S6 := (sg1.trans s5).trans sz
          have offz := ((hSx.same sg1).same s5).off nz
          have off1 := hSx.off ng1
          have eg1' := sz _ _ (s5 _ _ eg1)
          have eg2' := sz _ _ eg2
          refine ⟨_, rfl, d, c, t', 2, rfl, hSx.same S6, by omega, by decide, by decide, fun r H7 r0 r1 hS7 k7 => ?_⟩
          have kx7 : Kp d c Hx H7 := (Kp.same d c S6).trans k7
          obtain ⟨gg, hat, hgg⟩ : ∃ gg, atI [V.ref g1, V.ref g2] r = some (.ref gg) ∧ SqH H7 gg ws := by
            have : r = 0 ∨ r = 1 := by omega
            rcases this with rfl | rfl
            · exact ⟨g1, rfl, .inl (k7 _ _ off1.1 off1.2 eg1')⟩
            · exact ⟨g2, rfl, .inr (k7.tup (hSx.same S6) eg2')⟩
          refine ⟨z, _, r, .ref gg, rfl, rfl, SqL.of (k7 _ _ offz.1 offz.2 upd_same), hat, (by show 4 ≤ sizeLine; decide), fun Tt nTt => ?_⟩
          have sT := same_upd (o := .tup [.str "racks", .str p, .int per, .ref gg]) nTt
          have kall := kx7.trans (Kp.same d c sT)
          exact ⟨.ref Tt, t' + 1, rfl, kall _ _ offp.1 offp.2 epa, hvs.kp hSx kall, ⟨Tt, gg, ws, rfl, upd_same, hgg.same sT, (hws.kp hSx kx7).same sT⟩, by omega, by omega, hS7.same sT, kx.trans kall⟩
      · obtain ⟨v, t6, rfl, epa6, hvs6, hv6, w0, w1, hS6, k6⟩ := hM
        refine ⟨_, rfl, .inl ⟨rfl, _, SqL.of epa6⟩, _, rfl, pa, _, _, rfl, rfl, epa6, small1000 (by have := hvs6.1; rw [List.length_take] at this; omega), t6, vs ++ [v], _, rfl, upd_same, ?_, by omega, by omega, hS6.upd offp.1 offp.2, fun b o b1 b2 e => ?_⟩
        · have hnew := hvs6.app (PassA.one hv6)
          rw [etake]
          exact ⟨hnew.1, fun j u q e1 e2 => PasV.upd epa6 hvs6 (hnew.2 j u q e1 e2) (by
            have := List.mem_of_getElem? e2
            rw [← etake] at this
            exact hgd q (List.mem_of_mem_take this)) hT⟩
        · rw [upd_ne (ne_of_none e npa)]
          exact k6 b o b1 b2 e
    · obtain ⟨t', vs, y3, rfl, epa, hvs, u0, u1, hSx, kx⟩ := hP
      rw [hus.1] at u1
      rw [hus.1, List.take_length] at hvs
      have ebx := kx.tup hS eb
      refine ⟨_, rfl, b, _, 0, .str mark, rfl, rfl, .inl (.inl ebx), atI_nat (j := 0) rfl, _, rfl, b, _, 1, .int T, rfl, rfl, .inl (.inl ebx), atI_nat (j := 1) rfl, ?_⟩
      refine ⟨_, rfl, _, rfl, pa, vs, rfl, .inl ⟨SqL.of epa, fun g2 ng2 => ?_⟩⟩
      have sg2 := same_upd (o := .tup vs) ng2
      refine ⟨(by show 2 ≤ sizeLine; decide), fun z nz => ?_⟩
      have sz := same_upd (o := .lst [.ref pa, .ref g2]) nz
      have S := sg2.trans sz
      have offz := (hSx.same sg2).off nz
      have eg2 := sz _ _ (upd_same (H := Hx) (a := g2) (o := .tup vs))
      refine ⟨_, rfl, d, c, t', 2, rfl, hSx.same S, by omega, by decide, by decide, fun r H7 r0 r1 hS7 k7 => ?_⟩
      have kx7 : Kp d c Hx H7 := (Kp.same d c S).trans k7
      obtain ⟨gg, hat, hgg, hgn⟩ : ∃ gg, atI [V.ref pa, V.ref g2] r = some (.ref gg) ∧ SqH H7 gg vs ∧ H gg = none := by
        have : r = 0 ∨ r = 1 := by omega
        rcases this with rfl | rfl
        · exact ⟨pa, rfl, .inl (kx7 _ _ offp.1 offp.2 epa), npa⟩
        · exact ⟨g2, rfl, .inr (k7.tup (hSx.same S) eg2), Kp.free kx hSx ng2⟩
      refine ⟨z, _, r, .ref gg, rfl, rfl, SqL.of (k7 _ _ offz.1 offz.2 upd_same), hat, (by show 3 ≤ sizeLine; decide), fun Tt nTt => ?_⟩
      have sT := same_upd (o := .tup [.str mark, .int T, .ref gg]) nTt
      exact q Tt (t' + 1) _ ⟨gg, vs, upd_same, hgg.same sT, (hvs.kp hSx kx7).same sT, hgn⟩ (by omega) (by omega) (hS7.same sT) ((kx.trans kx7).trans (Kp.same d c sT))
end

abbrev LcR (J : It) (g : TG) (tt : TT) (te : TE) (vs : List Nat) (σ : L2.St) (D : Addr) (Qd : Addr → Hp → Prop) (H1 : Hp) : Prop := ∃ W : Nat → Nat → Hp → Prop, (∃ m, W 0 m (upd H1 D (.lst []))) ∧ ∀ i m H, W i m H →
  (J.stop i H ∧ Qd D H) ∨ (J.go i H ∧ ∃ Nx : Hp → Prop, (∀ H', Nx H' → ∃ m', m' < m ∧ W (i + 1) m' H') ∧ ∀ x H', J.yld i H x H' → g x (wipe σ vs) H' fun σ2 H2 => wipe σ2 vs = wipe σ vs ∧ tt σ2 H2 fun b H3 => if b = true then
    te σ2 H3 fun y H4 => ∃ acc, H4 D = some (.lst acc) ∧ acc.length < sizeLine ∧ Nx (upd H4 D (.lst (acc ++ [y]))) else Nx H3)
theorem lc_seq {K : PySem.W.Frag} {a : Addr} {xs : List V} {g : TG} {tt : TT} {te : TE} {vs : List Nat} {σ : L2.St} {H1 : Hp} {Qd : Addr → Hp → Prop} (hq : Sq K H1 a xs) (Pv : Addr → Nat → Hp → Prop) (h0 : ∀ D, H1 D = none → Pv D 0 (upd H1 D (.lst [])))
    (still : ∀ D i H', H1 D = none → Pv D i H' → SqTo K H1 H' a xs)
    (turn : ∀ D i x H', H1 D = none → xs[i]? = some x → Pv D i H' → g x (wipe σ vs) H' fun σ2 H2 => wipe σ2 vs = wipe σ vs ∧ tt σ2 H2 fun b H3 =>
      if b = true then te σ2 H3 fun y H4 => ∃ acc, H4 D = some (.lst acc) ∧ acc.length < sizeLine ∧ Pv D (i + 1) (upd H4 D (.lst (acc ++ [y]))) else Pv D (i + 1) H3) (fin : ∀ D H', H1 D = none → Pv D xs.length H' → Qd D H') :
    ((∃ xs, SqL K H1 a xs) ∧ ∀ D, H1 D = none → LcR (Itl K a) g tt te vs σ D Qd H1) ∨ ((∃ xs, SqT K H1 a xs) ∧ ∀ D, H1 D = none → LcR (Itt K a) g tt te vs σ D Qd H1) := by
  rcases hq with h | h
  · exact .inl ⟨⟨xs, h⟩, fun D nD => lc_list (xs := xs) (Pv D) (h0 D nD) (fun i H' _ p => (still D i H' nD p).1 h) (fun i x H' e p => turn D i x H' nD e p) (fun H' p => fin D H' nD p)⟩
  · exact .inr ⟨⟨xs, h⟩, fun D nD => lc_tup (xs := xs) (Pv D) (h0 D nD) (fun i H' _ p => (still D i H' nD p).2 h) (fun i x H' e p => turn D i x H' nD e p) (fun H' p => fin D H' nD p)⟩

/-! ### sets by stretches: the mathematics -/
theorem inB_iff {n a b : Int} : inB n a b = true ↔ a ≤ n ∧ n ≤ b := by
  unfold inB
  rw [Bool.and_eq_true, decide_eq_true_eq (p := a ≤ n), decide_eq_true_eq]
theorem anyP_iff {n : Int} {ps : List (Int × Int)} : anyP (inB n) ps = true ↔ ∃ p ∈ ps, p.1 ≤ n ∧ n ≤ p.2 := by
  unfold anyP
  rw [List.any_eq_true]
  constructor
  · rintro ⟨p, hp, e⟩
    exact ⟨p, hp, inB_iff.mp e⟩
  · rintro ⟨p, hp, e⟩
    exact ⟨p, hp, inB_iff.mpr e⟩
/-- the same numbers -/
def Alike (ps qs : List (Int × Int)) : Prop := ∀ n : Int, (∃ p ∈ ps, p.1 ≤ n ∧ n ≤ p.2) ↔ ∃ p ∈ qs, p.1 ≤ n ∧ n ≤ p.2
theorem Alike.any {ps qs : List (Int × Int)} (h : Alike ps qs) (n : Int) : anyP (inB n) ps = anyP (inB n) qs := by
  rw [Bool.eq_iff_iff, anyP_iff, anyP_iff]
  exact h n
theorem Alike.symm {ps qs : List (Int × Int)} (h : Alike ps qs) : Alike qs ps := fun n => (h n).symm
theorem Alike.trans {ps qs rs : List (Int × Int)} (h : Alike ps qs) (h' : Alike qs rs) : Alike ps rs := fun n => (h n).trans (h' n)
theorem Alike.of_mem {ps qs : List (Int × Int)} (h : ∀ p, p ∈ ps ↔ p ∈ qs) : Alike ps qs := fun n => ⟨fun ⟨p, hp, e⟩ => ⟨p, (h p).mp hp, e⟩, fun ⟨p, hp, e⟩ => ⟨p, (h p).mpr hp, e⟩⟩
/-- of each set of numbers there is just one list -/
theorem ris_one : ∀ {rs rs' : List (Int × Int)} {lo lo' : Int}, Ris lo rs → Ris lo' rs' → Alike rs rs' → rs = rs'
  | [], [], _, _, _, _, _ => by rfl
  | [], q :: r, _, _, _, h', e => by
    obtain ⟨p, hp, _⟩ := (e q.1).mpr ⟨q, List.mem_cons_self .., Int.le_refl _, h'.2.1⟩
    exact nomatch hp
  | q :: r, [], _, _, h, _, e => by
    obtain ⟨p, hp, _⟩ := (e q.1).mp ⟨q, List.mem_cons_self .., Int.le_refl _, h.2.1⟩
    exact nomatch hp
  | (a, b) :: r, (a', b') :: r', lo, lo', h, h', e => by
    have hb : a ≤ b := h.2.1
    have hb' : a' ≤ b' := h'.2.1
    have tl : ∀ p ∈ r, b + 2 ≤ p.1 ∧ p.1 ≤ p.2 := Ris.le h.2.2
    have tl' : ∀ p ∈ r', b' + 2 ≤ p.1 ∧ p.1 ≤ p.2 := Ris.le h'.2.2
    have m1 : a' ≤ a := by
      obtain ⟨p, hp, e1, e2⟩ := (e a).mp ⟨(a, b), List.mem_cons_self .., Int.le_refl _, hb⟩
      rcases List.mem_cons.mp hp with z | z
      · rw [z] at e1; exact e1
      · have := tl' p z; omega
    have m2 : a ≤ a' := by
      obtain ⟨p, hp, e1, e2⟩ := (e a').mpr ⟨(a', b'), List.mem_cons_self .., Int.le_refl _, hb'⟩
      rcases List.mem_cons.mp hp with z | z
      · rw [z] at e1; exact e1
      · have := tl p z; omega
    have ea : a = a' := by omega
    have n1 : ¬ b < b' := fun lt => by
      obtain ⟨p, hp, e1, e2⟩ := (e (b + 1)).mpr ⟨(a', b'), List.mem_cons_self .., by show a' ≤ b + 1; omega, by show b + 1 ≤ b'; omega⟩
      rcases List.mem_cons.mp hp with z | z
      · rw [z] at e2; have : b + 1 ≤ b := e2; omega
      · have := tl p z; omega
    have n2 : ¬ b' < b := fun lt => by
      obtain ⟨p, hp, e1, e2⟩ := (e (b' + 1)).mp ⟨(a, b), List.mem_cons_self .., by show a ≤ b' + 1; omega, by show b' + 1 ≤ b; omega⟩
      rcases List.mem_cons.mp hp with z | z
      · rw [z] at e2; have : b' + 1 ≤ b' := e2; omega
      · have := tl' p z; omega
    have eb : b = b' := by omega
    subst ea eb
    have er : Alike r r' := fun n => by
      constructor
      · rintro ⟨p, hp, e1, e2⟩
        obtain ⟨p', hp', f1, f2⟩ := (e n).mp ⟨p, List.mem_cons_of_mem _ hp, e1, e2⟩
        rcases List.mem_cons.mp hp' with z | z
        · rw [z] at f2
          have : n ≤ b := f2
          have := tl p hp
          omega
        · exact ⟨p', z, f1, f2⟩
      · rintro ⟨p, hp, e1, e2⟩
        obtain ⟨p', hp', f1, f2⟩ := (e n).mpr ⟨p, List.mem_cons_of_mem _ hp, e1, e2⟩
        rcases List.mem_cons.mp hp' with z | z
        · rw [z] at f2
          have : n ≤ b := f2
          have := tl' p hp
          omega
        · exact ⟨p', z, f1, f2⟩
    rw [ris_one h.2.2 h'.2.2 er]
theorem Ris.front : ∀ {lo : Int} {rs : List (Int × Int)} {q : Int × Int}, Ris lo (rs ++ [q]) → Ris lo rs ∧ (∀ r ∈ rs, r.2 + 2 ≤ q.1) ∧ lo ≤ q.1 ∧ q.1 ≤ q.2
  | lo, [], q, h => ⟨True.intro, (fun _ z => nomatch z), h.1, h.2.1⟩
  | lo, r :: rs, q, h => by
    obtain ⟨h1, h2, h3, h4⟩ := Ris.front h.2.2
    refine ⟨⟨h.1, h.2.1, h1⟩, fun x hx => ?_, by have := h.1; have := h.2.1; omega, h4⟩
    rcases List.mem_cons.mp hx with z | z
    · rw [z]; exact h3
    · exact h2 x z
/-- what is told of pairs: a set of just their numbers -/
structure SetLike (ps rs : List (Int × Int)) : Prop where
  ris : ∃ lo, Ris lo rs
  same : Alike rs ps
  len : rs.length ≤ ps.length
/-- between two turns: the pairs so far, rising by their firsts, and what is merged of them -/
structure Mrg (pre rs : List (Int × Int)) : Prop extends SetLike pre rs where
  firsts : ∀ r ∈ rs, ∃ p ∈ pre, p.1 = r.1
theorem alike_snoc {pre : List (Int × Int)} {rs rs' : List (Int × Int)} {p : Int × Int} (h : Alike rs pre) (e : ∀ n, (∃ q ∈ rs', q.1 ≤ n ∧ n ≤ q.2) ↔ (∃ q ∈ rs, q.1 ≤ n ∧ n ≤ q.2) ∨ (p.1 ≤ n ∧ n ≤ p.2)) : Alike rs' (pre ++ [p]) := fun n => by
  rw [e n, h n]
  constructor
  · rintro (⟨q, hq, z⟩ | z)
    · exact ⟨q, List.mem_append_left _ hq, z⟩
    · exact ⟨p, List.mem_append_right _ (List.mem_singleton.mpr rfl), z⟩
  · rintro ⟨q, hq, z⟩
    rcases List.mem_append.mp hq with y | y
    · exact .inl ⟨q, y, z⟩
    · rw [List.mem_singleton.mp y] at z
      exact .inr z
theorem Mrg.join {pre rs : List (Int × Int)} {a b : Int} {p : Int × Int} (m : Mrg pre (rs ++ [(a, b)])) (hp : p.1 ≤ p.2) (ord : ∀ q ∈ pre, q.1 ≤ p.1) (near : p.1 ≤ b + 1) : Mrg (pre ++ [p]) (rs ++ [(a, if p.2 > b then p.2 else b)]) := by
  obtain ⟨lo, hr⟩ := m.ris
  obtain ⟨h1, h2, h3, h4⟩ := Ris.front hr
  obtain ⟨q, hq, eq⟩ := m.firsts (a, b) (List.mem_append_right _ (List.mem_singleton.mpr rfl))
  have hap : a ≤ p.1 := by have := ord q hq; have : q.1 = a := eq; omega
  have hab : a ≤ b := h4
  have big : a ≤ (if p.2 > b then p.2 else b) := by split <;> omega
  refine ⟨⟨⟨lo, h1.snoc h3 h2 big⟩, alike_snoc m.same fun n => ?_, ?_⟩, fun r hr => ?_⟩
  · constructor
    · rintro ⟨q, hq, z⟩
      rcases List.mem_append.mp hq with y | y
      · exact .inl ⟨q, List.mem_append_left _ y, z⟩
      · rw [List.mem_singleton.mp y] at z
        have z1 : a ≤ n := z.1
        have z2 : n ≤ (if p.2 > b then p.2 else b) := z.2
        by_cases c : n ≤ b
        · exact .inl ⟨(a, b), List.mem_append_right _ (List.mem_singleton.mpr rfl), z1, c⟩
        · refine .inr ⟨by omega, ?_⟩
          split at z2 <;> omega
    · rintro (⟨q, hq, z⟩ | z)
      · rcases List.mem_append.mp hq with y | y
        · exact ⟨q, List.mem_append_left _ y, z⟩
        · rw [List.mem_singleton.mp y] at z
          refine ⟨_, List.mem_append_right _ (List.mem_singleton.mpr rfl), z.1, ?_⟩
          have z2 : n ≤ b := z.2
          show n ≤ (if p.2 > b then p.2 else b)
          split <;> omega
      · refine ⟨_, List.mem_append_right _ (List.mem_singleton.mpr rfl), by show a ≤ n; omega, ?_⟩
        show n ≤ (if p.2 > b then p.2 else b)
        split <;> omega
  · have := m.len
    rw [List.length_append, List.length_append] at *
    show rs.length + 1 ≤ pre.length + 1
    have : rs.length + 1 ≤ pre.length := this
    omega
  · rcases List.mem_append.mp hr with y | y
    · obtain ⟨q, hq, e⟩ := m.firsts r (List.mem_append_left _ y)
      exact ⟨q, List.mem_append_left _ hq, e⟩
    · rw [List.mem_singleton.mp y]
      exact ⟨q, List.mem_append_left _ hq, eq⟩
theorem Mrg.new {pre rs : List (Int × Int)} {p : Int × Int} (m : Mrg pre rs) (hp : p.1 ≤ p.2) (ord : ∀ q ∈ pre, q.1 ≤ p.1) (far : ∀ r ∈ rs, r.2 + 2 ≤ p.1) : Mrg (pre ++ [p]) (rs ++ [p]) := by
  obtain ⟨lo, hr⟩ := m.ris
  refine ⟨⟨?_, alike_snoc m.same fun n => ?_, by have := m.len; rw [List.length_append, List.length_append]; show rs.length + 1 ≤ pre.length + 1; omega⟩, fun r hr => ?_⟩
  · cases rs with
    | nil => exact ⟨p.1, Int.le_refl _, hp, True.intro⟩
    | cons q r =>
      refine ⟨lo, hr.snoc ?_ far hp⟩
      have := hr.le q (List.mem_cons_self ..)
      have := far q (List.mem_cons_self ..)
      omega
  · constructor
    · rintro ⟨q, hq, z⟩
      rcases List.mem_append.mp hq with y | y
      · exact .inl ⟨q, y, z⟩
      · rw [List.mem_singleton.mp y] at z; exact .inr z
    · rintro (⟨q, hq, z⟩ | z)
      · exact ⟨q, List.mem_append_left _ hq, z⟩
      · exact ⟨p, List.mem_append_right _ (List.mem_singleton.mpr rfl), z⟩
  · rcases List.mem_append.mp hr with y | y
    · obtain ⟨q, hq, e⟩ := m.firsts r y
      exact ⟨q, List.mem_append_left _ hq, e⟩
    · rw [List.mem_singleton.mp y]
      exact ⟨p, List.mem_append_right _ (List.mem_singleton.mpr rfl), rfl⟩
theorem Mrg.nil : Mrg [] [] := ⟨⟨⟨0, True.intro⟩, fun _ => Iff.rfl, Nat.le_refl _⟩, fun _ z => nomatch z⟩

/-! ### sets put together: the mathematics -/
def InS (ps : List (Int × Int)) (n : Int) : Prop := ∃ p ∈ ps, p.1 ≤ n ∧ n ≤ p.2
theorem inS_nil {n : Int} : ¬ InS [] n := fun ⟨_, h, _⟩ => nomatch h
theorem inS_cons {p : Int × Int} {r : List (Int × Int)} {n : Int} : InS (p :: r) n ↔ (p.1 ≤ n ∧ n ≤ p.2) ∨ InS r n := by
  constructor
  · rintro ⟨q, hq, e⟩
    rcases List.mem_cons.mp hq with z | z
    · rw [z] at e; exact .inl e
    · exact .inr ⟨q, z, e⟩
  · rintro (e | ⟨q, hq, e⟩)
    · exact ⟨p, List.mem_cons_self .., e⟩
    · exact ⟨q, List.mem_cons_of_mem _ hq, e⟩
theorem inS_append {ps qs : List (Int × Int)} {n : Int} : InS (ps ++ qs) n ↔ InS ps n ∨ InS qs n := by
  constructor
  · rintro ⟨q, hq, e⟩
    rcases List.mem_append.mp hq with z | z
    · exact .inl ⟨q, z, e⟩
    · exact .inr ⟨q, z, e⟩
  · rintro (⟨q, hq, e⟩ | ⟨q, hq, e⟩)
    · exact ⟨q, List.mem_append_left _ hq, e⟩
    · exact ⟨q, List.mem_append_right _ hq, e⟩
theorem Ris.low {lo n : Int} {ps : List (Int × Int)} (h : Ris lo ps) (e : InS ps n) : lo ≤ n := by
  obtain ⟨p, hp, e1, e2⟩ := e
  have := h.le p hp
  omega
theorem Ris.mono : ∀ {lo lo' : Int} {ps : List (Int × Int)}, Ris lo ps → lo' ≤ lo → Ris lo' ps
  | _, _, [], _, _ => True.intro
  | _, _, _ :: _, h, e => ⟨Int.le_trans e h.1, h.2⟩
def mxI (i j : Int) : Int := if j > i then j else i
def mnI (i j : Int) : Int := if j < i then j else i
theorem mxI_le {i j n : Int} : mxI i j ≤ n ↔ i ≤ n ∧ j ≤ n := by unfold mxI; split <;> omega
theorem le_mxI {i j n : Int} : n ≤ mxI i j ↔ n ≤ i ∨ n ≤ j := by unfold mxI; split <;> omega
theorem le_mnI {i j n : Int} : n ≤ mnI i j ↔ n ≤ i ∧ n ≤ j := by unfold mnI; split <;> omega
theorem mnI_le {i j n : Int} : mnI i j ≤ n ↔ i ≤ n ∨ j ≤ n := by unfold mnI; split <;> omega
/-- going through both at once -/
def bothF : List (Int × Int) → List (Int × Int) → List (Int × Int)
  | [], _ => []
  | _ :: _, [] => []
  | p :: r, q :: s => (if mxI p.1 q.1 ≤ mnI p.2 q.2 then [(mxI p.1 q.1, mnI p.2 q.2)] else []) ++ (if p.2 < q.2 then bothF r (q :: s) else bothF (p :: r) s)
termination_by ps qs => ps.length + qs.length
theorem bothF_nil (ps : List (Int × Int)) : bothF ps [] = [] := by cases ps <;> rw [bothF]
theorem bothF_ris : ∀ {ps qs : List (Int × Int)} {lo lo' k : Int}, Ris lo ps → Ris lo' qs → (k ≤ lo ∨ k ≤ lo') → Ris k (bothF ps qs)
  | [], _, _, _, _, _, _, _ => by rw [bothF]; exact True.intro
  | _ :: _, [], _, _, _, _, _, _ => by rw [bothF]; exact True.intro
  | p :: r, q :: s, lo, lo', k, h, h', hk => by
    rw [bothF]
    have h1 := h.1
    have h2 := h.2.1
    have h1' := h'.1
    have h2' := h'.2.1
    by_cases c : mxI p.1 q.1 ≤ mnI p.2 q.2
    · rw [if_pos c]
      refine ⟨?_, c, ?_⟩
      · show k ≤ mxI p.1 q.1
        rw [le_mxI]
        omega
      · by_cases d : p.2 < q.2
        · rw [if_pos d]
          refine bothF_ris h.2.2 h' (.inl ?_)
          show mnI p.2 q.2 + 2 ≤ p.2 + 2
          have : mnI p.2 q.2 ≤ p.2 := mnI_le.mpr (.inl (Int.le_refl _))
          omega
        · rw [if_neg d]
          refine bothF_ris h h'.2.2 (.inr ?_)
          show mnI p.2 q.2 + 2 ≤ q.2 + 2
          have : mnI p.2 q.2 ≤ q.2 := mnI_le.mpr (.inr (Int.le_refl _))
          omega
    · rw [if_neg c, List.nil_append]
      by_cases d : p.2 < q.2
      · rw [if_pos d]
        refine bothF_ris h.2.2 h' ?_
        omega
      · rw [if_neg d]
        refine bothF_ris h h'.2.2 ?_
        omega
termination_by ps qs => ps.length + qs.length
theorem bothF_in {n : Int} : ∀ {ps qs : List (Int × Int)} {lo lo' : Int}, Ris lo ps → Ris lo' qs → (InS (bothF ps qs) n ↔ InS ps n ∧ InS qs n)
  | [], _, _, _, _, _ => by rw [bothF]; exact ⟨fun h => absurd h inS_nil, fun h => h.1⟩
  | _ :: _, [], _, _, _, _ => by rw [bothF]; exact ⟨fun h => absurd h inS_nil, fun h => h.2⟩
  | p :: r, q :: s, lo, lo', h, h' => by
    rw [bothF, inS_append, inS_cons, inS_cons]
    have e1 : InS (if mxI p.1 q.1 ≤ mnI p.2 q.2 then [(mxI p.1 q.1, mnI p.2 q.2)] else []) n ↔ (p.1 ≤ n ∧ n ≤ p.2) ∧ (q.1 ≤ n ∧ n ≤ q.2) := by
      by_cases c : mxI p.1 q.1 ≤ mnI p.2 q.2
      · rw [if_pos c, inS_cons]
        show ((mxI p.1 q.1 ≤ n ∧ n ≤ mnI p.2 q.2) ∨ InS [] n) ↔ _
        rw [mxI_le, le_mnI]
        constructor
        · rintro (z | z)
          · omega
          · exact absurd z inS_nil
        · intro z
          exact .inl (by omega)
      · rw [if_neg c]
        constructor
        · exact fun z => absurd z inS_nil
        · intro z
          refine absurd (Int.le_trans (mxI_le.mpr ⟨z.1.1, z.2.1⟩) (le_mnI.mpr ⟨z.1.2, z.2.2⟩)) c
    rw [e1]
    by_cases d : p.2 < q.2
    · rw [if_pos d, bothF_in h.2.2 h', inS_cons]
      have no : InS s n → ¬ n ≤ p.2 := fun z => by
        have := h'.2.2.low z
        omega
      constructor
      · rintro (⟨z1, z2⟩ | ⟨z1, z2⟩)
        · exact ⟨.inl z1, .inl z2⟩
        · exact ⟨.inr z1, z2⟩
      · rintro ⟨z1 | z1, z2 | z2⟩
        · exact .inl ⟨z1, z2⟩
        · exact absurd z1.2 (no z2)
        · exact .inr ⟨z1, .inl z2⟩
        · exact .inr ⟨z1, .inr z2⟩
    · rw [if_neg d, bothF_in h h'.2.2, inS_cons]
      have no : InS r n → ¬ n ≤ q.2 := fun z => by
        have := h.2.2.low z
        omega
      constructor
      · rintro (⟨z1, z2⟩ | ⟨z1, z2⟩)
        · exact ⟨.inl z1, .inl z2⟩
        · exact ⟨z1, .inr z2⟩
      · rintro ⟨z1 | z1, z2 | z2⟩
        · exact .inl ⟨z1, z2⟩
        · exact .inr ⟨.inl z1, z2⟩
        · exact absurd z2.2 (no z1)
        · exact .inr ⟨.inr z1, z2⟩
termination_by ps qs => ps.length + qs.length
/-- what lies between the stretches of a set -/
def gapsF (e : Int) : Int → List (Int × Int) → List (Int × Int)
  | st, [] => [(st, e)]
  | st, p :: r => (st, mnI (p.1 - 1) e) :: gapsF e (mxI st (p.2 + 1)) r
theorem gapsF_length (e : Int) : ∀ (qs : List (Int × Int)) (st : Int), (gapsF e st qs).length = qs.length + 1
  | [], _ => rfl
  | _ :: r, _ => by rw [gapsF, List.length_cons, gapsF_length e r, List.length_cons]
theorem gapsF_in {e n : Int} : ∀ {qs : List (Int × Int)} {lo st : Int}, Ris lo qs → (InS (gapsF e st qs) n ↔ (st ≤ n ∧ n ≤ e) ∧ ¬ InS qs n)
  | [], _, st, _ => by
    rw [gapsF, inS_cons]
    constructor
    · rintro (z | z)
      · exact ⟨z, inS_nil⟩
      · exact absurd z inS_nil
    · exact fun z => .inl z.1
  | p :: r, lo, st, h => by
    rw [gapsF, inS_cons, gapsF_in h.2.2, inS_cons]
    show ((st ≤ n ∧ n ≤ mnI (p.1 - 1) e) ∨ (mxI st (p.2 + 1) ≤ n ∧ n ≤ e) ∧ ¬ InS r n) ↔ _
    rw [le_mnI, mxI_le]
    have h2 := h.2.1
    have no : n ≤ p.2 + 1 → ¬ InS r n := fun z y => by
      have := h.2.2.low y
      omega
    constructor
    · rintro (z | ⟨z, y⟩)
      · refine ⟨by omega, ?_⟩
        rintro (x | x)
        · omega
        · exact no (by omega) x
      · refine ⟨by omega, ?_⟩
        rintro (x | x)
        · omega
        · exact y x
    · rintro ⟨z, y⟩
      by_cases c : n < p.1
      · exact .inl (by omega)
      · refine .inr ⟨?_, fun x => y (.inr x)⟩
        have : ¬ (p.1 ≤ n ∧ n ≤ p.2) := fun x => y (.inl x)
        omega
/-- a set of just the numbers of which pr holds -/
structure Told (pr : Int → Prop) (rs : List (Int × Int)) : Prop where
  ris : ∃ lo, Ris lo rs
  same : ∀ n, InS rs n ↔ pr n
theorem Told.one {pr pr' : Int → Prop} {rs rs' : List (Int × Int)} (h : Told pr rs) (h' : Told pr' rs') (e : ∀ n, pr n ↔ pr' n) : rs = rs' := by
  obtain ⟨lo, r⟩ := h.ris
  obtain ⟨lo', r'⟩ := h'.ris
  exact ris_one r r' fun n => (h.same n).trans ((e n).trans (h'.same n).symm)
theorem Told.of {lo : Int} {rs : List (Int × Int)} (h : Ris lo rs) : Told (InS rs) rs := ⟨⟨lo, h⟩, fun _ => Iff.rfl⟩
theorem SetLike.told {ps rs : List (Int × Int)} (h : SetLike ps rs) : Told (InS ps) rs := ⟨h.ris, h.same⟩
theorem Told.cong {pr pr' : Int → Prop} {rs : List (Int × Int)} (h : Told pr rs) (e : ∀ n, pr n ↔ pr' n) : Told pr' rs := ⟨h.ris, fun n => (h.same n).trans (e n)⟩
theorem Told.nneg {pr : Int → Prop} {rs : List (Int × Int)} (h : Told pr rs) (hn : ∀ n, pr n → 0 ≤ n) : Ris 0 rs := by
  obtain ⟨lo, r⟩ := h.ris
  cases rs with
  | nil => exact True.intro
  | cons p q => exact ⟨hn _ ((h.same _).mp (inS_cons.mpr (.inl ⟨Int.le_refl _, r.2.1⟩))), r.2⟩

theorem cut_back (xs : List V) (m : Nat) : cutV xs (some (m : Int)) none = xs.drop m := by
  unfold cutV
  rw [HT.sIx_none, HT.sIx_nat]
  by_cases h : m ≤ xs.length
  · rw [Nat.min_eq_left h]
    exact List.take_of_length_le (by rw [List.length_drop]; exact Nat.le_refl _)
  · rw [Nat.min_eq_right (by omega), Nat.sub_self, List.take_zero, List.drop_eq_nil_of_le (by omega)]
theorem _root_.GP.Prs.append {H : Hp} {us ws : List V} {ps qs : List (Int × Int)} (h : Prs H us ps) (h' : Prs H ws qs) : Prs H (us ++ ws) (ps ++ qs) := by
  refine ⟨by rw [List.length_append, List.length_append, h.1, h'.1], fun i p e => ?_⟩
  by_cases hi : i < ps.length
  · rw [List.getElem?_append_left hi] at e
    rw [List.getElem?_append_left (by rw [h.1]; exact hi)]
    exact h.2 i p e
  · rw [List.getElem?_append_right (by omega)] at e
    rw [List.getElem?_append_right (by rw [h.1]; omega), h.1]
    exact h'.2 _ p e
theorem _root_.GP.Prs.take {H : Hp} {us : List V} {ps : List (Int × Int)} (h : Prs H us ps) (n : Nat) : Prs H (us.take n) (ps.take n) := by
  refine ⟨by rw [List.length_take, List.length_take, h.1], fun i p e => ?_⟩
  rw [List.getElem?_take] at e ⊢
  split at e
  · rename_i hi
    rw [if_pos hi]
    exact h.2 i p e
  · cases e
theorem _root_.GP.Prs.drop {H : Hp} {us : List V} {ps : List (Int × Int)} (h : Prs H us ps) (n : Nat) : Prs H (us.drop n) (ps.drop n) := by
  refine ⟨by rw [List.length_drop, List.length_drop, h.1], fun i p e => ?_⟩
  rw [List.getElem?_drop] at e ⊢
  exact h.2 _ p e
theorem _root_.GP.Prs.reverse {H : Hp} {us : List V} {ps : List (Int × Int)} (h : Prs H us ps) : Prs H us.reverse ps.reverse := by
  refine ⟨by rw [List.length_reverse, List.length_reverse, h.1], fun i p e => ?_⟩
  have hi : i < ps.length := by
    have z := (List.getElem?_eq_some_iff.mp e).1
    rwa [List.length_reverse] at z
  rw [List.getElem?_reverse hi] at e
  rw [List.getElem?_reverse (by rw [h.1]; exact hi), h.1]
  exact h.2 _ p e

/-! ### set_of -/
/-- the pair that a tracked tuple holds -/
def pairOf (H : Hp) : V → Int × Int
  | .ref t => (match H t with
    | some (.tup [.int i, .int j]) => (i, j)
    | _ => (0, 0))
  | _ => (0, 0)
theorem pairOf_at {H : Hp} {t : Addr} {p : Int × Int} (e : H t = some (.tup [.int p.1, .int p.2])) : pairOf H (.ref t) = p := by
  show (match H t with | some (.tup [.int i, .int j]) => (i, j) | _ => (0, 0)) = p
  rw [e]
abbrev sSetOf : Stmt := topS 1
theorem scSetOf : FnScope ["pairs", "merged", "first", "last", "low", "high", "pair"] ["pairs"] (defScope sSetOf) := ⟨rfl, rfl, rfl, by decide +kernel, rfl, by decide +kernel, by decide +kernel⟩
def spSetOf (K : PySem.W.Frag) : Sp := fun vs H Q _ => ∃ (a : Addr) (us : List V) (ps : List (Int × Int)), vs = [.ref a] ∧ Sq K H a us ∧ Prs H us ps ∧ ps.length ≤ 900 ∧
  ∀ (l : Addr) (ws : List V) (rs : List (Int × Int)) H', H l = none → H' l = some (.lst ws) → Prs H' ws rs → SetLike ps rs → Same H H' → Q (.ref l) H'
section
variable {K : PySem.W.Frag} {mg : Str → Option Value} {P : Program} {w : World} {base : Heap}
theorem ok_setof {f : Addr} {fd : FuncData} {k : Nat} (F : Fun K "set_of" "set_of" sSetOf f fd) (mso : mg "sorted" = none) (mx : mg "max" = none) : FnOk P w K mg base CX0 (k + 1) f fd ["pairs"] (spSetOf K) := by
  refine F.ok scSetOf (fun vs H Q E h => ?_) (fun cdv A outer s H vs Q E hr h => ?_)
  · obtain ⟨a, us, ps, rfl, _⟩ := h
    rfl
  · obtain ⟨a, us, ps, rfl, hq, hp, hz, q⟩ := h
    refine ⟨_, pss_cons (ps_set (i := 1) scSetOf.nd rfl (.inl rfl) (pe_lst pa_nil))
      (pss_cons (ps_for PassesOwn.never rfl (pi_list (pe_callB cr_sortedPO (by rfl) mso (by decide +kernel) (pa_cons (pe_lc (own := [("pair", 6)]) (g := gName 6) (tt := tTest (tOp (rI0 fun i j => .bl (decide (i ≤ j))) (tOp (rIxT K) (tVar 6) (tC (.int 0))) (tOp (rIxT K) (tVar 6) (tC (.int 1))))) rfl scSetOf.nd (pi_seq (pv 0))
          (blkOk_by (own := [("pair", 6)]) (N := ["pairs", "merged", "first", "last", "low", "high", "pair"]) (sc := defScope sSetOf) (by decide +kernel))
          (fun _ _ _ _ _ => pg_name (i := 6) scSetOf.nd rfl (.inl rfl)) (fun _ _ _ _ _ => pts_one (pt_cmpR op_le (pe_ix ix_tup (pv 6) pe_int (fun _ _ => rfl)) (pe_ix ix_tup (pv 6) pe_int (fun _ _ => rfl)) (nomark _))) (fun _ _ _ _ _ => pv 6)) pa_nil)))
        (pg_tup rfl (pgs_cons (pg_name (i := 2) scSetOf.nd rfl (.inl rfl)) (pgs_cons (pg_name (i := 3) scSetOf.nd rfl (.inl rfl)) pgs_nil)))
        (pss_one (ps_if (PW.pt (pw_and (pt_truth (pv 1) (by intro _; rfl)) (pw_and1 (pt_cmpR op_le (pv 2) (pe_op op_add (pe_ix ix_tup (pe_ix ix_list (pv 1) (pe_un un_neg pe_int) (fun _ _ => rfl)) pe_int (fun _ _ => rfl)) pe_int) (nomark _)))))
          (pss_cons (ps_asg (pe_ix ix_list (pv 1) (pe_un un_neg pe_int) (fun _ _ => rfl)) (pg_tup rfl (pgs_cons (pg_name (i := 4) scSetOf.nd rfl (.inl rfl)) (pgs_cons (pg_name (i := 5) scSetOf.nd rfl (.inl rfl)) pgs_nil))))
          (pss_one (ps_asg (pe_tup (pa_cons (pv 4) (pa_cons (pe_callB (call_max2 rfl) (by rfl) mx (by decide +kernel) (pa_cons (pv 5) (pa_cons (pv 3) pa_nil))) pa_nil))) (pg_sub (pv 1) (pe_un un_neg pe_int) set_list))))
          (pss_one (ps_expr (pe_bm PySem.F.plainAttrs_list PySem.F.slot_list_append PySem.F.type_list_append mt_append (pv 1) (pa_cons (pe_tup (pa_cons (pv 2) (pa_cons (pv 3) pa_nil))) pa_nil)))))))
      (pss_one (ps_ret (pv 1)))), ?_⟩
    -- merged = []
    refine ⟨Nat.zero_le _, fun mg' nm => ?_⟩
    have s1 := same_upd (o := .lst []) nm
    have em1 : upd H mg' (.lst []) mg' = some (.lst []) := upd_same
    revert s1 em1
    generalize upd H mg' (.lst []) = H1
    intro s1 em1
    -- [pair for pair in pairs if ..]
    refine ⟨.ref a, rfl, a, rfl, lc_seq (xs := us) (hq.same s1) (fun D i H' => Same H1 H' ∧ ∃ ys, H' D = some (.lst ys) ∧ Prs H' ys ((ps.take i).filter fun p => decide (p.1 ≤ p.2)) ∧ ys.length ≤ i) (fun D nD => ⟨same_upd nD, [], upd_same, Prs.nil, Nat.le_refl _⟩)
      (fun D i H' nD hP => SqTo.same hP.1) (fun D i x H' nD hx hP => ?_) (fun D H2 nD hP => ?_)⟩
    · obtain ⟨sm, ys, eD, hys, hyl⟩ := hP
      obtain ⟨p, T, ep, rfl, eT⟩ := prs_at hp hx
      have hi : i < us.length := (List.getElem?_eq_some_iff.mp hx).1
      rw [hp.1] at hi
      have eT' := sm _ _ (s1 _ _ eT)
      refine ⟨rfl, _, rfl, T, _, 0, .int p.1, rfl, rfl, .inl (.inl eT'), atI_nat (j := 0) rfl, _, rfl, T, _, 1, .int p.2, rfl, rfl, .inl (.inl eT'), atI_nat (j := 1) rfl, p.1, p.2, rfl, rfl, _, rfl, ?_⟩
      have etake : (ps.take (i + 1)).filter (fun p => decide (p.1 ≤ p.2)) = (ps.take i).filter (fun p => decide (p.1 ≤ p.2)) ++ (if p.1 ≤ p.2 then [p] else []) := by
        rw [List.take_add_one, ep, List.filter_append]
        by_cases c : p.1 ≤ p.2
        · rw [if_pos c]; simp [c]
        · rw [if_neg c]; simp [c]
      refine ite2 (fun c => ?_) (fun c => ?_)
      · have c' := of_decide_eq_true c
        refine ⟨_, rfl, ys, eD, small1000 (by omega), fun b o e => ?_, _, upd_same, ?_, by rw [List.length_append]; show ys.length + 1 ≤ i + 1; omega⟩
        · rw [upd_ne (ne_of_none e nD)]
          exact sm b o e
        · rw [etake, if_pos c']
          exact (hys.snoc eT').upd_lst eD
      · have c' : ¬ p.1 ≤ p.2 := fun z => c (decide_eq_true z)
        refine ⟨sm, ys, eD, ?_, by omega⟩
        rw [etake, if_neg c', List.append_nil]
        exact hys
    · -- sorted
      obtain ⟨sm, ys, eD, hys, hyl⟩ := hP
      rw [hp.1, List.take_length] at hys
      refine ⟨D, ys, pairOf H2, rfl, SqL.of eD, fun x hx => ?_, fun zs g srt stb ng => ?_⟩
      · obtain ⟨i, hi, e⟩ := List.getElem_of_mem hx
        obtain ⟨p, T, _, rfl, eT⟩ := prs_at hys (by rw [List.getElem?_eq_getElem hi, e])
        exact ⟨T, rfl, by rw [pairOf_at eT]; exact eT⟩
      have sg := same_upd (o := .lst zs) ng
      have eg : upd H2 g (.lst zs) g = some (.lst zs) := upd_same
      have s3 : Same H (upd H2 g (.lst zs)) := (s1.trans sm).trans sg
      have em3 := sg _ _ (sm _ _ em1)
      -- the pairs of zs
      have each : ∀ x ∈ zs, ∃ T, x = .ref T ∧ H2 T = some (.tup [.int (pairOf H2 x).1, .int (pairOf H2 x).2]) := fun x hx => by
        obtain ⟨i, hi, e⟩ := List.getElem_of_mem (stb.perm.mem_iff.mp hx)
        obtain ⟨p, T, _, rfl, eT⟩ := prs_at hys (by rw [List.getElem?_eq_getElem hi, e])
        exact ⟨T, rfl, by rw [pairOf_at eT]; exact eT⟩
      have hzs : Prs H2 zs (zs.map (pairOf H2)) := ⟨by rw [List.length_map], fun i p e => by
        rw [List.getElem?_map] at e
        cases h : zs[i]? with
        | none => rw [h] at e; cases e
        | some x =>
          rw [h] at e
          cases e
          obtain ⟨T, rfl, eT⟩ := each x (List.mem_of_getElem? h)
          exact ⟨T, rfl, eT⟩⟩
      have hmap : ys.map (pairOf H2) = ps.filter fun p => decide (p.1 ≤ p.2) := by
        refine List.ext_getElem? fun i => ?_
        rw [List.getElem?_map]
        cases h : ys[i]? with
        | none =>
          have : (ps.filter fun p => decide (p.1 ≤ p.2))[i]? = none := by
            rw [List.getElem?_eq_none_iff] at h ⊢
            rw [← hys.1]
            exact h
          rw [this]
          rfl
        | some x =>
          obtain ⟨p, T, ep, rfl, eT⟩ := prs_at hys h
          rw [ep]
          show some (pairOf H2 (.ref T)) = some p
          rw [pairOf_at eT]
      have hperm : (zs.map (pairOf H2)).Perm (ps.filter fun p => decide (p.1 ≤ p.2)) := hmap ▸ stb.perm.map (pairOf H2)
      have hle : ∀ p ∈ zs.map (pairOf H2), p.1 ≤ p.2 := fun p hp' => by
        have := hperm.mem_iff.mp hp'
        exact of_decide_eq_true (List.mem_filter.mp this).2
      have hord : (zs.map (pairOf H2)).Pairwise fun x y => x.1 ≤ y.1 := by
        rw [List.pairwise_map]
        refine srt.imp fun {x y} h => ?_
        have := SrtO.lexB_no.mp h
        omega
      have hzl : zs.length ≤ 900 := by
        rw [stb.perm.length_eq, hys.1]
        exact Nat.le_trans (List.length_filter_le _ _) hz
      revert hzs hperm hle hord
      generalize zs.map (pairOf H2) = qs
      intro hzs hperm hle hord
      have hzs3 := hzs.same sg
      revert eg s3 em3 hzs3
      generalize upd H2 g (.lst zs) = H3
      intro eg s3 em3 hzs3
      have ngH : H g = none := (s1.trans sm).free ng
      have nmg : mg' ≠ g := ne_of_none (sm _ _ em1) ng
      -- the merging
      refine ⟨g, rfl, ⟨_, SqL.of eg⟩, for_list (xs := zs) (fun i σ H4 => ∃ (ms : List V) (rs : List (Int × Int)) (y2 y3 y4 y5 y6 : Option V), σ = [some (.ref a), some (.ref mg'), y2, y3, y4, y5, y6] ∧ Same H H4 ∧ H4 g = some (.lst zs) ∧ Prs H4 zs qs ∧ H4 mg' = some (.lst ms) ∧ Prs H4 ms rs ∧ Mrg (qs.take i) rs)
        ⟨[], [], _, _, _, _, _, rfl, s3, eg, hzs3, em3, Prs.nil, Mrg.nil⟩ (fun i σ H4 _ hP => ?_) (fun i x σ H4 hx hP => ?_) (fun σ H4 hP => ?_)⟩
      · obtain ⟨_, _, _, _, _, _, _, rfl, _, e, _⟩ := hP
        exact SqL.of e
      · obtain ⟨ms, rs, y2, y3, y4, y5, y6, rfl, sm4, eg4, hz4, em4, hms, m⟩ := hP
        obtain ⟨p, T, ep, rfl, eT⟩ := prs_at hz4 hx
        have hi : i < qs.length := (List.getElem?_eq_some_iff.mp ep).1
        have hp12 : p.1 ≤ p.2 := hle p (List.mem_of_getElem? ep)
        have ord : ∀ q ∈ qs.take i, q.1 ≤ p.1 := fun q hq' => by
          obtain ⟨j, hj, e⟩ := List.getElem_of_mem hq'
          rw [List.length_take] at hj
          rw [List.getElem_take] at e
          obtain ⟨_, e2⟩ := List.getElem?_eq_some_iff.mp ep
          rw [← e, ← e2]
          exact List.pairwise_iff_getElem.mp hord j i (by omega) hi (by omega)
        have etake : qs.take (i + 1) = qs.take i ++ [p] := by rw [List.take_add_one, ep]; rfl
        have hmsl : ms.length ≤ 900 := by
          have := m.len
          rw [List.length_take] at this
          have := hzs.1
          rw [hms.1]
          omega
        refine ⟨T, _, rfl, .inl (.inl eT), rfl, _, _, rfl, _, _, rfl, rfl, ?_⟩
        -- what a new tuple and a change of merged leave
        have grow : ∀ (T2 : Addr) (p2 : Int × Int) (ms2 : List V) (rs2 : List (Int × Int)), H4 T2 = none → Prs (upd H4 T2 (.tup [.int p2.1, .int p2.2])) ms2 rs2 →
            Same H (upd (upd H4 T2 (.tup [.int p2.1, .int p2.2])) mg' (.lst ms2)) ∧ upd (upd H4 T2 (.tup [.int p2.1, .int p2.2])) mg' (.lst ms2) g = some (.lst zs) ∧ Prs (upd (upd H4 T2 (.tup [.int p2.1, .int p2.2])) mg' (.lst ms2)) zs qs ∧ upd (upd H4 T2 (.tup [.int p2.1, .int p2.2])) mg' (.lst ms2) mg' = some (.lst ms2) ∧ Prs (upd (upd H4 T2 (.tup [.int p2.1, .int p2.2])) mg' (.lst ms2)) ms2 rs2 := by
          intro T2 p2 ms2 rs2 n2 h2
          have st := same_upd (o := .tup [.int p2.1, .int p2.2]) n2
          have em5 := st _ _ em4
          refine ⟨fun b o e => ?_, ?_, (hz4.same st).upd_lst em5, upd_same, h2.upd_lst em5⟩
          · rw [upd_ne (ne_of_none e nm)]
            exact st _ _ (sm4 _ _ e)
          · rw [upd_ne nmg.symm]
            exact st _ _ eg4
        -- append
        have app : (∀ r ∈ rs, r.2 + 2 ≤ p.1) → (tDrop (tBM K "list" rAppend (tVar 1) (tCons (tTup (tCons (tVar 2) (tCons (tVar 3) tNil))) tNil))) { nx := fun σ H4 => ∃ (ms : List V) (rs : List (Int × Int)) (y2 y3 y4 y5 y6 : Option V), σ = [some (.ref a), some (.ref mg'), y2, y3, y4, y5, y6] ∧ Same H H4 ∧ H4 g = some (.lst zs) ∧ Prs H4 zs qs ∧ H4 mg' = some (.lst ms) ∧ Prs H4 ms rs ∧ Mrg (qs.take (i + 1)) rs, rt := fun _ _ => False } [some (.ref a), some (.ref mg'), some (.int p.1), some (.int p.2), y4, y5, y6] H4 := by
          intro far
          refine ⟨.ref mg', rfl, .inl ⟨rfl, _, SqL.of em4⟩, _, rfl, _, rfl, (by show 2 ≤ sizeLine; decide), fun T2 n2 => ?_⟩
          have st := same_upd (o := .tup [.int p.1, .int p.2]) n2
          refine ⟨mg', _, _, rfl, rfl, st _ _ em4, small1000 (by omega), ?_⟩
          obtain ⟨g1, g2, g3, g4, g5⟩ := grow T2 p (ms ++ [.ref T2]) (rs ++ [p]) n2 ((hms.same st).snoc upd_same)
          exact ⟨_, _, _, _, _, _, _, rfl, g1, g2, g3, g4, g5, by rw [etake]; exact m.new hp12 ord far⟩
        rcases snoc_cases rs with e0 | ⟨rs', ⟨lo, hi'⟩, e0⟩
        · have e1 : ms = [] := List.eq_nil_of_length_eq_zero (by rw [hms.1, e0]; rfl)
          have em0 : H4 mg' = some (.lst []) := by rw [em4, e1]
          refine ⟨.ref mg', rfl, false, .inl ⟨[], SqL.of em0, rfl⟩, iteF (iteF ?_)⟩
          exact app (by rw [e0]; exact fun _ z => nomatch z)
        · subst e0
          obtain ⟨ms', T0, rfl, eT0, hms'⟩ := hms.last
          refine ⟨.ref mg', rfl, true, .inl ⟨_, SqL.of em4, by simp⟩, iteT ?_⟩
          refine ⟨_, rfl, .ref mg', rfl, 1, rfl, mg', _, -1, .ref T0, rfl, rfl, SqL.of em4, atI_last _ _, T0, _, 1, .int hi', rfl, rfl, .inl (.inl eT0), atI_nat (j := 1) rfl, hi', 1, rfl, rfl, p.1, _, rfl, rfl, _, rfl, ite2 (fun c => ?_) (fun c => ?_)⟩
          · have c' := of_decide_eq_true c
            refine ⟨.ref mg', rfl, 1, rfl, mg', _, -1, .ref T0, rfl, rfl, SqL.of em4, atI_last _ _, T0, _, rfl, .inl (.inl eT0), rfl, _, _, rfl, _, _, rfl, rfl, ?_⟩
            refine ⟨_, rfl, _, rfl, _, rfl, hi', p.2, rfl, (by show 2 ≤ sizeLine; decide), fun T2 n2 => ?_⟩
            have st := same_upd (o := .tup [.int lo, .int (if p.2 > hi' then p.2 else hi')]) n2
            have ei : ixN (ms' ++ [V.ref T0]).length (-1) = some ms'.length := by
              unfold ixN
              rw [if_neg (by decide), List.length_append, if_pos (by show -((ms'.length + 1 : Nat) : Int) ≤ -1; omega)]
              show some ((-1 : Int) + ((ms'.length + 1 : Nat) : Int)).toNat = _
              congr 1
              omega
            refine ⟨.ref mg', rfl, 1, rfl, mg', _, -1, ms'.length, rfl, rfl, st _ _ em4, ei, ?_⟩
            have es : (ms' ++ [V.ref T0]).set ms'.length (.ref T2) = ms' ++ [.ref T2] := by simp
            rw [es]
            obtain ⟨g1, g2, g3, g4, g5⟩ := grow T2 (lo, if p.2 > hi' then p.2 else hi') (ms' ++ [.ref T2]) (rs' ++ [(lo, if p.2 > hi' then p.2 else hi')]) n2 ((hms'.same st).snoc upd_same)
            exact ⟨_, _, _, _, _, _, _, rfl, g1, g2, g3, g4, g5, by rw [etake]; exact m.join hp12 ord c'⟩
          · have c' : ¬ p.1 ≤ hi' + 1 := fun z => c (decide_eq_true z)
            refine app fun r hr' => ?_
            obtain ⟨lo', hR⟩ := m.ris
            obtain ⟨_, h2, _, h4⟩ := Ris.front hR
            have h4' : lo ≤ hi' := h4
            rcases List.mem_append.mp hr' with y | y
            · have : r.2 + 2 ≤ lo := h2 r y
              omega
            · rw [List.mem_singleton.mp y]
              show hi' + 2 ≤ p.1
              omega
      · obtain ⟨ms, rs, y2, y3, y4, y5, y6, rfl, sm4, eg4, hz4, em4, hms, m⟩ := hP
        rw [hzs.1, List.take_length] at m
        refine ⟨_, rfl, q mg' ms rs H4 nm em4 hms ⟨m.ris, m.same.trans fun n => ?_, Nat.le_trans m.len (Nat.le_trans (Nat.le_of_eq hperm.length_eq) (List.length_filter_le _ _))⟩ sm4⟩
        constructor
        · rintro ⟨r, hr', e⟩
          exact ⟨r, (List.mem_filter.mp (hperm.mem_iff.mp hr')).1, e⟩
        · rintro ⟨r, hr', e⟩
          exact ⟨r, hperm.mem_iff.mpr (List.mem_filter.mpr ⟨hr', decide_eq_true (by omega)⟩), e⟩
end

/-! ### what stands where: pairs in a list or a tuple -/
def PrA (K : PySem.W.Frag) (H : Hp) (a : Addr) (ps : List (Int × Int)) : Prop := ∃ us, Sq K H a us ∧ Prs H us ps
def LsA (H : Hp) (a : Addr) (ps : List (Int × Int)) : Prop := ∃ us, H a = some (.lst us) ∧ Prs H us ps
theorem LsA.pr {K : PySem.W.Frag} {H : Hp} {a : Addr} {ps : List (Int × Int)} (h : LsA H a ps) : PrA K H a ps := let ⟨us, e, p⟩ := h; ⟨us, Sq.list e, p⟩
theorem LsA.same {H H' : Hp} {a : Addr} {ps : List (Int × Int)} (h : LsA H a ps) (s : Same H H') : LsA H' a ps := let ⟨us, e, p⟩ := h; ⟨us, s _ _ e, p.same s⟩
theorem PrA.same {K : PySem.W.Frag} {H H' : Hp} {a : Addr} {ps : List (Int × Int)} (h : PrA K H a ps) (s : Same H H') : PrA K H' a ps := let ⟨us, e, p⟩ := h; ⟨us, e.same s, p.same s⟩
theorem LsA.nil {H : Hp} {a : Addr} (e : H a = some (.lst [])) : LsA H a [] := ⟨[], e, Prs.nil⟩
theorem LsA.dp {K : PySem.W.Frag} {H : Hp} {a : Addr} {ps : List (Int × Int)} (h : LsA H a ps) : Dp K H (.ref a) (.list (ps.map pairD)) := let ⟨_, e, p⟩ := h; .lst (SqL.of e) (dp_prs p)
/-- a told set: a new list -/
def TellS (pr : Int → Prop) (m : Nat) (H : Hp) (Q : VK) : Prop := ∀ l rs H', H l = none → LsA H' l rs → Told pr rs → rs.length ≤ m → Same H H' → Q (.ref l) H'
/-! ### both_of -/
abbrev sBoth : Stmt := topS 2
theorem scBoth : FnScope ["one", "other", "shared", "at", "to", "first", "last"] ["one", "other"] (defScope sBoth) := ⟨rfl, rfl, rfl, by decide +kernel, rfl, by decide +kernel, by decide +kernel⟩
def spBoth (K : PySem.W.Frag) : Sp := fun vs H Q _ => ∃ (a b : Addr) (ps qs : List (Int × Int)), vs = [.ref a, .ref b] ∧ PrA K H a ps ∧ PrA K H b qs ∧ (∃ lo, Ris lo ps) ∧ (∃ lo, Ris lo qs) ∧ ps.length + qs.length ≤ 900 ∧ TellS (fun n => InS ps n ∧ InS qs n) (ps.length + qs.length) H Q
/-- between two turns -/
def BothW (H : Hp) (a b sh : Addr) (ps qs : List (Int × Int)) (m : Nat) (σ : L2.St) (H1 : Hp) : Prop := ∃ (i j : Nat) (ms : List V) (rs : List (Int × Int)) (y5 y6 : Option V), σ = [some (.ref a), some (.ref b), some (.ref sh), some (.int i), some (.int j), y5, y6] ∧ m = (ps.length - i) + (qs.length - j) ∧ i ≤ ps.length ∧ j ≤ qs.length ∧ Same H H1 ∧
  H1 sh = some (.lst ms) ∧ Prs H1 ms rs ∧ rs.length ≤ i + j ∧ rs ++ bothF (ps.drop i) (qs.drop j) = bothF ps qs
section
variable {K : PySem.W.Frag} {mg : Str → Option Value} {P : Program} {w : World} {base : Heap}
theorem ok_both {f : Addr} {fd : FuncData} {k : Nat} (F : Fun K "both_of" "both_of" sBoth f fd) (ml : mg "len" = none) (mx : mg "max" = none) (mn : mg "min" = none) : FnOk P w K mg base CX0 (k + 1) f fd ["one", "other"] (spBoth K) := by
  refine F.ok scBoth (fun vs H Q E h => ?_) (fun cdv A outer s H vs Q E hr h => ?_)
  · obtain ⟨a, b, ps, qs, rfl, _⟩ := h
    rfl
  · obtain ⟨a, b, ps, qs, rfl, ⟨us, ha, hps⟩, ⟨ws, hb, hqs⟩, ⟨lo, hr1⟩, ⟨lo', hr2⟩, hz, q⟩ := h
    refine ⟨_, pss_cons (ps_set (i := 2) scBoth.nd rfl (.inl rfl) (pe_lst pa_nil))
      (pss_cons (ps_set (i := 3) scBoth.nd rfl (.inl rfl) pe_int)
      (pss_cons (ps_set (i := 4) scBoth.nd rfl (.inl rfl) pe_int)
      (pss_cons (ps_while PassesOwn.never (PW.pt (pw_and (pt_cmpR op_lt (pv 3) (pe_callB call_len_seq (by rfl) ml PySem.boot_len (pa_cons (pv 0) pa_nil)) (nomark _)) (pw_and1 (pt_cmpR op_lt (pv 4) (pe_callB call_len_seq (by rfl) ml PySem.boot_len (pa_cons (pv 1) pa_nil)) (nomark _)))))
        (pss_cons (ps_set (i := 5) scBoth.nd rfl (.inl rfl) (pe_callB (call_max2 rfl) (by rfl) mx (by decide +kernel) (pa_cons (pe_ix ix_tup (pe_ix ix_seq (pv 0) (pv 3) (fun _ _ => rfl)) pe_int (fun _ _ => rfl)) (pa_cons (pe_ix ix_tup (pe_ix ix_seq (pv 1) (pv 4) (fun _ _ => rfl)) pe_int (fun _ _ => rfl)) pa_nil))))
        (pss_cons (ps_set (i := 6) scBoth.nd rfl (.inl rfl) (pe_callB (call_min2 rfl) (by rfl) mn (by decide +kernel) (pa_cons (pe_ix ix_tup (pe_ix ix_seq (pv 0) (pv 3) (fun _ _ => rfl)) pe_int (fun _ _ => rfl)) (pa_cons (pe_ix ix_tup (pe_ix ix_seq (pv 1) (pv 4) (fun _ _ => rfl)) pe_int (fun _ _ => rfl)) pa_nil))))
        (Evl.pss_cut (ps_if (pt_cmpR op_le (pv 5) (pv 6) (nomark _)) (pss_one (ps_expr (pe_bm PySem.F.plainAttrs_list PySem.F.slot_list_append PySem.F.type_list_append mt_append (pv 2) (pa_cons (pe_tup (pa_cons (pv 5) (pa_cons (pv 6) pa_nil))) pa_nil)))) pss_nil)
        (pss_one (ps_if (pt_cmpR op_lt (pe_ix ix_tup (pe_ix ix_seq (pv 0) (pv 3) (fun _ _ => rfl)) pe_int (fun _ _ => rfl)) (pe_ix ix_tup (pe_ix ix_seq (pv 1) (pv 4) (fun _ _ => rfl)) pe_int (fun _ _ => rfl)) (nomark _))
          (pss_one (ps_aug (i := 3) scBoth.nd rfl (.inl rfl) pe_int ip_add)) (pss_one (ps_aug (i := 4) scBoth.nd rfl (.inl rfl) pe_int ip_add))))))))
      (pss_one (ps_ret (pv 2)))))), ?_⟩
    refine ⟨Nat.zero_le _, fun sh nsh => ?_⟩
    have s0 := same_upd (o := .lst []) nsh
    have hl1 := hps.1
    have hl2 := hqs.1
    refine ⟨BothW H a b sh ps qs, ⟨_, 0, 0, [], [], none, none, rfl, rfl, Nat.zero_le _, Nat.zero_le _, s0, upd_same, Prs.nil, Nat.le_refl _, rfl⟩, fun m σ H1 hW => ?_⟩
    obtain ⟨i, j, ms, rs, y5, y6, rfl, rfl, hi, hj, sm, esh, hms, hrl, hbo⟩ := hW
    have ha1 := ha.same sm
    have hb1 := hb.same sm
    -- the end: nothing is left of one
    have fin : bothF (ps.drop i) (qs.drop j) = [] → Q (.ref sh) H1 := by
      intro e
      rw [e, List.append_nil] at hbo
      subst hbo
      exact q sh (bothF ps qs) H1 nsh ⟨ms, esh, hms⟩ ⟨⟨lo, bothF_ris hr1 hr2 (.inl (Int.le_refl _))⟩, fun n => bothF_in hr1 hr2⟩ (by omega) sm
    refine ⟨_, rfl, _, rfl, a, us, rfl, ha1, (i : Int), (us.length : Int), rfl, rfl, _, rfl, ite2 (fun c1 => ?_) (fun c1 => ?_)⟩
    · have c1' := of_decide_eq_true c1
      refine ⟨_, rfl, _, rfl, b, ws, rfl, hb1, (j : Int), (ws.length : Int), rfl, rfl, _, rfl, ite2 (fun c2 => ?_) (fun c2 => ?_)⟩
      · have c2' := of_decide_eq_true c2
        have hi' : i < ps.length := by omega
        have hj' : j < qs.length := by omega
        obtain ⟨T1, g1, e1⟩ := hps.2 i ps[i] (List.getElem?_eq_getElem hi')
        obtain ⟨T2, g2, e2⟩ := hqs.2 j qs[j] (List.getElem?_eq_getElem hj')
        have ed1 := drop_at (List.getElem?_eq_getElem hi')
        have ed2 := drop_at (List.getElem?_eq_getElem hj')
        revert e1 e2 ed1 ed2
        generalize ps[i] = p
        generalize qs[j] = r
        intro e1 e2 ed1 ed2
        have f1 := sm _ _ e1
        have f2 := sm _ _ e2
        rw [ed1, ed2, bothF] at hbo
        refine ⟨fun σ' H' => ∃ m', m' < (ps.length - i) + (qs.length - j) ∧ BothW H a b sh ps qs m' σ' H', fun σ' H' h => h, ?_⟩
        -- first, last
        refine ⟨_, rfl, _, rfl, a, us, i, .ref T1, rfl, rfl, ha1, atI_nat g1, T1, _, 0, .int p.1, rfl, rfl, .inl (.inl f1), atI_nat (j := 0) rfl, _, rfl, _, rfl, b, ws, j, .ref T2, rfl, rfl, hb1, atI_nat g2, T2, _, 0, .int r.1, rfl, rfl, .inl (.inl f2), atI_nat (j := 0) rfl, p.1, r.1, rfl, ?_⟩
        refine ⟨_, rfl, _, rfl, a, us, i, .ref T1, rfl, rfl, ha1, atI_nat g1, T1, _, 1, .int p.2, rfl, rfl, .inl (.inl f1), atI_nat (j := 1) rfl, _, rfl, _, rfl, b, ws, j, .ref T2, rfl, rfl, hb1, atI_nat g2, T2, _, 1, .int r.2, rfl, rfl, .inl (.inl f2), atI_nat (j := 1) rfl, p.2, r.2, rfl, ?_⟩
        refine ⟨fun σ' H2 => ∃ ms2 rs2, σ' = [some (.ref a), some (.ref b), some (.ref sh), some (.int i), some (.int j), some (.int (mxI p.1 r.1)), some (.int (mnI p.2 r.2))] ∧ Same H H2 ∧ H2 sh = some (.lst ms2) ∧ Prs H2 ms2 rs2 ∧ rs2.length ≤ i + j + 1 ∧
          rs2 ++ (if p.2 < r.2 then bothF (ps.drop (i + 1)) (r :: qs.drop (j + 1)) else bothF (p :: ps.drop (i + 1)) (qs.drop (j + 1))) = bothF ps qs, ?_, fun σ' H2 hM => ?_⟩
        · refine ⟨_, rfl, _, rfl, mxI p.1 r.1, mnI p.2 r.2, rfl, rfl, _, rfl, ite2 (fun c => ?_) (fun c => ?_)⟩
          · have c' := of_decide_eq_true c
            rw [if_pos c', ← List.append_assoc] at hbo
            refine ⟨_, rfl, .inl ⟨rfl, _, SqL.of esh⟩, _, rfl, _, rfl, (by show 2 ≤ sizeLine; decide), fun T nT => ?_⟩
            have sT := same_upd (o := .tup [.int (mxI p.1 r.1), .int (mnI p.2 r.2)]) nT
            refine ⟨sh, _, _, rfl, rfl, sT _ _ esh, small1000 (by have := hms.1; omega), ?_⟩
            refine ⟨_, _, rfl, fun b o e => ?_, upd_same, ((hms.same sT).snoc upd_same).upd_lst (sT _ _ esh), by rw [List.length_append]; exact Nat.add_le_add_right hrl 1, hbo⟩
            rw [upd_ne (ne_of_none e nsh)]
            exact sT _ _ (sm b o e)
          · have c' : ¬ mxI p.1 r.1 ≤ mnI p.2 r.2 := fun z => c (decide_eq_true z)
            rw [if_neg c', List.nil_append] at hbo
            exact ⟨ms, rs, rfl, sm, esh, hms, by omega, hbo⟩
        · obtain ⟨ms2, rs2, rfl, sm2, esh2, hms2, hl3, hb3⟩ := hM
          have ha2 := ha.same sm2
          have hb2 := hb.same sm2
          have f1' := sm2 _ _ e1
          have f2' := sm2 _ _ e2
          refine ⟨_, rfl, _, rfl, a, us, i, .ref T1, rfl, rfl, ha2, atI_nat g1, T1, _, 1, .int p.2, rfl, rfl, .inl (.inl f1'), atI_nat (j := 1) rfl, _, rfl, _, rfl, b, ws, j, .ref T2, rfl, rfl, hb2, atI_nat g2, T2, _, 1, .int r.2, rfl, rfl, .inl (.inl f2'), atI_nat (j := 1) rfl, p.2, r.2, rfl, rfl, _, rfl, ite2 (fun c => ?_) (fun c => ?_)⟩
          · have c' := of_decide_eq_true c
            rw [if_pos c', ← ed2] at hb3
            exact ⟨_, rfl, (i : Int), 1, rfl, rfl, _, by omega, i + 1, j, ms2, rs2, _, _, rfl, rfl, by omega, hj, sm2, esh2, hms2, by omega, hb3⟩
          · have c' : ¬ p.2 < r.2 := fun z => c (decide_eq_true z)
            rw [if_neg c', ← ed1] at hb3
            exact ⟨_, rfl, (j : Int), 1, rfl, rfl, _, by omega, i, j + 1, ms2, rs2, _, _, rfl, rfl, hi, by omega, sm2, esh2, hms2, by omega, hb3⟩
      · have c' : ¬ (j : Int) < ws.length := fun z => c2 (decide_eq_true z)
        refine ⟨_, rfl, fin ?_⟩
        rw [List.drop_eq_nil_of_le (by omega : qs.length ≤ j)]
        exact bothF_nil _
    · have c' : ¬ (i : Int) < us.length := fun z => c1 (decide_eq_true z)
      refine ⟨_, rfl, fin ?_⟩
      rw [List.drop_eq_nil_of_le (by omega : ps.length ≤ i), bothF]
end

/-! ### things as data, all of it tracked -/
inductive Dat (H : Hp) : V → PyData → Prop
  | non : Dat H .non .none
  | bl (b : Bool) : Dat H (.bl b) (.bool b)
  | int (i : Int) : Dat H (.int i) (.int i)
  | str (x : Str) : Dat H (.str x) (.str x)
  | lst {a : Addr} {xs : List V} {ds : List PyData} : H a = some (.lst xs) → xs.length = ds.length → (∀ (i : Nat) x d, xs[i]? = some x → ds[i]? = some d → Dat H x d) → Dat H (.ref a) (.list ds)
  | tup {a : Addr} {xs : List V} {ds : List PyData} : H a = some (.tup xs) → xs.length = ds.length → (∀ (i : Nat) x d, xs[i]? = some x → ds[i]? = some d → Dat H x d) → Dat H (.ref a) (.tuple ds)
theorem Dat.same {H H' : Hp} {v : V} {d : PyData} (h : Dat H v d) (s : Same H H') : Dat H' v d := by
  induction h with
  | non => exact .non
  | bl b => exact .bl b
  | int i => exact .int i
  | str x => exact .str x
  | lst e l _ ih => exact .lst (s _ _ e) l ih
  | tup e l _ ih => exact .tup (s _ _ e) l ih
/-- at most so deep, no longer than these lines -/
def Sm : Nat → PyData → Prop
  | _, .none => True
  | _, .bool _ => True
  | _, .int _ => True
  | _, .str _ => True
  | n + 1, .list ds => ds.length ≤ 900 ∧ ∀ d ∈ ds, Sm n d
  | n + 1, .tuple ds => ds.length ≤ 900 ∧ ∀ d ∈ ds, Sm n d
  | _, _ => False
/-- no list, no tuple -/
def Flat (d : PyData) : Prop := d = .none ∨ (∃ b, d = .bool b) ∨ (∃ i, d = .int i) ∨ ∃ x, d = .str x
theorem Sm.cases {n : Nat} {d : PyData} (h : Sm (n + 1) d) : Flat d ∨ (∃ ds, d = .list ds ∧ ds.length ≤ 900 ∧ ∀ d ∈ ds, Sm n d) ∨ ∃ ds, d = .tuple ds ∧ ds.length ≤ 900 ∧ ∀ d ∈ ds, Sm n d := by
  cases d <;> first | exact .inl (.inl rfl) | exact .inl (.inr (.inl ⟨_, rfl⟩)) | exact .inl (.inr (.inr (.inl ⟨_, rfl⟩))) | exact .inl (.inr (.inr (.inr ⟨_, rfl⟩))) | exact .inr (.inl ⟨_, rfl, h.1, h.2⟩) | exact .inr (.inr ⟨_, rfl, h.1, h.2⟩) | exact h.elim
theorem Sm.flat {d : PyData} (h : Sm 0 d) : Flat d := by
  cases d <;> first | exact .inl rfl | exact .inr (.inl ⟨_, rfl⟩) | exact .inr (.inr (.inl ⟨_, rfl⟩)) | exact .inr (.inr (.inr ⟨_, rfl⟩)) | exact h.elim
theorem walk_zipTs {K : PySem.W.Frag} {a b : Addr} {xs ys : List V} {n : Nat} (h1 : xs.length = n) (h2 : ys.length = n) : Walk (RZ.ItzT K a b) n (fun H => SqT K H a xs ∧ SqT K H b ys) (YPair (fun i => xs[i]?) (fun i => ys[i]?)) where
  goes := fun i _ lt q => ⟨xs, ys, _, _, q.1, q.2, List.getElem?_eq_getElem (h1.symm ▸ lt), List.getElem?_eq_getElem (h2.symm ▸ lt)⟩
  stops := fun _ q => ⟨xs, ys, q.1, q.2, .inl (Nat.le_of_eq h1)⟩
  yields := fun i _ _ _ _ q ⟨T, x, z, e1, e2, e3, e4, e5⟩ => ⟨T, x, z, e1, e2, e3, e4 xs q.1, e5 ys q.2⟩
theorem prs_dat {H : Hp} {us : List V} {ps : List (Int × Int)} (h : Prs H us ps) : ∀ (i : Nat) x d, us[i]? = some x → (ps.map pairD)[i]? = some d → Dat H x d := fun i x d e1 e2 => by
  obtain ⟨p, a, ep, rfl, ea⟩ := prs_at h e1
  rw [List.getElem?_map, ep] at e2
  have ed : pairD p = d := Option.some.inj e2
  rw [← ed]
  refine .tup ea rfl fun j y d f1 f2 => ?_
  have hj : j < 2 := (List.getElem?_eq_some_iff.mp f1).1
  have : j = 0 ∨ j = 1 := by omega
  rcases this with rfl | rfl
  · cases f1; cases f2; exact .int _
  · cases f1; cases f2; exact .int _
theorem sm_prs {ps : List (Int × Int)} (h : ps.length ≤ 900) : Sm 2 (.list (ps.map pairD)) := by
  refine ⟨by rw [List.length_map]; exact h, fun d hd => ?_⟩
  obtain ⟨p, _, rfl⟩ := List.mem_map.mp hd
  exact ⟨by show 2 ≤ 900; decide, fun d hd => by
    rcases List.mem_cons.mp hd with e | e
    · rw [e]; trivial
    · rw [List.mem_singleton.mp e]; trivial⟩
theorem ints_dat {H : Hp} {a : Addr} {ns : List Int} (e : H a = some (.lst (ns.map V.int))) : Dat H (.ref a) (.list (ns.map PyData.int)) := .lst e (by rw [List.length_map, List.length_map]) fun i x d e1 e2 => by
  rw [List.getElem?_map] at e1 e2
  cases h : ns[i]? with
  | none => rw [h] at e1; cases e1
  | some n =>
    rw [h] at e1 e2
    cases e1
    cases e2
    exact .int n
theorem sm_ints {ns : List Int} (h : ns.length ≤ 900) : Sm 1 (.list (ns.map PyData.int)) := by
  refine ⟨by rw [List.length_map]; exact h, fun d hd => ?_⟩
  obtain ⟨p, _, rfl⟩ := List.mem_map.mp hd
  trivial

mutual
/-- no truth among it -/
def NoBl : PyData → Prop
  | .bool _ => False
  | .list ds => NoBls ds
  | .tuple ds => NoBls ds
  | _ => True
def NoBls : List PyData → Prop
  | [] => True
  | d :: ds => NoBl d ∧ NoBls ds
end
theorem noBls_all : ∀ {ds : List PyData}, NoBls ds → ∀ d ∈ ds, NoBl d
  | [], _, _, h => nomatch h
  | e :: r, h, d, hd => by
    rw [NoBls] at h
    rcases List.mem_cons.mp hd with z | z
    · rw [z]; exact h.1
    · exact noBls_all h.2 d z
theorem noBls_of : ∀ {ds : List PyData}, (∀ d ∈ ds, NoBl d) → NoBls ds
  | [], _ => by rw [NoBls]; trivial
  | e :: r, h => by rw [NoBls]; exact ⟨h e (List.mem_cons_self ..), noBls_of fun d hd => h d (List.mem_cons_of_mem _ hd)⟩
abbrev sSame : Stmt := topS 18
theorem scSame : FnScope ["_law_found", "_law_due_here", "_law_one", "_law_other"] ["_law_found", "_law_due_here"] (defScope sSame) := ⟨rfl, rfl, rfl, by decide +kernel, rfl, by decide +kernel, by decide +kernel⟩
/-- alike: the same data twice (no truths among it) -/
def spSame (n : Nat) : Sp := fun vs H Q _ => ∃ (v u : V) (d : PyData), vs = [v, u] ∧ Dat H v d ∧ Dat H u d ∧ Sm n d ∧ NoBl d ∧ ∀ H', Same H H' → Q (.bl true) H'
theorem all_true (n : Nat) : (List.replicate n true).all id = true := by
  rw [List.all_eq_true]
  intro b hb
  exact (List.mem_replicate.mp hb).2
abbrev SameGoal (K : PySem.W.Frag) (mg : Str → Option Value) (P : Program) (w : World) (base : Heap) (f : Addr) (cdv : Value) (A : Around) (outer : List Env) (s : Shared) (H : Hp) (E : XK) (v u : V) (Q : VK) : Prop :=
  ∃ t, PSs (cxOf CX0 P w K mg base ["_law_found", "_law_due_here", "_law_one", "_law_other"] "_law_same" (defScope sSame) f cdv A outer s H E).nox (defBody sSame) t ∧ t { nx := fun _ H' => Q .non H', rt := Q } (start ["_law_found", "_law_due_here", "_law_one", "_law_other"] [v, u]) H
section
variable {K : PySem.W.Frag} {mg : Str → Option Value} {P : Program} {w : World} {base : Heap}
/-- of no list, no tuple -/
theorem same_flat {f : Addr} (mi : mg "isinstance" = none) (ml : mg "list" = none) (mt : mg "tuple" = none) (mb : mg "bool" = none) (ms : mg "str" = none) (mn : mg "int" = none) {cdv : Value} {A : Around} {outer : List Env} {s : Shared} {H : Hp} {v u : V} {d : PyData} {Q : VK} {E : XK}
    (h1 : Dat H v d) (h2 : Dat H u d) (hd : Flat d) (hb : NoBl d) (q : ∀ H', Same H H' → Q (.bl true) H') : SameGoal K mg P w base f cdv A outer s H E v u Q := by
  refine ⟨_, pss_cons (ps_if (pt_cmpR op_isN (pv 1) pe_non (nomark _)) (pss_one (ps_ret (pe_cmpR op_isN (pv 0) pe_non (nomark _)))) pss_nil)
      (pss_cons (ps_if (PW.pt (pw_or (pt_val (pe_callB call_isi (by rfl) mi (by decide +kernel) (pa_cons (pv 1) (pa_cons (pe_bltn (v := .ty "list") (by rfl) ml (by decide +kernel) rfl) pa_nil)))) (pw_or1 (pt_val (pe_callB call_isi (by rfl) mi (by decide +kernel) (pa_cons (pv 1) (pa_cons (pe_bltn (v := .ty "tuple") (by rfl) mt (by decide +kernel) rfl) pa_nil))))))) pss_never pss_nil)
      (pss_cons (ps_if (pt_val (pe_callB call_isi (by rfl) mi (by decide +kernel) (pa_cons (pv 1) (pa_cons (pe_bltn (v := .ty "str") (by rfl) ms (by decide +kernel) rfl) pa_nil)))) (pss_one (ps_ret (pe_and (pe_callB call_isi (by rfl) mi (by decide +kernel) (pa_cons (pv 0) (pa_cons (pe_bltn (v := .ty "str") (by rfl) ms (by decide +kernel) rfl) pa_nil))) (pe_one (pe_cmpR op_eq (pv 0) (pv 1) (nomark _)))))) pss_nil)
      (pss_one (ps_ret (pe_and (pe_callB call_isi (by rfl) mi (by decide +kernel) (pa_cons (pv 0) (pa_cons (pe_bltn (v := .ty "int") (by rfl) mn (by decide +kernel) rfl) pa_nil))) (pe_and (pe_not (pe_callB call_isi (by rfl) mi (by decide +kernel) (pa_cons (pv 0) (pa_cons (pe_bltn (v := .ty "bool") (by rfl) mb (by decide +kernel) rfl) pa_nil)))) (pe_one (pe_cmpR op_eq (pv 0) (pv 1) (nomark _))))))))), ?_⟩
  have deq : ∀ x : V, (decide (x = x)) = true := fun x => decide_eq_true rfl
  rcases hd with rfl | ⟨b, rfl⟩ | ⟨i, rfl⟩ | ⟨x, rfl⟩
  · cases h1
    cases h2
    refine ⟨_, rfl, rfl, _, rfl, iteT ?_⟩
    exact ⟨_, rfl, rfl, q _ (Same.refl H)⟩
  · rw [NoBl] at hb
    exact hb.elim
  · cases h1
    cases h2
    refine ⟨_, rfl, rfl, _, rfl, iteF ?_⟩
    refine ⟨_, rfl, _, _, .type "int", .type "list", false, rfl, .ty _, .base (.int i), kit_ty (by decide +kernel), _, rfl, iteF ?_⟩
    refine ⟨_, rfl, _, _, .type "int", .type "tuple", false, rfl, .ty _, .base (.int i), kit_ty (by decide +kernel), _, rfl, iteF ?_⟩
    refine ⟨_, rfl, _, _, .type "int", .type "str", false, rfl, .ty _, .base (.int i), kit_ty (by decide +kernel), _, rfl, iteF ?_⟩
    refine ⟨_, rfl, _, _, .type "int", .type "int", true, rfl, .ty _, .base (.int i), kit_ty (by decide +kernel), _, rfl, iteT ?_⟩
    refine ⟨_, rfl, _, _, .type "int", .type "bool", false, rfl, .ty _, .base (.int i), kit_ty (by decide +kernel), _, rfl, _, rfl, iteT ?_⟩
    refine ⟨_, rfl, _, rfl, rfl, ?_⟩
    rw [deq]
    exact q _ (Same.refl H)
  · cases h1
    cases h2
    refine ⟨_, rfl, rfl, _, rfl, iteF ?_⟩
    refine ⟨_, rfl, _, _, .type "str", .type "list", false, rfl, .ty _, .base (.str x), kit_ty (by decide +kernel), _, rfl, iteF ?_⟩
    refine ⟨_, rfl, _, _, .type "str", .type "tuple", false, rfl, .ty _, .base (.str x), kit_ty (by decide +kernel), _, rfl, iteF ?_⟩
    refine ⟨_, rfl, _, _, .type "str", .type "str", true, rfl, .ty _, .base (.str x), kit_ty (by decide +kernel), _, rfl, iteT ?_⟩
    refine ⟨_, rfl, _, _, .type "str", .type "str", true, rfl, .ty _, .base (.str x), kit_ty (by decide +kernel), _, rfl, iteT ?_⟩
    refine ⟨_, rfl, _, rfl, rfl, ?_⟩
    rw [deq]
    exact q _ (Same.refl H)
theorem ok_same0 {f : Addr} {fd : FuncData} {k : Nat} (F : Fun K "_law_same" "_law_same" sSame f fd) (mi : mg "isinstance" = none) (ml : mg "list" = none) (mt : mg "tuple" = none) (mb : mg "bool" = none) (ms : mg "str" = none) (mn : mg "int" = none) :
    FnOk P w K mg base CX0 (k + 1) f fd ["_law_found", "_law_due_here"] (spSame 0) := by
  refine F.ok scSame (fun vs H Q E h => ?_) (fun cdv A outer s H vs Q E hr h => ?_)
  · obtain ⟨v, u, d, rfl, _⟩ := h
    rfl
  · obtain ⟨v, u, d, rfl, h1, h2, hd, hb, q⟩ := h
    exact same_flat mi ml mt mb ms mn h1 h2 hd.flat hb q
theorem ok_sameS {f : Addr} {fd : FuncData} {n k : Nat} (F : Fun K "_law_same" "_law_same" sSame f fd) (C : Cal P w K mg base k "_law_same" ["_law_found", "_law_due_here"] (spSame n)) (mi : mg "isinstance" = none) (ml : mg "list" = none) (mt : mg "tuple" = none) (mb : mg "bool" = none) (ms : mg "str" = none) (mn : mg "int" = none) (me : mg "len" = none) (ma : mg "all" = none) (mz : mg "zip" = none) :
    FnOk P w K mg base CX0 (k + 1) f fd ["_law_found", "_law_due_here"] (spSame (n + 1)) := by
  refine F.ok scSame (fun vs H Q E h => ?_) (fun cdv A outer s H vs Q E hr h => ?_)
  · obtain ⟨v, u, d, rfl, _⟩ := h
    rfl
  · obtain ⟨v, u, d, rfl, h1, h2, hd, hb, q⟩ := h
    rcases hd.cases with hf | ⟨ds, rfl, hl, hall⟩ | ⟨ds, rfl, hl, hall⟩
    · exact same_flat mi ml mt mb ms mn h1 h2 hf hb q
    · refine ⟨_, pss_cons (ps_if (pt_cmpR op_isN (pv 1) pe_non (nomark _)) (pss_one (ps_ret (pe_cmpR op_isN (pv 0) pe_non (nomark _)))) pss_nil)
        (pss_cons (ps_if (PW.pt (pw_or (pt_val (pe_callB call_isi (by rfl) mi (by decide +kernel) (pa_cons (pv 1) (pa_cons (pe_bltn (v := .ty "list") (by rfl) ml (by decide +kernel) rfl) pa_nil)))) (pw_or1 (pt_val (pe_callB call_isi (by rfl) mi (by decide +kernel) (pa_cons (pv 1) (pa_cons (pe_bltn (v := .ty "tuple") (by rfl) mt (by decide +kernel) rfl) pa_nil)))))))
          (pss_cons (ps_if (pt_cmpR op_ne (pe_callB call_isi (by rfl) mi (by decide +kernel) (pa_cons (pv 0) (pa_cons (pe_bltn (v := .ty "list") (by rfl) ml (by decide +kernel) rfl) pa_nil))) (pe_callB call_isi (by rfl) mi (by decide +kernel) (pa_cons (pv 1) (pa_cons (pe_bltn (v := .ty "list") (by rfl) ml (by decide +kernel) rfl) pa_nil))) (nomark _)) (pss_one (ps_ret pe_bl)) pss_nil)
          (pss_cons (ps_if (PW.pt (pw_or (pt_cmpR op_ne (pe_callB call_isi (by rfl) mi (by decide +kernel) (pa_cons (pv 0) (pa_cons (pe_bltn (v := .ty "tuple") (by rfl) mt (by decide +kernel) rfl) pa_nil))) (pe_callB call_isi (by rfl) mi (by decide +kernel) (pa_cons (pv 1) (pa_cons (pe_bltn (v := .ty "tuple") (by rfl) mt (by decide +kernel) rfl) pa_nil))) (nomark _)) (pw_or1 (pt_cmpR op_ne (pe_callB call_len_seq (by rfl) me PySem.boot_len (pa_cons (pv 0) pa_nil)) (pe_callB call_len_seq (by rfl) me PySem.boot_len (pa_cons (pv 1) pa_nil)) (nomark _))))) (pss_one (ps_ret pe_bl)) pss_nil)
          (pss_one (ps_ret (pe_callB (cr_all rfl) (by rfl) ma (by decide +kernel) (pa_cons (pe_lc (own := [("_law_one", 2), ("_law_other", 3)]) (g := gTup K 2 (gCons (gName 2) (gCons (gName 3) gNil))) (tt := tYes) (te := tCall (spSame n) [] E0 (tCons (tVar 2) (tCons (tVar 3) tNil))) rfl scSame.nd (RZ.pi_zipA (by rfl) mz (pa_cons (pv 0) (pa_cons (pv 1) pa_nil)))
            (blkOk_by (own := [("_law_one", 2), ("_law_other", 3)]) (N := ["_law_found", "_law_due_here", "_law_one", "_law_other"]) (sc := defScope sSame) (by decide +kernel)) (fun _ _ _ _ _ => pg_tup rfl (pgs_cons (pg_name (i := 2) scSame.nd rfl (.inl rfl)) (pgs_cons (pg_name (i := 3) scSame.nd rfl (.inl rfl)) pgs_nil))) (fun _ _ _ _ _ => pts_nil)
            (fun _ _ _ _ _ => pe_own C hr (by rfl) (pa_cons (pv 2) (pa_cons (pv 3) pa_nil)))) pa_nil)))))) pss_nil) pss_never), ?_⟩
      cases h1 with | lst ea la da => ?_
      cases h2 with | lst eb lb db => ?_
      rename_i a xs b ys
      have deq : ∀ x : V, (decide (x = x)) = true := fun x => decide_eq_true rfl
      have hbl := noBls_all (by simpa only [NoBl] using hb)
      refine ⟨_, rfl, rfl, false, congrArg V.bl (decide_eq_false (fun z => nomatch z)), iteF ?_⟩
      refine ⟨_, rfl, _, _, .type "list", .type "list", true, rfl, .ty _, .base (.lst eb), kit_ty (by decide +kernel), _, rfl, iteT (iteT ?_)⟩
      refine ⟨_, rfl, _, _, .type "list", .type "list", true, rfl, .ty _, .base (.lst ea), kit_ty (by decide +kernel), _, rfl, _, _, .type "list", .type "list", true, rfl, .ty _, .base (.lst eb), kit_ty (by decide +kernel), rfl, false, congrArg V.bl (by rw [deq]; rfl), iteF ?_⟩
      refine ⟨_, rfl, _, _, .type "list", .type "tuple", false, rfl, .ty _, .base (.lst ea), kit_ty (by decide +kernel), _, rfl, _, _, .type "list", .type "tuple", false, rfl, .ty _, .base (.lst eb), kit_ty (by decide +kernel), rfl, false, congrArg V.bl (by rw [deq]; rfl), iteF ?_⟩
      refine ⟨_, rfl, a, xs, rfl, Sq.list ea, _, rfl, b, ys, rfl, Sq.list eb, rfl, false, congrArg V.bl (by rw [decide_eq_true (congrArg (fun n : Nat => V.int (n : Int)) (la.trans lb.symm))]; rfl), iteF ?_⟩
      refine ⟨_, rfl, _, rfl, a, b, xs, ys, rfl, .inl ⟨SqL.of ea, SqL.of eb, fun D nD => lc_it (walk_zip (K := K) (a := a) (b := b) (xs := xs) (ys := ys) (n := ds.length) (by rw [la, lb, Nat.min_self])) (fun j H' => Same H H' ∧ H' D = some (.lst ((List.replicate j true).map V.bl))) ⟨same_upd nD, upd_same⟩
        (fun j H' _ hP => ⟨SqL.of (hP.1 _ _ ea), SqL.of (hP.1 _ _ eb)⟩) (fun j x H' H'' hj hP hy => ?_) (fun H3 hP => ?_)⟩⟩
      · obtain ⟨sm', eD⟩ := hP
        obtain ⟨T, x1, x2, rfl, nT, rfl, f1, f2⟩ := hy
        have st := same_upd (o := .tup [x1, x2]) nT
        have hdj : ds[j]? = some ds[j] := List.getElem?_eq_getElem hj
        have S := sm'.trans st
        refine ⟨T, _, rfl, .inl (.inl upd_same), rfl, _, _, rfl, _, _, rfl, rfl, rfl, ?_⟩
        refine ⟨_, rfl, _, rfl, x1, x2, ds[j], rfl, (da j x1 _ f1 hdj).same S, (db j x2 _ f2 hdj).same S, hall _ (List.getElem_mem hj), hbl _ (List.getElem_mem hj), fun H4 s4 => ?_⟩
        refine ⟨_, s4 _ _ (st _ _ eD), small1000 (by rw [List.length_map, List.length_replicate]; omega), fun c o e => ?_, ?_⟩
        · rw [upd_ne (ne_of_none e nD)]
          exact s4 _ _ (st _ _ (sm' c o e))
        · rw [upd_same, List.replicate_succ', List.map_append]
          rfl
      · obtain ⟨sm', eD⟩ := hP
        refine ⟨D, List.replicate ds.length true, rfl, SqL.of eD, ?_⟩
        rw [all_true]
        exact q _ sm'
    · refine ⟨_, pss_cons (ps_if (pt_cmpR op_isN (pv 1) pe_non (nomark _)) (pss_one (ps_ret (pe_cmpR op_isN (pv 0) pe_non (nomark _)))) pss_nil)
        (pss_cons (ps_if (PW.pt (pw_or (pt_val (pe_callB call_isi (by rfl) mi (by decide +kernel) (pa_cons (pv 1) (pa_cons (pe_bltn (v := .ty "list") (by rfl) ml (by decide +kernel) rfl) pa_nil)))) (pw_or1 (pt_val (pe_callB call_isi (by rfl) mi (by decide +kernel) (pa_cons (pv 1) (pa_cons (pe_bltn (v := .ty "tuple") (by rfl) mt (by decide +kernel) rfl) pa_nil)))))))
          (pss_cons (ps_if (pt_cmpR op_ne (pe_callB call_isi (by rfl) mi (by decide +kernel) (pa_cons (pv 0) (pa_cons (pe_bltn (v := .ty "list") (by rfl) ml (by decide +kernel) rfl) pa_nil))) (pe_callB call_isi (by rfl) mi (by decide +kernel) (pa_cons (pv 1) (pa_cons (pe_bltn (v := .ty "list") (by rfl) ml (by decide +kernel) rfl) pa_nil))) (nomark _)) (pss_one (ps_ret pe_bl)) pss_nil)
          (pss_cons (ps_if (PW.pt (pw_or (pt_cmpR op_ne (pe_callB call_isi (by rfl) mi (by decide +kernel) (pa_cons (pv 0) (pa_cons (pe_bltn (v := .ty "tuple") (by rfl) mt (by decide +kernel) rfl) pa_nil))) (pe_callB call_isi (by rfl) mi (by decide +kernel) (pa_cons (pv 1) (pa_cons (pe_bltn (v := .ty "tuple") (by rfl) mt (by decide +kernel) rfl) pa_nil))) (nomark _)) (pw_or1 (pt_cmpR op_ne (pe_callB call_len_seq (by rfl) me PySem.boot_len (pa_cons (pv 0) pa_nil)) (pe_callB call_len_seq (by rfl) me PySem.boot_len (pa_cons (pv 1) pa_nil)) (nomark _))))) (pss_one (ps_ret pe_bl)) pss_nil)
          (pss_one (ps_ret (pe_callB (cr_all rfl) (by rfl) ma (by decide +kernel) (pa_cons (pe_lc (own := [("_law_one", 2), ("_law_other", 3)]) (g := gTup K 2 (gCons (gName 2) (gCons (gName 3) gNil))) (tt := tYes) (te := tCall (spSame n) [] E0 (tCons (tVar 2) (tCons (tVar 3) tNil))) rfl scSame.nd (RZ.pi_zipA (by rfl) mz (pa_cons (pv 0) (pa_cons (pv 1) pa_nil)))
            (blkOk_by (own := [("_law_one", 2), ("_law_other", 3)]) (N := ["_law_found", "_law_due_here", "_law_one", "_law_other"]) (sc := defScope sSame) (by decide +kernel)) (fun _ _ _ _ _ => pg_tup rfl (pgs_cons (pg_name (i := 2) scSame.nd rfl (.inl rfl)) (pgs_cons (pg_name (i := 3) scSame.nd rfl (.inl rfl)) pgs_nil))) (fun _ _ _ _ _ => pts_nil)
            (fun _ _ _ _ _ => pe_own C hr (by rfl) (pa_cons (pv 2) (pa_cons (pv 3) pa_nil)))) pa_nil)))))) pss_nil) pss_never), ?_⟩
      cases h1 with | tup ea la da => ?_
      cases h2 with | tup eb lb db => ?_
      rename_i a xs b ys
      have deq : ∀ x : V, (decide (x = x)) = true := fun x => decide_eq_true rfl
      have hbl := noBls_all (by simpa only [NoBl] using hb)
      refine ⟨_, rfl, rfl, false, congrArg V.bl (decide_eq_false (fun z => nomatch z)), iteF ?_⟩
      refine ⟨_, rfl, _, _, .type "tuple", .type "list", false, rfl, .ty _, .base (.tup eb), kit_ty (by decide +kernel), _, rfl, iteF ?_⟩
      refine ⟨_, rfl, _, _, .type "tuple", .type "tuple", true, rfl, .ty _, .base (.tup eb), kit_ty (by decide +kernel), _, rfl, iteT ?_⟩
      refine ⟨_, rfl, _, _, .type "tuple", .type "list", false, rfl, .ty _, .base (.tup ea), kit_ty (by decide +kernel), _, rfl, _, _, .type "tuple", .type "list", false, rfl, .ty _, .base (.tup eb), kit_ty (by decide +kernel), rfl, false, congrArg V.bl (by rw [deq]; rfl), iteF ?_⟩
      refine ⟨_, rfl, _, _, .type "tuple", .type "tuple", true, rfl, .ty _, .base (.tup ea), kit_ty (by decide +kernel), _, rfl, _, _, .type "tuple", .type "tuple", true, rfl, .ty _, .base (.tup eb), kit_ty (by decide +kernel), rfl, false, congrArg V.bl (by rw [deq]; rfl), iteF ?_⟩
      refine ⟨_, rfl, a, xs, rfl, Sq.tup ea, _, rfl, b, ys, rfl, Sq.tup eb, rfl, false, congrArg V.bl (by rw [decide_eq_true (congrArg (fun n : Nat => V.int (n : Int)) (la.trans lb.symm))]; rfl), iteF ?_⟩
      refine ⟨_, rfl, _, rfl, a, b, xs, ys, rfl, .inr ⟨.inl (.inl ea), .inl (.inl eb), fun D nD => lc_it (walk_zipTs (K := K) (a := a) (b := b) (xs := xs) (ys := ys) (n := ds.length) la lb) (fun j H' => Same H H' ∧ H' D = some (.lst ((List.replicate j true).map V.bl))) ⟨same_upd nD, upd_same⟩
        (fun j H' _ hP => ⟨.inl (.inl (hP.1 _ _ ea)), .inl (.inl (hP.1 _ _ eb))⟩) (fun j x H' H'' hj hP hy => ?_) (fun H3 hP => ?_)⟩⟩
      · obtain ⟨sm', eD⟩ := hP
        obtain ⟨T, x1, x2, rfl, nT, rfl, f1, f2⟩ := hy
        have st := same_upd (o := .tup [x1, x2]) nT
        have hdj : ds[j]? = some ds[j] := List.getElem?_eq_getElem hj
        have S := sm'.trans st
        refine ⟨T, _, rfl, .inl (.inl upd_same), rfl, _, _, rfl, _, _, rfl, rfl, rfl, ?_⟩
        refine ⟨_, rfl, _, rfl, x1, x2, ds[j], rfl, (da j x1 _ f1 hdj).same S, (db j x2 _ f2 hdj).same S, hall _ (List.getElem_mem hj), hbl _ (List.getElem_mem hj), fun H4 s4 => ?_⟩
        refine ⟨_, s4 _ _ (st _ _ eD), small1000 (by rw [List.length_map, List.length_replicate]; omega), fun c o e => ?_, ?_⟩
        · rw [upd_ne (ne_of_none e nD)]
          exact s4 _ _ (st _ _ (sm' c o e))
        · rw [upd_same, List.replicate_succ', List.map_append]
          rfl
      · obtain ⟨sm', eD⟩ := hP
        refine ⟨D, List.replicate ds.length true, rfl, SqL.of eD, ?_⟩
        rw [all_true]
        exact q _ sm'
end

theorem kit2 {K : PySem.W.Frag} {t a b : String} (h1 : kitB t a = some false) (h2 : kitB t b = some false) : PySem.W.kitAny K (.type t) [.type a, .type b] = some false :=
  kitAny_cons (kit_ty h1) (fun _ => kitAny_cons (kit_ty h2) (fun _ => kitAny_nil) (fun z => nomatch z)) (fun z => nomatch z)
theorem kit2L {K : PySem.W.Frag} : PySem.W.kitAny K (.type "list") [.type "list", .type "tuple"] = some true :=
  kitAny_cons (b := true) (kit_ty (by decide +kernel)) (fun z => nomatch z) (fun _ => rfl)
theorem kit2T {K : PySem.W.Frag} : PySem.W.kitAny K (.type "tuple") [.type "list", .type "tuple"] = some true :=
  kitAny_cons (b := false) (kit_ty (by decide +kernel)) (fun _ => kitAny_cons (b := true) (kit_ty (by decide +kernel)) (fun z => nomatch z) (fun _ => rfl)) (fun z => nomatch z)

/-! ### lists for tuples, in all depths -/
mutual
def lsD : PyData → PyData
  | .list ds => .list (lsDs ds)
  | .tuple ds => .list (lsDs ds)
  | d => d
def lsDs : List PyData → List PyData
  | [] => []
  | d :: ds => lsD d :: lsDs ds
end
theorem lsDs_map : ∀ ds : List PyData, lsDs ds = ds.map lsD
  | [] => by rw [lsDs]; rfl
  | d :: ds => by rw [lsDs, lsDs_map ds]; rfl
open Classical in
/-- what stands but the hidden -/
noncomputable def hide (N : Addr → Prop) (H : Hp) : Hp := fun b => if N b then none else H b
theorem hide_at {N : Addr → Prop} {H : Hp} {b : Addr} {o : HO} (n : ¬ N b) (e : H b = some o) : hide N H b = some o := by
  unfold hide
  rw [if_neg n]
  exact e
theorem of_hide {N : Addr → Prop} {H : Hp} {b : Addr} {o : HO} (e : hide N H b = some o) : ¬ N b ∧ H b = some o := by
  unfold hide at e
  by_cases n : N b
  · rw [if_pos n] at e; cases e
  · rw [if_neg n] at e; exact ⟨n, e⟩
abbrev sLists : Stmt := topS 29
theorem scLists : FnScope ["_law_thing", "_law_one"] ["_law_thing"] (defScope sLists) := ⟨rfl, rfl, rfl, by decide +kernel, rfl, by decide +kernel, by decide +kernel⟩
def spLists (n : Nat) : Sp := fun vs H Q _ => ∃ (v : V) (d : PyData) (N : Addr → Prop), vs = [v] ∧ (∀ b, N b → H b ≠ none) ∧ Dat (hide N H) v d ∧ Sm n d ∧ ∀ v' H', Dat (hide N H') v' (lsD d) → Same H H' → Q v' H'
theorem lsD_flat {d : PyData} (h : Flat d) : lsD d = d := by
  rcases h with rfl | ⟨_, rfl⟩ | ⟨_, rfl⟩ | ⟨_, rfl⟩ <;> simp only [lsD]
/-- never come to -/
theorem pe_never {X : Cx} {e : Expr} : PE X e (fun _ _ _ => False) := ⟨fun _ _ _ _ _ _ h => h.elim⟩
abbrev ListsGoal (K : PySem.W.Frag) (mg : Str → Option Value) (P : Program) (w : World) (base : Heap) (f : Addr) (cdv : Value) (A : Around) (outer : List Env) (s : Shared) (H : Hp) (E : XK) (v : V) (Q : VK) : Prop :=
  ∃ t, PSs (cxOf CX0 P w K mg base ["_law_thing", "_law_one"] "_law_lists" (defScope sLists) f cdv A outer s H E).nox (defBody sLists) t ∧ t { nx := fun _ H' => Q .non H', rt := Q } (start ["_law_thing", "_law_one"] [v]) H
section
variable {K : PySem.W.Frag} {mg : Str → Option Value} {P : Program} {w : World} {base : Heap}
theorem Dat.ty {H : Hp} {v : V} {d : PyData} (h : Dat H v d) (hd : Flat d) : ∃ t : String, TyX K H v (.type t) ∧ PySem.W.kitAny K (.type t) [.type "list", .type "tuple"] = some false := by
  rcases hd with rfl | ⟨b, rfl⟩ | ⟨i, rfl⟩ | ⟨x, rfl⟩
  · cases h; exact ⟨"NoneType", .base .non, kit2 (by decide +kernel) (by decide +kernel)⟩
  · cases h; exact ⟨"bool", .base (.bl b), kit2 (by decide +kernel) (by decide +kernel)⟩
  · cases h; exact ⟨"int", .base (.int i), kit2 (by decide +kernel) (by decide +kernel)⟩
  · cases h; exact ⟨"str", .base (.str x), kit2 (by decide +kernel) (by decide +kernel)⟩
theorem Dat.flat {H H' : Hp} {v : V} {d : PyData} (h : Dat H v d) (hd : Flat d) : Dat H' v d := by
  rcases hd with rfl | ⟨b, rfl⟩ | ⟨i, rfl⟩ | ⟨x, rfl⟩
  · cases h; exact .non
  · cases h; exact .bl b
  · cases h; exact .int i
  · cases h; exact .str x
theorem lists_flat {f : Addr} (mi : mg "isinstance" = none) (ml : mg "list" = none) (mt : mg "tuple" = none) {cdv : Value} {A : Around} {outer : List Env} {s : Shared} {H : Hp} {v : V} {d : PyData} {N : Addr → Prop} {Q : VK} {E : XK}
    (h1 : Dat (hide N H) v d) (hd : Flat d) (q : ∀ v' H', Dat (hide N H') v' (lsD d) → Same H H' → Q v' H') : ListsGoal K mg P w base f cdv A outer s H E v Q := by
  refine ⟨_, pss_one (ps_ret (pe_ifExp (pt_val (pe_callB call_isiT (by rfl) mi (by decide +kernel) (pa_cons (pv 0) (pa_cons (pe_tup (pa_cons (pe_bltn (v := .ty "list") (by rfl) ml (by decide +kernel) rfl) (pa_cons (pe_bltn (v := .ty "tuple") (by rfl) mt (by decide +kernel) rfl) pa_nil))) pa_nil)))) pe_never (pv 0))), ?_⟩
  refine ⟨_, rfl, (by show 2 ≤ sizeLine; decide), fun p np => ?_⟩
  have s1 : Same H (upd H p (.tup [.ty "list", .ty "tuple"])) := same_upd np
  obtain ⟨t, ty, kt⟩ := (h1.flat (H' := upd H p (.tup [.ty "list", .ty "tuple"])) hd).ty (K := K) hd
  refine ⟨v, p, _, .type t, [.type "list", .type "tuple"], false, rfl, upd_same, .cons (.ty _) (.cons (.ty _) .nil), ty, kt, _, rfl, iteF ?_⟩
  exact ⟨_, rfl, q v _ (by rw [lsD_flat hd]; exact h1.flat hd) s1⟩
theorem ok_lists0 {f : Addr} {fd : FuncData} {k : Nat} (F : Fun K "_law_lists" "_law_lists" sLists f fd) (mi : mg "isinstance" = none) (ml : mg "list" = none) (mt : mg "tuple" = none) : FnOk P w K mg base CX0 (k + 1) f fd ["_law_thing"] (spLists 0) := by
  refine F.ok scLists (fun vs H Q E h => ?_) (fun cdv A outer s H vs Q E hr h => ?_)
  · obtain ⟨v, d, N, rfl, _⟩ := h
    rfl
  · obtain ⟨v, d, N, rfl, _, h1, hd, q⟩ := h
    exact lists_flat mi ml mt h1 hd.flat q
theorem ok_listsS {f : Addr} {fd : FuncData} {n k : Nat} (F : Fun K "_law_lists" "_law_lists" sLists f fd) (C : Cal P w K mg base k "_law_lists" ["_law_thing"] (spLists n)) (mi : mg "isinstance" = none) (ml : mg "list" = none) (mt : mg "tuple" = none) : FnOk P w K mg base CX0 (k + 1) f fd ["_law_thing"] (spLists (n + 1)) := by
  refine F.ok scLists (fun vs H Q E h => ?_) (fun cdv A outer s H vs Q E hr h => ?_)
  · obtain ⟨v, d, N, rfl, _⟩ := h
    rfl
  · obtain ⟨v, d, N, rfl, hN, h1, hd, q⟩ := h
    have main : ∀ (a : Addr) (xs : List V) (ds : List PyData), v = .ref a → SqH H a xs → xs.length = ds.length → (∀ (i : Nat) x d, xs[i]? = some x → ds[i]? = some d → Dat (hide N H) x d) → ds.length ≤ 900 → (∀ d ∈ ds, Sm n d) → lsD d = .list (lsDs ds) → ListsGoal K mg P w base f cdv A outer s H E v Q := by
      intro a xs ds ev ha hlen hall hl hsm hls
      subst ev
      refine ⟨_, pss_one (ps_ret (pe_ifExp (pt_val (pe_callB call_isiT (by rfl) mi (by decide +kernel) (pa_cons (pv 0) (pa_cons (pe_tup (pa_cons (pe_bltn (v := .ty "list") (by rfl) ml (by decide +kernel) rfl) (pa_cons (pe_bltn (v := .ty "tuple") (by rfl) mt (by decide +kernel) rfl) pa_nil))) pa_nil))))
        (pe_lc (own := [("_law_one", 1)]) (g := gName 1) (tt := tYes) (te := tCall (spLists n) [] E0 (tCons (tVar 1) tNil)) rfl scLists.nd (pi_seq (pv 0)) (blkOk_by (own := [("_law_one", 1)]) (N := ["_law_thing", "_law_one"]) (sc := defScope sLists) (by decide +kernel)) (fun _ _ _ _ _ => pg_name (i := 1) scLists.nd rfl (.inl rfl)) (fun _ _ _ _ _ => pts_nil) (fun _ _ _ _ _ => pe_own C hr (by rfl) (pa_cons (pv 1) pa_nil))) (pv 0))), ?_⟩
      refine ⟨_, rfl, (by show 2 ≤ sizeLine; decide), fun p np => ?_⟩
      have s1 : Same H (upd H p (.tup [.ty "list", .ty "tuple"])) := same_upd np
      have ha1 := ha.same s1
      have ep1 : upd H p (.tup [.ty "list", .ty "tuple"]) p = some (.tup [.ty "list", .ty "tuple"]) := upd_same
      revert s1 ha1 ep1
      generalize upd H p (.tup [.ty "list", .ty "tuple"]) = H1
      intro s1 ha1 ep1
      obtain ⟨t, ty, kt⟩ : ∃ t : String, TyX K H1 (.ref a) (.type t) ∧ PySem.W.kitAny K (.type t) [.type "list", .type "tuple"] = some true := by
        rcases ha1 with h | h
        · exact ⟨"list", .base (.lst h), kit2L⟩
        · exact ⟨"tuple", .base (.tup h), kit2T⟩
      refine ⟨.ref a, p, _, .type t, [.type "list", .type "tuple"], true, rfl, ep1, .cons (.ty _) (.cons (.ty _) .nil), ty, kt, _, rfl, iteT ?_⟩
      refine ⟨_, rfl, a, rfl, lc_seq (xs := xs) ha1.sq (fun D j H' => ∃ ws, Same H1 H' ∧ H' D = some (.lst ws) ∧ ws.length = j ∧ ∀ (i : Nat) x d, ws[i]? = some x → ds[i]? = some d → Dat (hide (fun b => N b ∨ b = D) H') x (lsD d)) (fun D nD => ⟨[], same_upd nD, upd_same, rfl, fun _ _ _ e => nomatch e⟩)
        (fun D j H' nD hP => SqTo.same (let ⟨_, s, _⟩ := hP; s)) (fun D j x H' nD hx hP => ?_) (fun D H' nD hP => ?_)⟩
      · obtain ⟨ws, sm, eD, hwl, hws⟩ := hP
        have hj : j < ds.length := by rw [← hlen]; exact (List.getElem?_eq_some_iff.mp hx).1
        have hdj : ds[j]? = some ds[j] := List.getElem?_eq_getElem hj
        have S := s1.trans sm
        have nDH : H D = none := s1.free nD
        refine ⟨rfl, _, rfl, x, ds[j], fun b => N b ∨ b = D, rfl, fun b hb => ?_, ?_, hsm _ (List.getElem_mem hj), fun v' H'' hv' s'' => ?_⟩
        · rcases hb with z | z
          · intro e
            cases e2 : H b with
            | none => exact hN b z e2
            | some o => rw [S b o e2] at e; cases e
          · rw [z, eD]; exact fun z => nomatch z
        · refine (hall j x _ hx hdj).same fun b o e => ?_
          obtain ⟨nb, eb⟩ := of_hide e
          exact hide_at (fun z => z.elim nb fun z => (ne_of_none eb nDH) z) (S b o eb)
        · have eD'' := s'' _ _ eD
          have keepD : ∀ {o : HO}, Same (hide (fun b => N b ∨ b = D) H'') (hide (fun b => N b ∨ b = D) (upd H'' D o)) := fun b o e => by
            obtain ⟨nb, eb⟩ := of_hide e
            exact hide_at nb (by rw [upd_ne fun z => nb (.inr z)]; exact eb)
          refine ⟨ws, eD'', small1000 (by omega), ws ++ [v'], fun b o e => ?_, upd_same, by rw [List.length_append, hwl]; rfl, fun i x d e1 e2 => ?_⟩
          · rw [upd_ne (ne_of_none e nD)]
            exact s'' _ _ (sm b o e)
          · by_cases hi : i < ws.length
            · rw [List.getElem?_append_left hi] at e1
              refine ((hws i x d e1 e2).same fun b o e => ?_).same keepD
              obtain ⟨nb, eb⟩ := of_hide e
              exact hide_at nb (s'' b o eb)
            · rw [List.getElem?_append_right (by omega)] at e1
              have hz : i - ws.length = 0 := by
                cases hq : i - ws.length with
                | zero => rfl
                | succ m => rw [hq] at e1; cases e1
              rw [hz] at e1
              cases e1
              have : i = j := by omega
              subst this
              rw [hdj] at e2
              cases e2
              exact hv'.same keepD
      · obtain ⟨ws, sm, eD, hwl, hws⟩ := hP
        have S := s1.trans sm
        have nDH : H D = none := s1.free nD
        refine q _ _ ?_ S
        rw [hls]
        refine .lst (hide_at (fun z => hN D z nDH) eD) (by rw [hwl, lsDs_map, List.length_map, hlen]) fun i x e e1 e2 => ?_
        rw [lsDs_map, List.getElem?_map] at e2
        cases hd' : ds[i]? with
        | none => rw [hd'] at e2; cases e2
        | some d' =>
          rw [hd'] at e2
          cases e2
          refine (hws i x d' e1 hd').same fun b o e => ?_
          obtain ⟨nb, eb⟩ := of_hide e
          exact hide_at (fun z => nb (.inl z)) eb
    rcases hd.cases with hf | ⟨ds, rfl, hl, hall⟩ | ⟨ds, rfl, hl, hall⟩
    · exact lists_flat mi ml mt h1 hf q
    · cases h1 with | lst ea la da => ?_
      exact main _ _ ds rfl (.inl (of_hide ea).2) la da hl hall (by rw [lsD])
    · cases h1 with | tup ea la da => ?_
      exact main _ _ ds rfl (.inr (of_hide ea).2) la da hl hall (by rw [lsD])
end

/-! ### a batch as data -/
def canPair (p : Int × Int) : PyData := .list [.int p.1, .int p.2]
def canP : Pas → PyData
  | .line p st lo b => .list [.str "line", .str p, .int st, .int lo, .int b]
  | .racks p per ss => .list [.str "racks", .str p, .int per, .list (ss.map canPair)]
def canB (m : Str) (T : Int) (ps : List Pas) : PyData := .list [.str m, .int T, .list (ps.map canP)]
theorem lsDs_pairs : ∀ ss : List (Int × Int), lsDs (ss.map pairD) = ss.map canPair
  | [] => by rw [List.map_nil, lsDs]; rfl
  | p :: r => by
    rw [List.map_cons, lsDs, lsDs_pairs r]
    simp only [pairD, lsD, lsDs, List.map_cons, canPair]
theorem dat_cons {H : Hp} {x : V} {d : PyData} {xs : List V} {ds : List PyData} (h : Dat H x d) (hr : ∀ (i : Nat) y e, xs[i]? = some y → ds[i]? = some e → Dat H y e) : ∀ (i : Nat) y e, (x :: xs)[i]? = some y → (d :: ds)[i]? = some e → Dat H y e
  | 0, y, e, e1, e2 => by cases e1; cases e2; exact h
  | i + 1, y, e, e1, e2 => hr i y e e1 e2
theorem dat_nil {H : Hp} : ∀ (i : Nat) y e, ([] : List V)[i]? = some y → ([] : List PyData)[i]? = some e → Dat H y e := fun _ _ _ e => nomatch e
theorem sm_cons {n : Nat} {d : PyData} {ds : List PyData} (h : Sm n d) (hr : ∀ e ∈ ds, Sm n e) : ∀ e ∈ d :: ds, Sm n e := fun e he => by
  rcases List.mem_cons.mp he with z | z
  · rw [z]; exact h
  · exact hr e z
theorem sm_nil {n : Nat} : ∀ e ∈ ([] : List PyData), Sm n e := fun _ h => nomatch h
theorem sm_int {n : Nat} {i : Int} : Sm n (.int i) := by cases n <;> trivial
theorem sm_str {n : Nat} {x : Str} : Sm n (.str x) := by cases n <;> trivial
theorem pas_dat {H : Hp} {v : V} {p : Pas} {T : Int} (h : PasV H v p) (g : p.Good T) : ∃ d, Dat H v d ∧ Sm 3 d ∧ lsD d = canP p := by
  cases p with
  | line p st lo b =>
    obtain ⟨a, rfl, e⟩ := h
    refine ⟨.tuple [.str "line", .str p, .int st, .int lo, .int b], .tup e rfl (dat_cons (.str _) (dat_cons (.str _) (dat_cons (.int _) (dat_cons (.int _) (dat_cons (.int _) dat_nil))))), ⟨by show 5 ≤ 900; decide, sm_cons sm_str (sm_cons sm_str (sm_cons sm_int (sm_cons sm_int (sm_cons sm_int sm_nil))))⟩, ?_⟩
    simp only [lsD, lsDs, canP]
  | racks p per ss =>
    obtain ⟨a, s, us, rfl, e, hs, hu⟩ := h
    have hl : ss.length ≤ 900 := by have := g.2.2.2.2; omega
    have hp2 : ∀ d ∈ ss.map pairD, Sm 1 d := (sm_prs hl).2
    rcases hs with h | h
    · refine ⟨.tuple [.str "racks", .str p, .int per, .list (ss.map pairD)], .tup e rfl (dat_cons (.str _) (dat_cons (.str _) (dat_cons (.int _) (dat_cons (.lst h (by rw [List.length_map]; exact hu.1) (prs_dat hu)) dat_nil)))), ⟨by show 4 ≤ 900; decide, sm_cons sm_str (sm_cons sm_str (sm_cons sm_int (sm_cons (sm_prs hl) sm_nil)))⟩, ?_⟩
      simp only [lsD, lsDs, canP, lsDs_pairs]
    · refine ⟨.tuple [.str "racks", .str p, .int per, .tuple (ss.map pairD)], .tup e rfl (dat_cons (.str _) (dat_cons (.str _) (dat_cons (.int _) (dat_cons (.tup h (by rw [List.length_map]; exact hu.1) (prs_dat hu)) dat_nil)))), ⟨by show 4 ≤ 900; decide, sm_cons sm_str (sm_cons sm_str (sm_cons sm_int (sm_cons ⟨by rw [List.length_map]; exact hl, hp2⟩ sm_nil)))⟩, ?_⟩
      simp only [lsD, lsDs, canP, lsDs_pairs]
theorem passes_dat {H : Hp} {T : Int} : ∀ {vs : List V} {ps : List Pas}, PassA H vs ps → (∀ p ∈ ps, p.Good T) → ∃ ds, vs.length = ds.length ∧ (∀ (i : Nat) x d, vs[i]? = some x → ds[i]? = some d → Dat H x d) ∧ (∀ d ∈ ds, Sm 3 d) ∧ lsDs ds = ps.map canP
  | [], [], _, _ => ⟨[], rfl, dat_nil, sm_nil, by rw [lsDs]; rfl⟩
  | [], _ :: _, h, _ => nomatch h.1
  | _ :: _, [], h, _ => nomatch h.1
  | v :: vs, p :: ps, h, g => by
    obtain ⟨d, h1, h2, h3⟩ := pas_dat (h.2 0 v p rfl rfl) (g p (List.mem_cons_self ..))
    obtain ⟨ds, e1, e2, e3, e4⟩ := passes_dat (vs := vs) (ps := ps) ⟨Nat.succ.inj h.1, fun i u q f1 f2 => h.2 (i + 1) u q f1 f2⟩ fun q hq => g q (List.mem_cons_of_mem _ hq)
    exact ⟨d :: ds, by rw [List.length_cons, List.length_cons, e1], dat_cons h1 e2, sm_cons h2 e3, by rw [lsDs, h3, e4]; rfl⟩
theorem bat_dat {H : Hp} {b : Addr} {m : Str} {T : Int} {ps : List Pas} (h : BatA H b m T ps) (g : ∀ p ∈ ps, p.Good T) (hl : ps.length ≤ 6) : ∃ d, Dat H (.ref b) d ∧ Sm 5 d ∧ lsD d = canB m T ps := by
  obtain ⟨a, vs, e, ha, hv⟩ := h
  obtain ⟨ds, e1, e2, e3, e4⟩ := passes_dat hv g
  have hdl : ds.length ≤ 900 := by rw [← e1, hv.1]; omega
  have e3' : ∀ d ∈ ds, Sm 3 d := e3
  rcases ha with h | h
  · refine ⟨.tuple [.str m, .int T, .list ds], .tup e rfl (dat_cons (.str _) (dat_cons (.int _) (dat_cons (.lst h e1 e2) dat_nil))), ⟨by show 3 ≤ 900; decide, sm_cons sm_str (sm_cons sm_int (sm_cons ⟨hdl, e3'⟩ sm_nil))⟩, ?_⟩
    simp only [lsD, lsDs, canB, e4]
  · refine ⟨.tuple [.str m, .int T, .tuple ds], .tup e rfl (dat_cons (.str _) (dat_cons (.int _) (dat_cons (.tup h e1 e2) dat_nil))), ⟨by show 3 ≤ 900; decide, sm_cons sm_str (sm_cons sm_int (sm_cons ⟨hdl, e3'⟩ sm_nil))⟩, ?_⟩
    simp only [lsD, lsDs, canB, e4]
theorem lay_pairs : ∀ ss : List (Int × Int), PyData.canLayAll0 (ss.map canPair) = true
  | [] => by simp only [List.map_nil, PyData.canLayAll0]
  | p :: r => by
    rw [List.map_cons, PyData.canLayAll0, lay_pairs r]
    simp [canPair, PyData.canLay0, PyData.canLayAll0]
theorem depth_pairs : ∀ ss : List (Int × Int), PyData.depthAll (ss.map canPair) ≤ 1
  | [] => by simp only [List.map_nil, PyData.depthAll]; omega
  | p :: r => by
    rw [List.map_cons, PyData.depthAll]
    have := depth_pairs r
    simp [canPair, PyData.depth, PyData.depthAll]
    omega
theorem ok_line : PyData.strOk "line" = true := by decide +kernel
theorem ok_racks : PyData.strOk "racks" = true := by decide +kernel
theorem lay_canP {p : Pas} {T : Int} (g : p.Good T) : PyData.canLay0 (canP p) = true := by
  cases p with
  | line p st lo b => simp only [canP, PyData.canLay0, PyData.canLayAll0, ok_line, g.1, Bool.and_true]
  | racks p per ss => simp only [canP, PyData.canLay0, PyData.canLayAll0, ok_racks, g.1, lay_pairs, Bool.and_true]
theorem depth_canP (p : Pas) : PyData.depth (canP p) ≤ 3 := by
  cases p with
  | line p st lo b => simp [canP, PyData.depth, PyData.depthAll]
  | racks p per ss =>
    have := depth_pairs ss
    simp [canP, PyData.depth, PyData.depthAll]
    omega
theorem lay_canPs {T : Int} : ∀ {ps : List Pas}, (∀ p ∈ ps, p.Good T) → PyData.canLayAll0 (ps.map canP) = true
  | [], _ => by simp only [List.map_nil, PyData.canLayAll0]
  | p :: r, g => by rw [List.map_cons, PyData.canLayAll0, lay_canP (g p (List.mem_cons_self ..)), lay_canPs fun q hq => g q (List.mem_cons_of_mem _ hq)]; rfl
theorem depth_canPs : ∀ ps : List Pas, PyData.depthAll (ps.map canP) ≤ 3
  | [] => by simp only [List.map_nil, PyData.depthAll]; omega
  | p :: r => by
    rw [List.map_cons, PyData.depthAll]
    have := depth_canPs r
    have := depth_canP p
    omega
theorem shaped_canB {m : Str} {T : Int} {ps : List Pas} (hm : PyData.strOk m = true) (g : ∀ p ∈ ps, p.Good T) : SeqAt.shaped (canB m T ps) = true := by
  unfold SeqAt.shaped
  have h1 : PyData.canLay0 (canB m T ps) = true := by simp only [canB, PyData.canLay0, PyData.canLayAll0, hm, lay_canPs g, Bool.and_true]
  have h2 : PyData.depth (canB m T ps) ≤ 64 := by
    have := depth_canPs ps
    simp [canB, PyData.depth, PyData.depthAll]
    omega
  rw [h1, decide_eq_true h2]
  rfl
theorem eqv_canB {m : Str} {T : Int} {ps : List Pas} (hm : PyData.strOk m = true) (g : ∀ p ∈ ps, p.Good T) : PyData.eqv (canB m T ps) (canB m T ps) = true := SeqAt.eqv_refl _ (SeqAt.canLay_of_shaped (shaped_canB hm g))
theorem dp_all {K : PySem.W.Frag} {H : Hp} : ∀ {xs : List V} {ds : List PyData}, xs.length = ds.length → (∀ (i : Nat) x d, xs[i]? = some x → ds[i]? = some d → Dp K H x d) → DpAll K H xs ds
  | [], [], _, _ => .nil
  | [], _ :: _, h, _ => nomatch h
  | _ :: _, [], h, _ => nomatch h
  | x :: xs, d :: ds, h, f => .cons (f 0 x d rfl rfl) (dp_all (Nat.succ.inj h) fun i y e e1 e2 => f (i + 1) y e e1 e2)
theorem Dat.dp {K : PySem.W.Frag} {H : Hp} {v : V} {d : PyData} (h : Dat H v d) : Dp K H v d := by
  induction h with
  | non => exact .non
  | bl b => exact .bl b
  | int i => exact .int i
  | str x => exact .str x
  | lst e l _ ih => exact .lst (SqL.of e) (dp_all l ih)
  | tup e l _ ih => exact .tup (.inl (.inl e)) (dp_all l ih)
theorem hide_no (H : Hp) : hide (fun _ => False) H = H := by
  funext b
  unfold hide
  rw [if_neg (fun z => z)]
def winD : Option (Int × Int) → PyData
  | none => .none
  | some p => pairD p
theorem WinV.dat {H : Hp} {v : V} {o : Option (Int × Int)} (h : WinV H v o) : Dat H v (winD o) := by
  cases o with
  | none => cases (show v = .non from h); exact .non
  | some p =>
    obtain ⟨a, rfl, e⟩ := h
    exact .tup e rfl (dat_cons (.int _) (dat_cons (.int _) dat_nil))
theorem sm_win (o : Option (Int × Int)) : Sm 1 (winD o) := by
  cases o with
  | none => trivial
  | some p => exact ⟨by show 2 ≤ 900; decide, sm_cons sm_int (sm_cons sm_int sm_nil)⟩
theorem nb_win (o : Option (Int × Int)) : NoBl (winD o) := by
  cases o with
  | none => simp only [winD, NoBl]
  | some p => simp only [winD, pairD, NoBl, NoBls, and_self]

/-- a walk over what stood before a list was begun -/
theorem for_seqS {K : PySem.W.Frag} {a : Addr} {xs : List V} {g : TG} {tb : TS} {D : Ends} {σ : L2.St} {H0 H1 : Hp} (hq : Sq K H0 a xs) (s1 : Same H0 H1) (Pv : Nat → L2.St → Hp → Prop) (h0 : Pv 0 σ H1)
    (hl : ∀ i σ H', Pv i σ H' → Same H0 H')
    (turn : ∀ i x σ H, xs[i]? = some x → Pv i σ H → g x σ H fun σ2 H2 => tb { D with nx := Pv (i + 1), ct := Pv (i + 1), bk := D.nx } σ2 H2) (fin : ∀ σ H, Pv xs.length σ H → D.nx σ H) :
    ((∃ xs, SqL K H1 a xs) ∧ ForR (Itl K a) g tb D σ H1) ∨ ((∃ xs, SqT K H1 a xs) ∧ ForR (Itt K a) g tb D σ H1) := by
  rcases hq with h | h
  · exact .inl ⟨⟨xs, s1.seq h⟩, for_list (xs := xs) Pv h0 (fun i σ H' _ p => (hl i σ H' p).seq h) turn fin⟩
  · exact .inr ⟨⟨xs, same_t s1 h⟩, for_tup (xs := xs) Pv h0 (fun i σ H' _ p => same_t (hl i σ H' p) h) turn fin⟩

/-! ### enumerate over a list or a tuple -/
theorem meets_enB {v : Value} {o : Obj} {G : Heap → Prop} (B : Begins v o G) : Meets (Builtin.«enumerate.__new__» ⟨[.type "enumerate", v], []⟩) (fun _ R s => G s.heap ∧
    R (.ok (.ret (.ref (s.heap.push o).objs.size))) { s with heap := (s.heap.push o).push { cls := .type "enumerate", data := .fields #[.none, .bool false, .ref s.heap.objs.size, rawInt 0, .none, .none] } }) :=
  .of_wp fun prog w A R s given => by
    obtain ⟨hp, g, d, tk, os⟩ := s
    obtain ⟨hg, given⟩ := given
    have sub0 := sub_enumerate
    have begun : ∀ {A' : Around} {E' Q' : Value → Shared → Prop}, Q' (.ref hp.objs.size) ⟨hp.push o, g, d, tk, os⟩ → wpAny (model prog w) A' (pyIter v) Q' E' ⟨hp, g, d, tk, os⟩ := fun q => B.iter prog w _ _ ⟨hp, g, d, tk, os⟩ _ hg q
    wp_walk using begun
    refine wpAny_stack_any fun stk => wpAny_pure ?_
    split
    · rename_i c0 _ _ _ _ _
      cases (c0 == Value.type "enumerate") <;> (wp_walk using begun; exact ⟨_, rfl, given⟩)
    · wp_walk using begun
      exact ⟨_, rfl, given⟩
theorem call_enB {prog : Program} {w : World} {A : Around} {E Q : Value → Shared → Prop} {s : Shared} {v : Value} {o : Obj} {G : Heap → Prop} (B : Begins v o G) (hg : G s.heap)
    (h : ∀ h', IsEnum h' (s.heap.objs.size + 1) s.heap.objs.size 0 .none → h'.get? s.heap.objs.size = some o → (∀ b o, s.heap.get? b = some o → h'.get? b = some o) → Q (.ref (s.heap.objs.size + 1)) { s with heap := h' }) : wpAny (model prog w) A (call (.type "enumerate") [v]) Q E s := by
  refine callType_new F.called_enumerate (by decide) (F.typeCall_enumerate_1 _) (F.newCall_enumerate_1 _) (fun obj => F.args_object_init_2 obj _) F.entry_enumerate_new (meets_enB B) ⟨hg, ?_⟩
  have z1 : (s.heap.push o).objs.size = s.heap.objs.size + 1 := Heap.size_push ..
  show _ ∧ _
  rw [z1]
  have made : IsEnum ((s.heap.push o).push { cls := .type "enumerate", data := .fields #[.none, .bool false, .ref s.heap.objs.size, rawInt 0, .none, .none] }) (s.heap.objs.size + 1) s.heap.objs.size 0 .none := by
    have e0 := Heap.get?_push_size (s.heap.push o) (o := { cls := .type "enumerate", data := .fields #[.none, .bool false, .ref s.heap.objs.size, rawInt 0, .none, .none] }) rfl
    rw [z1] at e0
    exact e0
  exact ⟨⟨_, made, rfl⟩, h _ made (Heap.get?_push_of_some _ (Heap.get?_push_size _ B.free)) fun b o x => Heap.get?_push_of_some _ (Heap.get?_push_of_some _ x)⟩
/-- the tuple at a as it stands, each item in a new pair -/
def IteT (K : PySem.W.Frag) (a : Addr) : It := ⟨fun i H => ∃ (xs : List V) (x : V), SqT K H a xs ∧ xs[i]? = some x, fun i H v H' => ∃ T x, v = .ref T ∧ H T = none ∧ H' = upd H T (.tup [.int (i : Nat), x]) ∧ ∀ xs, SqT K H a xs → xs[i]? = some x, fun i H => ∃ xs : List V, SqT K H a xs ∧ xs.length = i⟩
theorem turn_enT {P : Program} {w : World} {K : PySem.W.Frag} {elts : List Expr} {kk : Nat} {tpos : Pos} (a e it : Addr) (nei : e ≠ it) (nea : e ≠ a) (nai : a ≠ it) :
    Turn P w K (.Tuple elts kk tpos) (IteT K a) [e, it] e (fun i h => (∃ old, IsEnum h e it ((i : Nat) : Int) old) ∧ h.IsTupleIter it a i) where
  mem := List.mem_cons_self ..
  obj := fun i h ⟨⟨old, he⟩, ⟨o, ho, hc, hd⟩⟩ b hb => by
    rcases List.mem_cons.mp hb with z | z
    · subst z
      exact ⟨_, he, fun v q => nomatch q⟩
    · rw [List.mem_singleton.mp z]
      exact ⟨o, ho, fun v q => by rw [hd] at q; cases q⟩
  keep := fun i h h' ⟨⟨old, he⟩, hi⟩ k => ⟨⟨old, k e (List.mem_cons_self ..) _ he⟩, hi.at fun o q => k it (List.mem_cons_of_mem _ (List.mem_singleton.mpr rfl)) o q⟩
  item := by
    intro X hP hw hK hc i pins s σ H E I hf st hg
    subst hP hw hK
    obtain ⟨⟨old, he⟩, hit⟩ := st
    obtain ⟨xs, x, hq, hx⟩ := hg
    obtain ⟨its, rv, isT, _⟩ := I.tuple hq
    obtain ⟨u, hu, ru⟩ := rv.get hx
    have lte : e < s.heap.objs.size := Heap.lt_size he
    have lti : it < s.heap.objs.size := let ⟨_, q, _⟩ := hit; Heap.lt_size q
    have hui : its.toArray[i]? = some u := by simpa using hu
    have lt : i < its.toArray.size := (Array.getElem?_eq_some_iff.mp hui).1
    have D := Draws.tuple (prog := X.prog) (w := X.w) (A := X.A.in1) (I.ok.hd hc) it a nai its.toArray
    refine wpAny_pyNext_enum_itemD D he ⟨hit, isT⟩ lt nei (by intro z; rcases List.mem_cons.mp z with z | z; exact nei z; exact nea (List.mem_singleton.mp z)) fun x' h' tk hx' ho st' hT hsz hk => ?_
    have ex : u = x' := Option.some.inj (hui.symm.trans hx')
    subst ex
    refine ⟨_, rfl, wpAny_letOwnedTupleGo_enum (s := { s with heap := h', toks := tk + 1 }) ho fun h'' he' sb => ?_⟩
    have hT2 := (sb.2 _ (Nat.ne_of_gt lte)).trans hT
    have new : ObjOk X.prog X.w (upd H s.heap.objs.size (.tup [.int (i : Nat), x])) h'' s.heap.objs.size (.tup [.int (i : Nat), x]) := ⟨by show 2 ≤ sizeLine; decide, [.int i tk, u], .cons ⟨_, rfl⟩ (.cons ru .nil), ⟨_, hT2, rfl, _, rfl⟩⟩
    have I1 : Inv X pins σ (upd H s.heap.objs.size (.tup [.int (i : Nat), x])) { s with heap := h'', toks := tk + 1 } :=
      I.turnedNew (t' := tk + 1) (ch := [e, it]) (fun b ob hb q => (sb.2 b (fun z => hb (z ▸ List.mem_cons_self ..))).trans (hk b ob (fun z => hb (z ▸ List.mem_cons_self ..)) (fun z => hb (z ▸ List.mem_cons_of_mem _ (List.mem_singleton.mpr rfl))) q)) hf (Nat.le_refl _) new
    refine ⟨.ref s.heap.objs.size, _, I1, rfl, ⟨_, x, rfl, I.hok.fresh (Nat.le_refl _), rfl, fun ys hy => by rw [I.tuple_inj hy hq]; exact hx⟩, ⟨⟨u, ?_⟩, st'.1.at fun o q => (sb.2 it nei.symm).trans q⟩, fun b hb => ?_⟩
    · have e1 : ((i + 1 : Nat) : Int) = (i : Int) + 1 := by omega
      exact e1 ▸ he'
    · have ltb : b < s.heap.objs.size := by
        rcases List.mem_cons.mp hb with z | z
        · exact z ▸ lte
        · exact (List.mem_singleton.mp z) ▸ lti
      rw [upd_ne (Nat.ne_of_lt ltb)]
      exact (hf b hb).1
  done := by
    intro X hP hw hK hc i pins s σ H E I hf st hg
    subst hP hw hK
    obtain ⟨⟨old, he⟩, hit⟩ := st
    obtain ⟨xs, hq, hx⟩ := hg
    obtain ⟨its, rv, isT, _⟩ := I.tuple hq
    obtain ⟨f0, f1, _, f3, f4, f5⟩ := hf it (List.mem_cons_of_mem _ (List.mem_singleton.mpr rfl))
    have hl : its.toArray.size = i := by
      have := rv.length
      simp
      omega
    have D := Draws.tuple (prog := X.prog) (w := X.w) (A := X.A.in1) (I.ok.hd hc) it a nai its.toArray
    exact wpAny_pyNext_enum_endD D he (hl.symm ▸ ⟨hit, isT⟩) fun h' eb => ⟨rfl, I.turned (t' := s.toks) (fun b o hb q => eb b o hb q) f0 f1 f3 f4 f5⟩
  self := fun A i s Q E ⟨⟨_, he⟩, _⟩ h => wpAny_pyIter_enum he h
def iEnS (K : PySem.W.Frag) (ta : TA) : TI := fun σ H R => ta σ H fun vs H1 => ∃ a, vs = [.ref a] ∧ (((∃ xs, SqL K H1 a xs) ∧ R (Ite K a) H1) ∨ ((∃ xs, SqT K H1 a xs) ∧ R (IteT K a) H1))
theorem pi_enS {X : Cx} {e : Expr} {ta : TA} {p pos tpos : Pos} {elts : List Expr} {kk : Nat} (hg : Gl X "enumerate") (hm : X.mg "enumerate" = none) (ha : PA X [e] ta) (hs : starEach [e] X.env = [(false, eval e X.env)] := by rfl) : PI X (.Tuple elts kk tpos) (.Call (.Name "enumerate" p) [e] [] pos) (iEnS X.K ta) := by
  constructor
  intro pins s σ H R I h
  refine Call_ (ld_blt I hg hm boot_enumerate (PyProof.Rows.callWith_type1 (thn (ha.run pos pins s σ H _ I h) fun us s1 had => ?_) hs rfl))
  obtain ⟨_, H1, J, rel, a, rfl, had⟩ := had
  cases rel with | cons r rr => ?_
  cases rr
  cases r
  have apart : ∀ b ∈ [s1.heap.objs.size + 1, s1.heap.objs.size], FpOk X pins H1 b := fun b hb => by
    have le : s1.heap.objs.size ≤ b := by
      rcases List.mem_cons.mp hb with z | z
      · rw [z]; exact Nat.le_succ _
      · rw [List.mem_singleton.mp z]; exact Nat.le_refl _
    exact J.fpOk le (J.hok.fresh le)
  rcases had with ⟨⟨xs, hq⟩, q⟩ | ⟨⟨xs, hq⟩, q⟩
  · obtain ⟨its, _, isL, _⟩ := J.list hq
    exact call_enumerate_list isL.isList fun h' he hit _ hk => wpAny_pyIter_enum he ⟨_, _, _, _, H1, rfl, J.kept (t' := s1.toks) hk, turn_enum a _ _, ⟨⟨.none, he⟩, hit, Nat.succ_ne_self _⟩, apart, q⟩
  · obtain ⟨its, _, isT, _⟩ := J.tuple hq
    have lta : a < s1.heap.objs.size := let ⟨_, ho, _⟩ := id isT; Heap.lt_size ho
    exact call_enB (begins_tuple a its.toArray) isT fun h' he hit hk => wpAny_pyIter_enum he ⟨_, _, _, _, H1, rfl, J.kept (t' := s1.toks) hk, turn_enT a _ _ (Nat.succ_ne_self _) (Nat.ne_of_gt (Nat.lt_succ_of_lt lta)) (Nat.ne_of_lt lta), ⟨⟨.none, he⟩, ⟨_, hit, rfl, rfl⟩⟩, apart, q⟩
theorem walk_enT {K : PySem.W.Frag} {a : Addr} {xs : List V} : Walk (IteT K a) xs.length (fun H => SqT K H a xs) (YPair (fun i => some (.int (i : Nat))) (fun i => xs[i]?)) where
  goes := fun i _ hi q => ⟨xs, xs[i], q, List.getElem?_eq_getElem hi⟩
  stops := fun _ q => ⟨xs, q, rfl⟩
  yields := fun i H v H' _ q ⟨T, x, h1, h2, h3, h4⟩ => ⟨T, .int (i : Nat), x, h1, h2, h3, rfl, h4 xs q⟩
theorem for_enS {K : PySem.W.Frag} {a : Addr} {xs : List V} {g : TG} {tb : TS} {D : Ends} {σ : L2.St} {H0 H1 : Hp} (hq : Sq K H0 a xs) (s1 : Same H0 H1) (Pv : Nat → L2.St → Hp → Prop) (h0 : Pv 0 σ H1) (hl : ∀ i σ H', Pv i σ H' → Same H0 H')
    (turn : ∀ i x T σ H, xs[i]? = some x → Pv i σ H → H T = none → g (.ref T) σ (upd H T (.tup [.int (i : Nat), x])) fun σ2 H2 => tb { D with nx := Pv (i + 1), ct := Pv (i + 1), bk := D.nx } σ2 H2) (fin : ∀ σ H, Pv xs.length σ H → D.nx σ H) :
    ((∃ xs, SqL K H1 a xs) ∧ ForR (Ite K a) g tb D σ H1) ∨ ((∃ xs, SqT K H1 a xs) ∧ ForR (IteT K a) g tb D σ H1) := by
  have tn : ∀ i v σ H H', i < xs.length → Pv i σ H → YPair (fun i => some (.int (i : Nat))) (fun i => xs[i]?) i H v H' → g v σ H' fun σ2 H2 => tb { D with nx := Pv (i + 1), ct := Pv (i + 1), bk := D.nx } σ2 H2 := by
    rintro i v σ H H' _ hp ⟨T, x, y, rfl, nT, rfl, e1, e2⟩
    cases e1
    exact turn i y T σ H e2 hp nT
  rcases hq with h | h
  · exact .inl ⟨⟨xs, s1.seq h⟩, for_it walk_enum Pv h0 (fun i σ H' _ p => (hl i σ H' p).seq h) tn fin⟩
  · exact .inr ⟨⟨xs, same_t s1 h⟩, for_it walk_enT Pv h0 (fun i σ H' _ p => same_t (hl i σ H' p) h) tn fin⟩

/-! ### tins at a place: the mathematics -/
/-- a last minute, or none -/
def lastV : Option Int → V
  | none => .non
  | some l => .int l
def meetB (first : Int) (last : Option Int) (p : Int × Int) : Bool := decide (first ≤ p.2) && (match last with
  | none => true
  | some l => decide (p.1 ≤ l))
/-- the first not above the last -/
def Over (first : Int) (last : Option Int) : Prop := ∃ l, last = some l ∧ l < first
/-- the tins whose window meets the minutes -/
def TinP (pl : Str) (T : Int) (ps : List Pas) (first : Int) (last : Option Int) (n : Int) : Prop := (0 ≤ n ∧ n < T) ∧ ¬ Over first last ∧ ∃ p, winF pl n ps = some p ∧ meetB first last p = true
def cntF (T st lo b m : Int) : Int := if m ≤ st then 0 else if lo = 0 then T else if ((m - st) * b + lo - 1) / lo < T then ((m - st) * b + lo - 1) / lo else T
theorem cnt_lt {T st lo b m n : Int} (hl : 0 ≤ lo) (hb : 1 ≤ b) (h0 : 0 ≤ n) (h1 : n < T) : n < cntF T st lo b m ↔ st + n * lo / b < m := by
  unfold cntF
  have q1 : 0 ≤ n * lo / b := Int.ediv_nonneg (Int.mul_nonneg h0 hl) (by omega)
  by_cases c : m ≤ st
  · rw [if_pos c]
    omega
  · rw [if_neg c]
    by_cases e : lo = 0
    · rw [if_pos e, e, Int.mul_zero, Int.zero_ediv]
      omega
    · rw [if_neg e]
      have key1 : n < ((m - st) * b + lo - 1) / lo ↔ n * lo < (m - st) * b := by
        rw [Int.lt_iff_add_one_le, Int.le_ediv_iff_mul_le (by omega), Int.add_mul]
        omega
      have key2 : n * lo / b < m - st ↔ n * lo < (m - st) * b := Int.ediv_lt_iff_lt_mul (by omega)
      split <;> omega
theorem cnt_bd {T st lo b m : Int} (hT : 0 ≤ T) (hl : 0 ≤ lo) (hb : 1 ≤ b) : 0 ≤ cntF T st lo b m ∧ cntF T st lo b m ≤ T := by
  unfold cntF
  by_cases c : m ≤ st
  · rw [if_pos c]
    omega
  · rw [if_neg c]
    by_cases e : lo = 0
    · rw [if_pos e]
      omega
    · rw [if_neg e]
      have q1 : 0 ≤ ((m - st) * b + lo - 1) / lo := Int.ediv_nonneg (by have := Int.mul_nonneg (show 0 ≤ m - st by omega) (show 0 ≤ b by omega); omega) hl
      split <;> omega
def endF (T st lo b : Int) : Option Int → Int
  | none => T
  | some l => cntF T st lo b (l + 1)
theorem line_in {T st lo b first n : Int} {last : Option Int} (hT : 0 ≤ T) (hl : 0 ≤ lo) (hb : 1 ≤ b) : InS [(cntF T st lo b first, endF T st lo b last - 1)] n ↔ (0 ≤ n ∧ n < T) ∧ meetB first last (st + n * lo / b, st + n * lo / b) = true := by
  rw [inS_cons]
  have b1 := cnt_bd (T := T) (st := st) (lo := lo) (b := b) (m := first) hT hl hb
  have b2 : endF T st lo b last ≤ T := by
    cases last with
    | none => exact Int.le_refl _
    | some l => exact (cnt_bd hT hl hb).2
  show ((cntF T st lo b first ≤ n ∧ n ≤ endF T st lo b last - 1) ∨ InS [] n) ↔ _
  have main : 0 ≤ n → n < T → ((cntF T st lo b first ≤ n ∧ n ≤ endF T st lo b last - 1) ↔ meetB first last (st + n * lo / b, st + n * lo / b) = true) := fun h0 h1 => by
    have k1 := cnt_lt (T := T) (st := st) (m := first) hl hb h0 h1
    unfold meetB
    rw [Bool.and_eq_true, decide_eq_true_eq]
    cases last with
    | none =>
      show (cntF T st lo b first ≤ n ∧ n ≤ T - 1) ↔ (first ≤ st + n * lo / b ∧ true = true)
      constructor
      · exact fun z => ⟨by omega, rfl⟩
      · exact fun z => ⟨by omega, by omega⟩
    | some l =>
      have k2 := cnt_lt (T := T) (st := st) (m := l + 1) hl hb h0 h1
      show (cntF T st lo b first ≤ n ∧ n ≤ cntF T st lo b (l + 1) - 1) ↔ (first ≤ st + n * lo / b ∧ decide (st + n * lo / b ≤ l) = true)
      rw [decide_eq_true_eq]
      omega
  constructor
  · rintro (z | z)
    · have h0 : 0 ≤ n := by omega
      have h1 : n < T := by omega
      exact ⟨⟨h0, h1⟩, (main h0 h1).mp z⟩
    · exact absurd z inS_nil
  · rintro ⟨⟨h0, h1⟩, z⟩
    exact .inl ((main h0 h1).mpr z)
def rackP (T per r : Int) : Int × Int := (r * per, (if T < r * per + per then T else r * per + per) - 1)
def metF (T per first : Int) (last : Option Int) : Nat → List (Int × Int) → List (Int × Int)
  | _, [] => []
  | j, s :: r => (if meetB first last s = true then [rackP T per (j : Int)] else []) ++ metF T per first last (j + 1) r
theorem metF_snoc {T per first : Int} {last : Option Int} {s : Int × Int} : ∀ (ss : List (Int × Int)) (j : Nat), metF T per first last j (ss ++ [s]) = metF T per first last j ss ++ (if meetB first last s = true then [rackP T per ((j + ss.length : Nat) : Int)] else [])
  | [], j => by
    rw [List.nil_append, metF, metF, metF, List.append_nil, List.nil_append]
    rfl
  | r :: ss, j => by
    rw [List.cons_append, metF, metF, metF_snoc ss (j + 1), List.append_assoc, List.length_cons, show j + 1 + ss.length = j + (ss.length + 1) by omega]
theorem metF_len {T per first : Int} {last : Option Int} : ∀ (ss : List (Int × Int)) (j : Nat), (metF T per first last j ss).length ≤ ss.length
  | [], _ => Nat.le_refl _
  | s :: r, j => by
    rw [metF, List.length_append, List.length_cons]
    have := metF_len (T := T) (per := per) (first := first) (last := last) r (j + 1)
    split
    · show 1 + _ ≤ _
      omega
    · show 0 + _ ≤ _
      omega
theorem metF_in {T per first n : Int} {last : Option Int} : ∀ (ss : List (Int × Int)) (j : Nat), InS (metF T per first last j ss) n ↔ ∃ (k : Nat) (s : Int × Int), ss[k]? = some s ∧ meetB first last s = true ∧ (rackP T per ((j + k : Nat) : Int)).1 ≤ n ∧ n ≤ (rackP T per ((j + k : Nat) : Int)).2
  | [], j => ⟨fun z => absurd z inS_nil, fun ⟨_, _, e, _⟩ => nomatch e⟩
  | s :: r, j => by
    rw [metF, inS_append, metF_in r (j + 1)]
    constructor
    · rintro (z | ⟨k, s', e, z⟩)
      · split at z
        · rename_i c
          rcases inS_cons.mp z with y | y
          · exact ⟨0, s, rfl, c, y⟩
          · exact absurd y inS_nil
        · exact absurd z inS_nil
      · exact ⟨k + 1, s', e, by rw [show j + (k + 1) = j + 1 + k by omega]; exact z⟩
    · rintro ⟨k, s', e, c, z⟩
      cases k with
      | zero =>
        cases e
        rw [if_pos c]
        exact .inl (inS_cons.mpr (.inl z))
      | succ k => exact .inr ⟨k, s', e, c, by rw [show j + 1 + k = j + (k + 1) by omega]; exact z⟩
theorem rack_in {T per r n : Int} (hp : 1 ≤ per) : ((rackP T per r).1 ≤ n ∧ n ≤ (rackP T per r).2) ↔ n < T ∧ n / per = r := by
  unfold rackP
  show (r * per ≤ n ∧ n ≤ (if T < r * per + per then T else r * per + per) - 1) ↔ _
  have e1 : r ≤ n / per ↔ r * per ≤ n := Int.le_ediv_iff_mul_le (by omega)
  have e2 : n / per < r + 1 ↔ n < (r + 1) * per := Int.ediv_lt_iff_lt_mul (by omega)
  rw [Int.add_mul] at e2
  constructor
  · rintro ⟨z1, z2⟩
    split at z2 <;> omega
  · rintro ⟨z1, z2⟩
    refine ⟨by omega, ?_⟩
    split <;> omega
theorem stays_in {T per first n : Int} {last : Option Int} {ss : List (Int × Int)} (hp : 1 ≤ per) : InS (metF T per first last 0 ss) n ↔ (0 ≤ n ∧ n < T) ∧ ∃ p, ss[(n / per).toNat]? = some p ∧ meetB first last p = true := by
  rw [metF_in]
  constructor
  · rintro ⟨k, s, e, c, z⟩
    obtain ⟨z1, z2⟩ := (rack_in hp).mp z
    have z0 : 0 ≤ n := by
      rcases Int.lt_or_le n 0 with y | y
      · have := Int.ediv_neg_of_neg_of_pos y (show 0 < per by omega)
        omega
      · exact y
    refine ⟨⟨z0, z1⟩, s, ?_, c⟩
    rw [z2, Nat.zero_add, Int.toNat_natCast]
    exact e
  · rintro ⟨⟨z0, z1⟩, p, e, c⟩
    refine ⟨(n / per).toNat, p, e, c, (rack_in hp).mpr ⟨z1, ?_⟩⟩
    rw [Nat.zero_add, Int.toNat_of_nonneg (Int.ediv_nonneg z0 (by omega))]
/-- a new list of a set of just these numbers -/
def RetS (H : Hp) (pr : Int → Prop) (m : Nat) (Q : V → Hp → Prop) : Prop := ∀ (l : Addr) (ws : List V) (rs : List (Int × Int)) H', H l = none → H' l = some (.lst ws) → Prs H' ws rs → Told pr rs → rs.length ≤ m → Same H H' → Q (.ref l) H'
/-! ### the program's -/
abbrev sCnt : Stmt := topS 6
theorem scCnt : FnScope ["tins", "line", "minute", "start", "long", "by", "span"] ["tins", "line", "minute"] (defScope sCnt) := ⟨rfl, rfl, rfl, by decide +kernel, rfl, by decide +kernel, by decide +kernel⟩
def spCnt : Sp := fun vs H Q _ => ∃ (g : Addr) (p : Str) (T st lo b m : Int), vs = [.int T, .ref g, .int m] ∧ H g = some (.tup [.str "line", .str p, .int st, .int lo, .int b]) ∧ (Pas.line p st lo b).Good T ∧ m.natAbs ≤ 2 ^ 250 ∧ Q (.int (cntF T st lo b m)) H
abbrev sOnLine : Stmt := topS 7
theorem scOnLine : FnScope ["tins", "line", "first", "last", "begin", "end"] ["tins", "line", "first", "last"] (defScope sOnLine) := ⟨rfl, rfl, rfl, by decide +kernel, rfl, by decide +kernel, by decide +kernel⟩
/-- minutes that aren't too far -/
def Near (first : Int) (last : Option Int) : Prop := first.natAbs < 2 ^ 250 ∧ ∀ l, last = some l → l.natAbs < 2 ^ 250
def spOnLine : Sp := fun vs H Q _ => ∃ (g : Addr) (p : Str) (T st lo b first : Int) (last : Option Int), vs = [.int T, .ref g, .int first, lastV last] ∧ H g = some (.tup [.str "line", .str p, .int st, .int lo, .int b]) ∧ (Pas.line p st lo b).Good T ∧ 0 ≤ T ∧ Near first last ∧
  RetS H (fun n => (0 ≤ n ∧ n < T) ∧ meetB first last (st + n * lo / b, st + n * lo / b) = true) 1 Q
abbrev sRack : Stmt := topS 8
theorem scRack : FnScope ["tins", "per", "rack"] ["tins", "per", "rack"] (defScope sRack) := ⟨rfl, rfl, rfl, by decide +kernel, rfl, by decide +kernel, by decide +kernel⟩
def spRack : Sp := fun vs H Q _ => ∃ (T per r : Int), vs = [.int T, .int per, .int r] ∧ per.natAbs < 2 ^ 400 ∧ r.natAbs < 2 ^ 400 ∧ ∀ p, H p = none → Q (.ref p) (upd H p (.tup [.int (rackP T per r).1, .int (rackP T per r).2]))
abbrev sStays : Stmt := topS 9
theorem scStays : FnScope ["tins", "racked", "first", "last", "per", "stays", "met", "rack", "begin", "end"] ["tins", "racked", "first", "last"] (defScope sStays) := ⟨rfl, rfl, rfl, by decide +kernel, rfl, by decide +kernel, by decide +kernel⟩
def spStays : Sp := fun vs H Q _ => ∃ (g s : Addr) (us : List V) (p : Str) (T per first : Int) (ss : List (Int × Int)) (last : Option Int), vs = [.int T, .ref g, .int first, lastV last] ∧ H g = some (.tup [.str "racks", .str p, .int per, .ref s]) ∧ SqH H s us ∧ Prs H us ss ∧ (Pas.racks p per ss).Good T ∧ T ≤ 10 ^ 30 ∧
  RetS H (fun n => (0 ≤ n ∧ n < T) ∧ ∃ w, ss[(n / per).toNat]? = some w ∧ meetB first last w = true) 12 Q
abbrev sTinsAt : Stmt := topS 10
theorem scTinsAt : FnScope ["batch", "place", "first", "last", "passed"] ["batch", "place", "first", "last"] (defScope sTinsAt) := ⟨rfl, rfl, rfl, by decide +kernel, rfl, by decide +kernel, by decide +kernel⟩
def spTinsAt : Sp := fun vs H Q _ => ∃ (b : Addr) (mark pl : Str) (T first : Int) (ps : List Pas) (last : Option Int), vs = [.ref b, .str pl, .int first, lastV last] ∧ BatA H b mark T ps ∧ 1 ≤ T ∧ T ≤ 10 ^ 30 ∧ (∀ p ∈ ps, p.Good T) ∧ Near first last ∧
  RetS H (TinP pl T ps first last) 12 Q
section
variable {K : PySem.W.Frag} {mg : Str → Option Value} {P : Program} {w : World} {base : Heap}
theorem ok_cnt {f : Addr} {fd : FuncData} {k : Nat} (F : Fun K "count_ahead" "count_ahead" sCnt f fd) (mn : mg "min" = none) : FnOk P w K mg base CX0 (k + 1) f fd ["tins", "line", "minute"] spCnt := by
  refine F.ok scCnt (fun vs H Q E h => ?_) (fun cdv A outer s H vs Q E hr h => ?_)
  · obtain ⟨g, p, T, st, lo, b, m, rfl, _⟩ := h
    rfl
  · obtain ⟨g, p, T, st, lo, b, m, rfl, eg, ⟨_, st0, st1, lo0, lo1, b0, b1⟩, hm, q⟩ := h
    refine ⟨_, pss_cons (ps_par3 rfl scCnt.nd (i := 3) (j := 4) (l := 5) rfl rfl rfl (by decide) (by decide) (by decide) rfl rfl rfl (pa_cons (pe_ix ix_tup (pv 1) pe_int (fun _ _ => rfl)) (pa_cons (pe_ix ix_tup (pv 1) pe_int (fun _ _ => rfl)) (pa_cons (pe_ix ix_tup (pv 1) pe_int (fun _ _ => rfl)) pa_nil))) (by rfl))
      (pss_cons (ps_if (pt_cmpR op_le (pv 2) (pv 3) (nomark _)) (pss_one (ps_ret pe_int)) pss_nil)
      (pss_cons (ps_if (pt_cmpR op_eq (pv 4) pe_int (nomark _)) (pss_one (ps_ret (pv 0))) pss_nil)
      (pss_cons (ps_set (i := 6) scCnt.nd rfl (.inl rfl) (pe_op op_mulW (pe_op op_sub (pv 2) (pv 3)) (pv 5)))
      (pss_one (ps_ret (pe_callB (call_min2 rfl) (by rfl) mn (by decide +kernel) (pa_cons (pv 0) (pa_cons (pe_op op_fdivW (pe_op op_sub (pe_op op_add (pv 6) (pv 4)) pe_int) (pv 4)) pa_nil)))))))), ?_⟩
    refine ⟨_, rfl, g, _, 2, .int st, rfl, rfl, .inl (.inl eg), atI_nat (j := 2) rfl, _, rfl, g, _, 3, .int lo, rfl, rfl, .inl (.inl eg), atI_nat (j := 3) rfl, _, rfl, g, _, 4, .int b, rfl, rfl, .inl (.inl eg), atI_nat (j := 4) rfl, _, _, _, rfl, ?_⟩
    unfold cntF at q
    refine ⟨_, rfl, _, rfl, m, st, rfl, rfl, _, rfl, ite2 (fun c => ?_) (fun c => ?_)⟩
    · rw [if_pos (of_decide_eq_true c)] at q
      exact q
    · rw [if_neg (fun z => c (decide_eq_true z))] at q
      refine ⟨_, rfl, rfl, _, rfl, ite2 (fun c2 => ?_) (fun c2 => ?_)⟩
      · rw [if_pos (V.int.inj (of_decide_eq_true c2))] at q
        exact ⟨_, rfl, q⟩
      · have hlo : ¬ lo = 0 := fun z => c2 (decide_eq_true (congrArg V.int z))
        rw [if_neg hlo] at q
        have z1 := log_lt (i := m - st) (by omega)
        have z2 := log_lt (i := b) (by omega)
        refine ⟨_, rfl, _, rfl, m, st, rfl, rfl, _, rfl, m - st, b, rfl, rfl, (by show (m - st).natAbs.log2 + b.natAbs.log2 < 1000000; omega), ?_⟩
        refine ⟨_, rfl, _, rfl, _, rfl, _, lo, rfl, rfl, _, 1, rfl, rfl, _, rfl, _, lo, rfl, rfl, ⟨by omega, Nat.lt_trans (log_lt (by omega)) (by decide)⟩, T, _, rfl, ?_⟩
        exact q
theorem ok_onLine {f : Addr} {fd : FuncData} (F : Fun K "tins_on_line" "tins_on_line" sOnLine f fd) (CC : Cal P w K mg base 1 "count_ahead" ["tins", "line", "minute"] spCnt) (CS : Cal P w K mg base 1 "set_of" ["pairs"] (spSetOf K)) : FnOk P w K mg base CX0 2 f fd ["tins", "line", "first", "last"] spOnLine := by
  refine F.ok scOnLine (fun vs H Q E h => ?_) (fun cdv A outer s H vs Q E hr h => ?_)
  · obtain ⟨g, p, T, st, lo, b, first, last, rfl, _⟩ := h
    rfl
  · obtain ⟨g, p, T, st, lo, b, first, last, rfl, eg, hg, hT, ⟨n1, n2⟩, q⟩ := h
    refine ⟨_, pss_cons (ps_set (i := 4) scOnLine.nd rfl (.inl rfl) (pe_own CC hr (by rfl) (pa_cons (pv 0) (pa_cons (pv 1) (pa_cons (pv 2) pa_nil)))))
      (pss_cons (ps_set (i := 5) scOnLine.nd rfl (.inl rfl) (pe_mid (pe_ifExp (pt_cmpR op_isN (pv 3) pe_non (nomark _)) (pv 0) (pe_own CC hr (by rfl) (pa_cons (pv 0) (pa_cons (pv 1) (pa_cons (pe_op op_add (pv 3) pe_int) pa_nil)))))))
      (pss_one (ps_ret (pe_own CS hr (by rfl) (pa_cons (pe_lst (pa_cons (pe_tup (pa_cons (pv 4) (pa_cons (pe_op op_sub (pv 5) pe_int) pa_nil))) pa_nil)) pa_nil))))), ?_⟩
    refine ⟨_, rfl, _, rfl, _, rfl, g, p, T, st, lo, b, first, rfl, eg, hg, by omega, ?_⟩
    refine ⟨fun v H' => v = .int (endF T st lo b last) ∧ H' = H, ?_, ?_⟩
    · cases last with
      | none => exact ⟨_, rfl, rfl, true, congrArg V.bl (decide_eq_true rfl), iteT ⟨_, rfl, rfl, rfl⟩⟩
      | some l =>
        have := n2 l rfl
        refine ⟨_, rfl, rfl, false, congrArg V.bl (decide_eq_false (fun z => nomatch z)), iteF ?_⟩
        exact ⟨_, rfl, _, rfl, _, rfl, l, 1, rfl, rfl, g, p, T, st, lo, b, l + 1, rfl, eg, hg, by omega, rfl, rfl⟩
    · rintro v H' ⟨rfl, rfl⟩
      refine ⟨_, rfl, _, rfl, _, _, rfl, rfl, (by show 2 ≤ sizeLine; decide), fun t nt => ⟨(by show 1 ≤ sizeLine; decide), fun l nl => ?_⟩⟩
      have s1 := same_upd (o := .tup [.int (cntF T st lo b first), .int (endF T st lo b last - 1)]) nt
      have s2 := same_upd (o := .lst [.ref t]) nl
      have et := s2 _ _ (upd_same (H := H') (a := t) (o := .tup [.int (cntF T st lo b first), .int (endF T st lo b last - 1)]))
      refine ⟨l, [.ref t], [(cntF T st lo b first, endF T st lo b last - 1)], rfl, Sq.list upd_same, GP.Prs.snoc GP.Prs.nil et, (by show 1 ≤ 900; decide), fun l2 ws rs H2 n2 e2 hws hset s3 => ?_⟩
      exact q l2 ws rs H2 ((s1.trans s2).free n2) e2 hws (hset.told.cong fun n => line_in hT hg.2.2.2.1 hg.2.2.2.2.2.1) hset.len ((s1.trans s2).trans s3)
theorem ok_rack {f : Addr} {fd : FuncData} {k : Nat} (F : Fun K "tins_of_rack" "tins_of_rack" sRack f fd) (mn : mg "min" = none) : FnOk P w K mg base CX0 (k + 1) f fd ["tins", "per", "rack"] spRack := by
  refine F.ok scRack (fun vs H Q E h => ?_) (fun cdv A outer s H vs Q E hr h => ?_)
  · obtain ⟨T, per, r, rfl, _⟩ := h
    rfl
  · obtain ⟨T, per, r, rfl, hp, hr', q⟩ := h
    refine ⟨_, pss_one (ps_ret (pe_tup (pa_cons (pe_op op_mulW (pv 2) (pv 1)) (pa_cons (pe_op op_sub (pe_callB (call_min2 rfl) (by rfl) mn (by decide +kernel) (pa_cons (pe_op op_add (pe_op op_mulW (pv 2) (pv 1)) (pv 1)) (pa_cons (pv 0) pa_nil))) pe_int) pa_nil)))), ?_⟩
    have z1 := log_lt hp
    have z2 := log_lt hr'
    have hc : CMulW r per := by show r.natAbs.log2 + per.natAbs.log2 < 1000000; omega
    refine ⟨_, rfl, _, rfl, r, per, rfl, rfl, hc, _, rfl, _, rfl, r, per, rfl, rfl, hc, _, rfl, _, per, rfl, rfl, _, rfl, _, T, rfl, _, 1, rfl, rfl, (by show 2 ≤ sizeLine; decide), fun p np => ?_⟩
    exact q p np
theorem ok_stays {f : Addr} {fd : FuncData} (F : Fun K "tins_in_stays" "tins_in_stays" sStays f fd) (CR : Cal P w K mg base 1 "tins_of_rack" ["tins", "per", "rack"] spRack) (CS : Cal P w K mg base 1 "set_of" ["pairs"] (spSetOf K)) (me : mg "enumerate" = none) : FnOk P w K mg base CX0 2 f fd ["tins", "racked", "first", "last"] spStays := by
  refine F.ok scStays (fun vs H Q E h => ?_) (fun cdv A outer s H vs Q E hr h => ?_)
  · obtain ⟨g, s, us, p, T, per, first, ss, last, rfl, _⟩ := h
    rfl
  · obtain ⟨g, s, us, p, T, per, first, ss, last, rfl, eg, hs, hus, ⟨_, p0, p1, p2, p3, _⟩, hT, q⟩ := h
    refine ⟨_, pss_cons (ps_par rfl scStays.nd (i := 4) (j := 5) rfl rfl (by decide) rfl rfl (pa_cons (pe_ix ix_tup (pv 1) pe_int (fun _ _ => rfl)) (pa_cons (pe_ix ix_tup (pv 1) pe_int (fun _ _ => rfl)) pa_nil)) (by rfl))
      (pss_cons (ps_set (i := 6) scStays.nd rfl (.inl rfl) (pe_lst pa_nil))
      (pss_cons (ps_for PassesOwn.never rfl (pi_enS (by rfl) me (pa_cons (pv 5) pa_nil)) (pg_tup rfl (pgs_cons (pg_name (i := 7) scStays.nd rfl (.inl rfl)) (pgs_cons (pg_tup rfl (pgs_cons (pg_name (i := 8) scStays.nd rfl (.inl rfl)) (pgs_cons (pg_name (i := 9) scStays.nd rfl (.inl rfl)) pgs_nil))) pgs_nil)))
        (pss_one (ps_if (PW.pt (pw_and (pt_cmpR op_le (pv 2) (pv 9) (nomark _)) (pw_and1 (PW.pt (pw_or (pt_cmpR op_isN (pv 3) pe_non (nomark _)) (pw_or1 (pt_cmpR op_le (pv 8) (pv 3) (nomark _))))))))
          (pss_one (ps_expr (pe_bm PySem.F.plainAttrs_list PySem.F.slot_list_append PySem.F.type_list_append mt_append (pv 6) (pa_cons (pe_own CR hr (by rfl) (pa_cons (pv 0) (pa_cons (pv 4) (pa_cons (pv 7) pa_nil)))) pa_nil)))) pss_nil)))
      (pss_one (ps_ret (pe_own CS hr (by rfl) (pa_cons (pv 6) pa_nil)))))), ?_⟩
    refine ⟨_, rfl, g, _, 2, .int per, rfl, rfl, .inl (.inl eg), atI_nat (j := 2) rfl, _, rfl, g, _, 3, .ref s, rfl, rfl, .inl (.inl eg), atI_nat (j := 3) rfl, _, _, rfl, ?_⟩
    refine ⟨Nat.zero_le _, fun mt nmt => ?_⟩
    have s1 := same_upd (o := .lst []) nmt
    refine ⟨_, rfl, s, rfl, for_enS (xs := us) hs.sq s1 (fun i σ Hx => ∃ (ms : List V) (y7 y8 y9 : Option V), σ = [some (.int T), some (.ref g), some (.int first), some (lastV last), some (.int per), some (.ref s), some (.ref mt), y7, y8, y9] ∧ Same H Hx ∧ Hx mt = some (.lst ms) ∧ Prs Hx ms (metF T per first last 0 (ss.take i)))
      ⟨[], _, _, _, rfl, s1, upd_same, Prs.nil⟩ (fun i σ Hx hP => ?_) (fun i x t σ Hx hx hP nt => ?_) (fun σ Hx hP => ?_)⟩
    · obtain ⟨_, _, _, _, rfl, sx, _⟩ := hP
      exact sx
    · obtain ⟨ms, y7, y8, y9, rfl, sx, emt, hms⟩ := hP
      obtain ⟨w, tw, ew, rfl, etw⟩ := prs_at (hus.same sx) hx
      have hi : i < ss.length := (List.getElem?_eq_some_iff.mp ew).1
      have st := same_upd (o := .tup [.int (i : Nat), .ref tw]) nt
      have S := sx.trans st
      have emt' := st _ _ emt
      have hms' := hms.same st
      have etake : ss.take (i + 1) = ss.take i ++ [w] := by rw [List.take_add_one, ew]; rfl
      have etl : (ss.take i).length = i := by rw [List.length_take]; omega
      refine ⟨t, _, rfl, .inl (.inl upd_same), rfl, _, _, rfl, _, _, rfl, tw, _, rfl, .inl (.inl (st _ _ etw)), rfl, _, _, rfl, _, _, rfl, rfl, rfl, ?_⟩
      -- what follows where it meets, where it doesn't
      have yes : meetB first last w = true → (tDrop (tBM K "list" rAppend (tVar 6) (tCons (tCall spRack [] E0 (tCons (tVar 0) (tCons (tVar 4) (tCons (tVar 7) tNil)))) tNil))) { nx := fun σ Hx => ∃ (ms : List V) (y7 y8 y9 : Option V), σ = [some (.int T), some (.ref g), some (.int first), some (lastV last), some (.int per), some (.ref s), some (.ref mt), y7, y8, y9] ∧ Same H Hx ∧ Hx mt = some (.lst ms) ∧ Prs Hx ms (metF T per first last 0 (ss.take (i + 1))), rt := fun _ _ => False } [some (.int T), some (.ref g), some (.int first), some (lastV last), some (.int per), some (.ref s), some (.ref mt), some (.int (i : Nat)), some (.int w.1), some (.int w.2)] (upd Hx t (.tup [.int (i : Nat), .ref tw])) := by
        intro c
        refine ⟨_, rfl, .inl ⟨rfl, _, SqL.of emt'⟩, _, rfl, _, rfl, _, rfl, T, per, (i : Int), rfl, by omega, by omega, fun a na => ?_⟩
        have sa := same_upd (o := .tup [.int (rackP T per (i : Int)).1, .int (rackP T per (i : Int)).2]) na
        have ema := sa _ _ emt'
        refine ⟨mt, _, _, rfl, rfl, ema, small1000 (by rw [hms.1]; have := metF_len (T := T) (per := per) (first := first) (last := last) (ss.take i) 0; omega), ?_⟩
        refine ⟨ms ++ [.ref a], _, _, _, rfl, fun b o e => ?_, upd_same, ?_⟩
        · rw [upd_ne (ne_of_none e nmt)]
          exact sa _ _ (S b o e)
        · rw [etake, metF_snoc, if_pos c, Nat.zero_add, etl]
          exact ((hms'.same sa).snoc upd_same).upd_lst ema
      have no : ¬ meetB first last w = true → ∃ (ms : List V) (z7 z8 z9 : Option V), [some (V.int T), some (.ref g), some (.int first), some (lastV last), some (.int per), some (.ref s), some (.ref mt), some (.int (i : Nat)), some (.int w.1), some (.int w.2)] = [some (.int T), some (.ref g), some (.int first), some (lastV last), some (.int per), some (.ref s), some (.ref mt), z7, z8, z9] ∧ Same H (upd Hx t (.tup [.int (i : Nat), .ref tw])) ∧ upd Hx t (.tup [.int (i : Nat), .ref tw]) mt = some (.lst ms) ∧ Prs (upd Hx t (.tup [.int (i : Nat), .ref tw])) ms (metF T per first last 0 (ss.take (i + 1))) := fun c => ⟨ms, _, _, _, rfl, S, emt', by rw [etake, metF_snoc, if_neg c, List.append_nil]; exact hms'⟩
      refine ⟨_, rfl, _, rfl, first, w.2, rfl, rfl, _, rfl, ite2 (fun c => ?_) (fun c => ?_)⟩
      · have c' := of_decide_eq_true c
        cases last with
        | none => exact ⟨_, rfl, rfl, true, congrArg V.bl (decide_eq_true rfl), iteT (iteT (yes (by unfold meetB; rw [decide_eq_true c']; rfl)))⟩
        | some l =>
          refine ⟨_, rfl, rfl, false, congrArg V.bl (decide_eq_false (fun z => nomatch z)), iteF ?_⟩
          refine ⟨_, rfl, _, rfl, w.1, l, rfl, rfl, _, rfl, ite2 (fun c2 => ?_) (fun c2 => ?_)⟩
          · exact yes (by unfold meetB; rw [decide_eq_true c', Bool.true_and]; exact c2)
          · exact no (by unfold meetB; rw [decide_eq_true c', Bool.true_and]; exact c2)
      · exact iteF (no fun z => c (Bool.and_eq_true_iff.mp z).1)
    · obtain ⟨ms, y7, y8, y9, rfl, sx, emt, hms⟩ := hP
      rw [hus.1, List.take_length] at hms
      have hl := metF_len (T := T) (per := per) (first := first) (last := last) ss 0
      refine ⟨_, rfl, mt, ms, _, rfl, Sq.list emt, hms, by omega, fun l ws rs H' nl el hws hset s' => ?_⟩
      exact q l ws rs H' (sx.free nl) el hws (hset.told.cong fun n => stays_in p0) (by have := hset.len; omega) (sx.trans s')
theorem ok_tinsAt {f : Addr} {fd : FuncData} (F : Fun K "tins_at" "tins_at" sTinsAt f fd) (CA : Cal P w K mg base 1 "pass_at" ["batch", "place"] spPassAt) (CL : Cal P w K mg base 2 "tins_on_line" ["tins", "line", "first", "last"] spOnLine) (CT : Cal P w K mg base 2 "tins_in_stays" ["tins", "racked", "first", "last"] spStays) (mL : ∃ u, mg "LINE" = some u ∧ RelV (.str "line") u) : FnOk P w K mg base CX0 3 f fd ["batch", "place", "first", "last"] spTinsAt := by
  refine F.ok scTinsAt (fun vs H Q E h => ?_) (fun cdv A outer s H vs Q E hr h => ?_)
  · obtain ⟨b, mark, pl, T, first, ps, last, rfl, _⟩ := h
    rfl
  · obtain ⟨b, mark, pl, T, first, ps, last, rfl, hB, hT1, hT2, hgd, hn, q⟩ := h
    obtain ⟨uL, hL1, hL2⟩ := mL
    have hr1 := hr.mono (show 1 ≤ 2 by decide)
    refine ⟨_, pss_cons (ps_set (i := 4) scTinsAt.nd rfl (.inl rfl) (pe_own CA hr1 (by rfl) (pa_cons (pv 0) (pa_cons (pv 1) pa_nil))))
      (Evl.pss_cut (ps_if (PW.pt (pw_or (pt_cmpR op_isN (pv 4) pe_non (nomark _)) (pw_or1 (PW.pt (pw_and (pt_cmpR op_notN (pv 3) pe_non (nomark _)) (pw_and1 (pt_cmpR op_gt (pv 2) (pv 3) (nomark _)))))))) (pss_one (ps_ret (pe_lst pa_nil))) pss_nil)
      (pss_cons (ps_if (pt_cmpR op_eq (pe_ix ix_tup (pv 4) pe_int (fun _ _ => rfl)) (pe_glob (v := .str "line") (by rfl) hL1 hL2) (nomark _))
        (pss_one (ps_ret (pe_own CL hr (by rfl) (pa_cons (pe_ix ix_tup (pv 0) pe_int (fun _ _ => rfl)) (pa_cons (pv 4) (pa_cons (pv 2) (pa_cons (pv 3) pa_nil))))))) pss_nil)
      (pss_one (ps_ret (pe_own CT hr (by rfl) (pa_cons (pe_ix ix_tup (pv 0) pe_int (fun _ _ => rfl)) (pa_cons (pv 4) (pa_cons (pv 2) (pa_cons (pv 3) pa_nil))))))))), ?_⟩
    refine ⟨_, rfl, _, rfl, b, mark, pl, T, ps, rfl, hB, fun v hv => ?_⟩
    have none_ : (∀ n, ¬ TinP pl T ps first last n) → (tRet (tLst tNil)) { nx := fun _ H' => Q .non H', rt := Q } [some (.ref b), some (.str pl), some (.int first), some (lastV last), some v] H := fun no => by
      refine ⟨Nat.zero_le _, fun l nl => ?_⟩
      exact q l [] [] _ nl upd_same Prs.nil ⟨⟨0, True.intro⟩, fun n => ⟨fun z => absurd z inS_nil, fun z => absurd z (no n)⟩⟩ (Nat.zero_le _) (same_upd nl)
    refine ⟨fun σ' H' => σ' = [some (.ref b), some (.str pl), some (.int first), some (lastV last), some v] ∧ H' = H ∧ ¬ Over first last ∧ ∃ p, passF pl ps = some p, ?_, ?_⟩
    · cases hp : passF pl ps with
      | none =>
        rw [hp] at hv
        cases (show v = .non from hv)
        refine ⟨_, rfl, rfl, true, congrArg V.bl (decide_eq_true rfl), iteT (iteT ?_)⟩
        refine none_ fun n => ?_
        rintro ⟨_, _, p, e, _⟩
        rw [win_eq, hp] at e
        cases e
      | some p =>
        rw [hp] at hv
        obtain ⟨gv, rfl⟩ := PasV.ref (show PasV H v p from hv)
        refine ⟨_, rfl, rfl, false, congrArg V.bl (decide_eq_false (fun z => nomatch z)), iteF ?_⟩
        cases last with
        | none => exact ⟨_, rfl, rfl, false, congrArg V.bl (congrArg (!·) (decide_eq_true (show lastV none = V.non from rfl))), iteF (iteF ⟨rfl, rfl, (fun ⟨_, z, _⟩ => nomatch z), p, rfl⟩)⟩
        | some l =>
          refine ⟨_, rfl, rfl, true, congrArg V.bl (congrArg (!·) (decide_eq_false (show ¬ lastV (some l) = V.non from fun z => nomatch z))), iteT ?_⟩
          refine ⟨_, rfl, _, rfl, first, l, rfl, rfl, _, rfl, ite2 (fun c => ?_) (fun c => ?_)⟩
          · have c' := of_decide_eq_true c
            exact none_ fun n z => z.2.1 ⟨l, rfl, c'⟩
          · exact ⟨rfl, rfl, (fun ⟨l', z, z2⟩ => c (decide_eq_true (by cases z; exact z2))), p, rfl⟩
    · rintro σ' H' ⟨rfl, rfl, ov, p, hp⟩
      rw [hp] at hv
      have hg := hgd p (passF_mem hp)
      have hv' : PasV H' v p := hv
      obtain ⟨ab, vb, eb, hab, hvb⟩ := hB
      cases p with
      | line p st lo by_ =>
        obtain ⟨g, rfl, eg⟩ := hv'
        refine ⟨_, rfl, g, _, 0, .str "line", rfl, rfl, .inl (.inl eg), atI_nat (j := 0) rfl, rfl, true, congrArg V.bl (decide_eq_true rfl), iteT ?_⟩
        refine ⟨_, rfl, b, _, 1, .int T, rfl, rfl, .inl (.inl eb), atI_nat (j := 1) rfl, _, rfl, _, rfl, _, rfl, g, p, T, st, lo, by_, first, last, rfl, eg, hg, by omega, hn, fun l ws rs H2 nl el hws ht hl s2 => ?_⟩
        refine q l ws rs H2 nl el hws (ht.cong fun n => ?_) (by omega) s2
        unfold TinP
        rw [win_eq, hp]
        exact ⟨fun z => ⟨z.1, ov, _, rfl, z.2⟩, fun ⟨z1, _, w, e, z2⟩ => ⟨z1, by cases e; exact z2⟩⟩
      | racks p per ss =>
        obtain ⟨g, sy, us, rfl, eg, hsy, hus⟩ := hv'
        have hline : decide (V.str "racks" = V.str "line") = false := by decide +kernel
        refine ⟨_, rfl, g, _, 0, .str "racks", rfl, rfl, .inl (.inl eg), atI_nat (j := 0) rfl, rfl, false, congrArg V.bl hline, iteF ?_⟩
        refine ⟨_, rfl, b, _, 1, .int T, rfl, rfl, .inl (.inl eb), atI_nat (j := 1) rfl, _, rfl, _, rfl, _, rfl, g, sy, us, p, T, per, first, ss, last, rfl, eg, hsy, hus, hg, hT2, fun l ws rs H2 nl el hws ht hl s2 => ?_⟩
        refine q l ws rs H2 nl el hws (ht.cong fun n => ?_) hl s2
        unfold TinP
        rw [win_eq, hp]
        exact ⟨fun ⟨z1, w, e, z2⟩ => ⟨z1, ov, w, e, z2⟩, fun ⟨z1, _, w, e, z2⟩ => ⟨z1, w, e, z2⟩⟩
end

/-! ### the law's own sets -/
theorem pairs_sorted {H : Hp} {ys zs : List V} {ps : List (Int × Int)} (hys : Prs H ys ps) (perm : zs.Perm ys) (srt : SrtO.Srtd (fun x y => SrtO.lexB (pairOf H x) (pairOf H y)) zs) : ∃ qs, Prs H zs qs ∧ qs.Perm ps ∧ qs.Pairwise fun x y => x.1 ≤ y.1 := by
  have hmap : ys.map (pairOf H) = ps := by
    refine List.ext_getElem? fun i => ?_
    rw [List.getElem?_map]
    cases h : ys[i]? with
    | none =>
      have : ps[i]? = none := by
        rw [List.getElem?_eq_none_iff] at h ⊢
        rw [← hys.1]
        exact h
      rw [this]
      rfl
    | some x =>
      obtain ⟨p, T, ep, rfl, eT⟩ := prs_at hys h
      rw [ep]
      exact congrArg some (pairOf_at eT)
  refine ⟨zs.map (pairOf H), ⟨by rw [List.length_map], fun i p e => ?_⟩, hmap ▸ perm.map _, ?_⟩
  · rw [List.getElem?_map] at e
    cases h : zs[i]? with
    | none => rw [h] at e; cases e
    | some x =>
      rw [h] at e
      cases e
      obtain ⟨j, hj, ej⟩ := List.getElem_of_mem (perm.mem_iff.mp (List.mem_of_getElem? h))
      obtain ⟨p, T, _, rfl, eT⟩ := prs_at hys (by rw [List.getElem?_eq_getElem hj, ej])
      exact ⟨T, rfl, by rw [pairOf_at eT]; exact eT⟩
  · rw [List.pairwise_map]
    refine srt.imp fun {x y} h => ?_
    have := SrtO.lexB_no.mp h
    omega
abbrev sLSet : Stmt := topS 26
theorem scLSet : FnScope ["_law_pairs", "_law_made", "_law_first", "_law_last"] ["_law_pairs"] (defScope sLSet) := ⟨rfl, rfl, rfl, by decide +kernel, rfl, by decide +kernel, by decide +kernel⟩
def spLSet : Sp := fun vs H Q _ => ∃ (a : Addr) (us : List V) (ps : List (Int × Int)), vs = [.ref a] ∧ H a = some (.lst us) ∧ Prs H us ps ∧ ps.length ≤ 900 ∧ RetS H (InS ps) ps.length Q
def upP (ps : List (Int × Int)) : List (Int × Int) := ps.filter fun p => decide (p.1 ≤ p.2)
def LSetW (H : Hp) (a mg' g : Addr) (zs : List V) (qs : List (Int × Int)) (i : Nat) (σ : L2.St) (H4 : Hp) : Prop := ∃ (ms : List V) (rs : List (Int × Int)) (y2 y3 : Option V), σ = [some (.ref a), some (.ref mg'), y2, y3] ∧ Same H H4 ∧ H4 g = some (.lst zs) ∧ Prs H4 zs qs ∧ H4 mg' = some (.lst ms) ∧ Prs H4 ms rs ∧ Mrg (upP (qs.take i)) rs
section
variable {K : PySem.W.Frag} {mg : Str → Option Value} {P : Program} {w : World} {base : Heap}
theorem ok_lset {f : Addr} {fd : FuncData} {k : Nat} (F : Fun K "_law_set_of" "_law_set_of" sLSet f fd) (mso : mg "sorted" = none) (mx : mg "max" = none) : FnOk P w K mg base CX0 (k + 1) f fd ["_law_pairs"] spLSet := by
  refine F.ok scLSet (fun vs H Q E h => ?_) (fun cdv A outer s H vs Q E hr h => ?_)
  · obtain ⟨a, us, ps, rfl, _⟩ := h
    rfl
  · obtain ⟨a, us, ps, rfl, ea, hp, hz, q⟩ := h
    refine ⟨_, pss_cons (ps_set (i := 1) scLSet.nd rfl (.inl rfl) (pe_lst pa_nil))
      (pss_cons (ps_for PassesOwn.never rfl (pi_list (pe_callB cr_sortedPO (by rfl) mso (by decide +kernel) (pa_cons (pv 0) pa_nil))) (pg_tup rfl (pgs_cons (pg_name (i := 2) scLSet.nd rfl (.inl rfl)) (pgs_cons (pg_name (i := 3) scLSet.nd rfl (.inl rfl)) pgs_nil)))
        (pss_cons (ps_if (pt_cmpR op_gt (pv 2) (pv 3) (nomark _)) (pss_one ps_continue) pss_nil)
        (pss_one (ps_if (PW.pt (pw_and (pt_cmpR (op_neD hr.units) (pv 1) (pe_lst pa_nil) (nomark _)) (pw_and1 (pt_cmpR op_le (pv 2) (pe_op op_add (pe_ix ix_tup (pe_ix ix_list (pv 1) (pe_un un_neg pe_int) (fun _ _ => rfl)) pe_int (fun _ _ => rfl)) pe_int) (nomark _)))))
          (pss_one (ps_asg (pe_tup (pa_cons (pe_ix ix_tup (pe_ix ix_list (pv 1) (pe_un un_neg pe_int) (fun _ _ => rfl)) pe_int (fun _ _ => rfl)) (pa_cons (pe_callB (call_max2 rfl) (by rfl) mx (by decide +kernel) (pa_cons (pv 3) (pa_cons (pe_ix ix_tup (pe_ix ix_list (pv 1) (pe_un un_neg pe_int) (fun _ _ => rfl)) pe_int (fun _ _ => rfl)) pa_nil))) pa_nil))) (pg_sub (pv 1) (pe_un un_neg pe_int) set_list)))
          (pss_one (ps_expr (pe_bm PySem.F.plainAttrs_list PySem.F.slot_list_append PySem.F.type_list_append mt_append (pv 1) (pa_cons (pe_tup (pa_cons (pv 2) (pa_cons (pv 3) pa_nil))) pa_nil))))))))
      (pss_one (ps_ret (pv 1)))), ?_⟩
    refine ⟨Nat.zero_le _, fun mg' nm => ?_⟩
    have s1 := same_upd (o := .lst []) nm
    have em1 : upd H mg' (.lst []) mg' = some (.lst []) := upd_same
    revert s1 em1
    generalize upd H mg' (.lst []) = H1
    intro s1 em1
    have hp1 := hp.same s1
    refine ⟨_, rfl, a, us, pairOf H1, rfl, SqL.of (s1 _ _ ea), fun x hx => ?_, fun zs g srt stb ng => ?_⟩
    · obtain ⟨i, hi, e⟩ := List.getElem_of_mem hx
      obtain ⟨p, T, _, rfl, eT⟩ := prs_at hp1 (by rw [List.getElem?_eq_getElem hi, e])
      exact ⟨T, rfl, by rw [pairOf_at eT]; exact eT⟩
    obtain ⟨qs, hqs, hperm, hord⟩ := pairs_sorted hp1 stb.perm srt
    have sg := same_upd (o := .lst zs) ng
    have eg : upd H1 g (.lst zs) g = some (.lst zs) := upd_same
    have s3 := s1.trans sg
    have em3 := sg _ _ em1
    have hzs3 := hqs.same sg
    have nmg : mg' ≠ g := ne_of_none em1 ng
    have hzl : zs.length ≤ 900 := by rw [hqs.1, hperm.length_eq]; exact hz
    revert eg s3 em3 hzs3
    generalize upd H1 g (.lst zs) = H3
    intro eg s3 em3 hzs3
    refine ⟨g, rfl, ⟨_, SqL.of eg⟩, for_list (xs := zs) (LSetW H a mg' g zs qs) ⟨[], [], _, _, rfl, s3, eg, hzs3, em3, Prs.nil, Mrg.nil⟩ (fun i σ H4 _ hP => ?_) (fun i x σ H4 hx hP => ?_) (fun σ H4 hP => ?_)⟩
    · obtain ⟨_, _, _, _, rfl, _, e, _⟩ := hP
      exact SqL.of e
    · obtain ⟨ms, rs, y2, y3, rfl, sm4, eg4, hz4, em4, hms, m⟩ := hP
      obtain ⟨p, T, ep, rfl, eT⟩ := prs_at hz4 hx
      have hi : i < qs.length := (List.getElem?_eq_some_iff.mp ep).1
      have etake : qs.take (i + 1) = qs.take i ++ [p] := by rw [List.take_add_one, ep]; rfl
      have eup : upP (qs.take (i + 1)) = upP (qs.take i) ++ (if p.1 ≤ p.2 then [p] else []) := by
        unfold upP
        rw [etake, List.filter_append]
        by_cases c : p.1 ≤ p.2
        · rw [if_pos c]; simp [c]
        · rw [if_neg c]; simp [c]
      have ord : ∀ q ∈ upP (qs.take i), q.1 ≤ p.1 := fun q hq' => by
        obtain ⟨j, hj, e⟩ := List.getElem_of_mem (List.mem_filter.mp hq').1
        rw [List.length_take] at hj
        rw [List.getElem_take] at e
        obtain ⟨_, e2⟩ := List.getElem?_eq_some_iff.mp ep
        rw [← e, ← e2]
        exact List.pairwise_iff_getElem.mp hord j i (by omega) hi (by omega)
      have hmsl : ms.length ≤ 900 := by
        have := m.len
        have h2 := List.length_filter_le (fun p : Int × Int => decide (p.1 ≤ p.2)) (qs.take i)
        rw [List.length_take] at h2
        have := hqs.1
        rw [hms.1]
        unfold upP at *
        omega
      refine ⟨T, _, rfl, .inl (.inl eT), rfl, _, _, rfl, _, _, rfl, rfl, ?_⟩
      refine ⟨_, rfl, _, rfl, p.1, p.2, rfl, rfl, _, rfl, ite2 (fun c0 => ?_) (fun c0 => ?_)⟩
      · have c0' := of_decide_eq_true c0
        refine ⟨ms, rs, _, _, rfl, sm4, eg4, hz4, em4, hms, ?_⟩
        rw [eup, if_neg (by omega), List.append_nil]
        exact m
      have hp12 : p.1 ≤ p.2 := by
        have : ¬ p.1 > p.2 := fun z => c0 (decide_eq_true z)
        omega
      rw [if_pos hp12] at eup
      -- the test's own list
      refine ⟨_, rfl, Nat.zero_le _, fun z nz => ?_⟩
      have sz := same_upd (o := .lst []) nz
      refine ⟨_, _, .lst (SqL.of (sz _ _ em4)) (dp_prs (hms.same sz)), .lst (SqL.of upd_same) .nil, shaped_prs rs, shaped_ints [], ?_⟩
      rw [eqv_pr_nil]
      have sm5 := sm4.trans sz
      have eg5 := sz _ _ eg4
      have hz5 := hz4.same sz
      have em5 := sz _ _ em4
      have hms5 := hms.same sz
      revert sm5 eg5 hz5 em5 hms5
      generalize upd H4 z (.lst []) = H5
      intro sm5 eg5 hz5 em5 hms5
      -- what a new tuple and a change of the list leave
      have grow : ∀ (T2 : Addr) (p2 : Int × Int) (ms2 : List V) (rs2 : List (Int × Int)), H5 T2 = none → Prs (upd H5 T2 (.tup [.int p2.1, .int p2.2])) ms2 rs2 → Mrg (upP (qs.take (i + 1))) rs2 → LSetW H a mg' g zs qs (i + 1) [some (.ref a), some (.ref mg'), some (.int p.1), some (.int p.2)] (upd (upd H5 T2 (.tup [.int p2.1, .int p2.2])) mg' (.lst ms2)) := by
        intro T2 p2 ms2 rs2 n2 h2 m2
        have st := same_upd (o := .tup [.int p2.1, .int p2.2]) n2
        have em6 := st _ _ em5
        refine ⟨ms2, rs2, _, _, rfl, fun b o e => ?_, ?_, (hz5.same st).upd_lst em6, upd_same, h2.upd_lst em6, m2⟩
        · rw [upd_ne (ne_of_none e nm)]
          exact st _ _ (sm5 _ _ e)
        · rw [upd_ne nmg.symm]
          exact st _ _ eg5
      have app : (∀ r ∈ rs, r.2 + 2 ≤ p.1) → (tDrop (tBM K "list" rAppend (tVar 1) (tCons (tTup (tCons (tVar 2) (tCons (tVar 3) tNil))) tNil))) { nx := LSetW H a mg' g zs qs (i + 1), rt := fun _ _ => False } [some (.ref a), some (.ref mg'), some (.int p.1), some (.int p.2)] H5 := by
        intro far
        refine ⟨.ref mg', rfl, .inl ⟨rfl, _, SqL.of em5⟩, _, rfl, _, rfl, (by show 2 ≤ sizeLine; decide), fun T2 n2 => ?_⟩
        have st := same_upd (o := .tup [.int p.1, .int p.2]) n2
        exact ⟨mg', _, _, rfl, rfl, st _ _ em5, small1000 (by omega), grow T2 p (ms ++ [.ref T2]) (rs ++ [p]) n2 ((hms5.same st).snoc upd_same) (by rw [eup]; exact m.new hp12 ord far)⟩
      rcases snoc_cases rs with e0 | ⟨rs', ⟨lo, hi'⟩, e0⟩
      · refine ⟨false, (by rw [e0]; rfl), iteF (iteF ?_)⟩
        exact app (by rw [e0]; exact fun _ z => nomatch z)
      · subst e0
        obtain ⟨ms', T0, rfl, eT0, hms'⟩ := hms5.last
        refine ⟨true, (by simp), iteT ?_⟩
        refine ⟨_, rfl, .ref mg', rfl, 1, rfl, mg', _, -1, .ref T0, rfl, rfl, SqL.of em5, atI_last _ _, T0, _, 1, .int hi', rfl, rfl, .inl (.inl eT0), atI_nat (j := 1) rfl, hi', 1, rfl, rfl, p.1, _, rfl, rfl, _, rfl, ite2 (fun c => ?_) (fun c => ?_)⟩
        · have c' := of_decide_eq_true c
          refine ⟨_, rfl, 1, rfl, mg', _, -1, .ref T0, rfl, rfl, SqL.of em5, atI_last _ _, T0, _, 0, .int lo, rfl, rfl, .inl (.inl eT0), atI_nat (j := 0) rfl, ?_⟩
          refine ⟨_, rfl, _, rfl, 1, rfl, mg', _, -1, .ref T0, rfl, rfl, SqL.of em5, atI_last _ _, T0, _, 1, .int hi', rfl, rfl, .inl (.inl eT0), atI_nat (j := 1) rfl, p.2, hi', rfl, (by show 2 ≤ sizeLine; decide), fun T2 n2 => ?_⟩
          have emax : (if hi' > p.2 then hi' else p.2) = (if p.2 > hi' then p.2 else hi') := by split <;> split <;> omega
          rw [emax]
          have st := same_upd (o := .tup [.int lo, .int (if p.2 > hi' then p.2 else hi')]) n2
          have ei : ixN (ms' ++ [V.ref T0]).length (-1) = some ms'.length := by
            unfold ixN
            rw [if_neg (by decide), List.length_append, if_pos (by show -((ms'.length + 1 : Nat) : Int) ≤ -1; omega)]
            show some ((-1 : Int) + ((ms'.length + 1 : Nat) : Int)).toNat = _
            congr 1
            omega
          refine ⟨.ref mg', rfl, 1, rfl, mg', _, -1, ms'.length, rfl, rfl, st _ _ em5, ei, ?_⟩
          have es : (ms' ++ [V.ref T0]).set ms'.length (.ref T2) = ms' ++ [.ref T2] := by simp
          rw [es]
          exact grow T2 (lo, if p.2 > hi' then p.2 else hi') (ms' ++ [.ref T2]) (rs' ++ [(lo, if p.2 > hi' then p.2 else hi')]) n2 ((hms'.same st).snoc upd_same) (by rw [eup]; exact m.join hp12 ord c')
        · have c' : ¬ p.1 ≤ hi' + 1 := fun z => c (decide_eq_true z)
          refine app fun r hr' => ?_
          obtain ⟨lo', hR⟩ := m.ris
          obtain ⟨_, h2, _, h4⟩ := Ris.front hR
          have h4' : lo ≤ hi' := h4
          rcases List.mem_append.mp hr' with y | y
          · have : r.2 + 2 ≤ lo := h2 r y
            omega
          · rw [List.mem_singleton.mp y]
            show hi' + 2 ≤ p.1
            omega
    · obtain ⟨ms, rs, y2, y3, rfl, sm4, eg4, hz4, em4, hms, m⟩ := hP
      rw [hqs.1, List.take_length] at m
      refine ⟨_, rfl, q mg' ms rs H4 nm em4 hms (m.told.cong fun n => ?_) (Nat.le_trans m.len (Nat.le_trans (List.length_filter_le _ _) (Nat.le_of_eq hperm.length_eq))) sm4⟩
      constructor
      · rintro ⟨r, hr', e⟩
        exact ⟨r, hperm.mem_iff.mp (List.mem_filter.mp hr').1, e⟩
      · rintro ⟨r, hr', e⟩
        exact ⟨r, List.mem_filter.mpr ⟨hperm.mem_iff.mpr hr', decide_eq_true (by omega)⟩, e⟩
end

/-- a test, then a word of what it gives -/
def tMidT (tt : TT) : TT := fun σ H Q => ∃ M : Bool → Hp → Prop, tt σ H M ∧ ∀ b H', M b H' → Q b H'
theorem pt_mid {X : Cx} {e : Expr} {tt : TT} (h : PT X e tt) : PT X e (tMidT tt) := ⟨fun pins s σ H Q I ⟨M, h1, h2⟩ => thn (h.run pins s σ H M I h1) fun _ _ ⟨H1, I1, q⟩ => ⟨H1, I1, h2 _ _ q⟩⟩

/-! ### each tin looked at -/
def tinB (pl : Str) (ps : List Pas) (first : Int) (last : Option Int) (n : Int) : Bool := match winF pl n ps with
  | none => false
  | some p => (match last with
    | none => true
    | some l => decide (first ≤ l)) && meetB first last p
theorem tinB_iff {pl : Str} {T : Int} {ps : List Pas} {first : Int} {last : Option Int} {n : Int} (h0 : 0 ≤ n) (h1 : n < T) : tinB pl ps first last n = true ↔ TinP pl T ps first last n := by
  unfold tinB TinP
  cases e : winF pl n ps with
  | none => exact ⟨(fun z => nomatch z), (fun ⟨_, _, _, z, _⟩ => nomatch z)⟩
  | some p =>
    show ((match last with | none => true | some l => decide (first ≤ l)) && meetB first last p) = true ↔ _
    rw [Bool.and_eq_true]
    constructor
    · rintro ⟨z1, z2⟩
      refine ⟨⟨h0, h1⟩, ?_, p, rfl, z2⟩
      rintro ⟨l, rfl, lt⟩
      have := of_decide_eq_true z1
      omega
    · rintro ⟨_, ov, p', e', z2⟩
      cases e'
      refine ⟨?_, z2⟩
      cases last with
      | none => rfl
      | some l => exact decide_eq_true (Int.not_lt.mp fun z => ov ⟨l, rfl, z⟩)
def allF (pl : Str) (ps : List Pas) (first : Int) (last : Option Int) : Nat → List (Int × Int)
  | 0 => []
  | i + 1 => allF pl ps first last i ++ (if tinB pl ps first last (i : Int) = true then [((i : Int), (i : Int))] else [])
theorem allF_len {pl : Str} {ps : List Pas} {first : Int} {last : Option Int} : ∀ i : Nat, (allF pl ps first last i).length ≤ i
  | 0 => Nat.le_refl _
  | i + 1 => by
    have := allF_len (pl := pl) (ps := ps) (first := first) (last := last) i
    rw [allF, List.length_append]
    split
    · show _ + 1 ≤ _
      omega
    · show _ + 0 ≤ _
      omega
theorem allF_in {pl : Str} {ps : List Pas} {first : Int} {last : Option Int} {n : Int} : ∀ i : Nat, InS (allF pl ps first last i) n ↔ (0 ≤ n ∧ n < i) ∧ tinB pl ps first last n = true
  | 0 => ⟨fun z => absurd z inS_nil, fun ⟨⟨z1, z2⟩, _⟩ => by omega⟩
  | i + 1 => by
    rw [allF, inS_append, allF_in i]
    have ec : ((i + 1 : Nat) : Int) = (i : Int) + 1 := by omega
    rw [ec]
    constructor
    · rintro (⟨⟨z1, z2⟩, z3⟩ | z)
      · exact ⟨⟨z1, by omega⟩, z3⟩
      · split at z
        · rename_i c
          rcases inS_cons.mp z with y | y
          · have e : n = (i : Int) := by have y1 : (i : Int) ≤ n := y.1; have y2 : n ≤ (i : Int) := y.2; omega
            subst e
            exact ⟨⟨by omega, by omega⟩, c⟩
          · exact absurd y inS_nil
        · exact absurd z inS_nil
    · rintro ⟨⟨z1, z2⟩, z3⟩
      by_cases e : n = (i : Int)
      · subst e
        rw [if_pos z3]
        exact .inr (inS_cons.mpr (.inl ⟨Int.le_refl _, Int.le_refl _⟩))
      · exact .inl ⟨⟨z1, by omega⟩, z3⟩
theorem all_told {pl : Str} {T : Int} {ps : List Pas} {first : Int} {last : Option Int} (hT : 0 ≤ T) (n : Int) : InS (allF pl ps first last T.toNat) n ↔ TinP pl T ps first last n := by
  rw [allF_in, Int.toNat_of_nonneg hT]
  constructor
  · rintro ⟨⟨z1, z2⟩, z3⟩
    exact (tinB_iff z1 z2).mp z3
  · intro z
    exact ⟨z.1, (tinB_iff z.1.1 z.1.2).mpr z⟩
theorem WinV.same {H H' : Hp} {v : V} {o : Option (Int × Int)} (h : WinV H v o) (s : Same H H') : WinV H' v o := by
  cases o with
  | none => exact h
  | some p => obtain ⟨a, e, h⟩ := h; exact ⟨a, e, s _ _ h⟩
abbrev sMeets : Stmt := topS 25
theorem scMeets : FnScope ["_law_batch", "_law_place", "_law_tin", "_law_first", "_law_last", "_law_own"] ["_law_batch", "_law_place", "_law_tin", "_law_first", "_law_last"] (defScope sMeets) := ⟨rfl, rfl, rfl, by decide +kernel, rfl, by decide +kernel, by decide +kernel⟩
def spMeets : Sp := fun vs H Q _ => ∃ (b : Addr) (mark pl : Str) (T n first : Int) (ps : List Pas) (last : Option Int), vs = [.ref b, .str pl, .int n, .int first, lastV last] ∧ BatA H b mark T ps ∧ 0 ≤ n ∧ n < T ∧ T ≤ 10 ^ 30 ∧ (∀ p ∈ ps, p.Good T) ∧
  ∀ H', Same H H' → Q (.bl (tinB pl ps first last n)) H'
section
variable {K : PySem.W.Frag} {mg : Str → Option Value} {P : Program} {w : World} {base : Heap}
theorem ok_meets {f : Addr} {fd : FuncData} (F : Fun K "_law_meets" "_law_meets" sMeets f fd) (CW : Cal P w K mg base 1 "_law_window" ["_law_batch", "_law_place", "_law_tin"] spWin) : FnOk P w K mg base CX0 2 f fd ["_law_batch", "_law_place", "_law_tin", "_law_first", "_law_last"] spMeets := by
  refine F.ok scMeets (fun vs H Q E h => ?_) (fun cdv A outer s H vs Q E hr h => ?_)
  · obtain ⟨b, mark, pl, T, n, first, ps, last, rfl, _⟩ := h
    rfl
  · obtain ⟨b, mark, pl, T, n, first, ps, last, rfl, hB, h0, h1, hT, hgd, q⟩ := h
    refine ⟨_, pss_cons (ps_set (i := 5) scMeets.nd rfl (.inl rfl) (pe_own CW hr (by rfl) (pa_cons (pv 0) (pa_cons (pv 1) (pa_cons (pv 2) pa_nil)))))
      (Evl.pss_cut (ps_if (PW.pt (pw_or (pt_cmpR op_isN (pv 5) pe_non (nomark _)) (pw_or1 (PW.pt (pw_and (pt_cmpR op_notN (pv 4) pe_non (nomark _)) (pw_and1 (PW.pt (pw_or (pt_cmpR op_gt (pv 3) (pv 4) (nomark _)) (pw_or1 (pt_cmpR op_gt (pe_ix ix_tup (pv 5) pe_int (fun _ _ => rfl)) (pv 4) (nomark _)))))))))))
        (pss_one (ps_ret pe_bl)) pss_nil)
      (pss_one (ps_ret (pe_cmpR op_ge (pe_ix ix_tup (pv 5) pe_int (fun _ _ => rfl)) (pv 3) (nomark _))))), ?_⟩
    refine ⟨_, rfl, _, rfl, _, rfl, b, mark, pl, T, n, ps, rfl, hB, h0, h1, hT, hgd, fun v H1 hv s1 => ?_⟩
    have q1 := q H1 s1
    refine ⟨fun σ' H' => ∃ (a : Addr) (p : Int × Int), σ' = [some (.ref b), some (.str pl), some (.int n), some (.int first), some (lastV last), some (.ref a)] ∧ H' = H1 ∧ H1 a = some (.tup [.int p.1, .int p.2]) ∧ tinB pl ps first last n = decide (p.2 ≥ first), ?_, ?_⟩
    · unfold tinB at *
      cases hp : winF pl n ps with
      | none =>
        rw [hp] at hv q1
        cases (show v = .non from hv)
        exact ⟨_, rfl, rfl, true, congrArg V.bl (decide_eq_true rfl), iteT (iteT q1)⟩
      | some p =>
        rw [hp] at hv q1
        obtain ⟨a, rfl, ea⟩ := hv
        refine ⟨_, rfl, rfl, false, congrArg V.bl (decide_eq_false (fun z => nomatch z)), iteF ?_⟩
        cases last with
        | none =>
          refine ⟨_, rfl, rfl, false, congrArg V.bl (congrArg (!·) (decide_eq_true (show lastV none = V.non from rfl))), iteF (iteF ⟨a, p, rfl, rfl, ea, ?_⟩)⟩
          show (true && (decide (first ≤ p.2) && true)) = _
          rw [Bool.true_and, Bool.and_true]
        | some l =>
          refine ⟨_, rfl, rfl, true, congrArg V.bl (congrArg (!·) (decide_eq_false (show ¬ lastV (some l) = V.non from fun z => nomatch z))), iteT ?_⟩
          have q1' : Q (.bl (decide (first ≤ l) && (decide (first ≤ p.2) && decide (p.1 ≤ l)))) H1 := q1
          refine ⟨_, rfl, _, rfl, first, l, rfl, rfl, _, rfl, ite2 (fun c => ?_) (fun c => ?_)⟩
          · have c' : ¬ first ≤ l := by have := of_decide_eq_true c; omega
            rw [decide_eq_false c', Bool.false_and] at q1'
            exact q1'
          · have c' : first ≤ l := by
              have : ¬ first > l := fun z => c (decide_eq_true z)
              omega
            refine ⟨_, rfl, a, _, 0, .int p.1, rfl, rfl, .inl (.inl ea), atI_nat (j := 0) rfl, _, rfl, p.1, l, rfl, rfl, _, rfl, ite2 (fun c2 => ?_) (fun c2 => ?_)⟩
            · have c2' : ¬ p.1 ≤ l := by have := of_decide_eq_true c2; omega
              rw [decide_eq_false c2', Bool.and_false, Bool.and_false] at q1'
              exact q1'
            · have c2' : p.1 ≤ l := by
                have : ¬ p.1 > l := fun z => c2 (decide_eq_true z)
                omega
              refine ⟨a, p, rfl, rfl, ea, ?_⟩
              show (decide (first ≤ l) && (decide (first ≤ p.2) && decide (p.1 ≤ l))) = _
              rw [decide_eq_true c', decide_eq_true c2', Bool.true_and, Bool.and_true]
    · rintro σ' H' ⟨a, p, rfl, rfl, ea, e⟩
      refine ⟨_, rfl, a, _, 1, .int p.2, rfl, rfl, .inl (.inl ea), atI_nat (j := 1) rfl, _, rfl, p.2, first, rfl, rfl, ?_⟩
      rw [e] at q1
      exact q1
end

/-! ### minutes near windows -/
abbrev MB : Int := 3 * 10 ^ 60
theorem win_bd {pl : Str} {n T : Int} {ps : List Pas} {p : Int × Int} (h0 : 0 ≤ n) (h1 : n < T) (hT : T ≤ 10 ^ 30) (hgd : ∀ p ∈ ps, p.Good T) (e : winF pl n ps = some p) : 0 ≤ p.1 ∧ p.1 ≤ p.2 ∧ p.2 ≤ 2 * 10 ^ 60 := by
  rw [win_eq] at e
  cases hp : passF pl ps with
  | none => rw [hp] at e; cases e
  | some q =>
    rw [hp] at e
    have hg := hgd q (passF_mem hp)
    cases q with
    | line pp st lo b =>
      obtain ⟨_, st0, st1, lo0, lo1, b0, b1⟩ := hg
      have ep : p = (st + n * lo / b, st + n * lo / b) := (Option.some.inj e).symm
      subst ep
      have z0 : 0 ≤ n * lo := Int.mul_nonneg h0 lo0
      have z1 : n * lo ≤ 10 ^ 30 * 10 ^ 30 := Int.mul_le_mul (by omega) (by omega) lo0 (by decide)
      have z2 : 0 ≤ n * lo / b := Int.ediv_nonneg z0 (by omega)
      have z3 : n * lo / b ≤ n * lo := Int.ediv_le_self _ z0
      show 0 ≤ st + n * lo / b ∧ st + n * lo / b ≤ st + n * lo / b ∧ st + n * lo / b ≤ 2 * 10 ^ 60
      omega
    | racks pp per ss =>
      have hb := hg.2.2.2.2.2 p (List.mem_of_getElem? (show ss[(n / per).toNat]? = some p from e))
      omega
abbrev sMin : Stmt := topS 27
theorem scMin : FnScope ["_law_state", "_law_batch", "_law_place", "_law_pairs", "_law_turn", "_law_own", "_law_near", "_law_first", "_law_last"] ["_law_state", "_law_batch", "_law_place"] (defScope sMin) := ⟨rfl, rfl, rfl, by decide +kernel, rfl, by decide +kernel, by decide +kernel⟩
def In0 (first : Int) (last : Option Int) : Prop := (0 ≤ first ∧ first ≤ MB) ∧ ∀ l, last = some l → 0 ≤ l ∧ l ≤ MB
theorem In0.near {first : Int} {last : Option Int} (h : In0 first last) : Near first last := by
  unfold In0 MB at h
  refine ⟨by omega, fun l e => ?_⟩
  have := h.2 l e
  omega
def spMin : Sp := fun vs H Q _ => ∃ (d c b : Addr) (t T : Int) (mark pl : Str) (ps : List Pas), vs = [.ref d, .ref b, .str pl] ∧ StAt H d c t ∧ t + 100 < 2 ^ 60 ∧ BatA H b mark T ps ∧ 1 ≤ T ∧ T ≤ 10 ^ 30 ∧ (∀ p ∈ ps, p.Good T) ∧
  ∀ (a : Addr) (first t' : Int) (last : Option Int) H', H' a = some (.tup [.int first, lastV last]) → In0 first last → t ≤ t' → t' ≤ t + 30 → StAt H' d c t' → Kp d c H H' → Q (.ref a) H'
def MinW (H : Hp) (d c b pa : Addr) (pl : Str) (t : Int) (i : Nat) (σ : L2.St) (Hx : Hp) : Prop := ∃ (t' : Int) (ns : List Int) (y4 y5 y6 : Option V), σ = [some (.ref d), some (.ref b), some (.str pl), some (.ref pa), y4, y5, y6, none, none] ∧ Hx pa = some (.lst (ns.map V.int)) ∧ ns.length = i ∧ (∀ n ∈ ns, 0 ≤ n ∧ n ≤ 2 * 10 ^ 60 + 5) ∧ t ≤ t' ∧ t' ≤ t + 5 * i ∧ StAt Hx d c t' ∧ Kp d c H Hx
section
variable {K : PySem.W.Frag} {mg : Str → Option Value} {P : Program} {w : World} {base : Heap}
theorem ok_min {f : Addr} {fd : FuncData} (F : Fun K "_law_minutes" "_law_minutes" sMin f fd) (CT : Cal P w K mg base 1 "_law_take" ["_law_state", "_law_many"] spTake) (CW : Cal P w K mg base 1 "_law_window" ["_law_batch", "_law_place", "_law_tin"] spWin) (mr : mg "range" = none) (mx : mg "max" = none) : FnOk P w K mg base CX0 2 f fd ["_law_state", "_law_batch", "_law_place"] spMin := by
  refine F.ok scMin (fun vs H Q E h => ?_) (fun cdv A outer s H vs Q E hr h => ?_)
  · obtain ⟨d, c, b, t, T, mark, pl, ps, rfl, _⟩ := h
    rfl
  · obtain ⟨d, c, b, t, T, mark, pl, ps, rfl, hS, ht, hB, hT1, hT2, hgd, q⟩ := h
    refine ⟨_, pss_cons (ps_set (i := 3) scMin.nd rfl (.inl rfl) (pe_lst pa_nil))
      (pss_cons (ps_for PassesOwn.never rfl (pi_range1 rfl mr (pa_cons pe_int pa_nil)) (pg_name (i := 4) scMin.nd rfl (.inl rfl))
        (pss_cons (ps_set (i := 5) scMin.nd rfl (.inl rfl) (pe_own CW hr (by rfl) (pa_cons (pv 1) (pa_cons (pv 2) (pa_cons (pe_own CT hr (by rfl) (pa_cons (pv 0) (pa_cons (pe_ix ix_tup (pv 1) pe_int (fun _ _ => rfl)) pa_nil))) pa_nil)))))
        (pss_cons (ps_set (i := 6) scMin.nd rfl (.inl rfl) (pe_mid (pe_ifExp (pt_cmpR op_notN (pv 5) pe_non (nomark _)) (pv 5) (pe_tup (pa_cons (pe_own CT hr (by rfl) (pa_cons (pv 0) (pa_cons pe_int pa_nil))) (pa_cons (pe_own CT hr (by rfl) (pa_cons (pv 0) (pa_cons pe_int pa_nil))) pa_nil))))))
        (pss_one (ps_expr (pe_bm PySem.F.plainAttrs_list PySem.F.slot_list_append PySem.F.type_list_append mt_append (pv 3) (pa_cons (pe_callB (call_max2 rfl) (by rfl) mx (by decide +kernel) (pa_cons pe_int (pa_cons (pe_op op_sub (pe_op op_add (pe_ix ix_tup (pv 6) (pe_own CT hr (by rfl) (pa_cons (pv 0) (pa_cons pe_int pa_nil))) (fun _ _ => rfl)) (pe_own CT hr (by rfl) (pa_cons (pv 0) (pa_cons pe_int pa_nil)))) pe_int) pa_nil))) pa_nil)))))))
      (pss_cons (ps_par rfl scMin.nd (i := 7) (j := 8) rfl rfl (by decide) rfl rfl (pa_cons (pe_ix ix_list (pv 3) pe_int (fun _ _ => rfl)) (pa_cons (pe_ix ix_list (pe_lst (pa_cons (pe_ix ix_list (pv 3) pe_int (fun _ _ => rfl)) (pa_cons (pe_ix ix_list (pv 3) pe_int (fun _ _ => rfl)) (pa_cons pe_non (pa_cons (pe_op op_add (pe_ix ix_list (pv 3) pe_int (fun _ _ => rfl)) (pe_own CT hr (by rfl) (pa_cons (pv 0) (pa_cons pe_int pa_nil)))) (pa_cons (pe_ix ix_list (pv 3) pe_int (fun _ _ => rfl)) pa_nil)))))) (pe_own CT hr (by rfl) (pa_cons (pv 0) (pa_cons pe_int pa_nil))) (fun _ _ => rfl)) pa_nil)) (by rfl))
      (Evl.pss_cut (ps_if (PW.pt (pw_and (pt_cmpR op_notN (pv 8) pe_non (nomark _)) (pw_and (pt_cmpR op_gt (pv 7) (pv 8) (nomark _)) (pw_and1 (pt_cmpR op_gt (pe_own CT hr (by rfl) (pa_cons (pv 0) (pa_cons pe_int pa_nil))) pe_int (nomark _))))))
        (pss_one (ps_par rfl scMin.nd (i := 7) (j := 8) rfl rfl (by decide) rfl rfl (pa_cons (pv 8) (pa_cons (pv 7) pa_nil)) (by rfl))) pss_nil)
      (pss_one (ps_ret (pe_tup (pa_cons (pe_ix ix_list (pe_lst (pa_cons (pv 7) (pa_cons (pv 7) (pa_cons pe_int (pa_cons (pv 7) pa_nil))))) (pe_own CT hr (by rfl) (pa_cons (pv 0) (pa_cons pe_int pa_nil))) (fun _ _ => rfl)) (pa_cons (pv 8) pa_nil)))))))), ?_⟩
    refine ⟨Nat.zero_le _, fun pa npa => ?_⟩
    have spa := same_upd (o := .lst []) npa
    have offp := hS.off npa
    refine ⟨2, rfl, by decide, by decide, for_range (n := 2) (MinW H d c b pa pl t) ⟨t, [], _, _, _, rfl, upd_same, rfl, (fun _ z => nomatch z), by omega, by omega, hS.same spa, Kp.same d c spa⟩ (fun i σ Hx hi hP => ?_) (fun σ Hx hP => ?_)⟩
    · obtain ⟨t', ns, y4, y5, y6, rfl, epa, hnl, hns, u0, u1, hSx, kx⟩ := hP
      have hBx := hB.kp hS kx
      obtain ⟨ab, vb, eb, hab, hvb⟩ := id hBx
      refine ⟨_, rfl, _, rfl, _, rfl, _, rfl, b, _, 1, .int T, rfl, rfl, .inl (.inl eb), atI_nat (j := 1) rfl, d, c, t', T, rfl, hSx, by omega, by omega, by omega, fun n H1 n0 n1 hS1 k1 => ?_⟩
      refine ⟨b, mark, pl, T, n, ps, rfl, hBx.kp hSx k1, n0, n1, hT2, hgd, fun v H2 hv s2 => ?_⟩
      have hS2 := hS1.same s2
      have k2 : Kp d c Hx H2 := k1.trans (Kp.same d c s2)
      refine ⟨fun v' H' => ∃ (a : Addr) (x y t3 : Int), v' = .ref a ∧ H' a = some (.tup [.int x, .int y]) ∧ (0 ≤ x ∧ x ≤ 2 * 10 ^ 60) ∧ (0 ≤ y ∧ y ≤ 2 * 10 ^ 60) ∧ t' + 1 ≤ t3 ∧ t3 ≤ t' + 3 ∧ StAt H' d c t3 ∧ Kp d c Hx H', ?_, ?_⟩
      · cases hp : winF pl n ps with
        | none =>
          rw [hp] at hv
          cases (show v = .non from hv)
          refine ⟨_, rfl, rfl, false, congrArg V.bl (congrArg (!·) (decide_eq_true rfl)), iteF ?_⟩
          refine ⟨_, rfl, d, c, t' + 1, 40, rfl, hS2, by omega, by decide, by decide, fun x H3 x0 x1 hS3 k3 => ?_⟩
          refine ⟨_, rfl, d, c, t' + 1 + 1, 40, rfl, hS3, by omega, by decide, by decide, fun y H4 y0 y1 hS4 k4 => ⟨(by show 2 ≤ sizeLine; decide), fun a na => ?_⟩⟩
          have sa := same_upd (o := .tup [.int x, .int y]) na
          exact ⟨a, x, y, t' + 1 + 1 + 1, rfl, upd_same, ⟨x0, by omega⟩, ⟨y0, by omega⟩, by omega, by omega, hS4.same sa, ((k2.trans k3).trans k4).trans (Kp.same d c sa)⟩
        | some p =>
          rw [hp] at hv
          obtain ⟨a, rfl, ea⟩ := hv
          have hb := win_bd n0 n1 hT2 hgd hp
          exact ⟨_, rfl, rfl, true, congrArg V.bl (congrArg (!·) (decide_eq_false (fun z => nomatch z))), iteT ⟨_, rfl, a, p.1, p.2, t' + 1, rfl, ea, ⟨hb.1, by omega⟩, ⟨by omega, hb.2.2⟩, by omega, by omega, hS2, k2⟩⟩
      · rintro v' H3 ⟨a, x, y, t3, rfl, ea, hx, hy, w0, w1, hS3, k3⟩
        have epa3 := k3 _ _ offp.1 offp.2 epa
        refine ⟨_, rfl, .inl ⟨rfl, _, SqL.of epa3⟩, _, rfl, _, rfl, d, c, t3, 2, rfl, hS3, by omega, by decide, by decide, fun r H4 r0 r1 hS4 k4 => ?_⟩
        obtain ⟨e, he, hat⟩ := pick2 (x := x) (y := y) (fun v => 0 ≤ v ∧ v ≤ 2 * 10 ^ 60) r0 r1 hx hy
        refine ⟨a, _, r, .int e, rfl, rfl, .inl (.inl (k4.tup hS3 ea)), hat, _, rfl, d, c, t3 + 1, 3, rfl, hS4, by omega, by decide, by decide, fun r2 H5 r20 r21 hS5 k5 => ?_⟩
        have epa5 := (k4.trans k5) _ _ offp.1 offp.2 epa3
        refine ⟨e, r2, rfl, rfl, e + r2, 1, rfl, rfl, 0, _, rfl, pa, _, _, rfl, rfl, epa5, small1000 (by rw [List.length_map]; omega), t3 + 1 + 1, ns ++ [if e + r2 - 1 > 0 then e + r2 - 1 else 0], _, _, _, rfl, by rw [upd_same, List.map_append]; rfl, by rw [List.length_append, hnl]; rfl, fun m hm => ?_, by omega, by omega, hS5.upd offp.1 offp.2, fun b o b1 b2 e' => ?_⟩
        · rcases List.mem_append.mp hm with z | z
          · exact hns m z
          · rw [List.mem_singleton.mp z]
            split <;> omega
        · rw [upd_ne (ne_of_none e' npa)]
          exact ((k3.trans k4).trans k5) b o b1 b2 (kx b o b1 b2 e')
    · obtain ⟨t', ns, y4, y5, y6, rfl, epa, hnl, hns, u0, u1, hSx, kx⟩ := hP
      match ns, hnl with
      | [e0, e1], _ =>
        have h0 := hns e0 (List.mem_cons_self ..)
        have h1 := hns e1 (List.mem_cons_of_mem _ (List.mem_cons_self ..))
        have at0 : atI ([e0, e1].map V.int) 0 = some (.int e0) := atI_nat (j := 0) rfl
        have at1 : atI ([e0, e1].map V.int) 1 = some (.int e1) := atI_nat (j := 1) rfl
        refine ⟨_, rfl, pa, _, 0, .int e0, rfl, rfl, SqL.of epa, at0, ?_⟩
        refine ⟨_, rfl, pa, _, 1, .int e1, rfl, rfl, SqL.of epa, at1, _, rfl, pa, _, 0, .int e0, rfl, rfl, SqL.of epa, at0, _, rfl, pa, _, 0, .int e0, rfl, rfl, SqL.of epa, at0, ?_⟩
        refine ⟨_, rfl, d, c, t', 9, rfl, hSx, by omega, by decide, by decide, fun r1 H1 r10 r11 hS1 k1 => ⟨e0, r1, rfl, rfl, ?_⟩⟩
        have epa1 := k1 _ _ offp.1 offp.2 epa
        refine ⟨_, rfl, pa, _, 1, .int e1, rfl, rfl, SqL.of epa1, at1, (by show 5 ≤ sizeLine; decide), fun z nz => ?_⟩
        have sz := same_upd (o := .lst [.int e1, .int e0, .non, .int (e0 + r1), .int e1]) nz
        refine ⟨_, rfl, d, c, t' + 1, 5, rfl, hS1.same sz, by omega, by decide, by decide, fun r2 H2 r20 r21 hS2 k2 => ?_⟩
        obtain ⟨last, hat, hlast⟩ : ∃ last : Option Int, atI [V.int e1, V.int e0, V.non, V.int (e0 + r1), V.int e1] r2 = some (lastV last) ∧ ∀ l, last = some l → 0 ≤ l ∧ l ≤ 2 * 10 ^ 60 + 20 := by
          have : r2 = 0 ∨ r2 = 1 ∨ r2 = 2 ∨ r2 = 3 ∨ r2 = 4 := by omega
          rcases this with rfl | rfl | rfl | rfl | rfl
          · exact ⟨some e1, rfl, fun l e => by cases e; omega⟩
          · exact ⟨some e0, rfl, fun l e => by cases e; omega⟩
          · exact ⟨none, rfl, fun l e => nomatch e⟩
          · exact ⟨some (e0 + r1), rfl, fun l e => by cases e; omega⟩
          · exact ⟨some e1, rfl, fun l e => by cases e; omega⟩
        refine ⟨z, _, r2, lastV last, rfl, rfl, SqL.of (k2.new hS1 nz), hat, _, _, rfl, ?_⟩
        have kx2 : Kp d c H H2 := ((kx.trans k1).trans (Kp.same d c sz)).trans k2
        refine ⟨fun σ' H' => ∃ (first t3 : Int) (last : Option Int) (z4 z5 z6 : Option V), σ' = [some (.ref d), some (.ref b), some (.str pl), some (.ref pa), z4, z5, z6, some (.int first), some (lastV last)] ∧ (0 ≤ first ∧ first ≤ 2 * 10 ^ 60 + 20) ∧ (∀ l, last = some l → 0 ≤ l ∧ l ≤ 2 * 10 ^ 60 + 20) ∧ t ≤ t3 ∧ t3 ≤ t + 15 ∧ StAt H' d c t3 ∧ Kp d c H H', ?_, ?_⟩
        · cases last with
          | none => exact ⟨_, rfl, rfl, false, congrArg V.bl (congrArg (!·) (decide_eq_true (show lastV none = V.non from rfl))), iteF (iteF ⟨e0, t' + 1 + 1, none, _, _, _, rfl, ⟨h0.1, by omega⟩, hlast, by omega, by omega, hS2, kx2⟩)⟩
          | some l =>
            have hl := hlast l rfl
            refine ⟨_, rfl, rfl, true, congrArg V.bl (congrArg (!·) (decide_eq_false (show ¬ lastV (some l) = V.non from fun z => nomatch z))), iteT ?_⟩
            refine ⟨_, rfl, _, rfl, e0, l, rfl, rfl, _, rfl, ite2 (fun c1 => ?_) (fun c1 => ?_)⟩
            · refine ⟨_, rfl, d, c, t' + 1 + 1, 4, rfl, hS2, by omega, by decide, by decide, fun r3 H3 r30 r31 hS3 k3 => ⟨r3, 0, rfl, rfl, _, rfl, ite2 (fun c2 => ?_) (fun c2 => ?_)⟩⟩
              · refine ⟨_, rfl, _, rfl, _, _, rfl, ?_⟩
                exact ⟨l, t' + 1 + 1 + 1, some e0, _, _, _, rfl, hl, fun l e => by cases e; omega, by omega, by omega, hS3, kx2.trans k3⟩
              · exact ⟨e0, t' + 1 + 1 + 1, some l, _, _, _, rfl, ⟨h0.1, by omega⟩, hlast, by omega, by omega, hS3, kx2.trans k3⟩
            · exact iteF ⟨e0, t' + 1 + 1, some l, _, _, _, rfl, ⟨h0.1, by omega⟩, hlast, by omega, by omega, hS2, kx2⟩
        · rintro σ' H3 ⟨first, t3, last, z4, z5, z6, rfl, hf, hl, w0, w1, hS3, k3⟩
          refine ⟨_, rfl, _, rfl, _, rfl, (by show 4 ≤ sizeLine; decide), fun z2 nz2 => ?_⟩
          have sz2 := same_upd (o := .lst [.int first, .int first, .int 0, .int first]) nz2
          refine ⟨_, rfl, d, c, t3, 4, rfl, hS3.same sz2, by omega, by decide, by decide, fun r4 H4 r40 r41 hS4 k4 => ?_⟩
          obtain ⟨fi, hfi, hat4⟩ := pick4 (x := first) (y := first) (z := 0) (u := first) (fun v => 0 ≤ v ∧ v ≤ 2 * 10 ^ 60 + 20) r40 r41 hf hf (by decide) hf
          refine ⟨z2, _, r4, .int fi, rfl, rfl, SqL.of (k4.new hS3 nz2), hat4, _, rfl, (by show 2 ≤ sizeLine; decide), fun a na => ?_⟩
          have sa := same_upd (o := .tup [.int fi, lastV last]) na
          refine q a fi (t3 + 1) last _ upd_same ⟨by unfold MB; omega, fun l e => by have := hl l e; unfold MB; omega⟩ (by omega) (by omega) (hS4.same sa) ((k3.trans ((Kp.same d c sz2).trans k4)).trans (Kp.same d c sa))
end

/-! ### comprehensions by walks -/
abbrev WR (J : It) (B : V → Hp → (Hp → Prop) → Prop) (H0 : Hp) (Qd : Hp → Prop) : Prop := ∃ W : Nat → Nat → Hp → Prop, (∃ m, W 0 m H0) ∧ ∀ i m H, W i m H → (J.stop i H ∧ Qd H) ∨ (J.go i H ∧ ∃ Nx : Hp → Prop, (∀ H', Nx H' → ∃ m', m' < m ∧ W (i + 1) m' H') ∧ ∀ x H', J.yld i H x H' → B x H' Nx)
theorem walk_W {J : It} {n : Nat} {G : Hp → Prop} {Y : Nat → Hp → V → Hp → Prop} (w : Walk J n G Y) {B : V → Hp → (Hp → Prop) → Prop} {H0 : Hp} {Qd : Hp → Prop} (Pv : Nat → Hp → Prop) (h0 : Pv 0 H0) (hG : ∀ i H, Pv i H → G H) (hs : ∀ i x H H', i < n → Pv i H → Y i H x H' → B x H' (Pv (i + 1))) (hd : ∀ H, Pv n H → Qd H) : WR J B H0 Qd := by
  refine ⟨fun i m H => m = n - i ∧ i ≤ n ∧ Pv i H, ⟨n, by omega, Nat.zero_le _, h0⟩, ?_⟩
  rintro i m H ⟨rfl, hi, p⟩
  by_cases lt : i < n
  · exact .inr ⟨w.goes i H lt (hG i H p), Pv (i + 1), fun H' p' => ⟨n - (i + 1), by omega, rfl, lt, p'⟩, fun x H' y => hs i x H H' lt p (w.yields i H x H' lt (hG i H p) y)⟩
  · have e : i = n := by omega
    subst e
    exact .inl ⟨w.stops H (hG i H p), hd H p⟩
theorem list_W {K : PySem.W.Frag} {a : Addr} {xs : List V} {B : V → Hp → (Hp → Prop) → Prop} {H0 : Hp} {Qd : Hp → Prop} (Pv : Nat → Hp → Prop) (h0 : Pv 0 H0) (still : ∀ i H', Pv i H' → SqL K H' a xs) (turn : ∀ i x H', xs[i]? = some x → Pv i H' → B x H' (Pv (i + 1))) (fin : ∀ H', Pv xs.length H' → Qd H') : WR (Itl K a) B H0 Qd :=
  walk_W walk_list Pv h0 still (fun i x H H' _ p y => by rw [y.1]; exact turn i x H y.2 p) fin
theorem tup_W {K : PySem.W.Frag} {a : Addr} {xs : List V} {B : V → Hp → (Hp → Prop) → Prop} {H0 : Hp} {Qd : Hp → Prop} (Pv : Nat → Hp → Prop) (h0 : Pv 0 H0) (still : ∀ i H', Pv i H' → SqT K H' a xs) (turn : ∀ i x H', xs[i]? = some x → Pv i H' → B x H' (Pv (i + 1))) (fin : ∀ H', Pv xs.length H' → Qd H') : WR (Itt K a) B H0 Qd :=
  walk_W walk_tup Pv h0 still (fun i x H H' _ p y => by rw [y.1]; exact turn i x H y.2 p) fin
theorem seq_W {K : PySem.W.Frag} {a : Addr} {xs : List V} {H1 : Hp} (hq : Sq K H1 a xs) {B : Addr → V → Hp → (Hp → Prop) → Prop} {Qd : Addr → Hp → Prop} (Pv : Addr → Nat → Hp → Prop) (h0 : ∀ D, H1 D = none → Pv D 0 (upd H1 D (.lst []))) (still : ∀ D i H', H1 D = none → Pv D i H' → Same H1 H')
    (turn : ∀ D i x H', H1 D = none → xs[i]? = some x → Pv D i H' → B D x H' (Pv D (i + 1))) (fin : ∀ D H', H1 D = none → Pv D xs.length H' → Qd D H') :
    ((∃ xs, SqL K H1 a xs) ∧ ∀ D, H1 D = none → WR (Itl K a) (B D) (upd H1 D (.lst [])) (Qd D)) ∨ ((∃ xs, SqT K H1 a xs) ∧ ∀ D, H1 D = none → WR (Itt K a) (B D) (upd H1 D (.lst [])) (Qd D)) := by
  rcases hq with h | h
  · exact .inl ⟨⟨xs, h⟩, fun D nD => list_W (Pv D) (h0 D nD) (fun i H' p => (still D i H' nD p).seq h) (fun i x H' e p => turn D i x H' nD e p) fun H' p => fin D H' nD p⟩
  · exact .inr ⟨⟨xs, h⟩, fun D nD => tup_W (Pv D) (h0 D nD) (fun i H' p => same_t (still D i H' nD p) h) (fun i x H' e p => turn D i x H' nD e p) fun H' p => fin D H' nD p⟩
/-! ### faults and batches -/
structure Flt where
  pl : Str
  first : Int
  last : Int
  ks : List Int
structure Bat where
  mark : Str
  T : Int
  ps : List Pas
def Flt.Ok (f : Flt) : Prop := Near f.first (some f.last) ∧ f.first ≤ f.last ∧ (∀ k ∈ f.ks, 0 ≤ k ∧ k < 10 ^ 30) ∧ f.ks.length ≤ 13
def Bat.Ok (b : Bat) : Prop := 1 ≤ b.T ∧ b.T ≤ 10 ^ 30 ∧ (∀ p ∈ b.ps, p.Good b.T) ∧ b.ps.length ≤ 6
def FltV (H : Hp) (v : V) (f : Flt) : Prop := ∃ a rk, v = .ref a ∧ H a = some (.tup [.str f.pl, .int f.first, .int f.last, .ref rk]) ∧ SqH H rk (f.ks.map V.int)
theorem FltV.same {H H' : Hp} {v : V} {f : Flt} (h : FltV H v f) (s : Same H H') : FltV H' v f := let ⟨a, rk, e, h1, h2⟩ := h; ⟨a, rk, e, s _ _ h1, h2.same s⟩
def BatV (H : Hp) (v : V) (b : Bat) : Prop := ∃ a, v = .ref a ∧ BatA H a b.mark b.T b.ps
theorem BatV.same {H H' : Hp} {v : V} {b : Bat} (h : BatV H v b) (s : Same H H') : BatV H' v b := let ⟨a, e, h⟩ := h; ⟨a, e, h.same s⟩
/-- things, one by one -/
def Each {α : Type} (R : Hp → V → α → Prop) (H : Hp) (vs : List V) (xs : List α) : Prop := vs.length = xs.length ∧ ∀ (i : Nat) v x, vs[i]? = some v → xs[i]? = some x → R H v x
theorem Each.at {α : Type} {R : Hp → V → α → Prop} {H : Hp} {vs : List V} {xs : List α} {i : Nat} {v : V} (h : Each R H vs xs) (e : vs[i]? = some v) : ∃ x, xs[i]? = some x ∧ R H v x := by
  have hi : i < xs.length := by rw [← h.1]; exact (List.getElem?_eq_some_iff.mp e).1
  exact ⟨_, List.getElem?_eq_getElem hi, h.2 i v _ e (List.getElem?_eq_getElem hi)⟩
theorem Each.mono {α : Type} {R : Hp → V → α → Prop} {H H' : Hp} {vs : List V} {xs : List α} (h : Each R H vs xs) (m : ∀ v x, x ∈ xs → R H v x → R H' v x) : Each R H' vs xs := ⟨h.1, fun i v x e1 e2 => m v x (List.mem_of_getElem? e2) (h.2 i v x e1 e2)⟩
theorem Each.imp {α : Type} {R R' : Hp → V → α → Prop} {H H' : Hp} {vs : List V} {xs : List α} (h : Each R H vs xs) (m : ∀ v x, x ∈ xs → R H v x → R' H' v x) : Each R' H' vs xs := ⟨h.1, fun i v x e1 e2 => m v x (List.mem_of_getElem? e2) (h.2 i v x e1 e2)⟩
theorem Each.nil {α : Type} {R : Hp → V → α → Prop} {H : Hp} : Each R H [] [] := ⟨rfl, fun _ _ _ e => nomatch e⟩
theorem Each.app {α : Type} {R : Hp → V → α → Prop} {H : Hp} {vs ws : List V} {xs ys : List α} (h : Each R H vs xs) (h' : Each R H ws ys) : Each R H (vs ++ ws) (xs ++ ys) :=
  ⟨by rw [List.length_append, List.length_append, h.1, h'.1], fun i v p e1 e2 => (getElem?_app h.1 e1 e2).elim (fun z => h.2 i v p z.1 z.2) (fun z => h'.2 _ v p z.1 z.2)⟩
theorem Each.one {α : Type} {R : Hp → V → α → Prop} {H : Hp} {v : V} {x : α} (h : R H v x) : Each R H [v] [x] := ⟨rfl, fun i u q e1 e2 => by
  have hi : i < 1 := (List.getElem?_eq_some_iff.mp e1).1
  have : i = 0 := by omega
  subst this
  cases e1
  cases e2
  exact h⟩
/-- the tins in some racks -/
def RackP (pl : Str) (T : Int) (ps : List Pas) (ks : List Int) (n : Int) : Prop := (0 ≤ n ∧ n < T) ∧ ∃ p per ss, passF pl ps = some (.racks p per ss) ∧ n / per ∈ ks
def ReachP (b : Bat) (f : Flt) (n : Int) : Prop := TinP f.pl b.T b.ps f.first (some f.last) n ∧ (f.ks = [] ∨ RackP f.pl b.T b.ps f.ks n)
def ReachAny (b : Bat) (fs : List Flt) (n : Int) : Prop := ∃ f ∈ fs, ReachP b f n
open Classical in
/-- the one list of a set -/
noncomputable def canon (pr : Int → Prop) : List (Int × Int) := if h : ∃ rs, Told pr rs then Classical.choose h else []
theorem Told.canon {pr : Int → Prop} {rs : List (Int × Int)} (h : Told pr rs) : rs = canon pr := by
  unfold TK.canon
  rw [dif_pos ⟨rs, h⟩]
  exact h.one (Classical.choose_spec (p := fun rs => Told pr rs) ⟨rs, h⟩) fun _ => Iff.rfl
/-- the rows that are told -/
noncomputable def rowsF (fs : List Flt) : List Bat → List (Str × List (Int × Int))
  | [] => []
  | b :: r => (if canon (ReachAny b fs) = [] then [] else [(b.mark, canon (ReachAny b fs))]) ++ rowsF fs r
theorem rowsF_snoc {fs : List Flt} {b : Bat} : ∀ bs : List Bat, rowsF fs (bs ++ [b]) = rowsF fs bs ++ (if canon (ReachAny b fs) = [] then [] else [(b.mark, canon (ReachAny b fs))])
  | [] => by
    rw [List.nil_append, rowsF]
    exact (List.append_nil _).trans (List.nil_append _).symm
  | c :: r => by rw [List.cons_append, rowsF, rowsF, rowsF_snoc r, List.append_assoc]
theorem rowsF_len {fs : List Flt} : ∀ bs : List Bat, (rowsF fs bs).length ≤ bs.length
  | [] => Nat.le_refl _
  | b :: r => by
    have := rowsF_len (fs := fs) r
    rw [rowsF, List.length_append, List.length_cons]
    split
    · show 0 + _ ≤ _
      omega
    · show 1 + _ ≤ _
      omega
/-- a told row: all of it new since N -/
def RowV (N : Addr → Prop) (m : Nat) (H : Hp) (v : V) (r : Str × List (Int × Int)) : Prop := ∃ t s ws, v = .ref t ∧ N s ∧ H t = some (.tup [.str r.1, .ref s]) ∧ H s = some (.lst ws) ∧ Prs H ws r.2 ∧ r.2.length ≤ m
theorem RowV.same {N : Addr → Prop} {m : Nat} {H H' : Hp} {v : V} {r : Str × List (Int × Int)} (h : RowV N m H v r) (s : Same H H') : RowV N m H' v r := let ⟨t, z, ws, e, n, h1, h2, h3, h4⟩ := h; ⟨t, z, ws, e, n, s _ _ h1, s _ _ h2, h3.same s, h4⟩
/-! ### the program's -/
abbrev sInRacks : Stmt := topS 11
theorem scInRacks : FnScope ["batch", "place", "racks", "passed", "rack"] ["batch", "place", "racks"] (defScope sInRacks) := ⟨rfl, rfl, rfl, by decide +kernel, rfl, by decide +kernel, by decide +kernel⟩
def spInRacks : Sp := fun vs H Q _ => ∃ (b rk : Addr) (mark pl : Str) (T : Int) (ps : List Pas) (ks : List Int), vs = [.ref b, .str pl, .ref rk] ∧ BatA H b mark T ps ∧ T ≤ 10 ^ 30 ∧ (∀ p ∈ ps, p.Good T) ∧ SqH H rk (ks.map V.int) ∧ (∀ k ∈ ks, 0 ≤ k ∧ k < 10 ^ 30) ∧ ks.length ≤ 100 ∧ RetS H (RackP pl T ps ks) ks.length Q
abbrev sReach1 : Stmt := topS 13
theorem scReach1 : FnScope ["batch", "fault", "place", "first", "last", "racks", "met"] ["batch", "fault"] (defScope sReach1) := ⟨rfl, rfl, rfl, by decide +kernel, rfl, by decide +kernel, by decide +kernel⟩
def spReach1 : Sp := fun vs H Q _ => ∃ (v u : V) (b : Bat) (f : Flt), vs = [v, u] ∧ BatV H v b ∧ b.Ok ∧ FltV H u f ∧ f.Ok ∧ RetS H (ReachP b f) 30 Q
abbrev sReached : Stmt := topS 14
theorem scReached : FnScope ["batches", "faults", "told", "batch", "some", "fault", "stretch"] ["batches", "faults"] (defScope sReached) := ⟨rfl, rfl, rfl, by decide +kernel, rfl, by decide +kernel, by decide +kernel⟩
def spReached : Sp := fun vs H Q _ => ∃ (a c : Addr) (us ws : List V) (bs : List Bat) (fs : List Flt), vs = [.ref a, .ref c] ∧ SqH H a us ∧ Each BatV H us bs ∧ (∀ b ∈ bs, b.Ok) ∧ SqH H c ws ∧ Each FltV H ws fs ∧ (∀ f ∈ fs, f.Ok) ∧ bs.length ≤ 20 ∧ fs.length ≤ 20 ∧
  ∀ (l : Addr) (ys : List V) H', H l = none → H' l = some (.lst ys) → Each (RowV (fun s => H s = none ∧ s ≠ l) 600) H' ys (rowsF fs bs) → Same H H' → Q (.ref l) H'
theorem racks_in {T per n : Int} {ks : List Int} (hp : 1 ≤ per) (hk : ∀ k ∈ ks, 0 ≤ k) : InS (ks.map (rackP T per)) n ↔ (0 ≤ n ∧ n < T) ∧ n / per ∈ ks := by
  constructor
  · rintro ⟨p, hp', e⟩
    obtain ⟨k, hk', rfl⟩ := List.mem_map.mp hp'
    obtain ⟨z1, z2⟩ := (rack_in hp).mp e
    have z0 : 0 ≤ n := by
      rcases Int.lt_or_le n 0 with y | y
      · have := Int.ediv_neg_of_neg_of_pos y (show 0 < per by omega)
        have := hk k hk'
        omega
      · exact y
    exact ⟨⟨z0, z1⟩, z2 ▸ hk'⟩
  · rintro ⟨⟨z0, z1⟩, z2⟩
    exact ⟨_, List.mem_map.mpr ⟨_, z2, rfl⟩, (rack_in hp).mpr ⟨z1, rfl⟩⟩
section
variable {K : PySem.W.Frag} {mg : Str → Option Value} {P : Program} {w : World} {base : Heap}
theorem ok_inRacks {f : Addr} {fd : FuncData} (F : Fun K "tins_in_racks" "tins_in_racks" sInRacks f fd) (CA : Cal P w K mg base 1 "pass_at" ["batch", "place"] spPassAt) (CR : Cal P w K mg base 1 "tins_of_rack" ["tins", "per", "rack"] spRack) (CS : Cal P w K mg base 1 "set_of" ["pairs"] (spSetOf K)) (mL : ∃ u, mg "LINE" = some u ∧ RelV (.str "line") u) : FnOk P w K mg base CX0 2 f fd ["batch", "place", "racks"] spInRacks := by
  refine F.ok scInRacks (fun vs H Q E h => ?_) (fun cdv A outer s H vs Q E hr h => ?_)
  · obtain ⟨b, rk, mark, pl, T, ps, ks, rfl, _⟩ := h
    rfl
  · obtain ⟨b, rk, mark, pl, T, ps, ks, rfl, hB, hT, hgd, hrk, hks, hkl, q⟩ := h
    obtain ⟨uL, hL1, hL2⟩ := mL
    refine ⟨_, pss_cons (ps_set (i := 3) scInRacks.nd rfl (.inr rfl) (pe_own CA hr (by rfl) (pa_cons (pv 0) (pa_cons (pv 1) pa_nil))))
      (pss_cons (ps_if (PW.pt (pw_or (pt_cmpR op_isN (pv 3) pe_non (nomark _)) (pw_or1 (pt_cmpR op_eq (pe_ix ix_tup (pv 3) pe_int (fun _ _ => rfl)) (pe_glob (v := .str "line") (by rfl) hL1 hL2) (nomark _))))) (pss_one (ps_ret (pe_lst pa_nil))) pss_nil)
      (pss_one (ps_ret (pe_own CS hr (by rfl) (pa_cons (pe_lc (own := [("rack", 4)]) (g := gName 4) (tt := tYes) (te := tCall spRack [] E0 (tCons (tOp (rIxT K) (tVar 0) (tC (.int 1))) (tCons (tOp (rIxT K) (tVar 3) (tC (.int 2))) (tCons (tVar 4) tNil)))) rfl scInRacks.nd (pi_seq (pv 2)) (blkOk_by (own := [("rack", 4)]) (N := ["batch", "place", "racks", "passed", "rack"]) (sc := defScope sInRacks) (by decide +kernel)) (fun _ _ _ _ _ => pg_name (i := 4) scInRacks.nd rfl (.inl rfl)) (fun _ _ _ _ _ => pts_nil)
        (fun _ _ _ _ _ => pe_own CR hr (by rfl) (pa_cons (pe_ix ix_tup (pv 0) pe_int (fun _ _ => rfl)) (pa_cons (pe_ix ix_tup (pv 3) pe_int (fun _ _ => rfl)) (pa_cons (pv 4) pa_nil))))) pa_nil))))), ?_⟩
    refine ⟨_, rfl, _, rfl, b, mark, pl, T, ps, rfl, hB, fun v hv => ?_⟩
    have none_ : (∀ n, ¬ RackP pl T ps ks n) → (tRet (tLst tNil)) { nx := fun _ H' => Q .non H', rt := Q } [some (.ref b), some (.str pl), some (.ref rk), some v, none] H := fun no => by
      refine ⟨Nat.zero_le _, fun l nl => ?_⟩
      exact q l [] [] _ nl upd_same Prs.nil ⟨⟨0, True.intro⟩, fun n => ⟨fun z => absurd z inS_nil, fun z => absurd z (no n)⟩⟩ (Nat.zero_le _) (same_upd nl)
    cases hp : passF pl ps with
    | none =>
      rw [hp] at hv
      cases (show v = .non from hv)
      refine ⟨_, rfl, rfl, true, congrArg V.bl (decide_eq_true rfl), iteT (iteT (none_ fun n => ?_))⟩
      rintro ⟨_, _, _, _, e, _⟩
      rw [hp] at e
      cases e
    | some p =>
      rw [hp] at hv
      have hg := hgd p (passF_mem hp)
      have hv' : PasV H v p := hv
      obtain ⟨ab, vb, eb, hab, hvb⟩ := id hB
      cases p with
      | line p st lo by_ =>
        obtain ⟨g, rfl, eg⟩ := hv'
        refine ⟨_, rfl, rfl, false, congrArg V.bl (decide_eq_false (fun z => nomatch z)), iteF ?_⟩
        refine ⟨_, rfl, g, _, 0, .str "line", rfl, rfl, .inl (.inl eg), atI_nat (j := 0) rfl, rfl, true, congrArg V.bl (decide_eq_true rfl), iteT (none_ fun n => ?_)⟩
        rintro ⟨_, _, _, _, e, _⟩
        rw [hp] at e
        cases e
      | racks p per ss =>
        obtain ⟨g, sy, us, rfl, eg, hsy, hus⟩ := hv'
        obtain ⟨_, p0, p1, p2, p3, _⟩ := hg
        have hline : decide (V.str "racks" = V.str "line") = false := by decide +kernel
        refine ⟨_, rfl, rfl, false, congrArg V.bl (decide_eq_false (fun z => nomatch z)), iteF ?_⟩
        refine ⟨_, rfl, g, _, 0, .str "racks", rfl, rfl, .inl (.inl eg), atI_nat (j := 0) rfl, rfl, false, congrArg V.bl hline, iteF ?_⟩
        refine ⟨_, rfl, rk, rfl, seq_W (xs := ks.map V.int) hrk.sq (fun D i H' => Same H H' ∧ ∃ ys, H' D = some (.lst ys) ∧ Prs H' ys ((ks.take i).map (rackP T per))) (fun D nD => ⟨same_upd nD, [], upd_same, Prs.nil⟩) (fun D i H' nD hP => hP.1) (fun D i x H' nD hx hP => ?_) (fun D H2 nD hP => ?_)⟩
        · obtain ⟨sm, ys, eD, hys⟩ := hP
          obtain ⟨k, ek, rfl⟩ : ∃ k, ks[i]? = some k ∧ x = .int k := by
            rw [List.getElem?_map] at hx
            cases h : ks[i]? with
            | none => rw [h] at hx; cases hx
            | some n => rw [h] at hx; exact ⟨n, rfl, (Option.some.inj hx).symm⟩
          have hk := hks k (List.mem_of_getElem? ek)
          refine ⟨rfl, _, rfl, b, _, 1, .int T, rfl, rfl, .inl (.inl (sm _ _ eb)), atI_nat (j := 1) rfl, _, rfl, g, _, 2, .int per, rfl, rfl, .inl (.inl (sm _ _ eg)), atI_nat (j := 2) rfl, _, rfl, T, per, k, rfl, by omega, by omega, fun t nt => ?_⟩
          have st := same_upd (o := .tup [.int (rackP T per k).1, .int (rackP T per k).2]) nt
          have eD' := st _ _ eD
          refine ⟨ys, eD', small1000 (by rw [hys.1, List.length_map, List.length_take]; omega), fun x o e => ?_, _, upd_same, ?_⟩
          · rw [upd_ne (ne_of_none e nD)]
            exact st _ _ (sm x o e)
          · rw [List.take_add_one, ek, List.map_append]
            exact ((hys.same st).snoc upd_same).upd_lst eD'
        · obtain ⟨sm, ys, eD, hys⟩ := hP
          rw [List.length_map, List.take_length] at hys
          refine ⟨D, ys, _, rfl, Sq.list eD, hys, by rw [List.length_map]; omega, fun l ws rs H' nl el hws hset s' => ?_⟩
          refine q l ws rs H' (sm.free nl) el hws (hset.told.cong fun n => ?_) (by have := hset.len; rwa [List.length_map] at this) (sm.trans s')
          rw [racks_in p0 fun k hk => (hks k hk).1]
          unfold RackP
          rw [hp]
          exact ⟨fun ⟨z1, z2⟩ => ⟨z1, p, per, ss, rfl, z2⟩, fun ⟨z1, _, _, _, e, z2⟩ => ⟨z1, by cases e; exact z2⟩⟩
theorem ok_reach1 {f : Addr} {fd : FuncData} (F : Fun K "tins_reached" "tins_reached" sReach1 f fd) (CT : Cal P w K mg base 3 "tins_at" ["batch", "place", "first", "last"] spTinsAt) (CI : Cal P w K mg base 2 "tins_in_racks" ["batch", "place", "racks"] spInRacks) (CB : Cal P w K mg base 1 "both_of" ["one", "other"] (spBoth K)) : FnOk P w K mg base CX0 4 f fd ["batch", "fault"] spReach1 := by
  refine F.ok scReach1 (fun vs H Q E h => ?_) (fun cdv A outer s H vs Q E hr h => ?_)
  · obtain ⟨v, u, b, f, rfl, _⟩ := h
    rfl
  · obtain ⟨v, u, b, fl, rfl, ⟨ba, rfl, hB⟩, ⟨hT1, hT2, hgd, hpl⟩, ⟨fa, rk, rfl, efa, hrk⟩, ⟨hn, hfl, hks, hkl⟩, q⟩ := h
    have hr1 := hr.mono (show 1 ≤ 3 by decide)
    have hr2 := hr.mono (show 2 ≤ 3 by decide)
    refine ⟨_, pss_cons (ps_asg (pv 1) (pg_tup rfl (pgs_cons (pg_name (i := 2) scReach1.nd rfl (.inl rfl)) (pgs_cons (pg_name (i := 3) scReach1.nd rfl (.inl rfl)) (pgs_cons (pg_name (i := 4) scReach1.nd rfl (.inl rfl)) (pgs_cons (pg_name (i := 5) scReach1.nd rfl (.inl rfl)) pgs_nil))))))
      (pss_cons (ps_set (i := 6) scReach1.nd rfl (.inl rfl) (pe_own CT hr (by rfl) (pa_cons (pv 0) (pa_cons (pv 2) (pa_cons (pv 3) (pa_cons (pv 4) pa_nil))))))
      (pss_cons (ps_if (pt_not (pt_truth (pv 5) (by intro _; rfl))) (pss_one (ps_ret (pv 6))) pss_nil)
      (pss_one (ps_ret (pe_own CB hr1 (by rfl) (pa_cons (pv 6) (pa_cons (pe_own CI hr2 (by rfl) (pa_cons (pv 0) (pa_cons (pv 2) (pa_cons (pv 5) pa_nil)))) pa_nil))))))), ?_⟩
    refine ⟨_, rfl, fa, _, rfl, .inl (.inl efa), rfl, _, _, rfl, _, _, rfl, _, _, rfl, _, _, rfl, rfl, ?_⟩
    refine ⟨_, rfl, _, rfl, _, rfl, _, rfl, ba, b.mark, fl.pl, b.T, fl.first, b.ps, some fl.last, rfl, hB, hT1, hT2, hgd, hn, fun l1 ws1 rs1 H1 nl1 el1 hws1 ht1 hl1 s1 => ?_⟩
    have hrk1 := hrk.same s1
    have tru : TruV K (.ref rk) H1 (!fl.ks.isEmpty) := by
      have em : (fl.ks.map V.int).isEmpty = fl.ks.isEmpty := by cases fl.ks <;> rfl
      rcases hrk1 with h | h
      · exact .inl ⟨_, SqL.of h, by rw [em]⟩
      · exact .inr (.inl ⟨_, .inl (.inl h), by rw [em]⟩)
    refine ⟨_, rfl, _, tru, ?_⟩
    cases hk : fl.ks with
    | nil =>
      refine iteT ⟨_, rfl, ?_⟩
      exact q l1 ws1 rs1 H1 nl1 el1 hws1 (ht1.cong fun n => ⟨fun z => ⟨z, .inl hk⟩, fun z => z.1⟩) (by omega) s1
    | cons k0 kr =>
      refine iteF ?_
      refine ⟨_, rfl, _, rfl, _, rfl, _, rfl, ba, rk, b.mark, fl.pl, b.T, b.ps, fl.ks, rfl, hB.same s1, hT2, hgd, hrk1, hks, by omega, fun l2 ws2 rs2 H2 nl2 el2 hws2 ht2 hl2 s2 => ?_⟩
      refine ⟨l1, l2, rs1, rs2, rfl, ⟨_, Sq.list (s2 _ _ el1), hws1.same s2⟩, ⟨_, Sq.list el2, hws2⟩, ht1.ris, ht2.ris, by omega, fun l3 rs3 H3 nl3 ⟨ws3, el3, hws3⟩ ht3 hl3 s3 => ?_⟩
      refine q l3 ws3 rs3 H3 ((s1.trans s2).free nl3) el3 hws3 (ht3.cong fun n => ?_) (by omega) ((s1.trans s2).trans s3)
      rw [ht1.same n, ht2.same n]
      unfold ReachP
      rw [hk]
      exact ⟨fun z => ⟨z.1, .inr z.2⟩, fun z => ⟨z.1, z.2.elim (fun y => nomatch y) id⟩⟩
end

theorem RowV.upd {N : Addr → Prop} {m : Nat} {H : Hp} {v : V} {r : Str × List (Int × Int)} {l : Addr} {xs : List V} {o : HO} (h : RowV N m H v r) (e : H l = some (.lst xs)) (n : ∀ s, N s → s ≠ l) : RowV N m (L2.upd H l o) v r := by
  obtain ⟨t, s, ws, ev, ns, h1, h2, h3, h4⟩ := h
  exact ⟨t, s, ws, ev, ns, by rw [upd_ne (ne_of h1 e (fun z => nomatch z))]; exact h1, by rw [upd_ne (n s ns)]; exact h2, h3.upd_lst e, h4⟩
theorem RowV.weak {N N' : Addr → Prop} {m : Nat} {H : Hp} {v : V} {r : Str × List (Int × Int)} (h : RowV N m H v r) (n : ∀ s, N s → N' s) : RowV N' m H v r := let ⟨t, s, ws, ev, ns, h1, h2, h3, h4⟩ := h; ⟨t, s, ws, ev, n s ns, h1, h2, h3, h4⟩
theorem reachAny_take {b : Bat} {fs : List Flt} {f : Flt} {i : Nat} {n : Int} (e : fs[i]? = some f) : ReachAny b (fs.take (i + 1)) n ↔ ReachAny b (fs.take i) n ∨ ReachP b f n := by
  have et : fs.take (i + 1) = fs.take i ++ [f] := by rw [List.take_add_one, e]; rfl
  unfold ReachAny
  rw [et]
  constructor
  · rintro ⟨g, hg, z⟩
    rcases List.mem_append.mp hg with y | y
    · exact .inl ⟨g, y, z⟩
    · rw [List.mem_singleton.mp y] at z
      exact .inr z
  · rintro (⟨g, hg, z⟩ | z)
    · exact ⟨g, List.mem_append_left _ hg, z⟩
    · exact ⟨f, List.mem_append_right _ (List.mem_singleton.mpr rfl), z⟩
section
variable {K : PySem.W.Frag} {mg : Str → Option Value} {P : Program} {w : World} {base : Heap}
theorem ok_reached {f : Addr} {fd : FuncData} (F : Fun K "reached" "reached" sReached f fd) (CR : Cal P w K mg base 4 "tins_reached" ["batch", "fault"] spReach1) (CS : Cal P w K mg base 1 "set_of" ["pairs"] (spSetOf K)) : FnOk P w K mg base CX0 5 f fd ["batches", "faults"] spReached := by
  refine F.ok scReached (fun vs H Q E h => ?_) (fun cdv A outer s H vs Q E hr h => ?_)
  · obtain ⟨a, c, us, ws, bs, fs, rfl, _⟩ := h
    rfl
  · obtain ⟨a, c, us, ws, bs, fs, rfl, ha, hus, hbo, hc, hws, hfo, hbl, hfl, q⟩ := h
    have hr1 := hr.mono (show 1 ≤ 4 by decide)
    refine ⟨_, pss_cons (ps_set (i := 2) scReached.nd rfl (.inl rfl) (pe_lst pa_nil))
      (pss_cons (ps_for PassesOwn.never rfl (pi_seq (pv 0)) (pg_name (i := 3) scReached.nd rfl (.inr rfl))
        (pss_cons (ps_set (i := 4) scReached.nd rfl (.inl rfl) (pe_own CS hr1 (by rfl) (pa_cons (pe_lc2 (own := [("fault", 5), ("stretch", 6)]) (vs1 := [6]) (g := gName 5) (tt := tYes) (wi1 := iList K (tCall spReach1 [] E0 (tCons (tVar 3) (tCons (tVar 5) tNil)))) (g1 := gName 6) (tt1 := tYes) (te := tVar 6) rfl scReached.nd (pi_seq (pv 1)) (blkOk_by (own := [("fault", 5), ("stretch", 6)]) (N := ["batches", "faults", "told", "batch", "some", "fault", "stretch"]) (sc := defScope sReached) (by decide +kernel)) (by decide)
          (fun _ _ _ _ _ => pg_name (i := 5) scReached.nd rfl (.inl rfl)) (fun _ _ _ _ _ => pts_nil) (fun _ _ _ _ _ => pi_list (pe_own CR hr (by rfl) (pa_cons (pv 3) (pa_cons (pv 5) pa_nil)))) (fun _ _ _ _ _ => pg_name (i := 6) scReached.nd rfl (.inl rfl)) (fun _ _ _ _ _ => pts_nil) (fun _ _ _ _ _ => pv 6)) pa_nil)))
        (pss_one (ps_if (pt_truth (pv 4) (by intro _; rfl)) (pss_one (ps_expr (pe_bm PySem.F.plainAttrs_list PySem.F.slot_list_append PySem.F.type_list_append mt_append (pv 2) (pa_cons (pe_tup (pa_cons (pe_ix ix_tup (pv 3) pe_int (fun _ _ => rfl)) (pa_cons (pv 4) pa_nil))) pa_nil)))) pss_nil))))
      (pss_one (ps_ret (pv 2)))), ?_⟩
    refine ⟨Nat.zero_le _, fun tl ntl => ?_⟩
    have stl := same_upd (o := .lst []) ntl
    refine ⟨_, rfl, a, rfl, for_seqS (xs := us) ha.sq stl (fun i σ Hx => ∃ (ys : List V) (y3 y4 : Option V), σ = [some (.ref a), some (.ref c), some (.ref tl), y3, y4, none, none] ∧ Same H Hx ∧ Hx tl = some (.lst ys) ∧ Each (RowV (fun s => H s = none ∧ s ≠ tl) 600) Hx ys (rowsF fs (bs.take i)))
      ⟨[], _, _, rfl, stl, upd_same, Each.nil⟩ (fun i σ Hx hP => ?_) (fun i v σ Hx hx hP => ?_) (fun σ Hx hP => ?_)⟩
    · obtain ⟨_, _, _, rfl, sx, _⟩ := hP
      exact sx
    · obtain ⟨ys, y3, y4, rfl, sx, etl, hys⟩ := hP
      obtain ⟨b, eb, hbv⟩ := hus.at hx
      have hb := hbo b (List.mem_of_getElem? eb)
      have hi : i < bs.length := (List.getElem?_eq_some_iff.mp eb).1
      have etake : rowsF fs (bs.take (i + 1)) = rowsF fs (bs.take i) ++ (if canon (ReachAny b fs) = [] then [] else [(b.mark, canon (ReachAny b fs))]) := by
        rw [List.take_add_one, eb]
        exact rowsF_snoc _
      refine ⟨_, rfl, c, rfl, seq_W (xs := ws) (hc.same sx).sq (fun D j H' => Same Hx H' ∧ ∃ zs qs, H' D = some (.lst zs) ∧ Prs H' zs qs ∧ (∀ n, InS qs n ↔ ReachAny b (fs.take j) n) ∧ qs.length ≤ 30 * j)
        (fun D nD => ⟨same_upd nD, [], [], upd_same, Prs.nil, (fun n => ⟨fun z => absurd z inS_nil, fun ⟨_, z, _⟩ => nomatch z⟩), Nat.le_refl _⟩) (fun D j H' nD hP => hP.1) (fun D j x H' nD hx' hP => ?_) (fun D H2 nD hP => ?_)⟩
      · obtain ⟨sm, zs, qs, eD, hzs, hin, hql⟩ := hP
        obtain ⟨fl, ef, hfv⟩ := hws.at hx'
        have hf := hfo fl (List.mem_of_getElem? ef)
        have hj : j < fs.length := (List.getElem?_eq_some_iff.mp ef).1
        have S := sx.trans sm
        refine ⟨rfl, _, rfl, _, rfl, v, x, b, fl, rfl, hbv.same S, hb, hfv.same S, hf, fun l1 ws1 rs1 H1 nl1 el1 hws1 ht1 hl1 s1 => ?_⟩
        have nDl : D ≠ l1 := ne_of_none eD nl1
        refine ⟨l1, rfl, ⟨_, SqL.of el1⟩, list_W (xs := ws1) (fun k H' => Same Hx H' ∧ H' l1 = some (.lst ws1) ∧ Prs H' ws1 rs1 ∧ H' D = some (.lst (zs ++ ws1.take k)) ∧ Prs H' zs qs) ⟨sm.trans s1, el1, hws1, by rw [List.take_zero, List.append_nil]; exact s1 _ _ eD, hzs.same s1⟩ (fun k H' hP => SqL.of hP.2.1) (fun k x H' hx2 hP => ?_) (fun H' hP => ?_)⟩
        · obtain ⟨g1, g2, g3, g4, g5⟩ := hP
          have hk : k < ws1.length := (List.getElem?_eq_some_iff.mp hx2).1
          refine ⟨rfl, _, rfl, _, g4, small1000 (by have := hzs.1; have := hws1.1; rw [List.length_append, List.length_take]; omega), fun y o e => ?_, ?_, g3.upd_lst g4, ?_, g5.upd_lst g4⟩
          · rw [upd_ne (ne_of_none e nD)]
            exact g1 y o e
          · rw [upd_ne nDl.symm]
            exact g2
          · rw [upd_same, List.take_add_one, hx2, List.append_assoc]
            rfl
        · obtain ⟨g1, g2, g3, g4, g5⟩ := hP
          rw [List.take_length] at g4
          refine ⟨g1, zs ++ ws1, qs ++ rs1, g4, g5.append g3, fun n => ?_, by rw [List.length_append]; omega⟩
          rw [inS_append, hin n, ht1.same n]
          exact (reachAny_take ef).symm
      · obtain ⟨sm, zs, qs, eD, hzs, hin, hql⟩ := hP
        rw [hws.1, List.take_length] at hin
        rw [hws.1] at hql
        refine ⟨D, zs, qs, rfl, Sq.list eD, hzs, by omega, fun l2 ws2 rs2 H3 nl2 el2 hws2 hset s3 => ?_⟩
        have ht : Told (ReachAny b fs) rs2 := hset.told.cong hin
        have ec := ht.canon
        have S := sm.trans s3
        have etl3 := S _ _ etl
        have hys3 : Each (RowV (fun s => H s = none ∧ s ≠ tl) 600) H3 ys (rowsF fs (bs.take i)) := hys.mono fun v x _ z => z.same S
        have hyl := hys.1
        have hrl := rowsF_len (fs := fs) (bs.take i)
        rw [List.length_take] at hrl
        refine ⟨_, rfl, !ws2.isEmpty, .inl ⟨_, SqL.of el2, rfl⟩, ?_⟩
        cases hw : ws2 with
        | nil =>
          have er : rs2 = [] := List.eq_nil_of_length_eq_zero (by rw [← hws2.1, hw]; rfl)
          refine iteF ⟨ys, _, _, rfl, sx.trans S, etl3, ?_⟩
          rw [etake, if_pos (by rw [← ec]; exact er), List.append_nil]
          exact hys3
        | cons w0 wr =>
          have er : ¬ rs2 = [] := fun z => by
            have := hws2.1
            rw [hw, z] at this
            cases this
          refine iteT ?_
          obtain ⟨ba, rfl, hBA⟩ := hbv
          obtain ⟨ab, vb, eba, _⟩ := hBA.same (sx.trans S)
          refine ⟨_, rfl, .inl ⟨rfl, _, SqL.of etl3⟩, _, rfl, ba, _, 0, .str b.mark, rfl, rfl, .inl (.inl eba), atI_nat (j := 0) rfl, _, rfl, (by show 2 ≤ sizeLine; decide), fun t nt => ?_⟩
          have st := same_upd (o := .tup [.str b.mark, .ref l2]) nt
          have etl4 := st _ _ etl3
          have nl2' : H l2 = none ∧ l2 ≠ tl := ⟨(sx.trans sm).free nl2, fun z => by rw [z, sm _ _ etl] at nl2; cases nl2⟩
          have hrow : RowV (fun s => H s = none ∧ s ≠ tl) 600 (upd H3 t (.tup [.str b.mark, .ref l2])) (.ref t) (b.mark, canon (ReachAny b fs)) := ⟨t, l2, ws2, rfl, nl2', upd_same, st _ _ el2, by rw [← ec]; exact hws2.same st, by rw [← ec]; have := hset.len; show rs2.length ≤ 600; omega⟩
          refine ⟨tl, _, _, rfl, rfl, etl4, small1000 (by omega), ys ++ [.ref t], _, _, rfl, fun y o e => ?_, upd_same, ?_⟩
          · rw [upd_ne (ne_of_none e ntl)]
            exact st _ _ ((sx.trans S) y o e)
          · rw [etake, if_neg (by rw [← ec]; exact er)]
            exact ((hys3.mono fun v x _ z => z.same st).app (Each.one hrow)).mono fun v x _ z => z.upd etl4 fun s hs => hs.2
    · obtain ⟨ys, y3, y4, rfl, sx, etl, hys⟩ := hP
      rw [hus.1, List.take_length] at hys
      exact ⟨_, rfl, q tl ys Hx ntl etl hys sx⟩
end

/-! ### faults drawn -/
def FltN (N : Addr → Prop) (H : Hp) (v : V) (f : Flt) : Prop := ∃ a rk, v = .ref a ∧ H a = some (.tup [.str f.pl, .int f.first, .int f.last, .ref rk]) ∧ H rk = some (.lst (f.ks.map V.int)) ∧ N rk
theorem FltN.flt {N : Addr → Prop} {H : Hp} {v : V} {f : Flt} (h : FltN N H v f) : FltV H v f := let ⟨a, rk, e, h1, h2, _⟩ := h; ⟨a, rk, e, h1, .inl h2⟩
theorem FltN.same {N : Addr → Prop} {H H' : Hp} {v : V} {f : Flt} (h : FltN N H v f) (s : Same H H') : FltN N H' v f := let ⟨a, rk, e, h1, h2, h3⟩ := h; ⟨a, rk, e, s _ _ h1, s _ _ h2, h3⟩
theorem FltN.weak {N N' : Addr → Prop} {H : Hp} {v : V} {f : Flt} (h : FltN N H v f) (n : ∀ x, N x → N' x) : FltN N' H v f := let ⟨a, rk, e, h1, h2, h3⟩ := h; ⟨a, rk, e, h1, h2, n _ h3⟩
theorem FltN.kp {N : Addr → Prop} {H H' : Hp} {d c : Addr} {t : Int} {v : V} {f : Flt} (h : FltN N H v f) (n : ∀ x, N x → x ≠ c) (S : StAt H d c t) (k : Kp d c H H') : FltN N H' v f := by
  obtain ⟨a, rk, e, h1, h2, h3⟩ := h
  refine ⟨a, rk, e, k.tup S h1, k _ _ (fun z => ?_) (n _ h3) h2, h3⟩
  rw [z, S.dict] at h2
  cases h2
theorem FltN.upd {N : Addr → Prop} {H : Hp} {v : V} {f : Flt} {l : Addr} {xs : List V} {o : HO} (h : FltN N H v f) (n : ∀ x, N x → x ≠ l) (e : H l = some (.lst xs)) : FltN N (L2.upd H l o) v f := by
  obtain ⟨a, rk, ev, h1, h2, h3⟩ := h
  exact ⟨a, rk, ev, by rw [upd_ne (ne_of h1 e (fun z => nomatch z))]; exact h1, by rw [upd_ne (n _ h3)]; exact h2, h3⟩
theorem BatV.kp {H H' : Hp} {d c : Addr} {t : Int} {v : V} {b : Bat} (h : BatV H v b) (S : StAt H d c t) (k : Kp d c H H') : BatV H' v b := let ⟨a, e, h⟩ := h; ⟨a, e, h.kp S k⟩
theorem noInt_bats {H : Hp} {us : List V} {bs : List Bat} (h : Each BatV H us bs) : NoInt us := fun x hx i e => by
  obtain ⟨j, hj, e1⟩ := List.getElem_of_mem hx
  obtain ⟨_, _, a, rfl, _⟩ := h.at (by rw [List.getElem?_eq_getElem hj, e1])
  cases e
theorem noInt_flts {N : Addr → Prop} {H : Hp} {us : List V} {fs : List Flt} (h : Each (FltN N) H us fs) : NoInt us := fun x hx i e => by
  obtain ⟨j, hj, e1⟩ := List.getElem_of_mem hx
  obtain ⟨_, _, a, _, rfl, _⟩ := h.at (by rw [List.getElem?_eq_getElem hj, e1])
  cases e
abbrev sFaultsBy : Stmt := topS 30
theorem scFaultsBy : FnScope ["_law_state", "_law_batches", "_law_places", "_law_many", "_law_made", "_law_turn", "_law_place", "_law_first", "_law_last", "_law_racks", "_law_far", "_law_k"] ["_law_state", "_law_batches", "_law_places", "_law_many"] (defScope sFaultsBy) := ⟨rfl, rfl, rfl, by decide +kernel, rfl, by decide +kernel, by decide +kernel⟩
def Flt.Low (f : Flt) : Prop := (0 ≤ f.first ∧ f.first ≤ MB) ∧ f.last ≤ MB + 100 ∧ f.first ≤ f.last ∧ (∀ k ∈ f.ks, 0 ≤ k ∧ k < 10 ^ 30) ∧ f.ks.length ≤ 13
theorem Flt.Low.ok {f : Flt} (h : f.Low) : f.Ok := by
  obtain ⟨h1, h2, h3, h4, h5⟩ := h
  unfold MB at h1 h2
  exact ⟨⟨by omega, fun l e => by cases e; omega⟩, h3, h4, h5⟩
def spFaultsBy : Sp := fun vs H Q _ => ∃ (d c lb lp : Addr) (us : List V) (bs : List Bat) (xs : List Str) (t m : Int), vs = [.ref d, .ref lb, .ref lp, .int m] ∧ StAt H d c t ∧ t + 3000 < 2 ^ 60 ∧ H lb = some (.lst us) ∧ Each BatV H us bs ∧ (∀ b ∈ bs, b.Ok) ∧ bs ≠ [] ∧ bs.length ≤ 20 ∧ H lp = some (.lst (xs.map V.str)) ∧ xs ≠ [] ∧ xs.length ≤ 20 ∧ (∀ x ∈ xs, PyData.strOk x = true) ∧ 0 ≤ m ∧ m ≤ 12 ∧
  ∀ (l : Addr) (ws : List V) (fs : List Flt) (t' : Int) H', H l = none → H' l = some (.lst ws) → Each (FltN (fun x => x ≠ c ∧ H x = none)) H' ws fs → (∀ f ∈ fs, f.Low) → (∀ f ∈ fs, PyData.strOk f.pl = true) → (fs.length : Int) = m → t ≤ t' → t' ≤ t + 100 * m → StAt H' d c t' → Kp d c H H' → Q (.ref l) H'
def FbW (H : Hp) (d c lb lp pa : Addr) (m t : Int) (i : Nat) (σ : L2.St) (Hx : Hp) : Prop := ∃ (t' : Int) (ws : List V) (fs : List Flt) (y5 y6 y7 y8 y9 y10 : Option V), σ = [some (.ref d), some (.ref lb), some (.ref lp), some (.int m), some (.ref pa), y5, y6, y7, y8, y9, y10, none] ∧ Hx pa = some (.lst ws) ∧ Each (FltN (fun x => (x ≠ c ∧ H x = none) ∧ x ≠ pa)) Hx ws fs ∧ (∀ f ∈ fs, f.Low) ∧ (∀ f ∈ fs, PyData.strOk f.pl = true) ∧ fs.length = i ∧ t ≤ t' ∧ t' ≤ t + 100 * i ∧ StAt Hx d c t' ∧ Kp d c H Hx
section
variable {K : PySem.W.Frag} {mg : Str → Option Value} {P : Program} {w : World} {base : Heap}
theorem ok_faultsBy {f : Addr} {fd : FuncData} {km : Nat} (F : Fun K "_law_faults_by" "_law_faults_by" sFaultsBy f fd) (hkm : 2 ≤ km) (CT : Cal P w K mg base 1 "_law_take" ["_law_state", "_law_many"] spTake) (CN : Cal P w K mg base 2 "_law_number" ["_law_state", "_law_sort"] spNumber) (CI : Cal P w K mg base km "_law_minutes" ["_law_state", "_law_batch", "_law_place"] spMin) (mr : mg "range" = none) (me : mg "len" = none) : FnOk P w K mg base CX0 (km + 1) f fd ["_law_state", "_law_batches", "_law_places", "_law_many"] spFaultsBy := by
  refine F.ok scFaultsBy (fun vs H Q E h => ?_) (fun cdv A outer s H vs Q E hr h => ?_)
  · obtain ⟨d, c, lb, lp, us, bs, xs, t, m, rfl, _⟩ := h
    rfl
  · obtain ⟨d, c, lb, lp, us, bs, xs, t, m, rfl, hS, ht, elb, hus, hbo, hbn, hbl, elp, hxn, hxl, hxo, hm0, hm1, q⟩ := h
    have hr1 := hr.mono (show 1 ≤ km by omega)
    have hr2 := hr.mono hkm
    refine ⟨_, pss_cons (ps_set (i := 4) scFaultsBy.nd rfl (.inl rfl) (pe_lst pa_nil))
      (pss_cons (ps_for PassesOwn.never rfl (pi_range1 rfl mr (pa_cons (pv 3) pa_nil)) (pg_name (i := 5) scFaultsBy.nd rfl (.inl rfl))
        (pss_cons (ps_set (i := 6) scFaultsBy.nd rfl (.inl rfl) (pe_ix ix_list (pv 2) (pe_own CT hr1 (by rfl) (pa_cons (pv 0) (pa_cons (pe_callB call_len_seq (by rfl) me PySem.boot_len (pa_cons (pv 2) pa_nil)) pa_nil))) (fun _ _ => rfl)))
        (pss_cons (ps_asg (pe_own CI hr (by rfl) (pa_cons (pv 0) (pa_cons (pe_ix ix_list (pv 1) (pe_own CT hr1 (by rfl) (pa_cons (pv 0) (pa_cons (pe_callB call_len_seq (by rfl) me PySem.boot_len (pa_cons (pv 1) pa_nil)) pa_nil))) (fun _ _ => rfl)) (pa_cons (pv 6) pa_nil)))) (pg_tup rfl (pgs_cons (pg_name (i := 7) scFaultsBy.nd rfl (.inl rfl)) (pgs_cons (pg_name (i := 8) scFaultsBy.nd rfl (.inl rfl)) pgs_nil))))
        (pss_cons (ps_set (i := 8) scFaultsBy.nd rfl (.inl rfl) (pe_mid (pe_ifExp (PW.pt (pw_or (pt_cmpR op_isN (pv 8) pe_non (nomark _)) (pw_or1 (pt_cmpR op_gt (pv 7) (pv 8) (nomark _))))) (pe_op op_add (pv 7) (pe_own CT hr1 (by rfl) (pa_cons (pv 0) (pa_cons pe_int pa_nil)))) (pv 8))))
        (pss_cons (ps_setLc (i := 9) (own := [("_law_k", 11)]) (g := gName 11) (tt := tYes) (te := tCall spTake [] E0 (tCons (tVar 0) (tCons (tC (.int 13)) tNil))) rfl scFaultsBy.nd rfl rfl (sw_true rfl rfl rfl (by decide +kernel)) (pi_range1 rfl mr (pa_cons (pe_own CT hr1 (by rfl) (pa_cons (pv 0) (pa_cons pe_int pa_nil))) pa_nil))
            (blkOk_by (own := [("_law_k", 11)]) (N := ["_law_state", "_law_batches", "_law_places", "_law_many", "_law_made", "_law_turn", "_law_place", "_law_first", "_law_last", "_law_racks", "_law_far", "_law_k"]) (sc := defScope sFaultsBy) (by decide +kernel)) (fun _ _ _ _ _ => pg_name (i := 11) scFaultsBy.nd rfl (.inl rfl)) (fun _ _ _ _ _ => pts_nil) (fun _ _ _ _ _ => pe_own CT hr1 (by rfl) (pa_cons (pv 0) (pa_cons pe_int pa_nil))))
        (pss_cons (ps_set (i := 10) scFaultsBy.nd rfl (.inl rfl) (pe_op op_rep (pe_lst (pa_cons (pe_own CN hr2 (by rfl) (pa_cons (pv 0) (pa_cons pe_int pa_nil))) pa_nil)) (pe_own CT hr1 (by rfl) (pa_cons (pv 0) (pa_cons pe_int pa_nil)))))
        (pss_cons (ps_set (i := 9) scFaultsBy.nd rfl (.inl rfl) (pe_ix ix_list (pe_lst (pa_cons (pe_lst pa_nil) (pa_cons (pe_lst pa_nil) (pa_cons (pe_op op_cat (pe_lst (pa_cons (pe_own CT hr1 (by rfl) (pa_cons (pv 0) (pa_cons pe_int pa_nil))) pa_nil)) (pv 10)) (pa_cons (pv 9) pa_nil))))) (pe_own CT hr1 (by rfl) (pa_cons (pv 0) (pa_cons pe_int pa_nil))) (fun _ _ => rfl)))
        (pss_one (ps_expr (pe_bm PySem.F.plainAttrs_list PySem.F.slot_list_append PySem.F.type_list_append mt_append (pv 4) (pa_cons (pe_tup (pa_cons (pv 6) (pa_cons (pv 7) (pa_cons (pv 8) (pa_cons (pv 9) pa_nil))))) pa_nil)))))))))))
      (pss_one (ps_ret (pv 4)))), ?_⟩
    refine ⟨Nat.zero_le _, fun pa npa => ?_⟩
    have spa := same_upd (o := .lst []) npa
    have offp := hS.off npa
    have hul := hus.1
    have hbp : 0 < bs.length := List.length_pos_iff.mpr hbn
    have hxp : 0 < xs.length := List.length_pos_iff.mpr hxn
    refine ⟨_, rfl, m, rfl, by omega, by omega, for_range (n := m.toNat) (FbW H d c lb lp pa m t) ⟨t, [], [], _, _, _, _, _, _, rfl, upd_same, Each.nil, (fun _ z => nomatch z), (fun _ z => nomatch z), rfl, by omega, by omega, hS.same spa, Kp.same d c spa⟩ (fun i σ Hx hi hP => ?_) (fun σ Hx hP => ?_)⟩
    · obtain ⟨t', ws, fs, y5, y6, y7, y8, y9, y10, rfl, epa, hws, hfl, hfo, hfsl, u0, u1, hSx, kx⟩ := hP
      have elpx := kx.lst hS elp (noInt_strs xs)
      -- place
      have exl : (xs.map V.str).length = xs.length := List.length_map ..
      refine ⟨_, rfl, _, rfl, _, rfl, lp, _, rfl, Sq.list elpx, d, c, t', (xs.length : Int), by rw [exl]; rfl, hSx, by omega, by omega, by omega, fun r1 H1 r10 r11 hS1 k1 => ?_⟩
      obtain ⟨n1, rfl⟩ := Int.eq_ofNat_of_zero_le r10
      have hn1 : n1 < xs.length := by omega
      obtain ⟨pl, epl⟩ : ∃ pl, xs[n1]? = some pl := ⟨_, List.getElem?_eq_getElem hn1⟩
      have elp1 := k1.lst hSx elpx (noInt_strs xs)
      refine ⟨lp, _, (n1 : Int), .str pl, rfl, rfl, SqL.of elp1, atI_nat (by rw [List.getElem?_map, epl]; rfl), ?_⟩
      have kx1 := kx.trans k1
      have elb1 := kx1.lst hS elb (noInt_bats hus)
      -- minutes
      refine ⟨_, rfl, _, rfl, _, rfl, _, rfl, lb, _, rfl, Sq.list elb1, d, c, t' + 1, (us.length : Int), rfl, hS1, by omega, by omega, by omega, fun r2 H2 r20 r21 hS2 k2 => ?_⟩
      obtain ⟨n2, rfl⟩ := Int.eq_ofNat_of_zero_le r20
      have hn2 : n2 < us.length := by omega
      have eu2 : us[n2]? = some us[n2] := List.getElem?_eq_getElem hn2
      have kx2 := kx1.trans k2
      have elb2 := kx2.lst hS elb (noInt_bats hus)
      obtain ⟨b, eb, hbv⟩ := hus.at eu2
      obtain ⟨ba, eba, hBA⟩ := hbv.kp hS kx2
      have hb := hbo b (List.mem_of_getElem? eb)
      refine ⟨lb, us, (n2 : Int), us[n2], rfl, rfl, SqL.of elb2, atI_nat eu2, ?_⟩
      rw [eba]
      refine ⟨_, rfl, d, c, ba, t' + 1 + 1, b.T, b.mark, pl, b.ps, rfl, hS2, by omega, hBA, hb.1, hb.2.1, hb.2.2.1, fun am first t3 last H3 eam hin w0 w1 hS3 k3 => ?_⟩
      refine ⟨am, _, rfl, .inl (.inl eam), rfl, _, _, rfl, _, _, rfl, rfl, ?_⟩
      have kx3 := kx2.trans k3
      -- last
      refine ⟨fun v H' => ∃ la t4, v = .int la ∧ (first ≤ la ∧ la ≤ MB + 100) ∧ t3 ≤ t4 ∧ t4 ≤ t3 + 1 ∧ StAt H' d c t4 ∧ Kp d c H3 H', ?_, ?_⟩
      · have hin' := hin
        unfold In0 at hin'
        cases last with
        | none =>
          refine ⟨_, rfl, rfl, true, congrArg V.bl (decide_eq_true rfl), iteT (iteT ?_)⟩
          exact ⟨_, rfl, _, rfl, d, c, t3, 99, rfl, hS3, by omega, by decide, by decide, fun r H4 r0 r1 hS4 k4 => ⟨first, r, rfl, rfl, first + r, t3 + 1, rfl, ⟨by omega, by omega⟩, by omega, by omega, hS4, k4⟩⟩
        | some la =>
          have := hin'.2 la rfl
          refine ⟨_, rfl, rfl, false, congrArg V.bl (decide_eq_false (fun z => nomatch z)), iteF ?_⟩
          refine ⟨_, rfl, _, rfl, first, la, rfl, rfl, _, rfl, ite2 (fun c1 => ?_) (fun c1 => ?_)⟩
          · exact ⟨_, rfl, _, rfl, d, c, t3, 99, rfl, hS3, by omega, by decide, by decide, fun r H4 r0 r1 hS4 k4 => ⟨first, r, rfl, rfl, first + r, t3 + 1, rfl, ⟨by omega, by omega⟩, by omega, by omega, hS4, k4⟩⟩
          · have c1' : ¬ first > la := fun z => c1 (decide_eq_true z)
            exact ⟨_, rfl, la, t3, rfl, ⟨by omega, by omega⟩, by omega, by omega, hS3, Kp.refl d c _⟩
      rintro v H4 ⟨la, t4, rfl, ⟨hla0, hla1⟩, v0, v1, hS4, k4⟩
      have kx4 := kx3.trans k4
      -- racks
      refine ⟨_, rfl, d, c, t4, 13, rfl, hS4, by omega, by decide, by decide, fun rr H5 rr0 rr1 hS5 k5 => ⟨rr, rfl, by omega, by omega, fun D nD => ?_⟩⟩
      have offD := hS5.off nD
      have kx5 := kx4.trans k5
      have nDH : H D = none := Kp.free kx5 hS5 nD
      refine lc_range (n := rr.toNat) (fun m H' => ∃ (t' : Int) (ks : List Int), H' D = some (.lst (ks.map V.int)) ∧ ks.length = m ∧ (∀ k ∈ ks, 0 ≤ k ∧ k < 13) ∧ t4 + 1 ≤ t' ∧ t' ≤ t4 + 1 + m ∧ StAt H' d c t' ∧ Kp d c H5 H') ⟨t4 + 1, [], upd_same, rfl, (fun _ z => nomatch z), by omega, by omega, hS5.same (same_upd nD), Kp.same d c (same_upd nD)⟩ (fun m H' hm hP => ?_) (fun H6 hP => ?_)
      · obtain ⟨t', ks, eD, hkl, hks, x0, x1, hS', k'⟩ := hP
        refine ⟨rfl, _, rfl, d, c, t', 13, rfl, hS', by omega, by decide, by decide, fun r2 H3 r20 r21 hS3 k3 => ?_⟩
        have eD3 := k3 _ _ offD.1 offD.2 eD
        refine ⟨_, eD3, small1000 (by rw [List.length_map]; omega), t' + 1, ks ++ [r2], by rw [upd_same, List.map_append]; rfl, by rw [List.length_append, hkl]; rfl, fun x hx => ?_, by omega, by omega, hS3.upd offD.1 offD.2, fun b o b1 b2 e => ?_⟩
        · rcases List.mem_append.mp hx with z | z
          · exact hks x z
          · rw [List.mem_singleton.mp z]; exact ⟨r20, r21⟩
        · rw [upd_ne (ne_of_none e nD)]
          exact k3 b o b1 b2 (k' b o b1 b2 e)
      obtain ⟨t6, ks, eD, hkl, hks, x0, x1, hS6, k6'⟩ := hP
      have kx6 := kx5.trans k6'
      -- far
      refine ⟨_, rfl, d, c, t6, 3, rfl, hS6, by omega, by decide, fun fr t7 H7 fr0 fr1 t70 t71 hS7 k7 => ⟨(by show 1 ≤ sizeLine; decide), fun z1 nz1 => ?_⟩⟩
      have sz1 := same_upd (o := .lst [.int fr]) nz1
      have offz1 := hS7.off nz1
      refine ⟨_, rfl, d, c, t7, 2, rfl, hS7.same sz1, by omega, by decide, by decide, fun r8 H8 r80 r81 hS8 k8 => ?_⟩
      have kz := (Kp.same d c sz1).trans k8
      have ez1 := k8 _ _ offz1.1 offz1.2 (upd_same (H := H7) (a := z1) (o := .lst [.int fr]))
      have hrep : ([V.int fr].length) * r8.toNat ≤ sizeLine := Nat.le_trans (show 1 * r8.toNat ≤ 2 by omega) (by decide)
      refine ⟨z1, r8, _, rfl, rfl, ez1, by omega, by omega, hrep, fun z2 nz2 => ?_⟩
      obtain ⟨far, efar, hfar, hfarl⟩ : ∃ far : List Int, (List.replicate r8.toNat [V.int fr]).flatten = far.map V.int ∧ (∀ k ∈ far, 0 ≤ k ∧ k < 10 ^ 30) ∧ far.length ≤ 2 := by
        refine ⟨List.replicate r8.toNat fr, ?_, fun k hk => ?_, by rw [List.length_replicate]; omega⟩
        · have : r8 = 0 ∨ r8 = 1 := by omega
          rcases this with rfl | rfl <;> rfl
        · rw [(List.mem_replicate.mp hk).2]
          exact ⟨fr0, fr1⟩
      rw [efar]
      have sz2 := same_upd (o := .lst (far.map V.int)) nz2
      have kx8 := (kx6.trans k7).trans kz
      have fr : ∀ {Hn : Hp} {tn : Int} {z : Addr}, StAt Hn d c tn → Kp d c H Hn → Hn pa = some (.lst ws) → Hn z = none → (z ≠ c ∧ H z = none) ∧ z ≠ pa := fun S k e n => ⟨⟨(S.off n).2, Kp.free k S n⟩, fun h => by rw [h] at n; rw [n] at e; cases e⟩
      have k08 : Kp d c Hx H8 := (((((k1.trans k2).trans k3).trans k4).trans k5).trans k6').trans (k7.trans kz)
      have epa8 := k08 _ _ offp.1 offp.2 epa
      have frD := fr hS5 kx5 ((((((k1.trans k2).trans k3).trans k4).trans k5)) _ _ offp.1 offp.2 epa) nD
      have eD8 := (k7.trans kz) _ _ offD.1 offD.2 eD
      -- racks again
      refine ⟨Nat.zero_le _, fun z3 nz3 => ⟨Nat.zero_le _, fun z4 nz4 => ?_⟩⟩
      have sz3 := same_upd (o := .lst []) nz3
      have sz4 := same_upd (o := .lst []) nz4
      have S9 := (sz2.trans sz3).trans sz4
      have hS9 := hS8.same S9
      have kx9 := kx8.trans (Kp.same d c S9)
      have epa9 := S9 _ _ epa8
      have fr3 := fr (hS8.same sz2) (kx8.trans (Kp.same d c sz2)) (sz2 _ _ epa8) nz3
      have fr4 := fr ((hS8.same sz2).same sz3) ((kx8.trans (Kp.same d c sz2)).trans (Kp.same d c sz3)) ((sz2.trans sz3) _ _ epa8) nz4
      have off2 := hS8.off nz2
      have off3 := (hS8.same sz2).off nz3
      have off4 := ((hS8.same sz2).same sz3).off nz4
      have ez2 := (sz3.trans sz4) _ _ (upd_same (H := H8) (a := z2) (o := .lst (far.map V.int)))
      have ez3 := sz4 _ _ (upd_same (H := upd H8 z2 (.lst (far.map V.int))) (a := z3) (o := .lst []))
      have ez4 := upd_same (H := upd (upd H8 z2 (.lst (far.map V.int))) z3 (.lst [])) (a := z4) (o := .lst [])
      have eD9 := S9 _ _ eD8
      revert hS9 kx9 epa9 ez2 ez3 ez4 eD9 S9
      generalize upd (upd (upd H8 z2 (.lst (far.map V.int))) z3 (.lst [])) z4 (.lst []) = H9
      intro S9 hS9 kx9 epa9 ez2 ez3 ez4 eD9
      refine ⟨_, rfl, d, c, t7 + 1, 4, rfl, hS9, by omega, by decide, by decide, fun r10 H10 r100 r101 hS10 k10 => ⟨(by show 1 ≤ sizeLine; decide), fun z5 nz5 => ?_⟩⟩
      have sz5 := same_upd (o := .lst [.int r10]) nz5
      have ez2' := sz5 _ _ (k10 _ _ off2.1 off2.2 ez2)
      have hcl : [V.int r10].length + (far.map V.int).length ≤ sizeLine := by
        rw [List.length_map]
        exact Nat.le_trans (show 1 + far.length ≤ 3 by omega) (by decide)
      refine ⟨_, rfl, z5, z2, _, _, rfl, rfl, upd_same, ez2', hcl, fun z6 nz6 => ?_⟩
      have sz6 := same_upd (o := .lst ([.int r10] ++ far.map V.int)) nz6
      refine ⟨_, rfl, (by show 4 ≤ sizeLine; decide), fun z7 nz7 => ?_⟩
      have sz7 := same_upd (o := .lst [.ref z3, .ref z4, .ref z6, .ref D]) nz7
      have S10 := (sz5.trans sz6).trans sz7
      have epa10 := k10 _ _ offp.1 offp.2 epa9
      have fr6 := fr (hS10.same sz5) ((kx9.trans k10).trans (Kp.same d c sz5)) (sz5 _ _ epa10) nz6
      have off6 := (hS10.same sz5).off nz6
      have off7 := ((hS10.same sz5).same sz6).off nz7
      have hS11' := hS10.same S10
      refine ⟨_, rfl, d, c, t7 + 1 + 1, 4, rfl, hS11', by omega, by decide, by decide, fun r11 H11 r110 r111 hS11 k11 => ?_⟩
      have kk := (Kp.same d c S10).trans k11
      have k1011 := k10.trans kk
      have ez6 := k11 _ _ off6.1 off6.2 (sz7 _ _ (upd_same (H := upd H10 z5 (.lst [.int r10])) (a := z6) (o := .lst ([.int r10] ++ far.map V.int))))
      have ez7 := k11 _ _ off7.1 off7.2 (upd_same (H := upd (upd H10 z5 (.lst [.int r10])) z6 (.lst ([.int r10] ++ far.map V.int))) (a := z7) (o := .lst [.ref z3, .ref z4, .ref z6, .ref D]))
      obtain ⟨rk, ks', hat, erk, hk', hkl', frk⟩ : ∃ (rk : Addr) (ks' : List Int), atI [V.ref z3, V.ref z4, V.ref z6, V.ref D] r11 = some (.ref rk) ∧ H11 rk = some (.lst (ks'.map V.int)) ∧ (∀ k ∈ ks', 0 ≤ k ∧ k < 10 ^ 30) ∧ ks'.length ≤ 13 ∧ ((rk ≠ c ∧ H rk = none) ∧ rk ≠ pa) := by
        have : r11 = 0 ∨ r11 = 1 ∨ r11 = 2 ∨ r11 = 3 := by omega
        rcases this with rfl | rfl | rfl | rfl
        · exact ⟨z3, [], rfl, k1011 _ _ off3.1 off3.2 ez3, (fun _ z => nomatch z), by decide, fr3⟩
        · exact ⟨z4, [], rfl, k1011 _ _ off4.1 off4.2 ez4, (fun _ z => nomatch z), by decide, fr4⟩
        · refine ⟨z6, r10 :: far, rfl, ez6, fun k hk => ?_, by rw [List.length_cons]; omega, fr6⟩
          rcases List.mem_cons.mp hk with z | z
          · rw [z]; exact ⟨r100, by omega⟩
          · exact hfar k z
        · exact ⟨D, ks, rfl, k1011 _ _ offD.1 offD.2 eD9, fun k hk => by have := hks k hk; omega, by omega, frD⟩
      refine ⟨z7, _, r11, .ref rk, rfl, rfl, SqL.of ez7, hat, ?_⟩
      have k0 : Kp d c Hx H11 := (k08.trans (Kp.same d c S9)).trans k1011
      have epa11 := k0 _ _ offp.1 offp.2 epa
      have hws11 : Each (FltN (fun x => (x ≠ c ∧ H x = none) ∧ x ≠ pa)) H11 ws fs := hws.mono fun v x _ z => z.kp (fun _ h => h.1.1) hSx k0
      refine ⟨_, rfl, .inl ⟨rfl, _, SqL.of epa11⟩, _, rfl, _, rfl, _, rfl, _, rfl, (by show 4 ≤ sizeLine; decide), fun tf ntf => ?_⟩
      have stf := same_upd (o := .tup [.str pl, .int first, .int la, .ref rk]) ntf
      have epa12 := stf _ _ epa11
      have hwl := hws.1
      refine ⟨pa, _, _, rfl, rfl, epa12, small1000 (by omega), t7 + 1 + 1 + 1, ws ++ [.ref tf], fs ++ [⟨pl, first, la, ks'⟩], _, _, _, _, _, _, rfl, upd_same, ?_, fun f hf => ?_, fun f hf => ?_, by rw [List.length_append, hfsl]; rfl, by omega, by omega, (hS11.same stf).upd offp.1 offp.2, fun b o b1 b2 e => ?_⟩
      · have hone : FltN (fun x => (x ≠ c ∧ H x = none) ∧ x ≠ pa) (upd H11 tf (.tup [.str pl, .int first, .int la, .ref rk])) (.ref tf) ⟨pl, first, la, ks'⟩ := ⟨tf, rk, rfl, upd_same, stf _ _ erk, frk⟩
        exact ((hws11.mono fun v x _ z => z.same stf).app (Each.one hone)).mono fun v x _ z => z.upd (fun _ h => h.2) epa12
      · rcases List.mem_append.mp hf with z | z
        · exact hfl f z
        · rw [List.mem_singleton.mp z]
          exact ⟨hin.1, hla1, hla0, hk', hkl'⟩
      · rcases List.mem_append.mp hf with z | z
        · exact hfo f z
        · rw [List.mem_singleton.mp z]
          exact hxo pl (List.mem_of_getElem? epl)
      · rw [upd_ne (ne_of_none e npa)]
        exact stf _ _ (k0 b o b1 b2 (kx b o b1 b2 e))
    · obtain ⟨t', ws, fs, y5, y6, y7, y8, y9, y10, rfl, epa, hws, hfl, hfo, hfsl, u0, u1, hSx, kx⟩ := hP
      exact ⟨_, rfl, q pa ws fs t' Hx npa epa (hws.imp fun v x _ z => z.weak fun _ h => h.1) hfl hfo (by omega) u0 (by omega) hSx kx⟩
end

theorem inV_ints {n : Int} {ns : List Int} : inV (.int n) (ns.map V.int) = decide (n ∈ ns) := by
  rw [Bool.eq_iff_iff, decide_eq_true_eq]
  unfold inV
  rw [List.any_eq_true]
  constructor
  · rintro ⟨x, hx, e⟩
    obtain ⟨m, hm, rfl⟩ := List.mem_map.mp hx
    have e' : (m == n) = true := e
    rw [← beq_iff_eq.mp e']
    exact hm
  · exact fun h => ⟨.int n, List.mem_map.mpr ⟨n, h, rfl⟩, by show (n == n) = true; exact beq_self_eq_true n⟩
theorem flat_ints (ns : List Int) : (ns.map V.int).all flatV = true := by
  rw [List.all_eq_true]
  intro x hx
  obtain ⟨m, _, rfl⟩ := List.mem_map.mp hx
  rfl

/-! ### each tin looked at for each fault -/
def rackO (pl : Str) : List Pas → Option Int
  | [] => none
  | .line _ _ _ _ :: r => rackO pl r
  | .racks p per _ :: r => if p = pl then some per else rackO pl r
theorem rackO_none {pl : Str} : ∀ {ps : List Pas}, (∀ p ∈ ps, p.place ≠ pl) → rackO pl ps = none
  | [], _ => rfl
  | .line _ _ _ _ :: r, h => rackO_none (ps := r) fun q hq => h q (List.mem_cons_of_mem _ hq)
  | .racks p per ss :: r, h => by
    unfold rackO
    rw [if_neg (show ¬ p = pl from h _ (List.mem_cons_self ..))]
    exact rackO_none fun q hq => h q (List.mem_cons_of_mem _ hq)
theorem rackO_iff {pl : Str} {per : Int} : ∀ {ps : List Pas}, (ps.map Pas.place).Nodup → (rackO pl ps = some per ↔ ∃ p ss, passF pl ps = some (.racks p per ss))
  | [], _ => ⟨(fun e => nomatch e), (fun ⟨_, _, e⟩ => nomatch e)⟩
  | q :: r, nd => by
    rw [List.map_cons, List.nodup_cons] at nd
    by_cases e : q.place = pl
    · have hr : rackO pl r = none := rackO_none fun x hx ex => nd.1 (List.mem_map.mpr ⟨x, hx, ex.trans e.symm⟩)
      have ep : passF pl (q :: r) = some q := if_pos e
      rw [ep]
      cases q with
      | line p st lo b =>
        show rackO pl r = some per ↔ _
        rw [hr]
        exact ⟨(fun z => nomatch z), (fun ⟨_, _, z⟩ => nomatch z)⟩
      | racks p per' ss =>
        have eo : rackO pl (.racks p per' ss :: r) = some per' := if_pos (show p = pl from e)
        rw [eo]
        exact ⟨fun z => by cases z; exact ⟨p, ss, rfl⟩, fun ⟨_, _, z⟩ => by cases z; rfl⟩
    · have ep : passF pl (q :: r) = passF pl r := if_neg e
      rw [ep, ← rackO_iff nd.2]
      cases q with
      | line p st lo b => exact Iff.rfl
      | racks p per' ss =>
        have eo : rackO pl (.racks p per' ss :: r) = rackO pl r := if_neg (show ¬ p = pl from e)
        rw [eo]
def rackV (n : Int) : Option Int → V
  | none => .non
  | some per => .int (n / per)
def inO (n : Int) (ks : List Int) : Option Int → Bool
  | none => false
  | some per => decide (n / per ∈ ks)
def isB (b : Bat) (f : Flt) (n : Int) : Bool := tinB f.pl b.ps f.first (some f.last) n && (f.ks.isEmpty || inO n f.ks (rackO f.pl b.ps))
theorem isB_iff {b : Bat} {f : Flt} {n : Int} (nd : (b.ps.map Pas.place).Nodup) (h0 : 0 ≤ n) (h1 : n < b.T) : isB b f n = true ↔ ReachP b f n := by
  unfold isB ReachP
  rw [Bool.and_eq_true, tinB_iff h0 h1, Bool.or_eq_true, List.isEmpty_iff]
  have e : inO n f.ks (rackO f.pl b.ps) = true ↔ RackP f.pl b.T b.ps f.ks n := by
    unfold RackP
    constructor
    · intro z
      cases hr : rackO f.pl b.ps with
      | none => rw [hr] at z; cases z
      | some per =>
        rw [hr] at z
        obtain ⟨p, ss, ep⟩ := (rackO_iff nd).mp hr
        exact ⟨⟨h0, h1⟩, p, per, ss, ep, of_decide_eq_true z⟩
    · rintro ⟨_, p, per, ss, ep, z⟩
      rw [(rackO_iff nd).mpr ⟨p, ss, ep⟩]
      exact decide_eq_true z
  rw [e]
abbrev sRackOf : Stmt := topS 31
theorem scRackOf : FnScope ["_law_batch", "_law_place", "_law_tin", "_law_one"] ["_law_batch", "_law_place", "_law_tin"] (defScope sRackOf) := ⟨rfl, rfl, rfl, by decide +kernel, rfl, by decide +kernel, by decide +kernel⟩
def spRackOf : Sp := fun vs H Q _ => ∃ (b : Addr) (mark pl : Str) (T n : Int) (ps : List Pas), vs = [.ref b, .str pl, .int n] ∧ BatA H b mark T ps ∧ T ≤ 10 ^ 30 ∧ (∀ p ∈ ps, p.Good T) ∧ Q (rackV n (rackO pl ps)) H
abbrev sIsReached : Stmt := topS 32
theorem scIsReached : FnScope ["_law_batch", "_law_fault", "_law_tin", "_law_place", "_law_first", "_law_last", "_law_racks"] ["_law_batch", "_law_fault", "_law_tin"] (defScope sIsReached) := ⟨rfl, rfl, rfl, by decide +kernel, rfl, by decide +kernel, by decide +kernel⟩
def spIsReached : Sp := fun vs H Q _ => ∃ (N : Addr → Prop) (v u : V) (b : Bat) (f : Flt) (n : Int), vs = [v, u, .int n] ∧ BatV H v b ∧ b.Ok ∧ FltN N H u f ∧ 0 ≤ n ∧ n < b.T ∧ ∀ H', Same H H' → Q (.bl (isB b f n)) H'
section
variable {K : PySem.W.Frag} {mg : Str → Option Value} {P : Program} {w : World} {base : Heap}
theorem ok_rackOf {f : Addr} {fd : FuncData} {k : Nat} (F : Fun K "_law_rack_of" "_law_rack_of" sRackOf f fd) : FnOk P w K mg base CX0 (k + 1) f fd ["_law_batch", "_law_place", "_law_tin"] spRackOf := by
  refine F.ok scRackOf (fun vs H Q E h => ?_) (fun cdv A outer s H vs Q E hr h => ?_)
  · obtain ⟨b, mark, pl, T, n, ps, rfl, _⟩ := h
    rfl
  · obtain ⟨b, mark, pl, T, n, ps, rfl, ⟨a, us, eb, ha, hus⟩, hT, hgd, q⟩ := h
    refine ⟨_, pss_cons (ps_for PassesOwn.never rfl (pi_seq (pe_ix ix_tup (pv 0) pe_int (fun _ _ => rfl))) (pg_name (i := 3) scRackOf.nd rfl (.inl rfl))
        (pss_one (ps_if (PW.pt (pw_and (pt_cmpR op_eq (pe_ix ix_tup (pv 3) pe_int (fun _ _ => rfl)) (pv 1) (nomark _)) (pw_and1 (pt_cmpR op_eq (pe_ix ix_tup (pv 3) pe_int (fun _ _ => rfl)) pe_str (nomark _))))) (pss_one (ps_ret (pe_op op_fdivW (pv 2) (pe_ix ix_tup (pv 3) pe_int (fun _ _ => rfl))))) pss_nil)))
      (pss_one (ps_ret pe_non)), ?_⟩
    refine ⟨_, rfl, b, _, 2, .ref a, rfl, rfl, .inl (.inl eb), atI_nat (j := 2) rfl, a, rfl, for_seq (xs := us) ha.sq (fun i σ H1 => ∃ (y3 : Option V), σ = [some (.ref b), some (.str pl), some (.int n), y3] ∧ H1 = H ∧ Q (rackV n (rackO pl (ps.drop i))) H) ⟨none, rfl, rfl, q⟩
      (fun i σ H1 _ hP => ?_) (fun i x σ H1 hx hP => ?_) (fun σ H1 hP => ?_)⟩
    · obtain ⟨_, rfl, rfl, _⟩ := hP
      exact SqTo.refl
    · obtain ⟨y3, rfl, rfl, q⟩ := hP
      obtain ⟨p, ep, hv⟩ := hus.at hx
      have hg := hgd p (List.mem_of_getElem? ep)
      rw [drop_at ep] at q
      cases p with
      | line p st lo by_ =>
        obtain ⟨g, rfl, eg⟩ := hv
        have hline : decide (V.str "line" = V.str "racks") = false := by decide +kernel
        refine ⟨_, rfl, g, _, 1, .str p, rfl, rfl, .inl (.inl eg), atI_nat (j := 1) rfl, _, rfl, rfl, _, rfl, ite2 (fun c => ?_) (fun c => iteF ⟨_, rfl, rfl, q⟩)⟩
        exact ⟨_, rfl, g, _, 0, .str "line", rfl, rfl, .inl (.inl eg), atI_nat (j := 0) rfl, rfl, false, congrArg V.bl hline, iteF ⟨_, rfl, rfl, q⟩⟩
      | racks p per ss =>
        obtain ⟨g, sy, ws, rfl, eg, hsy, hws⟩ := hv
        obtain ⟨_, p0, p1, _⟩ := hg
        unfold rackO at q
        refine ⟨_, rfl, g, _, 1, .str p, rfl, rfl, .inl (.inl eg), atI_nat (j := 1) rfl, _, rfl, rfl, _, rfl, ite2 (fun c => ?_) (fun c => ?_)⟩
        · have c' : p = pl := V.str.inj (of_decide_eq_true c)
          rw [if_pos c'] at q
          refine ⟨_, rfl, g, _, 0, .str "racks", rfl, rfl, .inl (.inl eg), atI_nat (j := 0) rfl, rfl, true, congrArg V.bl (decide_eq_true rfl), iteT ?_⟩
          exact ⟨_, rfl, _, rfl, g, _, 2, .int per, rfl, rfl, .inl (.inl eg), atI_nat (j := 2) rfl, n, per, rfl, rfl, ⟨by omega, Nat.lt_trans (log_lt (by omega)) (by decide)⟩, q⟩
        · have c' : ¬ p = pl := fun z => c (decide_eq_true (congrArg V.str z))
          rw [if_neg c'] at q
          exact iteF ⟨_, rfl, rfl, q⟩
    · obtain ⟨y3, rfl, rfl, q⟩ := hP
      rw [hus.1, List.drop_length] at q
      exact q
theorem ok_isReached {f : Addr} {fd : FuncData} (F : Fun K "_law_is_reached" "_law_is_reached" sIsReached f fd) (CM : Cal P w K mg base 2 "_law_meets" ["_law_batch", "_law_place", "_law_tin", "_law_first", "_law_last"] spMeets) (CR : Cal P w K mg base 1 "_law_rack_of" ["_law_batch", "_law_place", "_law_tin"] spRackOf) : FnOk P w K mg base CX0 3 f fd ["_law_batch", "_law_fault", "_law_tin"] spIsReached := by
  refine F.ok scIsReached (fun vs H Q E h => ?_) (fun cdv A outer s H vs Q E hr h => ?_)
  · obtain ⟨N, v, u, b, f, n, rfl, _⟩ := h
    rfl
  · obtain ⟨N, v, u, b, fl, n, rfl, ⟨ba, rfl, hB⟩, ⟨hT1, hT2, hgd, hpl⟩, ⟨fa, rk, rfl, efa, hrk, _⟩, h0, h1, q⟩ := h
    have hr1 := hr.mono (show 1 ≤ 2 by decide)
    refine ⟨_, pss_cons (ps_asg (pv 1) (pg_tup rfl (pgs_cons (pg_name (i := 3) scIsReached.nd rfl (.inl rfl)) (pgs_cons (pg_name (i := 4) scIsReached.nd rfl (.inl rfl)) (pgs_cons (pg_name (i := 5) scIsReached.nd rfl (.inl rfl)) (pgs_cons (pg_name (i := 6) scIsReached.nd rfl (.inl rfl)) pgs_nil))))))
      (pss_cons (ps_if (pt_not (pt_val (pe_own CM hr (by rfl) (pa_cons (pv 0) (pa_cons (pv 3) (pa_cons (pv 2) (pa_cons (pv 4) (pa_cons (pv 5) pa_nil)))))))) (pss_one (ps_ret pe_bl)) pss_nil)
      (pss_one (ps_ret (pe_or (pe_cmpR (op_eqD hr.units) (pv 6) (pe_lst pa_nil) (nomark _)) (pe_one (pe_cmpR op_in_seq (pe_own CR hr1 (by rfl) (pa_cons (pv 0) (pa_cons (pv 3) (pa_cons (pv 2) pa_nil)))) (pv 6) (by rfl))))))), ?_⟩
    refine ⟨_, rfl, fa, _, rfl, .inl (.inl efa), rfl, _, _, rfl, _, _, rfl, _, _, rfl, _, _, rfl, rfl, ?_⟩
    refine ⟨_, rfl, _, rfl, _, rfl, _, rfl, _, rfl, ba, b.mark, fl.pl, b.T, n, fl.first, b.ps, some fl.last, rfl, hB, h0, h1, hT2, hgd, fun H1 s1 => ⟨_, rfl, ?_⟩⟩
    unfold isB at q
    cases hm : tinB fl.pl b.ps fl.first (some fl.last) n with
    | false =>
      rw [hm, Bool.false_and] at q
      exact iteT (q H1 s1)
    | true =>
      rw [hm, Bool.true_and] at q
      refine iteF ?_
      refine ⟨_, rfl, Nat.zero_le _, fun z nz => ?_⟩
      have sz := same_upd (o := .lst []) nz
      have hrk1 := (s1.trans sz) _ _ hrk
      refine ⟨_, _, .lst (SqL.of hrk1) (dp_ints fl.ks), .lst (SqL.of upd_same) .nil, shaped_ints _, shaped_ints [], _, rfl, ?_⟩
      cases hk : fl.ks with
      | nil =>
        rw [eqv_nil0]
        rw [hk] at q
        exact iteT (q _ (s1.trans sz))
      | cons k0 kr =>
        rw [eqv_nil]
        refine iteF ?_
        refine ⟨_, rfl, _, rfl, _, rfl, ba, b.mark, fl.pl, b.T, n, b.ps, rfl, hB.same (s1.trans sz), hT2, hgd, ?_⟩
        have q2 : Q (.bl (inO n fl.ks (rackO fl.pl b.ps))) (upd H1 z (.lst [])) := by
          have q3 := q _ (s1.trans sz)
          rw [hk] at q3 ⊢
          exact q3
        cases ho : rackO fl.pl b.ps with
        | none =>
          rw [ho] at q2
          refine ⟨_, rfl, rk, _, rfl, .inl (SqL.of hrk1), rfl, flat_ints fl.ks, ?_⟩
          have e : inV .non (fl.ks.map V.int) = false := by
            unfold inV
            rw [List.any_eq_false]
            intro x hx
            obtain ⟨m, _, rfl⟩ := List.mem_map.mp hx
            exact fun z => nomatch z
          rw [if_neg (by decide)]
          show Q (.bl (inV .non (fl.ks.map V.int))) _
          rw [e]
          exact q2
        | some per =>
          rw [ho] at q2
          refine ⟨_, rfl, rk, _, rfl, .inl (SqL.of hrk1), rfl, flat_ints fl.ks, ?_⟩
          rw [if_neg (by decide)]
          show Q (.bl (inV (.int (n / per)) (fl.ks.map V.int))) _
          rw [inV_ints]
          exact q2
end

/-! ### what is due, tin by tin -/
theorem eqv_ints_nil (ns : List Int) : PyData.eqv (PyData.list (ns.map PyData.int)) (PyData.list []) = ns.isEmpty := by
  cases ns with
  | nil => exact eqv_nil0
  | cons n r => exact eqv_nil n r
def tinsF (b : Bat) (fs : List Flt) : Nat → List Int
  | 0 => []
  | i + 1 => tinsF b fs i ++ (if (fs.any fun f => isB b f (i : Int)) = true then [(i : Int)] else [])
theorem tinsF_len {b : Bat} {fs : List Flt} : ∀ i : Nat, (tinsF b fs i).length ≤ i
  | 0 => Nat.le_refl _
  | i + 1 => by
    have := tinsF_len (b := b) (fs := fs) i
    rw [tinsF, List.length_append]
    split
    · show _ + 1 ≤ _
      omega
    · show _ + 0 ≤ _
      omega
theorem tinsF_mem {b : Bat} {fs : List Flt} {n : Int} : ∀ i : Nat, n ∈ tinsF b fs i ↔ (0 ≤ n ∧ n < i) ∧ (fs.any fun f => isB b f n) = true
  | 0 => ⟨(fun z => nomatch z), fun ⟨⟨z1, z2⟩, _⟩ => by omega⟩
  | i + 1 => by
    rw [tinsF, List.mem_append, tinsF_mem i]
    have ec : ((i + 1 : Nat) : Int) = (i : Int) + 1 := by omega
    rw [ec]
    constructor
    · rintro (⟨⟨z1, z2⟩, z3⟩ | z)
      · exact ⟨⟨z1, by omega⟩, z3⟩
      · split at z
        · rename_i c
          rw [List.mem_singleton.mp z]
          exact ⟨⟨by omega, by omega⟩, c⟩
        · exact nomatch z
    · rintro ⟨⟨z1, z2⟩, z3⟩
      by_cases e : n = (i : Int)
      · subst e
        rw [if_pos z3]
        exact .inr (List.mem_singleton.mpr rfl)
      · exact .inl ⟨⟨z1, by omega⟩, z3⟩
def dup (n : Int) : Int × Int := (n, n)
theorem dups_in {ns : List Int} {n : Int} : InS (ns.map dup) n ↔ n ∈ ns := by
  constructor
  · rintro ⟨p, hp, z1, z2⟩
    obtain ⟨m, hm, rfl⟩ := List.mem_map.mp hp
    have y1 : m ≤ n := z1
    have y2 : n ≤ m := z2
    have : n = m := by omega
    rw [this]
    exact hm
  · exact fun h => ⟨dup n, List.mem_map.mpr ⟨n, h, rfl⟩, Int.le_refl _, Int.le_refl _⟩
theorem tins_reach {b : Bat} {fs : List Flt} (nd : (b.ps.map Pas.place).Nodup) (hT : 0 ≤ b.T) (n : Int) : InS ((tinsF b fs b.T.toNat).map dup) n ↔ ReachAny b fs n := by
  rw [dups_in, tinsF_mem, Int.toNat_of_nonneg hT, List.any_eq_true]
  constructor
  · rintro ⟨⟨h0, h1⟩, f, hf, z⟩
    exact ⟨f, hf, (isB_iff nd h0 h1).mp z⟩
  · rintro ⟨f, hf, z⟩
    exact ⟨z.1.1, f, hf, (isB_iff nd z.1.1.1 z.1.1.2).mpr z⟩
abbrev sDueR : Stmt := topS 33
theorem scDueR : FnScope ["_law_batches", "_law_faults", "_law_rows", "_law_batch", "_law_tins", "_law_tin", "_law_fault"] ["_law_batches", "_law_faults"] (defScope sDueR) := ⟨rfl, rfl, rfl, by decide +kernel, rfl, by decide +kernel, by decide +kernel⟩
/-- the names of the walk over tins -/
abbrev scTin : Scope := { kind := .function, names := [(".0", .local), ("_law_tin", .cell), ("any", .globalImplicit), ("_law_batch", .cell), ("_law_faults", .cell)], isGenerator := false, isCoroutine := false }
def Bat.Few (b : Bat) : Prop := b.Ok ∧ b.T ≤ 40 ∧ (b.ps.map Pas.place).Nodup
def spDueR : Sp := fun vs H Q _ => ∃ (N : Addr → Prop) (a c : Addr) (us ws : List V) (bs : List Bat) (fs : List Flt), vs = [.ref a, .ref c] ∧ H a = some (.lst us) ∧ Each BatV H us bs ∧ (∀ b ∈ bs, b.Few) ∧ H c = some (.lst ws) ∧ Each (FltN N) H ws fs ∧ bs.length ≤ 20 ∧ fs.length ≤ 20 ∧
  ∀ (l : Addr) (ys : List V) H', H l = none → H' l = some (.lst ys) → Each (RowV (fun s => H s = none) 600) H' ys (rowsF fs bs) → Same H H' → Q (.ref l) H'
section
variable {K : PySem.W.Frag} {mg : Str → Option Value} {P : Program} {w : World} {base : Heap}
theorem ok_dueR {f : Addr} {fd : FuncData} (F : Fun K "_law_due" "_law_due" sDueR f fd) (CR : Cal P w K mg base 3 "_law_is_reached" ["_law_batch", "_law_fault", "_law_tin"] spIsReached) (CS : Cal P w K mg base 1 "_law_set_of" ["_law_pairs"] spLSet) (mr : mg "range" = none) (ma : mg "any" = none) : FnOk P w K mg base CX0 4 f fd ["_law_batches", "_law_faults"] spDueR := by
  refine F.ok scDueR (fun vs H Q E h => ?_) (fun cdv A outer s H vs Q E hr h => ?_)
  · obtain ⟨N, a, c, us, ws, bs, fs, rfl, _⟩ := h
    rfl
  · obtain ⟨N, a, c, us, ws, bs, fs, rfl, ha, hus, hbo, hc, hws, hbl, hfl, q⟩ := h
    have hr1 := hr.mono (show 1 ≤ 3 by decide)
    refine ⟨_, pss_cons (ps_set (i := 2) scDueR.nd rfl (.inl rfl) (pe_lst pa_nil))
      (pss_cons (ps_for PassesOwn.never rfl (pi_list (pv 0)) (pg_name (i := 3) scDueR.nd rfl (.inr rfl))
        (pss_cons (ps_setLc (i := 4) (own := [("_law_tin", 5)]) (g := gName 5) (tt := tTest (tCB (rAny K) (tCons (tLc (iList K (tVar 1)) (gName 6) tYes (tCall spIsReached [] E0 (tCons (tVar 3) (tCons (tVar 6) (tCons (tVar 5) tNil)))) [6]) tNil))) (te := tVar 5) rfl scDueR.nd rfl rfl (sw_true rfl rfl rfl (by decide +kernel)) (pi_range1 rfl mr (pa_cons (pe_ix ix_tup (pv 3) pe_int (fun _ _ => rfl)) pa_nil))
            (blkOk_by (own := [("_law_tin", 5)]) (N := ["_law_batches", "_law_faults", "_law_rows", "_law_batch", "_law_tins", "_law_tin", "_law_fault"]) (sc := defScope sDueR) (by decide +kernel)) (fun _ _ _ _ _ => pg_name (i := 5) scDueR.nd rfl (.inr rfl))
            (fun _ _ _ _ _ => pts_one (pt_val (pe_callB (cr_any rfl) (by rfl) ma (by decide +kernel) (pa_cons (pe_lc (own := [("_law_fault", 6)]) (g := gName 6) (tt := tYes) (te := tCall spIsReached [] E0 (tCons (tVar 3) (tCons (tVar 6) (tCons (tVar 5) tNil)))) rfl scDueR.nd (pi_list (pv 1)) (blkOk_by (own := [("_law_fault", 6)]) (N := ["_law_batches", "_law_faults", "_law_rows", "_law_batch", "_law_tins", "_law_tin", "_law_fault"]) (by show blkC _ scTin _ _ = true; decide +kernel)) (fun _ _ _ _ _ => pg_name (i := 6) scDueR.nd rfl (.inl rfl)) (fun _ _ _ _ _ => pts_nil) (fun _ _ _ _ _ => pe_own CR hr (by rfl) (pa_cons (pv 3) (pa_cons (pv 6) (pa_cons (pv 5) pa_nil))))) pa_nil)))) (fun _ _ _ _ _ => pv 5))
        (pss_one (ps_if (pt_cmpR (op_neD hr.units) (pv 4) (pe_lst pa_nil) (nomark _)) (pss_one (ps_expr (pe_bm PySem.F.plainAttrs_list PySem.F.slot_list_append PySem.F.type_list_append mt_append (pv 2) (pa_cons (pe_tup (pa_cons (pe_ix ix_tup (pv 3) pe_int (fun _ _ => rfl)) (pa_cons (pe_own CS hr1 (by rfl) (pa_cons (pe_lc (own := [("_law_tin", 5)]) (g := gName 5) (tt := tYes) (te := tTup (tCons (tVar 5) (tCons (tVar 5) tNil))) rfl scDueR.nd (pi_list (pv 4)) (blkOk_by (own := [("_law_tin", 5)]) (N := ["_law_batches", "_law_faults", "_law_rows", "_law_batch", "_law_tins", "_law_tin", "_law_fault"]) (sc := defScope sDueR) (by decide +kernel)) (fun _ _ _ _ _ => pg_name (i := 5) scDueR.nd rfl (.inl rfl)) (fun _ _ _ _ _ => pts_nil) (fun _ _ _ _ _ => pe_tup (pa_cons (pv 5) (pa_cons (pv 5) pa_nil)))) pa_nil)) pa_nil))) pa_nil)))) pss_nil))))
      (pss_one (ps_ret (pv 2)))), ?_⟩
    refine ⟨Nat.zero_le _, fun tl ntl => ?_⟩
    have stl := same_upd (o := .lst []) ntl
    refine ⟨_, rfl, a, rfl, ⟨_, SqL.of (stl _ _ ha)⟩, for_list (xs := us) (fun i σ Hx => ∃ (ys : List V) (y3 y4 : Option V), σ = [some (.ref a), some (.ref c), some (.ref tl), y3, y4, none, none] ∧ Same H Hx ∧ Hx tl = some (.lst ys) ∧ Each (RowV (fun s => H s = none ∧ s ≠ tl) 600) Hx ys (rowsF fs (bs.take i)))
      ⟨[], _, _, rfl, stl, upd_same, Each.nil⟩ (fun i σ Hx _ hP => ?_) (fun i v σ Hx hx hP => ?_) (fun σ Hx hP => ?_)⟩
    · obtain ⟨_, _, _, rfl, sx, _⟩ := hP
      exact SqL.of (sx _ _ ha)
    · obtain ⟨ys, y3, y4, rfl, sx, etl, hys⟩ := hP
      obtain ⟨b, eb, hbv⟩ := hus.at hx
      obtain ⟨hb, hb40, hbn⟩ := hbo b (List.mem_of_getElem? eb)
      have hi : i < bs.length := (List.getElem?_eq_some_iff.mp eb).1
      have hbT := hb.1
      have etake : rowsF fs (bs.take (i + 1)) = rowsF fs (bs.take i) ++ (if canon (ReachAny b fs) = [] then [] else [(b.mark, canon (ReachAny b fs))]) := by
        rw [List.take_add_one, eb]
        exact rowsF_snoc _
      obtain ⟨ba, rfl, hBA⟩ := id hbv
      obtain ⟨ab, vb, eba, _⟩ := hBA.same sx
      -- tins
      refine ⟨_, rfl, ba, _, 1, .int b.T, rfl, rfl, .inl (.inl eba), atI_nat (j := 1) rfl, b.T, rfl, by omega, by omega, fun D nD => lc_range (n := b.T.toNat) (fun j H' => Same Hx H' ∧ H' D = some (.lst ((tinsF b fs j).map V.int))) ⟨same_upd nD, upd_same⟩ (fun j H' hj hP => ?_) (fun H2 hP => ?_)⟩
      · obtain ⟨sm, eD⟩ := hP
        have S := sx.trans sm
        refine ⟨rfl, _, rfl, c, rfl, ⟨_, SqL.of (S _ _ hc)⟩, fun D2 nD2 => list_W (xs := ws) (fun k H'' => Same H' H'' ∧ H'' D2 = some (.lst (((fs.take k).map fun f => isB b f (j : Int)).map V.bl))) ⟨same_upd nD2, upd_same⟩ (fun k H'' hP => SqL.of (hP.1 _ _ (S _ _ hc))) (fun k x H'' hx2 hP => ?_) (fun H'' hP => ?_)⟩
        · obtain ⟨sm2, eD2⟩ := hP
          obtain ⟨fl, ef, hfv⟩ := hws.at hx2
          have hk : k < fs.length := (List.getElem?_eq_some_iff.mp ef).1
          have S2 := S.trans sm2
          refine ⟨rfl, _, rfl, _, rfl, _, rfl, N, .ref ba, x, b, fl, 0 + (j : Int), rfl, hbv.same S2, hb, hfv.same S2, by omega, by omega, fun H3 s3 => ?_⟩
          have eD3 := s3 _ _ eD2
          refine ⟨_, eD3, small1000 (by rw [List.length_map, List.length_map, List.length_take]; omega), fun y o e => ?_, ?_⟩
          · rw [upd_ne (ne_of_none e nD2)]
            exact s3 _ _ (sm2 y o e)
          · rw [upd_same, List.take_add_one, ef, List.map_append, List.map_append, Int.zero_add]
            rfl
        · obtain ⟨sm2, eD2⟩ := hP
          rw [hws.1, List.take_length] at eD2
          refine ⟨D2, fs.map fun f => isB b f (j : Int), rfl, SqL.of eD2, ?_⟩
          have ea : (fs.map fun f => isB b f (j : Int)).any id = fs.any fun f => isB b f (j : Int) := by
            rw [List.any_map]
            rfl
          rw [ea]
          refine ⟨_, rfl, ite2 (fun c1 => ?_) (fun c1 => ?_)⟩
          · refine ⟨_, rfl, _, sm2 _ _ eD, small1000 (by have := tinsF_len (b := b) (fs := fs) j; rw [List.length_map]; omega), fun y o e => ?_, ?_⟩
            · rw [upd_ne (ne_of_none e nD)]
              exact sm2 _ _ (sm y o e)
            · rw [upd_same, tinsF, if_pos c1, List.map_append, Int.zero_add]
              rfl
          · exact ⟨sm.trans sm2, by rw [tinsF, if_neg c1, List.append_nil]; exact sm2 _ _ eD⟩
      · obtain ⟨sm, eD⟩ := hP
        have htl := tinsF_len (b := b) (fs := fs) b.T.toNat
        have hreach := tins_reach (b := b) (fs := fs) hbn (by omega)
        revert eD htl hreach
        generalize tinsF b fs b.T.toNat = ns
        intro eD htl hreach
        -- any?
        refine ⟨_, rfl, Nat.zero_le _, fun z nz => ?_⟩
        have sz := same_upd (o := .lst []) nz
        refine ⟨_, _, .lst (SqL.of (sz _ _ eD)) (dp_ints ns), .lst (SqL.of upd_same) .nil, shaped_ints _, shaped_ints [], _, rfl, ?_⟩
        rw [eqv_ints_nil]
        have S := sm.trans sz
        have etl3 := S _ _ etl
        have hys3 : Each (RowV (fun s => H s = none ∧ s ≠ tl) 600) (upd H2 z (.lst [])) ys (rowsF fs (bs.take i)) := hys.mono fun v x _ y => y.same S
        have hyl := hys.1
        have hrl := rowsF_len (fs := fs) (bs.take i)
        rw [List.length_take] at hrl
        have eD3 := sz _ _ eD
        have eba3 := S _ _ eba
        revert S etl3 hys3 eD3 eba3
        generalize upd H2 z (.lst []) = H3
        intro S etl3 hys3 eD3 eba3
        refine ite2 (fun c1 => ?_) (fun c1 => ?_)
        · have hne : ns ≠ [] := fun y => by rw [y] at c1; exact absurd c1 (by decide)
          refine ⟨_, rfl, .inl ⟨rfl, _, SqL.of etl3⟩, _, rfl, ba, _, 0, .str b.mark, rfl, rfl, .inl (.inl eba3), atI_nat (j := 0) rfl, ?_⟩
          refine ⟨_, rfl, D, rfl, ⟨_, SqL.of eD3⟩, fun D4 nD4 => lc_list (xs := ns.map V.int) (fun k H' => Same H3 H' ∧ ∃ zs, H' D4 = some (.lst zs) ∧ Prs H' zs ((ns.take k).map dup)) ⟨same_upd nD4, [], upd_same, Prs.nil⟩ (fun k H' _ hP => SqL.of (hP.1 _ _ eD3)) (fun k x H' hx2 hP => ?_) (fun H4 hP => ?_)⟩
          · obtain ⟨sm4, zs, eD4, hzs⟩ := hP
            obtain ⟨m, em, rfl⟩ : ∃ m, ns[k]? = some m ∧ x = .int m := by
              rw [List.getElem?_map] at hx2
              cases h : ns[k]? with
              | none => rw [h] at hx2; cases hx2
              | some n => rw [h] at hx2; exact ⟨n, rfl, (Option.some.inj hx2).symm⟩
            refine ⟨rfl, _, rfl, _, rfl, (by show 2 ≤ sizeLine; decide), fun t nt => ?_⟩
            have st := same_upd (o := .tup [.int m, .int m]) nt
            have eD5 := st _ _ eD4
            refine ⟨zs, eD5, small1000 (by rw [hzs.1, List.length_map, List.length_take]; omega), fun y o e => ?_, _, upd_same, ?_⟩
            · rw [upd_ne (ne_of_none e nD4)]
              exact st _ _ (sm4 y o e)
            · rw [List.take_add_one, em, List.map_append]
              exact ((hzs.same st).snoc (x := (dup m).1) (y := (dup m).2) upd_same).upd_lst eD5
          · obtain ⟨sm4, zs, eD4, hzs⟩ := hP
            rw [List.length_map, List.take_length] at hzs
            refine ⟨D4, zs, _, rfl, eD4, hzs, by rw [List.length_map]; omega, fun l5 ws5 rs5 H5 nl5 el5 hws5 ht5 hl5 s5 => ⟨(by show 2 ≤ sizeLine; decide), fun t nt => ?_⟩⟩
            rw [List.length_map] at hl5
            have ec := (ht5.cong hreach).canon
            have er : ¬ rs5 = [] := fun y => by
              obtain ⟨n0, hn0⟩ := List.exists_mem_of_ne_nil ns hne
              have := (ht5.same n0).mpr (dups_in.mpr hn0)
              rw [y] at this
              exact inS_nil this
            have S5 := sm4.trans s5
            have st := same_upd (o := .tup [.str b.mark, .ref l5]) nt
            have etl4 := st _ _ (S5 _ _ etl3)
            have nl5' : H l5 = none ∧ l5 ≠ tl := ⟨((sx.trans S).trans sm4).free nl5, fun y => by rw [y, sm4 _ _ etl3] at nl5; cases nl5⟩
            have hrow : RowV (fun s => H s = none ∧ s ≠ tl) 600 (upd H5 t (.tup [.str b.mark, .ref l5])) (.ref t) (b.mark, canon (ReachAny b fs)) := ⟨t, l5, ws5, rfl, nl5', upd_same, st _ _ el5, by rw [← ec]; exact hws5.same st, by rw [← ec]; show rs5.length ≤ 600; omega⟩
            refine ⟨tl, _, _, rfl, rfl, etl4, small1000 (by omega), ys ++ [.ref t], _, _, rfl, fun y o e => ?_, upd_same, ?_⟩
            · rw [upd_ne (ne_of_none e ntl)]
              exact st _ _ (S5 _ _ ((sx.trans S) y o e))
            · rw [etake, if_neg (by rw [← ec]; exact er)]
              exact ((hys3.mono fun v x _ y => (y.same S5).same st).app (Each.one hrow)).mono fun v x _ y => y.upd etl4 fun s hs => hs.2
        · have hnil : ns = [] := by
            cases ns with
            | nil => rfl
            | cons n0 r0 => exact absurd rfl c1
          subst hnil
          refine ⟨ys, _, _, rfl, sx.trans S, etl3, ?_⟩
          have ec : canon (ReachAny b fs) = [] := (Told.canon (rs := []) ⟨⟨0, True.intro⟩, fun n => hreach n⟩).symm
          rw [etake, if_pos ec, List.append_nil]
          exact hys3
    · obtain ⟨ys, y3, y4, rfl, sx, etl, hys⟩ := hP
      rw [hus.1, List.take_length] at hys
      exact ⟨_, rfl, q tl ys Hx ntl etl (hys.imp fun v x _ z => z.weak fun s hs => hs.1) sx⟩
end

/-! ### lists of batches as they grow -/
def BatW (N : Addr → Prop) (H : Hp) (v : V) (b : Bat) : Prop := ∃ a, v = .ref a ∧ BatF N H a b.mark b.T b.ps
theorem BatW.bat {N : Addr → Prop} {H : Hp} {v : V} {b : Bat} (h : BatW N H v b) : BatV H v b := let ⟨a, e, h⟩ := h; ⟨a, e, h.bat⟩
theorem BatW.same {N : Addr → Prop} {H H' : Hp} {v : V} {b : Bat} (h : BatW N H v b) (s : Same H H') : BatW N H' v b := let ⟨a, e, h⟩ := h; ⟨a, e, h.same s⟩
theorem BatW.kp {N : Addr → Prop} {H H' : Hp} {d c : Addr} {t : Int} {v : V} {b : Bat} (h : BatW N H v b) (S : StAt H d c t) (k : Kp d c H H') : BatW N H' v b := let ⟨a, e, h⟩ := h; ⟨a, e, h.kp S k⟩
theorem BatW.weak {N N' : Addr → Prop} {H : Hp} {v : V} {b : Bat} (h : BatW N H v b) (n : ∀ x, N x → N' x) : BatW N' H v b := let ⟨a, e, h⟩ := h; ⟨a, e, h.weak n⟩
/-- stays are no batches -/
theorem stays_no {H : Hp} {us zs : List V} {bs : List Bat} {ss : List (Int × Int)} {D s : Addr} (e : H D = some (.lst us)) (hu : Each BatV H us bs) (hs : SqH H s zs) (hp : Prs H zs ss) (hne : ss ≠ []) : s ≠ D := fun z => by
  subst z
  rcases hs with h | h
  · rw [h] at e
    have eu : zs = us := HO.lst.inj (Option.some.inj e)
    subst eu
    cases ss with
    | nil => exact hne rfl
    | cons q r =>
      obtain ⟨b, f1, f2⟩ := hp.2 0 q rfl
      obtain ⟨x, _, a, ea, v2, vs, h1, _⟩ := hu.at f1
      cases ea
      rw [f2] at h1
      cases h1
  · rw [h] at e
    cases e
theorem BatW.upd {N : Addr → Prop} {H : Hp} {v : V} {b : Bat} {us : List V} {bs : List Bat} {D : Addr} {o : HO} (h : BatW N H v b) (hb : b.Ok) (n : ∀ x, N x → x ≠ D) (e : H D = some (.lst us)) (hu : Each BatV H us bs) : BatW N (L2.upd H D o) v b := by
  obtain ⟨a, ev, p, vs, h1, h2, h3, h4⟩ := h
  refine ⟨a, ev, p, vs, by rw [upd_ne (ne_of h1 e (fun z => nomatch z))]; exact h1, h2.imp (fun h => by rw [upd_ne (n _ h4)]; exact h) (fun h => by rw [upd_ne (n _ h4)]; exact h), ⟨h3.1, fun i u q e1 e2 => ?_⟩, h4⟩
  have z := h3.2 i u q e1 e2
  have g := hb.2.2.1 q (List.mem_of_getElem? e2)
  cases q with
  | line => obtain ⟨a', e', h'⟩ := z; exact ⟨a', e', by rw [upd_ne (ne_of h' e (fun z => nomatch z))]; exact h'⟩
  | racks pp per ss =>
    obtain ⟨a', s', us', e', g1, g2, g3⟩ := z
    have ns := stays_no e hu g2 g3 (g.stays hb.1)
    exact ⟨a', s', us', e', by rw [upd_ne (ne_of g1 e (fun z => nomatch z))]; exact g1, g2.imp (fun h => by rw [upd_ne ns]; exact h) (fun h => by rw [upd_ne ns]; exact h), g3.upd_lst e⟩
/-- faults handed in: racks as a list or a tuple -/
def FltS (N : Addr → Prop) (H : Hp) (v : V) (f : Flt) : Prop := ∃ a rk, v = .ref a ∧ H a = some (.tup [.str f.pl, .int f.first, .int f.last, .ref rk]) ∧ SqH H rk (f.ks.map V.int) ∧ N rk
theorem FltS.flt {N : Addr → Prop} {H : Hp} {v : V} {f : Flt} (h : FltS N H v f) : FltV H v f := let ⟨a, rk, e, h1, h2, _⟩ := h; ⟨a, rk, e, h1, h2⟩
theorem FltS.same {N : Addr → Prop} {H H' : Hp} {v : V} {f : Flt} (h : FltS N H v f) (s : Same H H') : FltS N H' v f := let ⟨a, rk, e, h1, h2, h3⟩ := h; ⟨a, rk, e, s _ _ h1, h2.same s, h3⟩
theorem FltS.kp {N : Addr → Prop} {H H' : Hp} {d c : Addr} {t : Int} {v : V} {f : Flt} (h : FltS N H v f) (n : ∀ x, N x → x ≠ c) (S : StAt H d c t) (k : Kp d c H H') : FltS N H' v f := by
  obtain ⟨a, rk, e, h1, h2, h3⟩ := h
  refine ⟨a, rk, e, k.tup S h1, h2.imp (fun h => k _ _ (fun z => ?_) (n _ h3) h) (fun h => k.tup S h), h3⟩
  rw [z, S.dict] at h
  cases h
theorem FltS.upd {N : Addr → Prop} {H : Hp} {v : V} {f : Flt} {l : Addr} {xs : List V} {o : HO} (h : FltS N H v f) (n : ∀ x, N x → x ≠ l) (e : H l = some (.lst xs)) : FltS N (L2.upd H l o) v f := by
  obtain ⟨a, rk, ev, h1, h2, h3⟩ := h
  exact ⟨a, rk, ev, by rw [upd_ne (ne_of h1 e (fun z => nomatch z))]; exact h1, h2.imp (fun h => by rw [upd_ne (n _ h3)]; exact h) (fun h => by rw [upd_ne (n _ h3)]; exact h), h3⟩
/-! ### all of it as data -/
def canF (f : Flt) : PyData := .list [.str f.pl, .int f.first, .int f.last, .list (f.ks.map PyData.int)]
theorem lsDs_ints : ∀ ks : List Int, lsDs (ks.map PyData.int) = ks.map PyData.int
  | [] => by rw [List.map_nil, lsDs]
  | k :: r => by
    rw [List.map_cons, lsDs, lsDs_ints r]
    simp only [lsD]
theorem ints_at {H : Hp} {ks : List Int} : ∀ (i : Nat) x d, (ks.map V.int)[i]? = some x → (ks.map PyData.int)[i]? = some d → Dat H x d := fun i x d e1 e2 => by
  rw [List.getElem?_map] at e1 e2
  cases h : ks[i]? with
  | none => rw [h] at e1; cases e1
  | some n =>
    rw [h] at e1 e2
    cases e1
    cases e2
    exact .int n
theorem flt_dat {H : Hp} {v : V} {f : Flt} (h : FltV H v f) (hl : f.ks.length ≤ 13) : ∃ d, Dat H v d ∧ Sm 3 d ∧ lsD d = canF f := by
  obtain ⟨a, rk, rfl, h1, h2⟩ := h
  have hi : ∀ d ∈ f.ks.map PyData.int, Sm 1 d := fun d hd => by
    obtain ⟨k, _, rfl⟩ := List.mem_map.mp hd
    trivial
  have hl9 : (f.ks.map PyData.int).length ≤ 900 := by rw [List.length_map]; omega
  rcases h2 with h | h
  · refine ⟨.tuple [.str f.pl, .int f.first, .int f.last, .list (f.ks.map PyData.int)], .tup h1 rfl (dat_cons (.str _) (dat_cons (.int _) (dat_cons (.int _) (dat_cons (.lst h (by rw [List.length_map, List.length_map]) ints_at) dat_nil)))), ⟨by show 4 ≤ 900; decide, sm_cons sm_str (sm_cons sm_int (sm_cons sm_int (sm_cons ⟨hl9, hi⟩ sm_nil)))⟩, ?_⟩
    simp only [lsD, lsDs, canF, lsDs_ints]
  · refine ⟨.tuple [.str f.pl, .int f.first, .int f.last, .tuple (f.ks.map PyData.int)], .tup h1 rfl (dat_cons (.str _) (dat_cons (.int _) (dat_cons (.int _) (dat_cons (.tup h (by rw [List.length_map, List.length_map]) ints_at) dat_nil)))), ⟨by show 4 ≤ 900; decide, sm_cons sm_str (sm_cons sm_int (sm_cons sm_int (sm_cons ⟨hl9, hi⟩ sm_nil)))⟩, ?_⟩
    simp only [lsD, lsDs, canF, lsDs_ints]
/-- things one by one as data -/
theorem each_dat {α : Type} {R : Hp → V → α → Prop} {H : Hp} {n : Nat} {can : α → PyData} : ∀ {vs : List V} {xs : List α}, Each R H vs xs → (∀ v x, x ∈ xs → R H v x → ∃ d, Dat H v d ∧ Sm n d ∧ lsD d = can x) → ∃ ds, vs.length = ds.length ∧ (∀ (i : Nat) y d, vs[i]? = some y → ds[i]? = some d → Dat H y d) ∧ (∀ d ∈ ds, Sm n d) ∧ lsDs ds = xs.map can
  | [], [], _, _ => ⟨[], rfl, dat_nil, sm_nil, by rw [lsDs]; rfl⟩
  | [], _ :: _, h, _ => nomatch h.1
  | _ :: _, [], h, _ => nomatch h.1
  | v :: vs, x :: xs, h, g => by
    obtain ⟨d, h1, h2, h3⟩ := g v x (List.mem_cons_self ..) (h.2 0 v x rfl rfl)
    obtain ⟨ds, e1, e2, e3, e4⟩ := each_dat (vs := vs) (xs := xs) ⟨Nat.succ.inj h.1, fun i u q f1 f2 => h.2 (i + 1) u q f1 f2⟩ fun u q hq => g u q (List.mem_cons_of_mem _ hq)
    exact ⟨d :: ds, by rw [List.length_cons, List.length_cons, e1], dat_cons h1 e2, sm_cons h2 e3, by rw [lsDs, h3, e4]; rfl⟩
theorem Sm.up : ∀ {n : Nat} {d : PyData}, Sm n d → Sm (n + 1) d
  | 0, d, h => by
    rcases h.flat with rfl | ⟨_, rfl⟩ | ⟨_, rfl⟩ | ⟨_, rfl⟩ <;> trivial
  | n + 1, d, h => by
    rcases h.cases with hf | ⟨ds, rfl, h1, h2⟩ | ⟨ds, rfl, h1, h2⟩
    · rcases hf with rfl | ⟨_, rfl⟩ | ⟨_, rfl⟩ | ⟨_, rfl⟩ <;> trivial
    · exact ⟨h1, fun d hd => (h2 d hd).up⟩
    · exact ⟨h1, fun d hd => (h2 d hd).up⟩
def canBat (b : Bat) : PyData := canB b.mark b.T b.ps
def canAll (bs : List Bat) (fs : List Flt) : PyData := .list [.list (bs.map canBat), .list (fs.map canF)]
theorem lay_canF {f : Flt} (h : PyData.strOk f.pl = true) : PyData.canLay0 (canF f) = true := by simp only [canF, PyData.canLay0, PyData.canLayAll0, h, lay_ints, Bool.and_true]
theorem depth_canF (f : Flt) : PyData.depth (canF f) ≤ 3 := by
  have := depth_ints f.ks
  simp [canF, PyData.depth, PyData.depthAll, this]
theorem lay_each {α : Type} {can : α → PyData} : ∀ {xs : List α}, (∀ x ∈ xs, PyData.canLay0 (can x) = true) → PyData.canLayAll0 (xs.map can) = true
  | [], _ => by simp only [List.map_nil, PyData.canLayAll0]
  | x :: r, h => by rw [List.map_cons, PyData.canLayAll0, h x (List.mem_cons_self ..), lay_each fun y hy => h y (List.mem_cons_of_mem _ hy)]; rfl
theorem depth_each {α : Type} {can : α → PyData} {n : Nat} : ∀ {xs : List α}, (∀ x ∈ xs, PyData.depth (can x) ≤ n) → PyData.depthAll (xs.map can) ≤ n
  | [], _ => by simp only [List.map_nil, PyData.depthAll]; omega
  | x :: r, h => by
    rw [List.map_cons, PyData.depthAll]
    have := h x (List.mem_cons_self ..)
    have := depth_each (can := can) (n := n) (xs := r) fun y hy => h y (List.mem_cons_of_mem _ hy)
    omega
theorem shaped_all {bs : List Bat} {fs : List Flt} (hb : ∀ b ∈ bs, b.Ok ∧ PyData.strOk b.mark = true) (hf : ∀ f ∈ fs, PyData.strOk f.pl = true) : SeqAt.shaped (canAll bs fs) = true := by
  unfold SeqAt.shaped
  have lb : PyData.canLayAll0 (bs.map canBat) = true := lay_each fun b h => by
    have g := (hb b h).1.2.2.1
    simp only [canBat, canB, PyData.canLay0, PyData.canLayAll0, (hb b h).2, lay_canPs g, Bool.and_true]
  have lf : PyData.canLayAll0 (fs.map canF) = true := lay_each fun f h => lay_canF (hf f h)
  have db : PyData.depthAll (bs.map canBat) ≤ 20 := depth_each fun b _ => by
    have := depth_canPs b.ps
    simp [canBat, canB, PyData.depth, PyData.depthAll]
    omega
  have df : PyData.depthAll (fs.map canF) ≤ 3 := depth_each fun f _ => depth_canF f
  have h1 : PyData.canLay0 (canAll bs fs) = true := by simp only [canAll, PyData.canLay0, PyData.canLayAll0, lb, lf, Bool.and_true]
  have h2 : PyData.depth (canAll bs fs) ≤ 64 := by
    simp [canAll, PyData.depth, PyData.depthAll]
    omega
  rw [h1, decide_eq_true h2]
  rfl
theorem all_dat {H : Hp} {l lb lf : Addr} {us ws : List V} {bs : List Bat} {fs : List Flt} (e : H l = some (.lst [.ref lb, .ref lf])) (eb : H lb = some (.lst us)) (hu : Each BatV H us bs) (ef : H lf = some (.lst ws)) (hw : Each FltV H ws fs) (hb : ∀ b ∈ bs, b.Ok) (hbl : bs.length ≤ 20) (hf : ∀ f ∈ fs, f.ks.length ≤ 13) (hfl : fs.length ≤ 20) : ∃ d, Dat H (.ref l) d ∧ Sm 7 d ∧ lsD d = canAll bs fs := by
  obtain ⟨ds1, a1, a2, a3, a4⟩ := each_dat (n := 5) (can := canBat) hu fun v b h z => by
    obtain ⟨a, rfl, hA⟩ := z
    exact bat_dat hA (hb b h).2.2.1 (hb b h).2.2.2
  obtain ⟨ds2, b1, b2, b3, b4⟩ := each_dat (n := 5) (can := canF) hw fun v f h z => by
    obtain ⟨d, h1, h2, h3⟩ := flt_dat z (hf f h)
    exact ⟨d, h1, h2.up.up, h3⟩
  have l1 : ds1.length ≤ 900 := by rw [← a1, hu.1]; omega
  have l2 : ds2.length ≤ 900 := by rw [← b1, hw.1]; omega
  refine ⟨.list [.list ds1, .list ds2], .lst e rfl (dat_cons (.lst eb a1 a2) (dat_cons (.lst ef b1 b2) dat_nil)), ⟨by show 2 ≤ 900; decide, sm_cons ⟨l1, a3⟩ (sm_cons ⟨l2, b3⟩ sm_nil)⟩, ?_⟩
  simp only [lsD, lsDs, a4, b4, canAll]

theorem nb_prs (ps : List (Int × Int)) : NoBl (.list (ps.map pairD)) := by
  rw [NoBl]
  refine noBls_of fun d hd => ?_
  obtain ⟨p, _, rfl⟩ := List.mem_map.mp hd
  simp only [pairD, NoBl, NoBls, and_self]
theorem set_dat {H : Hp} {l : Addr} {ws : List V} {rs : List (Int × Int)} (e : H l = some (.lst ws)) (h : Prs H ws rs) : Dat H (.ref l) (.list (rs.map pairD)) := .lst e (by rw [List.length_map]; exact h.1) (prs_dat h)
theorem Told.nil {pr : Int → Prop} {rs : List (Int × Int)} (h : Told pr rs) (no : ∀ n, ¬ pr n) : rs = [] := h.one (pr' := fun _ => False) ⟨⟨0, True.intro⟩, fun _ => ⟨fun z => inS_nil z, False.elim⟩⟩ fun n => ⟨fun z => no n z, False.elim⟩

theorem cut_strs (xs : List Str) (m : Nat) : cutV (xs.map V.str) none (some (m : Int)) = (xs.take m).map V.str := by rw [cut_front, List.map_take]

def rowD (r : Str × List (Int × Int)) : PyData := .tuple [.str r.1, .list (r.2.map pairD)]
def rowsD (rs : List (Str × List (Int × Int))) : PyData := .list (rs.map rowD)
theorem RowV.dat {N : Addr → Prop} {m : Nat} {H : Hp} {v : V} {r : Str × List (Int × Int)} (h : RowV N m H v r) : Dat H v (rowD r) := by
  obtain ⟨t, s, ws, rfl, _, h1, h2, h3, _⟩ := h
  exact .tup h1 rfl (dat_cons (.str _) (dat_cons (set_dat h2 h3) dat_nil))
theorem rows_dat {N : Addr → Prop} {m : Nat} {H : Hp} {l : Addr} {ys : List V} {rs : List (Str × List (Int × Int))} (e : H l = some (.lst ys)) (h : Each (RowV N m) H ys rs) : Dat H (.ref l) (rowsD rs) := .lst e (by rw [List.length_map]; exact h.1) fun i x d e1 e2 => by
  obtain ⟨r, er, hr⟩ := h.at e1
  rw [List.getElem?_map, er] at e2
  cases e2
  exact hr.dat
theorem rows_small {N : Addr → Prop} {m : Nat} {H : Hp} {ys : List V} {rs : List (Str × List (Int × Int))} (h : Each (RowV N m) H ys rs) (hm : m ≤ 900) (hl : rs.length ≤ 900) : Sm 4 (rowsD rs) := by
  refine ⟨by rw [List.length_map]; exact hl, fun d hd => ?_⟩
  obtain ⟨r, hr, rfl⟩ := List.mem_map.mp hd
  obtain ⟨i, hi, ei⟩ := List.getElem_of_mem hr
  have hi' : i < ys.length := by rw [h.1]; exact hi
  obtain ⟨_, _, _, _, _, _, _, _, h4⟩ := h.2 i _ r (List.getElem?_eq_getElem hi') (by rw [List.getElem?_eq_getElem hi, ei])
  exact ⟨by show 2 ≤ 900; decide, sm_cons sm_str (sm_cons (sm_prs (Nat.le_trans h4 hm)) sm_nil)⟩
theorem nb_rows (rs : List (Str × List (Int × Int))) : NoBl (rowsD rs) := by
  unfold rowsD
  rw [NoBl]
  refine noBls_of fun d hd => ?_
  obtain ⟨r, _, rfl⟩ := List.mem_map.mp hd
  have h := nb_prs r.2
  simp only [rowD, NoBl, NoBls, true_and, and_true]
  simpa only [NoBl] using h

/-! ### the law -/
abbrev sLaw : Stmt := topS 34
theorem scLaw : FnScope ["_law_script", "_law_state", "_law_turn", "_law_places", "_law_mark", "_law_batches", "_law_faults", "_law_handed_here", "_law_place", "_law_first", "_law_last", "_law_racks", "_law_due_here", "_law_found", "_law_tins", "_law_batch"] ["_law_script"] (defScope sLaw) := ⟨rfl, rfl, rfl, by decide +kernel, rfl, by decide +kernel, by decide +kernel⟩
def spLaw (K : PySem.W.Frag) : Sp := fun vs H Q _ => ∃ (a : Addr) (ns : List Int), vs = [.ref a] ∧ SqL K H a (ns.map V.int) ∧ ns.length ≤ 63 ∧ ∀ H', Q (.bl true) H'
/-- a told row whose set may have grown -/
def RowL (N : Addr → Prop) (m : Nat) (H : Hp) (v : V) : Prop := ∃ t s ws mk, v = .ref t ∧ N s ∧ H t = some (.tup [.str mk, .ref s]) ∧ H s = some (.lst ws) ∧ ws.length ≤ m
theorem RowV.rowL {N : Addr → Prop} {m : Nat} {H : Hp} {v : V} {r : Str × List (Int × Int)} (h : RowV N m H v r) : RowL N m H v := let ⟨t, s, ws, e, n, h1, h2, h3, h4⟩ := h; ⟨t, s, ws, r.1, e, n, h1, h2, by rw [h3.1]; exact h4⟩
section
variable {K : PySem.W.Frag} {mg : Str → Option Value} {P : Program} {w : World} {base : Heap}
theorem ok_law {f : Addr} {fd : FuncData} (F : Fun K "law" "law" sLaw f fd) (CB : Cal P w K mg base 1 "_law_begin" ["_law_script"] (spBegin K)) (CT : Cal P w K mg base 1 "_law_take" ["_law_state", "_law_many"] spTake) (CN : Cal P w K mg base 2 "_law_names" ["_law_state", "_law_many"] spNames) (CM : Cal P w K mg base 2 "_law_marks_by" ["_law_state", "_law_many"] spNames)
    (CK : Cal P w K mg base 4 "_law_batch_by" ["_law_state", "_law_mark", "_law_places", "_law_great"] spBatch) (CF : Cal P w K mg base 3 "_law_faults_by" ["_law_state", "_law_batches", "_law_places", "_law_many"] spFaultsBy) (CH : Cal P w K mg base 2 "_law_handed" ["_law_state", "_law_batch"] spHanded) (CD : Cal P w K mg base 4 "_law_due" ["_law_batches", "_law_faults"] spDueR) (CR : Cal P w K mg base 5 "reached" ["batches", "faults"] spReached) (CG : Cal P w K mg base 5 "_law_same" ["_law_found", "_law_due_here"] (spSame 4)) (CL : Cal P w K mg base 8 "_law_lists" ["_law_thing"] (spLists 7)) (mr : mg "range" = none) (ml : mg "list" = none) (mt : mg "tuple" = none) :
    FnOk P w K mg base CX0 9 f fd ["_law_script"] (spLaw K) := by
  refine F.ok scLaw (fun vs H Q E h => ?_) (fun cdv A outer s H vs Q E hr h => ?_)
  · obtain ⟨a, ns, rfl, _⟩ := h
    rfl
  · obtain ⟨a, ns, rfl, hS, hlen, q⟩ := h
    have hr1 := hr.mono (show 1 ≤ 8 by decide)
    have hr2 := hr.mono (show 2 ≤ 8 by decide)
    have hr3 := hr.mono (show 3 ≤ 8 by decide)
    have hr4 := hr.mono (show 4 ≤ 8 by decide)
    have hr5 := hr.mono (show 5 ≤ 8 by decide)
    refine ⟨_, pss_cons (ps_set (i := 1) scLaw.nd rfl (.inr rfl) (pe_own CB hr1 (by rfl) (pa_cons (pv 0) pa_nil)))
      (pss_cons (ps_for PassesOwn.never rfl (pi_range1 rfl mr (pa_cons pe_int pa_nil)) (pg_name (i := 2) scLaw.nd rfl (.inl rfl))
        (pss_cons (ps_set (i := 3) scLaw.nd rfl (.inr rfl) (pe_own CN hr2 (by rfl) (pa_cons (pv 1) (pa_cons pe_int pa_nil))))
        (pss_cons (ps_setLc (i := 5) (own := [("_law_mark", 4)]) (g := gName 4) (tt := tYes) (te := tCall spBatch [] E0 (tCons (tVar 1) (tCons (tVar 4) (tCons (tSl (rSlL K) (tVar 3) _ _) (tCons (tC (.int 0)) tNil))))) rfl scLaw.nd rfl rfl (sw_true rfl rfl rfl (by decide +kernel)) (pi_list (pe_own CM hr2 (by rfl) (pa_cons (pv 1) (pa_cons (pe_op op_add pe_int (pe_own CT hr1 (by rfl) (pa_cons (pv 1) (pa_cons pe_int pa_nil)))) pa_nil))))
            (blkOk_by (own := [("_law_mark", 4)]) (N := ["_law_script", "_law_state", "_law_turn", "_law_places", "_law_mark", "_law_batches", "_law_faults", "_law_handed_here", "_law_place", "_law_first", "_law_last", "_law_racks", "_law_due_here", "_law_found", "_law_tins", "_law_batch"]) (sc := defScope sLaw) (by decide +kernel)) (fun _ _ _ _ _ => pg_name (i := 4) scLaw.nd rfl (.inl rfl)) (fun _ _ _ _ _ => pts_nil)
            (fun _ _ _ _ _ => pe_own CK hr4 (by rfl) (pa_cons (pv 1) (pa_cons (pv 4) (pa_cons (pe_slice sl_list (pv 3) po_none (po_some pe_int)) (pa_cons pe_int pa_nil))))))
        (pss_cons (ps_set (i := 6) scLaw.nd rfl (.inl rfl) (pe_own CF hr3 (by rfl) (pa_cons (pv 1) (pa_cons (pv 5) (pa_cons (pv 3) (pa_cons (pe_own CT hr1 (by rfl) (pa_cons (pv 1) (pa_cons pe_int pa_nil))) pa_nil))))))
        (pss_cons (ps_set (i := 7) scLaw.nd rfl (.inl rfl) (pe_lst (pa_cons (pe_lc (own := [("_law_batch", 15)]) (g := gName 15) (tt := tYes) (te := tCall spHanded [] E0 (tCons (tVar 1) (tCons (tVar 15) tNil))) rfl scLaw.nd (pi_list (pv 5))
            (blkOk_by (own := [("_law_batch", 15)]) (N := ["_law_script", "_law_state", "_law_turn", "_law_places", "_law_mark", "_law_batches", "_law_faults", "_law_handed_here", "_law_place", "_law_first", "_law_last", "_law_racks", "_law_due_here", "_law_found", "_law_tins", "_law_batch"]) (sc := defScope sLaw) (by decide +kernel)) (fun _ _ _ _ _ => pg_name (i := 15) scLaw.nd rfl (.inl rfl)) (fun _ _ _ _ _ => pts_nil)
            (fun _ _ _ _ _ => pe_own CH hr2 (by rfl) (pa_cons (pv 1) (pa_cons (pv 15) pa_nil)))) (pa_cons (pe_lst pa_nil) pa_nil))))
        (pss_cons (ps_for PassesOwn.never rfl (pi_list (pv 6)) (pg_tup rfl (pgs_cons (pg_name (i := 8) scLaw.nd rfl (.inl rfl)) (pgs_cons (pg_name (i := 9) scLaw.nd rfl (.inl rfl)) (pgs_cons (pg_name (i := 10) scLaw.nd rfl (.inl rfl)) (pgs_cons (pg_name (i := 11) scLaw.nd rfl (.inl rfl)) pgs_nil)))))
          (pss_one (ps_expr (pe_bm PySem.F.plainAttrs_list PySem.F.slot_list_append PySem.F.type_list_append mt_append (pe_ix ix_list (pv 7) pe_int (fun _ _ => rfl)) (pa_cons (pe_tup (pa_cons (pv 8) (pa_cons (pv 9) (pa_cons (pv 10) (pa_cons (pe_ix ix_list (pe_lst (pa_cons (pe_callTy call_list_of (by rfl) ml (by decide +kernel) (pa_cons (pv 11) pa_nil)) (pa_cons (pe_callTy call_tuple_of (by rfl) mt (by decide +kernel) (pa_cons (pv 11) pa_nil)) pa_nil))) (pe_own CT hr1 (by rfl) (pa_cons (pv 1) (pa_cons pe_int pa_nil))) (fun _ _ => rfl)) pa_nil))))) pa_nil)))))
        (pss_cons (ps_set (i := 12) scLaw.nd rfl (.inl rfl) (pe_own CD hr4 (by rfl) (pa_cons (pv 5) (pa_cons (pv 6) pa_nil))))
        (pss_cons (ps_set (i := 13) scLaw.nd rfl (.inl rfl) (pe_own CR hr5 (by rfl) (pa_cons (pe_ix ix_list (pv 7) pe_int (fun _ _ => rfl)) (pa_cons (pe_callTy call_tuple_of (by rfl) mt (by decide +kernel) (pa_cons (pe_ix ix_list (pv 7) pe_int (fun _ _ => rfl)) pa_nil)) pa_nil))))
        (pss_cons (ps_if (pt_not (pt_val (pe_own CG hr5 (by rfl) (pa_cons (pv 13) (pa_cons (pv 12) pa_nil))))) (pss_one (ps_ret pe_bl)) pss_nil)
        (pss_cons (ps_for PassesOwn.never rfl (pi_list (pv 13)) (pg_tup rfl (pgs_cons (pg_name (i := 4) scLaw.nd rfl (.inl rfl)) (pgs_cons (pg_name (i := 14) scLaw.nd rfl (.inl rfl)) pgs_nil)))
          (pss_one (ps_expr (pe_bm PySem.F.plainAttrs_list PySem.F.slot_list_append PySem.F.type_list_append mt_append (pv 14) (pa_cons (pe_tup (pa_cons pe_int (pa_cons pe_int pa_nil))) pa_nil)))))
        (pss_cons (ps_expr (pe_bm0 PySem.F.plainAttrs_list PySem.F.slot_list_reverse PySem.F.type_list_reverse mt_reverse (pv 13)))
        (pss_cons (ps_if (pt_not (pt_val (pe_own CG hr5 (by rfl) (pa_cons (pe_own CR hr5 (by rfl) (pa_cons (pe_callTy call_tuple_of (by rfl) mt (by decide +kernel) (pa_cons (pe_ix ix_list (pv 7) pe_int (fun _ _ => rfl)) pa_nil)) (pa_cons (pe_ix ix_list (pv 7) pe_int (fun _ _ => rfl)) pa_nil))) (pa_cons (pv 12) pa_nil))))) (pss_one (ps_ret pe_bl)) pss_nil)
        (pss_one (ps_if (pt_cmpR (op_neD hr.units) (pe_own CL hr (by rfl) (pa_cons (pv 7) pa_nil)) (pe_own CL hr (by rfl) (pa_cons (pe_lst (pa_cons (pv 5) (pa_cons (pv 6) pa_nil))) pa_nil)) (nomark _)) (pss_one (ps_ret pe_bl)) pss_nil))))))))))))))
      (pss_one (ps_ret pe_bl))), ?_⟩
    refine ⟨.ref a, rfl, a, ns, rfl, hS, hlen, fun d c H1 s1 nd nc hS1 => ?_⟩
    refine ⟨2, rfl, by decide, by decide, for_range (n := 2) (fun i σ Hx => ∃ (t : Int) (y2 y3 y4 y5 y6 y7 y8 y9 y10 y11 y12 y13 y14 : Option V), σ = [some (.ref a), some (.ref d), y2, y3, y4, y5, y6, y7, y8, y9, y10, y11, y12, y13, y14, none] ∧ 0 ≤ t ∧ t ≤ 9000 * i ∧ StAt Hx d c t)
      ⟨0, _, _, _, _, _, _, _, _, _, _, _, _, _, rfl, by omega, by omega, hS1⟩ (fun i σ Hx hi hP => ?_) (fun σ Hx hP => q _)⟩
    obtain ⟨t, y2, y3, y4, y5, y6, y7, y8, y9, y10, y11, y12, y13, y14, rfl, t0, t1, hSx⟩ := hP
    -- places
    refine ⟨_, rfl, d, c, t, 7, rfl, hSx, by omega, by decide, by decide, fun l xs t2 H2 nl el hxs hxl hxn t20 t21 hS2 k2 => ?_⟩
    -- batches
    refine ⟨_, rfl, _, rfl, d, c, t2, 3, rfl, hS2, by omega, by decide, by decide, fun r3 H3 r30 r31 hS3 k3 => ⟨1, r3, rfl, rfl, ?_⟩⟩
    refine ⟨d, c, t2 + 1, 1 + r3, rfl, hS3, by omega, by omega, by omega, fun lm ms t4 H4 nlm elm hms hml hmn t40 t41 hS4 k4 => ?_⟩
    have el4 := (k3.trans k4).lst hS2 el (noInt_strs xs)
    refine ⟨lm, rfl, ⟨_, SqL.of elm⟩, fun D nD => lc_list (xs := ms.map V.str) (fun j H' => ∃ (t' : Int) (us : List V) (bs : List Bat), H' D = some (.lst us) ∧ Each (BatW (fun x => x ≠ D)) H' us bs ∧ (∀ b ∈ bs, b.Few ∧ PyData.strOk b.mark = true) ∧ bs.length = j ∧ t4 ≤ t' ∧ t' ≤ t4 + 1300 * j ∧ StAt H' d c t' ∧ Kp d c H4 H')
      ⟨t4, [], [], upd_same, Each.nil, (fun _ z => nomatch z), rfl, by omega, by omega, hS4.same (same_upd nD), Kp.same d c (same_upd nD)⟩ (fun j H' _ hP => ?_) (fun j x H' hx hP => ?_) (fun H5 hP => ?_)⟩
    · obtain ⟨_, _, _, _, _, _, _, _, _, _, k'⟩ := hP
      exact SqL.of (k'.lst hS4 elm (noInt_strs ms))
    · obtain ⟨t', us, bs, eD, hus, hbs, hbl, u0, u1, hS', k'⟩ := hP
      obtain ⟨mark, emk, rfl⟩ : ∃ mark, ms[j]? = some mark ∧ x = .str mark := by
        rw [List.getElem?_map] at hx
        cases h : ms[j]? with
        | none => rw [h] at hx; cases hx
        | some n => rw [h] at hx; exact ⟨n, rfl, (Option.some.inj hx).symm⟩
      have hmk := hms mark (List.mem_of_getElem? emk)
      have hj : j < 4 := by
        have := (List.getElem?_eq_some_iff.mp emk).1
        omega
      have elx := k'.lst hS4 el4 (noInt_strs xs)
      refine ⟨rfl, _, rfl, _, rfl, _, rfl, 6, rfl, l, _, rfl, SqL.of elx, fun cu ncu => ?_⟩
      have scu := same_upd (o := .lst (cutV (xs.map V.str) none (some 6))) ncu
      have ecu : upd H' cu (.lst (cutV (xs.map V.str) none (some 6))) cu = some (.lst ((xs.take 6).map V.str)) := by
        rw [upd_same]
        exact congrArg (fun z => some (HO.lst z)) (cut_strs xs 6)
      refine ⟨d, c, cu, t', 0, mark, xs.take 6, rfl, hS'.same scu, by omega, ecu, fun x hx => hxs x (List.mem_of_mem_take hx), by rw [List.length_take]; omega, by decide, by decide, fun b T ps t5 H5 hB hT1 hT2 hT40 hgd hlow hpn hpl t50 t51 hS5 k5 => ?_⟩
      have kc : Kp d c H' H5 := (Kp.same d c scu).trans k5
      have offD := hS4.off nD
      have eD5 := kc _ _ offD.1 offD.2 eD
      have hus5 : Each (BatW (fun x => x ≠ D)) H5 us bs := hus.mono fun v x _ z => z.kp hS' kc
      have hbat : BatW (fun x => x ≠ D) H5 (.ref b) ⟨mark, T, ps⟩ := ⟨b, rfl, hB.weak fun x hx hz => by rw [hz, scu _ _ eD] at hx; cases hx⟩
      have hnew := hus5.app (Each.one hbat)
      have hfew : (⟨mark, T, ps⟩ : Bat).Few := ⟨⟨hT1, hT2, hgd, hpl⟩, hT40 rfl, hpn (List.Nodup.sublist (List.take_sublist 6 xs) hxn)⟩
      have hall : ∀ b' ∈ bs ++ [⟨mark, T, ps⟩], b'.Few ∧ PyData.strOk b'.mark = true := fun b' hb' => by
        rcases List.mem_append.mp hb' with z | z
        · exact hbs b' z
        · rw [List.mem_singleton.mp z]; exact ⟨hfew, hmk⟩
      refine ⟨us, eD5, small1000 (by rw [hus.1]; omega), t5, us ++ [.ref b], bs ++ [⟨mark, T, ps⟩], upd_same, hnew.mono fun v x hx z => z.upd (hall x hx).1.1 (fun _ h => h) eD5 (hus5.imp fun _ _ _ z => z.bat), hall, by rw [List.length_append, hbl]; rfl, by omega, by omega, hS5.upd offD.1 offD.2, fun b' o b1 b2 e => ?_⟩
      rw [upd_ne (ne_of_none e nD)]
      exact kc b' o b1 b2 (k' b' o b1 b2 e)
    obtain ⟨t5, us, bs, eD, hus, hbs, hbl, u0, u1, hS5, k5⟩ := hP
    rw [List.length_map] at hbl u1
    have hbl4 : bs.length ≤ 4 := by omega
    have hbn : bs ≠ [] := fun z => by
      rw [z] at hbl
      have : (0 : Nat) = ms.length := hbl
      omega
    have hbV : Each BatV H5 us bs := hus.imp fun _ _ _ z => z.bat
    have el5 := k5.lst hS4 el4 (noInt_strs xs)
    -- faults
    refine ⟨_, rfl, _, rfl, _, rfl, _, rfl, d, c, t5, 7, rfl, hS5, by omega, by decide, by decide, fun m H6 m0 m1 hS6 k6 => ?_⟩
    have eD6 := k6.lst hS5 eD (noInt_bats hbV)
    have hbV6 : Each BatV H6 us bs := hbV.mono fun _ _ _ z => z.kp hS5 k6
    refine ⟨d, c, D, l, us, bs, xs, t5 + 1, m, rfl, hS6, by omega, eD6, hbV6, fun b hb => (hbs b hb).1.1, hbn, by omega, k6.lst hS5 el5 (noInt_strs xs), (fun z => by rw [z] at hxl; exact absurd hxl (by decide)), by omega, hxs, m0, by omega, fun lf ws fs t7 H7 nlf elf hws hfl hfo hfsl t70 t71 hS7 k7 => ?_⟩
    have eD7 := k7.lst hS6 eD6 (noInt_bats hbV6)
    have hbV7 : Each BatV H7 us bs := hbV6.mono fun _ _ _ z => z.kp hS6 k7
    have hfl7 : fs.length ≤ 7 := by omega
    -- handed in: batches
    refine ⟨_, rfl, D, rfl, ⟨_, SqL.of eD7⟩, fun D2 nD2 => lc_list (xs := us) (fun j H' => ∃ (t' : Int) (vs : List V), H' D2 = some (.lst vs) ∧ Each (BatW (fun x => x ≠ D2)) H' vs (bs.take j) ∧ t7 ≤ t' ∧ t' ≤ t7 + 10 * j ∧ StAt H' d c t' ∧ Kp d c H7 H')
      ⟨t7, [], upd_same, Each.nil, by omega, by omega, hS7.same (same_upd nD2), Kp.same d c (same_upd nD2)⟩ (fun j H' _ hP => ?_) (fun j x H' hx hP => ?_) (fun H8 hP => ?_)⟩
    · obtain ⟨_, _, _, _, _, _, _, k'⟩ := hP
      exact SqL.of (k'.lst hS7 eD7 (noInt_bats hbV7))
    · obtain ⟨t', vs, eD2, hvs, u0, u1, hS', k'⟩ := hP
      obtain ⟨b, eb, hbv⟩ := hbV7.at hx
      obtain ⟨ba, rfl, hBA⟩ := hbv.kp hS7 k'
      have hb := hbs b (List.mem_of_getElem? eb)
      have hj : j < bs.length := (List.getElem?_eq_some_iff.mp eb).1
      refine ⟨rfl, _, rfl, _, rfl, d, c, ba, t', b.T, b.mark, b.ps, rfl, hS', by omega, hBA, hb.1.1.1, hb.1.1.2.2.1, hb.1.1.2.2.2, fun b' t'' H'' hB' v0 v1 hS'' k'' => ?_⟩
      have offD2 := hS7.off nD2
      have eD2' := k'' _ _ offD2.1 offD2.2 eD2
      have hvs' : Each (BatW (fun x => x ≠ D2)) H'' vs (bs.take j) := hvs.mono fun v x _ z => z.kp hS' k''
      have hbat : BatW (fun x => x ≠ D2) H'' (.ref b') b := ⟨b', rfl, hB'.weak fun x hx hz => by rw [hz, eD2] at hx; cases hx⟩
      have etake : bs.take (j + 1) = bs.take j ++ [b] := by rw [List.take_add_one, eb]; rfl
      refine ⟨vs, eD2', small1000 (by rw [hvs.1, List.length_take]; omega), t'', vs ++ [.ref b'], upd_same, ?_, by omega, by omega, hS''.upd offD2.1 offD2.2, fun x o x1 x2 e => ?_⟩
      · rw [etake]
        refine (hvs'.app (Each.one hbat)).mono fun v x hx z => z.upd ?_ (fun _ h => h) eD2' (hvs'.imp fun _ _ _ z => z.bat)
        rw [← etake] at hx
        exact (hbs x (List.mem_of_mem_take hx)).1.1
      · rw [upd_ne (ne_of_none e nD2)]
        exact k'' x o x1 x2 (k' x o x1 x2 e)
    obtain ⟨t8, vsb, eD2, hvsb, u80, u81, hS8, k8⟩ := hP
    have hul : us.length = bs.length := hbV7.1
    rw [hul, List.take_length] at hvsb
    rw [hul] at u81
    have hvV : Each BatV H8 vsb bs := hvsb.imp fun _ _ _ z => z.bat
    -- handed in: faults
    refine ⟨Nat.zero_le _, fun hf nhf => ⟨(by show 2 ≤ sizeLine; decide), fun hh nhh => ?_⟩⟩
    have shf := same_upd (o := .lst []) nhf
    have shh := same_upd (o := .lst [.ref D2, .ref hf]) nhh
    have S9 := shf.trans shh
    have offf := hS8.off nhf
    have offh := (hS8.same shf).off nhh
    have k07 : Kp d c H7 H8 := k8
    have elf8 := k07.lst hS7 elf (noInt_flts hws)
    have hws8 : Each (FltN (fun x => x ≠ c ∧ H6 x = none)) H8 ws fs := hws.mono fun _ _ _ z => z.kp (fun _ h => h.1) hS7 k07
    have nofint : NoInt [V.ref D2, .ref hf] := fun x hx i e => by
      rw [e] at hx
      rcases List.mem_cons.mp hx with z | z
      · cases z
      · cases List.mem_singleton.mp z
    refine ⟨_, rfl, lf, rfl, ⟨_, SqL.of (S9 _ _ elf8)⟩, for_list (xs := ws) (fun j σ Hy => ∃ (t' : Int) (vs : List V) (z8 z9 z10 z11 : Option V), σ = [some (.ref a), some (.ref d), some (.int (0 + (i : Int))), some (.ref l), y4, some (.ref D), some (.ref lf), some (.ref hh), z8, z9, z10, z11, y12, y13, y14, none] ∧ Hy hf = some (.lst vs) ∧ Each (FltS (fun x => x ≠ c ∧ x ≠ hf)) Hy vs (fs.take j) ∧ Hy hh = some (.lst [.ref D2, .ref hf]) ∧ t8 ≤ t' ∧ t' ≤ t8 + j ∧ StAt Hy d c t' ∧ Kp d c H8 Hy)
      ⟨t8, [], _, _, _, _, rfl, shh _ _ upd_same, Each.nil, upd_same, by omega, by omega, hS8.same S9, Kp.same d c S9⟩ (fun j σ Hy _ hP => ?_) (fun j x σ Hy hx hP => ?_) (fun σ Hy hP => ?_)⟩
    · obtain ⟨_, _, _, _, _, _, rfl, _, _, _, _, _, _, ky⟩ := hP
      exact SqL.of (ky.lst hS8 elf8 (noInt_flts hws8))
    · obtain ⟨t', vs, z8, z9, z10, z11, rfl, ehf, hvs, ehh, u0, u1, hSy, ky⟩ := hP
      obtain ⟨fl, ef, hfv⟩ := hws8.at hx
      obtain ⟨fa, rk, rfl, efa, erk, _⟩ := hfv.kp (fun _ h => h.1) hS8 ky
      have hj : j < fs.length := (List.getElem?_eq_some_iff.mp ef).1
      have etake : fs.take (j + 1) = fs.take j ++ [fl] := by rw [List.take_add_one, ef]; rfl
      refine ⟨fa, _, rfl, .inl (.inl efa), rfl, _, _, rfl, _, _, rfl, _, _, rfl, _, _, rfl, rfl, ?_⟩
      refine ⟨_, rfl, hh, _, 1, .ref hf, rfl, rfl, SqL.of ehh, atI_nat (j := 1) rfl, .inl ⟨rfl, _, SqL.of ehf⟩, _, rfl, _, rfl, _, rfl, ?_⟩
      refine ⟨_, rfl, rk, _, rfl, .inl (SqL.of erk), fun g1 ng1 => ?_⟩
      have sg1 := same_upd (o := .lst (fl.ks.map V.int)) ng1
      have erk1 := sg1 _ _ erk
      refine ⟨_, rfl, rk, _, rfl, .inl ⟨SqL.of erk1, fun g2 ng2 => ?_⟩⟩
      have sg2 := same_upd (o := .tup (fl.ks.map V.int)) ng2
      refine ⟨(by show 2 ≤ sizeLine; decide), fun z nz => ?_⟩
      have sz := same_upd (o := .lst [.ref g1, .ref g2]) nz
      have S := (sg1.trans sg2).trans sz
      have off1 := hSy.off ng1
      have off2 := (hSy.same sg1).off ng2
      have offz := ((hSy.same sg1).same sg2).off nz
      have n1f : g1 ≠ hf := fun h => by rw [h, ehf] at ng1; cases ng1
      have n2f : g2 ≠ hf := fun h => by rw [h, sg1 _ _ ehf] at ng2; cases ng2
      refine ⟨_, rfl, d, c, t', 2, rfl, hSy.same S, by omega, by decide, by decide, fun r9 H9 r90 r91 hS9 k9 => ?_⟩
      have ky9 : Kp d c Hy H9 := (Kp.same d c S).trans k9
      obtain ⟨gg, hat, hgg, hgn⟩ : ∃ gg, atI [V.ref g1, V.ref g2] r9 = some (.ref gg) ∧ SqH H9 gg (fl.ks.map V.int) ∧ (gg ≠ c ∧ gg ≠ hf) := by
        have : r9 = 0 ∨ r9 = 1 := by omega
        rcases this with rfl | rfl
        · exact ⟨g1, rfl, .inl (k9 _ _ off1.1 off1.2 ((sg2.trans sz) _ _ upd_same)), off1.2, n1f⟩
        · exact ⟨g2, rfl, .inr (k9.tup (hSy.same S) (sz _ _ upd_same)), off2.2, n2f⟩
      refine ⟨z, _, r9, .ref gg, rfl, rfl, SqL.of (k9 _ _ offz.1 offz.2 upd_same), hat, (by show 4 ≤ sizeLine; decide), fun tf ntf => ?_⟩
      have stf := same_upd (o := .tup [.str fl.pl, .int fl.first, .int fl.last, .ref gg]) ntf
      have ehf9 := stf _ _ (ky9 _ _ offf.1 offf.2 ehf)
      have hvs9 : Each (FltS (fun x => x ≠ c ∧ x ≠ hf)) (upd H9 tf (.tup [.str fl.pl, .int fl.first, .int fl.last, .ref gg])) vs (fs.take j) := hvs.mono fun _ _ _ z => (z.kp (fun _ h => h.1) hSy ky9).same stf
      have hone : FltS (fun x => x ≠ c ∧ x ≠ hf) (upd H9 tf (.tup [.str fl.pl, .int fl.first, .int fl.last, .ref gg])) (.ref tf) fl := ⟨tf, gg, rfl, upd_same, hgg.same stf, hgn⟩
      have nhhf : hh ≠ hf := fun h => by rw [h, upd_same] at nhh; cases nhh
      refine ⟨hf, _, _, rfl, rfl, ehf9, small1000 (by rw [hvs.1, List.length_take]; omega), t' + 1, vs ++ [.ref tf], _, _, _, _, rfl, upd_same, ?_, ?_, by omega, by omega, (hS9.same stf).upd offf.1 offf.2, fun x o x1 x2 e => ?_⟩
      · rw [etake]
        exact (hvs9.app (Each.one hone)).mono fun _ _ _ z => z.upd (fun _ h => h.2) ehf9
      · rw [upd_ne nhhf]
        exact stf _ _ (ky9.lst hSy ehh nofint)
      · rw [upd_ne (ne_of_none e nhf)]
        exact stf _ _ (ky9 x o x1 x2 (ky x o x1 x2 e))
    obtain ⟨t9, vsf, z8, z9, z10, z11, rfl, ehf, hvsf, ehh, u90, u91, hS9, k9⟩ := hP
    rw [hws.1, List.take_length] at hvsf
    rw [hws.1] at u91
    have k79 : Kp d c H7 Hy := k8.trans k9
    have eD9 := k79.lst hS7 eD7 (noInt_bats hbV7)
    have hbV9 : Each BatV Hy us bs := hbV7.mono fun _ _ _ z => z.kp hS7 k79
    have elf9 := k9.lst hS8 elf8 (noInt_flts hws8)
    have hws9 : Each (FltN (fun x => x ≠ c ∧ H6 x = none)) Hy ws fs := hws8.mono fun _ _ _ z => z.kp (fun _ h => h.1) hS8 k9
    have eD29 := k9.lst hS8 eD2 (noInt_bats hvV)
    have hvV9 : Each BatV Hy vsb bs := hvV.mono fun _ _ _ z => z.kp hS8 k9
    have hfV9 : Each FltV Hy vsf fs := hvsf.imp fun _ _ _ z => z.flt
    have hbok : ∀ b ∈ bs, b.Ok := fun b hb => (hbs b hb).1.1
    have hfok : ∀ f ∈ fs, f.Ok := fun f hf' => (hfl f hf').ok
    -- due
    refine ⟨_, rfl, _, rfl, _, D, lf, us, ws, bs, fs, rfl, eD9, hbV9, fun b hb => (hbs b hb).1, elf9, hws9, by omega, by omega, fun l1 ys1 H10 nl1 el1 hys1 s10 => ?_⟩
    have dueD := rows_dat el1 hys1
    -- found
    refine ⟨_, rfl, hh, _, 0, .ref D2, rfl, rfl, SqL.of (s10 _ _ ehh), atI_nat (j := 0) rfl, _, rfl, hh, _, 1, .ref hf, rfl, rfl, SqL.of (s10 _ _ ehh), atI_nat (j := 1) rfl, hf, _, rfl, .inl ⟨SqL.of (s10 _ _ ehf), fun tf ntf => ?_⟩⟩
    have stf := same_upd (o := .tup vsf) ntf
    have S12 := s10.trans stf
    refine ⟨D2, tf, vsb, vsf, bs, fs, rfl, .inl (S12 _ _ eD29), hvV9.mono fun _ _ _ z => z.same S12, hbok, .inr upd_same, hfV9.mono fun _ _ _ z => z.same S12, hfok, by omega, by omega, fun l2 ys2 H13 nl2 el2 hys2 s13 => ?_⟩
    have small := rows_small hys2 (by decide) (Nat.le_trans (rowsF_len _) (by omega))
    refine ⟨_, rfl, _, rfl, .ref l2, .ref l1, _, rfl, rows_dat el2 hys2, (dueD.same stf).same s13, small, nb_rows _, fun H14 s14 => ⟨_, rfl, iteF ?_⟩⟩
    -- each told set made longer
    have hyl : ys2.length ≤ 20 := by rw [hys2.1]; exact Nat.le_trans (rowsF_len _) (by omega)
    revert stf S12 nl2 hys2 s13
    generalize upd H10 tf (.tup vsf) = H12
    intro stf S12 nl2 hys2 s13
    refine ⟨_, rfl, l2, rfl, ⟨_, SqL.of (s14 _ _ el2)⟩, for_list (xs := ys2) (fun j σ Hz => ∃ (z4 z14 : Option V), σ = [some (.ref a), some (.ref d), some (.int (0 + (i : Int))), some (.ref l), z4, some (.ref D), some (.ref lf), some (.ref hh), z8, z9, z10, z11, some (.ref l1), some (.ref l2), z14, none] ∧ Same H12 Hz ∧ Hz l2 = some (.lst ys2) ∧ ∀ v ∈ ys2, RowL (fun s => H12 s = none ∧ s ≠ l2) (600 + j) Hz v)
      ⟨_, _, rfl, s13.trans s14, s14 _ _ el2, fun v hv => ?_⟩ (fun j σ Hz _ hP => ?_) (fun j x σ Hz hx hP => ?_) (fun σ Hz hP => ?_)⟩
    · obtain ⟨k, hk, ek⟩ := List.getElem_of_mem hv
      obtain ⟨r, _, hrv⟩ := hys2.at (by rw [List.getElem?_eq_getElem hk, ek])
      exact (hrv.same s14).rowL
    · obtain ⟨_, _, rfl, _, e, _⟩ := hP
      exact SqL.of e
    · obtain ⟨z4, z14, rfl, sz, el2z, hall⟩ := hP
      have hj : j < ys2.length := (List.getElem?_eq_some_iff.mp hx).1
      obtain ⟨tt, ss, wsr, mk, rfl, ⟨nss, nsl⟩, ett, ess, hwl⟩ := hall x (List.mem_of_getElem? hx)
      refine ⟨tt, _, rfl, .inl (.inl ett), rfl, _, _, rfl, _, _, rfl, rfl, ?_⟩
      refine ⟨_, rfl, .inl ⟨rfl, _, SqL.of ess⟩, (by show 2 ≤ sizeLine; decide), fun t5 nt5 => ?_⟩
      have st5 := same_upd (o := .tup [.int 99, .int 99]) nt5
      have ess5 := st5 _ _ ess
      refine ⟨ss, _, _, rfl, rfl, ess5, small1000 (by omega), _, _, rfl, fun y o e => ?_, by rw [upd_ne nsl.symm]; exact st5 _ _ el2z, fun v hv => ?_⟩
      · rw [upd_ne (ne_of_none e nss)]
        exact st5 _ _ (sz y o e)
      · obtain ⟨t', s', ws', mk', ev, n', e1, e2, hl'⟩ := hall v hv
        have e1' := st5 _ _ e1
        have e2' := st5 _ _ e2
        by_cases hs : s' = ss
        · subst hs
          exact ⟨t', s', _, mk', ev, n', by rw [upd_ne (ne_of e1' ess5 (fun z => nomatch z))]; exact e1', upd_same, by rw [List.length_append]; show wsr.length + 1 ≤ _; omega⟩
        · exact ⟨t', s', ws', mk', ev, n', by rw [upd_ne (ne_of e1' ess5 (fun z => nomatch z))]; exact e1', by rw [upd_ne hs]; exact e2', by omega⟩
    · obtain ⟨z4, z14, rfl, sz, el2z, _⟩ := hP
      -- turned about
      refine ⟨_, rfl, .inl ⟨rfl, _, SqL.of el2z⟩, l2, _, rfl, rfl, el2z, ?_⟩
      have S15 : Same H12 (upd Hz l2 (.lst ys2.reverse)) := fun y o e => by
        rw [upd_ne (ne_of_none e nl2)]
        exact sz y o e
      revert S15
      generalize upd Hz l2 (.lst ys2.reverse) = H15
      intro S15
      have S := S12.trans S15
      -- found again
      refine ⟨_, rfl, hh, _, 0, .ref D2, rfl, rfl, SqL.of (S _ _ ehh), atI_nat (j := 0) rfl, D2, _, rfl, .inl ⟨SqL.of (S _ _ eD29), fun tb ntb => ?_⟩⟩
      have stb := same_upd (o := .tup vsb) ntb
      have S16 := S.trans stb
      refine ⟨_, rfl, hh, _, 1, .ref hf, rfl, rfl, SqL.of (S16 _ _ ehh), atI_nat (j := 1) rfl, ?_⟩
      refine ⟨tb, hf, vsb, vsf, bs, fs, rfl, .inr upd_same, hvV9.mono fun _ _ _ z => z.same S16, hbok, .inl (S16 _ _ ehf), hfV9.mono fun _ _ _ z => z.same S16, hfok, by omega, by omega, fun l3 ys3 H17 nl3 el3 hys3 s17 => ?_⟩
      refine ⟨_, rfl, .ref l3, .ref l1, _, rfl, rows_dat el3 hys3, ((dueD.same stf).same S15 |>.same stb).same s17, small, nb_rows _, fun H18 s18 => ⟨_, rfl, iteF ?_⟩⟩
      have S18 := (S16.trans s17).trans s18
      -- what was handed in stays
      obtain ⟨d1, h1, h2, h3⟩ := all_dat (S18 _ _ ehh) (S18 _ _ eD29) (hvV9.mono fun _ _ _ z => z.same S18) (S18 _ _ ehf) (hfV9.mono fun _ _ _ z => z.same S18) hbok (by omega) (fun f hf' => (hfok f hf').2.2.2) (by omega)
      refine ⟨_, rfl, .ref hh, d1, fun _ => False, rfl, (fun _ z => z.elim), by rw [hide_no]; exact h1, h2, fun v1 H19 hv1 s19 => ?_⟩
      have S19 := S18.trans s19
      refine ⟨_, rfl, _, rfl, (by show 2 ≤ sizeLine; decide), fun lo nlo => ?_⟩
      have slo := same_upd (o := .lst [.ref D, .ref lf]) nlo
      have S20 := S19.trans slo
      obtain ⟨d2, g1, g2, g3⟩ := all_dat (l := lo) upd_same (S20 _ _ eD9) (hbV9.mono fun _ _ _ z => z.same S20) (S20 _ _ elf9) (hws9.imp fun _ _ _ z => (z.same S20).flt) hbok (by omega) (fun f hf' => (hfok f hf').2.2.2) (by omega)
      refine ⟨.ref lo, d2, fun _ => False, rfl, (fun _ z => z.elim), by rw [hide_no]; exact g1, g2, fun v2 H21 hv2 s21 => ?_⟩
      rw [hide_no, h3] at hv1
      rw [hide_no, g3] at hv2
      have hsh := shaped_all (bs := bs) (fs := fs) (fun b hb => ⟨hbok b hb, (hbs b hb).2⟩) hfo
      refine ⟨_, _, ((hv1.same slo).same s21).dp, hv2.dp, hsh, hsh, _, rfl, ?_⟩
      rw [SeqAt.eqv_refl _ (SeqAt.canLay_of_shaped hsh)]
      refine iteF ?_
      have ei : ((i + 1 : Nat) : Int) = (i : Int) + 1 := by omega
      exact ⟨t9, _, _, _, _, _, _, _, _, _, _, _, _, _, rfl, by omega, by rw [ei]; omega, (hS9.same S20).same s21⟩
end

/-! ### the end: what the top has left, the tables of code objects among it -/
/-- each def of the text has a code object with an empty table -/
def Tabs (q : Program) (mg : Str → Option Value) (h : Heap) : Prop := ∀ dr ∈ recsOf q, ∃ (f : Addr) (o : Obj) (fd : FuncData) (c P : Addr), mg dr.name = some (.ref f) ∧ h.get? f = some o ∧ o.data = .func fd ∧ fd.code = .ref c ∧ PySem.W.CodeHd h c P ∧ h.get? P = some (PySem.W.tabObj #[])
theorem tab_in {q : Program} {mg : Str → Option Value} {h : Heap} {K : PySem.W.Frag} {y : Str} {f c P : Addr} {oc e : Value} {od dd : Option Addr} {fd : FuncData} {osl sl : Array (Option Value)} {vs : Array Value} (TT : Tabs q mg h) (X : K.In h) (rec : ((recsOf q).any fun r => r.name == y) = true)
    (g : mg y = some (.ref f)) (lf : K.lookup f = some ⟨oc, od, .func fd, osl⟩) (hc : fd.code = .ref c) (lc : K.lookup c = some ⟨e, dd, .fields vs, sl⟩) (v : vs[11]? = some (.ref P)) : PySem.W.CodeHd h c P ∧ h.get? P = some (PySem.W.tabObj #[]) := by
  obtain ⟨dr, mem, nm⟩ := List.any_eq_true.mp rec
  obtain ⟨f', o', fd', c', P', t1, t2, t3, t4, t5, t6⟩ := TT dr mem
  have ef : f' = f := by
    rw [beq_iff_eq.mp nm, g] at t1
    exact (Value.ref.inj (Option.some.inj t1)).symm
  rw [ef, X _ _ lf] at t2
  rw [← Option.some.inj t2] at t3
  have efd : fd = fd' := Data.func.inj t3
  rw [← efd, hc] at t4
  have ec : c = c' := Value.ref.inj t4
  rw [← ec] at t5
  have t5' := t5
  obtain ⟨oc', us, _, _, _, _, _, _, _, u1, _, u3, u4, _⟩ := t5'
  rw [X _ _ lc] at u1
  rw [← Option.some.inj u1] at u3
  have eu : vs = us := Data.fields.inj u3
  rw [← eu, v] at u4
  have eP : P = P' := Value.ref.inj (Option.some.inj u4)
  rw [eP]
  exact ⟨t5, t6⟩
theorem law_end {l : PySem.W.OpenLaw} {k : Nat} {q : Program} {loose : List Str} {XP : (Str → Option Value) → Heap → Prop} {YP : World → Heap → Prop} {d : DefRec} {K : Params → PySem.W.Frag} (most : l.most = some 63) (plain : d.params.defaults = []) (room : Room k callerA)
    (part : ∀ w h, YP w h → (K w.params).In h) (made : ∀ (w : World) (mg : Str → Option Value) (f : Addr) (h : Heap), (K w.params).In h → h.Ns mainGlobals mg → mg d.name = some (.ref f) → Tabs q mg h → LamX.LawAtS l w (K w.params) CX0 k 63 "_law_script" mg f h) : PySem.W.WalkO q loose XP YP l.row.toRowW d [] (fun f vs => PySem.call f vs) := by
  refine Att.attach_callB most plain ?_
  intro w _ s₁ mg _ f _ _ _ _ a vs ns ground said _ _ _ name script nums len size still
  have X := part w _ said
  have tabs : Tabs q mg s₁.heap := fun dr mem => by
    obtain ⟨f', o', fd', c', P', t1, t2, t3, t4, t5, t6⟩ := ground.T.tab dr mem
    exact ⟨f', o', fd', c', P', t1, t2, t3, t4, PySem.W.CodeHd.of t5 t6, t6.2⟩
  obtain ⟨fd, cs, sp, e1, e2, e3, e4, e5, e6⟩ := made w mg f _ X ground.T.g name tabs
  exact LamX.law_callTs X ground.T.g ground.T.b ground.T.builtins ground.T.nolimit still e1 e2 e3 ground.T.bmain script nums (Nat.le_trans len (by decide)) room e6 e4 (fun H z1 z2 => e5 H a ns len size z1 z2) fun _ _ _ z => z

theorem all_mk {l : PySem.W.OpenLaw} {q : Program} {w : World} {K : PySem.W.Frag} {h : Heap} {mg : Str → Option Value} {fa f0 f1 f2 f3 f4 f5 f6 f7 f8 f9 f10 f11 f12 f13 f14 f15 f16 f17 f18 f19 f20 f21 f22 f23 f24 f25 f26 f27 f28 f29 : Addr} (X : K.In h) (G : h.Ns mainGlobals mg) (hfa : mg "law" = some (.ref fa)) (TT : Tabs q mg h)
    {od0 an0 od1 an1 od2 an2 od3 an3 od4 an4 od5 an5 od6 an6 od7 an7 od8 an8 od9 an9 od10 an10 od11 an11 od12 an12 od13 an13 od14 an14 od15 an15 od16 an16 od17 an17 od18 an18 od19 an19 od20 an20 od21 an21 od22 an22 od23 an23 od24 an24 od25 an25 od26 an26 od27 an27 od28 an28 od29 an29 : Option Addr} {sl0 sl1 sl2 sl3 sl4 sl5 sl6 sl7 sl8 sl9 sl10 sl11 sl12 sl13 sl14 sl15 sl16 sl17 sl18 sl19 sl20 sl21 sl22 sl23 sl24 sl25 sl26 sl27 sl28 sl29 : Array (Option Value)} {oc0 kV0 dc0 pm0 ct0 cd0 oc1 kV1 dc1 pm1 ct1 cd1 oc2 kV2 dc2 pm2 ct2 cd2 oc3 kV3 dc3 pm3 ct3 cd3 oc4 kV4 dc4 pm4 ct4 cd4 oc5 kV5 dc5 pm5 ct5 cd5 oc6 kV6 dc6 pm6 ct6 cd6 oc7 kV7 dc7 pm7 ct7 cd7 oc8 kV8 dc8 pm8 ct8 cd8 oc9 kV9 dc9 pm9 ct9 cd9 oc10 kV10 dc10 pm10 ct10 cd10 oc11 kV11 dc11 pm11 ct11 cd11 oc12 kV12 dc12 pm12 ct12 cd12 oc13 kV13 dc13 pm13 ct13 cd13 oc14 kV14 dc14 pm14 ct14 cd14 oc15 kV15 dc15 pm15 ct15 cd15 oc16 kV16 dc16 pm16 ct16 cd16 oc17 kV17 dc17 pm17 ct17 cd17 oc18 kV18 dc18 pm18 ct18 cd18 oc19 kV19 dc19 pm19 ct19 cd19 oc20 kV20 dc20 pm20 ct20 cd20 oc21 kV21 dc21 pm21 ct21 cd21 oc22 kV22 dc22 pm22 ct22 cd22 oc23 kV23 dc23 pm23 ct23 cd23 oc24 kV24 dc24 pm24 ct24 cd24 oc25 kV25 dc25 pm25 ct25 cd25 oc26 kV26 dc26 pm26 ct26 cd26 oc27 kV27 dc27 pm27 ct27 cd27 oc28 kV28 dc28 pm28 ct28 cd28 oc29 kV29 dc29 pm29 ct29 cd29 : Value}
    (a0 : PySem.W.nsIn K mainGlobals "set_of" = some (some (.ref f0))) (l0 : K.lookup f0 = some ⟨oc0, od0, .func (PySem.W.fnOf "set_of" "set_of" (defArgs sSetOf) (defBody sSetOf) (defScope sSetOf) .none kV0 dc0 pm0 an0 cd0 ct0), sl0⟩) (c0' : PySem.W.codeIn K cd0 "set_of" = true) (k0 : PySem.W.keepIn K (.ref f0) = true)
    (a1 : PySem.W.nsIn K mainGlobals "both_of" = some (some (.ref f1))) (l1 : K.lookup f1 = some ⟨oc1, od1, .func (PySem.W.fnOf "both_of" "both_of" (defArgs sBoth) (defBody sBoth) (defScope sBoth) .none kV1 dc1 pm1 an1 cd1 ct1), sl1⟩) (c1' : PySem.W.codeIn K cd1 "both_of" = true) (k1 : PySem.W.keepIn K (.ref f1) = true)
    (a2 : PySem.W.nsIn K mainGlobals "pass_at" = some (some (.ref f2))) (l2 : K.lookup f2 = some ⟨oc2, od2, .func (PySem.W.fnOf "pass_at" "pass_at" (defArgs sPassAt) (defBody sPassAt) (defScope sPassAt) .none kV2 dc2 pm2 an2 cd2 ct2), sl2⟩) (c2' : PySem.W.codeIn K cd2 "pass_at" = true) (k2 : PySem.W.keepIn K (.ref f2) = true)
    (a3 : PySem.W.nsIn K mainGlobals "count_ahead" = some (some (.ref f3))) (l3 : K.lookup f3 = some ⟨oc3, od3, .func (PySem.W.fnOf "count_ahead" "count_ahead" (defArgs sCnt) (defBody sCnt) (defScope sCnt) .none kV3 dc3 pm3 an3 cd3 ct3), sl3⟩) (c3' : PySem.W.codeIn K cd3 "count_ahead" = true) (k3 : PySem.W.keepIn K (.ref f3) = true)
    (a4 : PySem.W.nsIn K mainGlobals "tins_on_line" = some (some (.ref f4))) (l4 : K.lookup f4 = some ⟨oc4, od4, .func (PySem.W.fnOf "tins_on_line" "tins_on_line" (defArgs sOnLine) (defBody sOnLine) (defScope sOnLine) .none kV4 dc4 pm4 an4 cd4 ct4), sl4⟩) (c4' : PySem.W.codeIn K cd4 "tins_on_line" = true) (k4 : PySem.W.keepIn K (.ref f4) = true)
    (a5 : PySem.W.nsIn K mainGlobals "tins_of_rack" = some (some (.ref f5))) (l5 : K.lookup f5 = some ⟨oc5, od5, .func (PySem.W.fnOf "tins_of_rack" "tins_of_rack" (defArgs sRack) (defBody sRack) (defScope sRack) .none kV5 dc5 pm5 an5 cd5 ct5), sl5⟩) (c5' : PySem.W.codeIn K cd5 "tins_of_rack" = true) (k5 : PySem.W.keepIn K (.ref f5) = true)
    (a6 : PySem.W.nsIn K mainGlobals "tins_in_stays" = some (some (.ref f6))) (l6 : K.lookup f6 = some ⟨oc6, od6, .func (PySem.W.fnOf "tins_in_stays" "tins_in_stays" (defArgs sStays) (defBody sStays) (defScope sStays) .none kV6 dc6 pm6 an6 cd6 ct6), sl6⟩) (c6' : PySem.W.codeIn K cd6 "tins_in_stays" = true) (k6 : PySem.W.keepIn K (.ref f6) = true)
    (a7 : PySem.W.nsIn K mainGlobals "tins_at" = some (some (.ref f7))) (l7 : K.lookup f7 = some ⟨oc7, od7, .func (PySem.W.fnOf "tins_at" "tins_at" (defArgs sTinsAt) (defBody sTinsAt) (defScope sTinsAt) .none kV7 dc7 pm7 an7 cd7 ct7), sl7⟩) (c7' : PySem.W.codeIn K cd7 "tins_at" = true) (k7 : PySem.W.keepIn K (.ref f7) = true)
    (a8 : PySem.W.nsIn K mainGlobals "tins_in_racks" = some (some (.ref f8))) (l8 : K.lookup f8 = some ⟨oc8, od8, .func (PySem.W.fnOf "tins_in_racks" "tins_in_racks" (defArgs sInRacks) (defBody sInRacks) (defScope sInRacks) .none kV8 dc8 pm8 an8 cd8 ct8), sl8⟩) (c8' : PySem.W.codeIn K cd8 "tins_in_racks" = true) (k8 : PySem.W.keepIn K (.ref f8) = true)
    (a9 : PySem.W.nsIn K mainGlobals "tins_reached" = some (some (.ref f9))) (l9 : K.lookup f9 = some ⟨oc9, od9, .func (PySem.W.fnOf "tins_reached" "tins_reached" (defArgs sReach1) (defBody sReach1) (defScope sReach1) .none kV9 dc9 pm9 an9 cd9 ct9), sl9⟩) (c9' : PySem.W.codeIn K cd9 "tins_reached" = true) (k9 : PySem.W.keepIn K (.ref f9) = true)
    (a10 : PySem.W.nsIn K mainGlobals "reached" = some (some (.ref f10))) (l10 : K.lookup f10 = some ⟨oc10, od10, .func (PySem.W.fnOf "reached" "reached" (defArgs sReached) (defBody sReached) (defScope sReached) .none kV10 dc10 pm10 an10 cd10 ct10), sl10⟩) (c10' : PySem.W.codeIn K cd10 "reached" = true) (k10 : PySem.W.keepIn K (.ref f10) = true)
    (a11 : PySem.W.nsIn K mainGlobals "_law_begin" = some (some (.ref f11))) (l11 : K.lookup f11 = some ⟨oc11, od11, .func (PySem.W.fnOf "_law_begin" "_law_begin" (defArgs sBegin) (defBody sBegin) (defScope sBegin) .none kV11 dc11 pm11 an11 cd11 ct11), sl11⟩) (c11' : PySem.W.codeIn K cd11 "_law_begin" = true) (k11 : PySem.W.keepIn K (.ref f11) = true)
    (a12 : PySem.W.nsIn K mainGlobals "_law_take" = some (some (.ref f12))) (l12 : K.lookup f12 = some ⟨oc12, od12, .func (PySem.W.fnOf "_law_take" "_law_take" (defArgs sTake) (defBody sTake) (defScope sTake) .none kV12 dc12 pm12 an12 cd12 ct12), sl12⟩) (c12' : PySem.W.codeIn K cd12 "_law_take" = true) (k12 : PySem.W.keepIn K (.ref f12) = true)
    (a13 : PySem.W.nsIn K mainGlobals "_law_same" = some (some (.ref f13))) (l13 : K.lookup f13 = some ⟨oc13, od13, .func (PySem.W.fnOf "_law_same" "_law_same" (defArgs sSame) (defBody sSame) (defScope sSame) .none kV13 dc13 pm13 an13 cd13 ct13), sl13⟩) (c13' : PySem.W.codeIn K cd13 "_law_same" = true) (k13 : PySem.W.keepIn K (.ref f13) = true)
    (a14 : PySem.W.nsIn K mainGlobals "_law_number" = some (some (.ref f14))) (l14 : K.lookup f14 = some ⟨oc14, od14, .func (PySem.W.fnOf "_law_number" "_law_number" (defArgs sNumber) (defBody sNumber) (defScope sNumber) .none kV14 dc14 pm14 an14 cd14 ct14), sl14⟩) (c14' : PySem.W.codeIn K cd14 "_law_number" = true) (k14 : PySem.W.keepIn K (.ref f14) = true)
    (a15 : PySem.W.nsIn K mainGlobals "_law_names" = some (some (.ref f15))) (l15 : K.lookup f15 = some ⟨oc15, od15, .func (PySem.W.fnOf "_law_names" "_law_names" (defArgs sNames) (defBody sNames) (defScope sNames) .none kV15 dc15 pm15 an15 cd15 ct15), sl15⟩) (c15' : PySem.W.codeIn K cd15 "_law_names" = true) (k15 : PySem.W.keepIn K (.ref f15) = true)
    (a16 : PySem.W.nsIn K mainGlobals "_law_marks_by" = some (some (.ref f16))) (l16 : K.lookup f16 = some ⟨oc16, od16, .func (PySem.W.fnOf "_law_marks_by" "_law_marks_by" (defArgs sMarks) (defBody sMarks) (defScope sMarks) .none kV16 dc16 pm16 an16 cd16 ct16), sl16⟩) (c16' : PySem.W.codeIn K cd16 "_law_marks_by" = true) (k16 : PySem.W.keepIn K (.ref f16) = true)
    (a17 : PySem.W.nsIn K mainGlobals "_law_pass" = some (some (.ref f17))) (l17 : K.lookup f17 = some ⟨oc17, od17, .func (PySem.W.fnOf "_law_pass" "_law_pass" (defArgs sPass) (defBody sPass) (defScope sPass) .none kV17 dc17 pm17 an17 cd17 ct17), sl17⟩) (c17' : PySem.W.codeIn K cd17 "_law_pass" = true) (k17 : PySem.W.keepIn K (.ref f17) = true)
    (a18 : PySem.W.nsIn K mainGlobals "_law_batch_by" = some (some (.ref f18))) (l18 : K.lookup f18 = some ⟨oc18, od18, .func (PySem.W.fnOf "_law_batch_by" "_law_batch_by" (defArgs sBatch) (defBody sBatch) (defScope sBatch) .none kV18 dc18 pm18 an18 cd18 ct18), sl18⟩) (c18' : PySem.W.codeIn K cd18 "_law_batch_by" = true) (k18 : PySem.W.keepIn K (.ref f18) = true)
    (a19 : PySem.W.nsIn K mainGlobals "_law_window" = some (some (.ref f19))) (l19 : K.lookup f19 = some ⟨oc19, od19, .func (PySem.W.fnOf "_law_window" "_law_window" (defArgs sLWin) (defBody sLWin) (defScope sLWin) .none kV19 dc19 pm19 an19 cd19 ct19), sl19⟩) (c19' : PySem.W.codeIn K cd19 "_law_window" = true) (k19 : PySem.W.keepIn K (.ref f19) = true)
    (a20 : PySem.W.nsIn K mainGlobals "_law_meets" = some (some (.ref f20))) (l20 : K.lookup f20 = some ⟨oc20, od20, .func (PySem.W.fnOf "_law_meets" "_law_meets" (defArgs sMeets) (defBody sMeets) (defScope sMeets) .none kV20 dc20 pm20 an20 cd20 ct20), sl20⟩) (c20' : PySem.W.codeIn K cd20 "_law_meets" = true) (k20 : PySem.W.keepIn K (.ref f20) = true)
    (a21 : PySem.W.nsIn K mainGlobals "_law_set_of" = some (some (.ref f21))) (l21 : K.lookup f21 = some ⟨oc21, od21, .func (PySem.W.fnOf "_law_set_of" "_law_set_of" (defArgs sLSet) (defBody sLSet) (defScope sLSet) .none kV21 dc21 pm21 an21 cd21 ct21), sl21⟩) (c21' : PySem.W.codeIn K cd21 "_law_set_of" = true) (k21 : PySem.W.keepIn K (.ref f21) = true)
    (a22 : PySem.W.nsIn K mainGlobals "_law_minutes" = some (some (.ref f22))) (l22 : K.lookup f22 = some ⟨oc22, od22, .func (PySem.W.fnOf "_law_minutes" "_law_minutes" (defArgs sMin) (defBody sMin) (defScope sMin) .none kV22 dc22 pm22 an22 cd22 ct22), sl22⟩) (c22' : PySem.W.codeIn K cd22 "_law_minutes" = true) (k22 : PySem.W.keepIn K (.ref f22) = true)
    (a23 : PySem.W.nsIn K mainGlobals "_law_handed" = some (some (.ref f23))) (l23 : K.lookup f23 = some ⟨oc23, od23, .func (PySem.W.fnOf "_law_handed" "_law_handed" (defArgs sHanded) (defBody sHanded) (defScope sHanded) .none kV23 dc23 pm23 an23 cd23 ct23), sl23⟩) (c23' : PySem.W.codeIn K cd23 "_law_handed" = true) (k23 : PySem.W.keepIn K (.ref f23) = true)
    (a24 : PySem.W.nsIn K mainGlobals "_law_lists" = some (some (.ref f24))) (l24 : K.lookup f24 = some ⟨oc24, od24, .func (PySem.W.fnOf "_law_lists" "_law_lists" (defArgs sLists) (defBody sLists) (defScope sLists) .none kV24 dc24 pm24 an24 cd24 ct24), sl24⟩) (c24' : PySem.W.codeIn K cd24 "_law_lists" = true) (k24 : PySem.W.keepIn K (.ref f24) = true)
    (a25 : PySem.W.nsIn K mainGlobals "_law_faults_by" = some (some (.ref f25))) (l25 : K.lookup f25 = some ⟨oc25, od25, .func (PySem.W.fnOf "_law_faults_by" "_law_faults_by" (defArgs sFaultsBy) (defBody sFaultsBy) (defScope sFaultsBy) .none kV25 dc25 pm25 an25 cd25 ct25), sl25⟩) (c25' : PySem.W.codeIn K cd25 "_law_faults_by" = true) (k25 : PySem.W.keepIn K (.ref f25) = true)
    (a26 : PySem.W.nsIn K mainGlobals "_law_rack_of" = some (some (.ref f26))) (l26 : K.lookup f26 = some ⟨oc26, od26, .func (PySem.W.fnOf "_law_rack_of" "_law_rack_of" (defArgs sRackOf) (defBody sRackOf) (defScope sRackOf) .none kV26 dc26 pm26 an26 cd26 ct26), sl26⟩) (c26' : PySem.W.codeIn K cd26 "_law_rack_of" = true) (k26 : PySem.W.keepIn K (.ref f26) = true)
    (a27 : PySem.W.nsIn K mainGlobals "_law_is_reached" = some (some (.ref f27))) (l27 : K.lookup f27 = some ⟨oc27, od27, .func (PySem.W.fnOf "_law_is_reached" "_law_is_reached" (defArgs sIsReached) (defBody sIsReached) (defScope sIsReached) .none kV27 dc27 pm27 an27 cd27 ct27), sl27⟩) (c27' : PySem.W.codeIn K cd27 "_law_is_reached" = true) (k27 : PySem.W.keepIn K (.ref f27) = true)
    (a28 : PySem.W.nsIn K mainGlobals "_law_due" = some (some (.ref f28))) (l28 : K.lookup f28 = some ⟨oc28, od28, .func (PySem.W.fnOf "_law_due" "_law_due" (defArgs sDueR) (defBody sDueR) (defScope sDueR) .none kV28 dc28 pm28 an28 cd28 ct28), sl28⟩) (c28' : PySem.W.codeIn K cd28 "_law_due" = true) (k28 : PySem.W.keepIn K (.ref f28) = true)
    (a29 : PySem.W.nsIn K mainGlobals "law" = some (some (.ref f29))) (l29 : K.lookup f29 = some ⟨oc29, od29, .func (PySem.W.fnOf "law" "law" (defArgs sLaw) (defBody sLaw) (defScope sLaw) .none kV29 dc29 pm29 an29 cd29 ct29), sl29⟩) (c29' : PySem.W.codeIn K cd29 "law" = true) (k29 : PySem.W.keepIn K (.ref f29) = true)
    {tk_LINE : Tok} (zc_LINE : PySem.W.nsIn K mainGlobals "LINE" = some (some (.str "line" tk_LINE)))
    (z_all : PySem.W.nsIn K mainGlobals "all" = some none) (z_any : PySem.W.nsIn K mainGlobals "any" = some none) (z_bool : PySem.W.nsIn K mainGlobals "bool" = some none) (z_divmod : PySem.W.nsIn K mainGlobals "divmod" = some none) (z_enumerate : PySem.W.nsIn K mainGlobals "enumerate" = some none) (z_int : PySem.W.nsIn K mainGlobals "int" = some none) (z_isinstance : PySem.W.nsIn K mainGlobals "isinstance" = some none) (z_len : PySem.W.nsIn K mainGlobals "len" = some none) (z_list : PySem.W.nsIn K mainGlobals "list" = some none) (z_max : PySem.W.nsIn K mainGlobals "max" = some none) (z_min : PySem.W.nsIn K mainGlobals "min" = some none) (z_range : PySem.W.nsIn K mainGlobals "range" = some none) (z_sorted : PySem.W.nsIn K mainGlobals "sorted" = some none) (z_str : PySem.W.nsIn K mainGlobals "str" = some none) (z_tuple : PySem.W.nsIn K mainGlobals "tuple" = some none) (z_zip : PySem.W.nsIn K mainGlobals "zip" = some none) :
    LamX.LawAtS l w K CX0 9 63 "_law_script" mg fa h := by
  cases hfa.symm.trans (PySem.W.mg_of X G a29)
  have F0 := fun_mk (st := sSetOf) l0 c0' k0
  have b0 := F0.binds (ps := ["pairs"]) fun _ _ _ _ _ _ us hl => match us, hl with | [_], _ => rfl
  have F1 := fun_mk (st := sBoth) l1 c1' k1
  have b1 := F1.binds (ps := ["one", "other"]) fun _ _ _ _ _ _ us hl => match us, hl with | [_, _], _ => rfl
  have F2 := fun_mk (st := sPassAt) l2 c2' k2
  have b2 := F2.binds (ps := ["batch", "place"]) fun _ _ _ _ _ _ us hl => match us, hl with | [_, _], _ => rfl
  have F3 := fun_mk (st := sCnt) l3 c3' k3
  have b3 := F3.binds (ps := ["tins", "line", "minute"]) fun _ _ _ _ _ _ us hl => match us, hl with | [_, _, _], _ => rfl
  have F4 := fun_mk (st := sOnLine) l4 c4' k4
  have b4 := F4.binds (ps := ["tins", "line", "first", "last"]) fun _ _ _ _ _ _ us hl => match us, hl with | [_, _, _, _], _ => rfl
  have F5 := fun_mk (st := sRack) l5 c5' k5
  have b5 := F5.binds (ps := ["tins", "per", "rack"]) fun _ _ _ _ _ _ us hl => match us, hl with | [_, _, _], _ => rfl
  have F6 := fun_mk (st := sStays) l6 c6' k6
  have b6 := F6.binds (ps := ["tins", "racked", "first", "last"]) fun _ _ _ _ _ _ us hl => match us, hl with | [_, _, _, _], _ => rfl
  have F7 := fun_mk (st := sTinsAt) l7 c7' k7
  have b7 := F7.binds (ps := ["batch", "place", "first", "last"]) fun _ _ _ _ _ _ us hl => match us, hl with | [_, _, _, _], _ => rfl
  have F8 := fun_mk (st := sInRacks) l8 c8' k8
  have b8 := F8.binds (ps := ["batch", "place", "racks"]) fun _ _ _ _ _ _ us hl => match us, hl with | [_, _, _], _ => rfl
  have F9 := fun_mk (st := sReach1) l9 c9' k9
  have b9 := F9.binds (ps := ["batch", "fault"]) fun _ _ _ _ _ _ us hl => match us, hl with | [_, _], _ => rfl
  have F10 := fun_mk (st := sReached) l10 c10' k10
  have b10 := F10.binds (ps := ["batches", "faults"]) fun _ _ _ _ _ _ us hl => match us, hl with | [_, _], _ => rfl
  have F11 := fun_mk (st := sBegin) l11 c11' k11
  have b11 := F11.binds (ps := ["_law_script"]) fun _ _ _ _ _ _ us hl => match us, hl with | [_], _ => rfl
  have F12 := fun_mk (st := sTake) l12 c12' k12
  have b12 := F12.binds (ps := ["_law_state", "_law_many"]) fun _ _ _ _ _ _ us hl => match us, hl with | [_, _], _ => rfl
  have F13 := fun_mk (st := sSame) l13 c13' k13
  have b13 := F13.binds (ps := ["_law_found", "_law_due_here"]) fun _ _ _ _ _ _ us hl => match us, hl with | [_, _], _ => rfl
  have F14 := fun_mk (st := sNumber) l14 c14' k14
  have b14 := F14.binds (ps := ["_law_state", "_law_sort"]) fun _ _ _ _ _ _ us hl => match us, hl with | [_, _], _ => rfl
  have F15 := fun_mk (st := sNames) l15 c15' k15
  have b15 := F15.binds (ps := ["_law_state", "_law_many"]) fun _ _ _ _ _ _ us hl => match us, hl with | [_, _], _ => rfl
  have F16 := fun_mk (st := sMarks) l16 c16' k16
  have b16 := F16.binds (ps := ["_law_state", "_law_many"]) fun _ _ _ _ _ _ us hl => match us, hl with | [_, _], _ => rfl
  have F17 := fun_mk (st := sPass) l17 c17' k17
  have b17 := F17.binds (ps := ["_law_state", "_law_place", "_law_tins", "_law_great"]) fun _ _ _ _ _ _ us hl => match us, hl with | [_, _, _, _], _ => rfl
  have F18 := fun_mk (st := sBatch) l18 c18' k18
  have b18 := F18.binds (ps := ["_law_state", "_law_mark", "_law_places", "_law_great"]) fun _ _ _ _ _ _ us hl => match us, hl with | [_, _, _, _], _ => rfl
  have F19 := fun_mk (st := sLWin) l19 c19' k19
  have b19 := F19.binds (ps := ["_law_batch", "_law_place", "_law_tin"]) fun _ _ _ _ _ _ us hl => match us, hl with | [_, _, _], _ => rfl
  have F20 := fun_mk (st := sMeets) l20 c20' k20
  have b20 := F20.binds (ps := ["_law_batch", "_law_place", "_law_tin", "_law_first", "_law_last"]) fun _ _ _ _ _ _ us hl => match us, hl with | [_, _, _, _, _], _ => rfl
  have F21 := fun_mk (st := sLSet) l21 c21' k21
  have b21 := F21.binds (ps := ["_law_pairs"]) fun _ _ _ _ _ _ us hl => match us, hl with | [_], _ => rfl
  have F22 := fun_mk (st := sMin) l22 c22' k22
  have b22 := F22.binds (ps := ["_law_state", "_law_batch", "_law_place"]) fun _ _ _ _ _ _ us hl => match us, hl with | [_, _, _], _ => rfl
  have F23 := fun_mk (st := sHanded) l23 c23' k23
  have b23 := F23.binds (ps := ["_law_state", "_law_batch"]) fun _ _ _ _ _ _ us hl => match us, hl with | [_, _], _ => rfl
  have F24 := fun_mk (st := sLists) l24 c24' k24
  have b24 := F24.binds (ps := ["_law_thing"]) fun _ _ _ _ _ _ us hl => match us, hl with | [_], _ => rfl
  have F25 := fun_mk (st := sFaultsBy) l25 c25' k25
  have b25 := F25.binds (ps := ["_law_state", "_law_batches", "_law_places", "_law_many"]) fun _ _ _ _ _ _ us hl => match us, hl with | [_, _, _, _], _ => rfl
  have F26 := fun_mk (st := sRackOf) l26 c26' k26
  have b26 := F26.binds (ps := ["_law_batch", "_law_place", "_law_tin"]) fun _ _ _ _ _ _ us hl => match us, hl with | [_, _, _], _ => rfl
  have F27 := fun_mk (st := sIsReached) l27 c27' k27
  have b27 := F27.binds (ps := ["_law_batch", "_law_fault", "_law_tin"]) fun _ _ _ _ _ _ us hl => match us, hl with | [_, _, _], _ => rfl
  have F28 := fun_mk (st := sDueR) l28 c28' k28
  have b28 := F28.binds (ps := ["_law_batches", "_law_faults"]) fun _ _ _ _ _ _ us hl => match us, hl with | [_, _], _ => rfl
  have F29 := fun_mk (st := sLaw) l29 c29' k29
  have m_LINE : ∃ u, mg "LINE" = some u ∧ RelV (.str "line") u := ⟨_, PySem.W.mg_of X G zc_LINE, ⟨_, rfl⟩⟩
  have m_all := PySem.W.mg_none_of X G z_all
  have m_any := PySem.W.mg_none_of X G z_any
  have m_bool := PySem.W.mg_none_of X G z_bool
  have m_divmod := PySem.W.mg_none_of X G z_divmod
  have m_enumerate := PySem.W.mg_none_of X G z_enumerate
  have m_int := PySem.W.mg_none_of X G z_int
  have m_isinstance := PySem.W.mg_none_of X G z_isinstance
  have m_len := PySem.W.mg_none_of X G z_len
  have m_list := PySem.W.mg_none_of X G z_list
  have m_max := PySem.W.mg_none_of X G z_max
  have m_min := PySem.W.mg_none_of X G z_min
  have m_range := PySem.W.mg_none_of X G z_range
  have m_sorted := PySem.W.mg_none_of X G z_sorted
  have m_str := PySem.W.mg_none_of X G z_str
  have m_tuple := PySem.W.mg_none_of X G z_tuple
  have m_zip := PySem.W.mg_none_of X G z_zip
  refine ⟨PySem.W.fnOf "law" "law" (defArgs sLaw) (defBody sLaw) (defScope sLaw) .none kV29 dc29 pm29 an29 cd29 ct29, [], spLaw K, (fun p hp => nomatch hp), (fun p hp => nomatch hp), (fun p hp => nomatch hp), fun s v => .of_eq rfl, fun H a ns hl _ hH hS => ?_, fun base _ _ TB => ?_⟩
  ·  exact ⟨a, ns, rfl, hS, hl, fun _ => rfl⟩
  · have g := fun {x : Str} {f : Addr} (a : PySem.W.nsIn K mainGlobals x = some (some (.ref f))) => PySem.W.mg_of X G a
    have CT : Cal l.prog w K mg base 1 "_law_take" ["_law_state", "_law_many"] spTake := ⟨_, _, ok_take F12 m_len m_divmod, g a12, k12, b12⟩
    have CB : Cal l.prog w K mg base 1 "_law_begin" ["_law_script"] (spBegin K) := ⟨_, _, ok_begin F11 m_list, g a11, k11, b11⟩
    have CU : Cal l.prog w K mg base 2 "_law_number" ["_law_state", "_law_sort"] spNumber := ⟨_, _, ok_number F14 CT m_range, g a14, k14, b14⟩
    have CN : Cal l.prog w K mg base 2 "_law_names" ["_law_state", "_law_many"] spNames := ⟨_, _, ok_Names F15 CT m_range m_len, g a15, k15, b15⟩
    have CM : Cal l.prog w K mg base 2 "_law_marks_by" ["_law_state", "_law_many"] spNames := ⟨_, _, ok_Marks F16 CT m_range m_len, g a16, k16, b16⟩
    have CP : Cal l.prog w K mg base 3 "_law_pass" ["_law_state", "_law_place", "_law_tins", "_law_great"] spPass := ⟨_, _, ok_pass F17 CT CU m_range, g a17, k17, b17⟩
    have CK : Cal l.prog w K mg base 4 "_law_batch_by" ["_law_state", "_law_mark", "_law_places", "_law_great"] spBatch := ⟨_, _, ok_batch F18 CT CU CP m_len, g a18, k18, b18⟩
    have CW : Cal l.prog w K mg base 1 "_law_window" ["_law_batch", "_law_place", "_law_tin"] spWin := ⟨_, _, ok_lwin F19, g a19, k19, b19⟩
    have CA : Cal l.prog w K mg base 1 "pass_at" ["batch", "place"] spPassAt := ⟨_, _, ok_passat F2, g a2, k2, b2⟩
    have CH : Cal l.prog w K mg base 2 "_law_handed" ["_law_state", "_law_batch"] spHanded := ⟨_, _, ok_handed F23 CT m_list m_tuple, g a23, k23, b23⟩
    have E0_ : Cal l.prog w K mg base 1 "_law_same" ["_law_found", "_law_due_here"] (spSame 0) := ⟨_, _, ok_same0 F13 m_isinstance m_list m_tuple m_bool m_str m_int, g a13, k13, b13⟩
    have E1_ : Cal l.prog w K mg base 2 "_law_same" ["_law_found", "_law_due_here"] (spSame 1) := ⟨_, _, ok_sameS F13 E0_ m_isinstance m_list m_tuple m_bool m_str m_int m_len m_all m_zip, g a13, k13, b13⟩
    have E2_ : Cal l.prog w K mg base 3 "_law_same" ["_law_found", "_law_due_here"] (spSame 2) := ⟨_, _, ok_sameS F13 E1_ m_isinstance m_list m_tuple m_bool m_str m_int m_len m_all m_zip, g a13, k13, b13⟩
    have E3_ : Cal l.prog w K mg base 4 "_law_same" ["_law_found", "_law_due_here"] (spSame 3) := ⟨_, _, ok_sameS F13 E2_ m_isinstance m_list m_tuple m_bool m_str m_int m_len m_all m_zip, g a13, k13, b13⟩
    have E4_ : Cal l.prog w K mg base 5 "_law_same" ["_law_found", "_law_due_here"] (spSame 4) := ⟨_, _, ok_sameS F13 E3_ m_isinstance m_list m_tuple m_bool m_str m_int m_len m_all m_zip, g a13, k13, b13⟩
    have L0_ : Cal l.prog w K mg base 1 "_law_lists" ["_law_thing"] (spLists 0) := ⟨_, _, ok_lists0 F24 m_isinstance m_list m_tuple, g a24, k24, b24⟩
    have L1_ : Cal l.prog w K mg base 2 "_law_lists" ["_law_thing"] (spLists 1) := ⟨_, _, ok_listsS F24 L0_ m_isinstance m_list m_tuple, g a24, k24, b24⟩
    have L2_ : Cal l.prog w K mg base 3 "_law_lists" ["_law_thing"] (spLists 2) := ⟨_, _, ok_listsS F24 L1_ m_isinstance m_list m_tuple, g a24, k24, b24⟩
    have L3_ : Cal l.prog w K mg base 4 "_law_lists" ["_law_thing"] (spLists 3) := ⟨_, _, ok_listsS F24 L2_ m_isinstance m_list m_tuple, g a24, k24, b24⟩
    have L4_ : Cal l.prog w K mg base 5 "_law_lists" ["_law_thing"] (spLists 4) := ⟨_, _, ok_listsS F24 L3_ m_isinstance m_list m_tuple, g a24, k24, b24⟩
    have L5_ : Cal l.prog w K mg base 6 "_law_lists" ["_law_thing"] (spLists 5) := ⟨_, _, ok_listsS F24 L4_ m_isinstance m_list m_tuple, g a24, k24, b24⟩
    have L6_ : Cal l.prog w K mg base 7 "_law_lists" ["_law_thing"] (spLists 6) := ⟨_, _, ok_listsS F24 L5_ m_isinstance m_list m_tuple, g a24, k24, b24⟩
    have L7_ : Cal l.prog w K mg base 8 "_law_lists" ["_law_thing"] (spLists 7) := ⟨_, _, ok_listsS F24 L6_ m_isinstance m_list m_tuple, g a24, k24, b24⟩
    have SO : Cal l.prog w K mg base 1 "set_of" ["pairs"] (spSetOf K) := ⟨_, _, ok_setof F0 m_sorted m_max, g a0, k0, b0⟩
    have CC : Cal l.prog w K mg base 1 "count_ahead" ["tins", "line", "minute"] spCnt := ⟨_, _, ok_cnt F3 m_min, g a3, k3, b3⟩
    have OL : Cal l.prog w K mg base 2 "tins_on_line" ["tins", "line", "first", "last"] spOnLine := ⟨_, _, ok_onLine F4 CC SO, g a4, k4, b4⟩
    have CR : Cal l.prog w K mg base 1 "tins_of_rack" ["tins", "per", "rack"] spRack := ⟨_, _, ok_rack F5 m_min, g a5, k5, b5⟩
    have TS : Cal l.prog w K mg base 2 "tins_in_stays" ["tins", "racked", "first", "last"] spStays := ⟨_, _, ok_stays F6 CR SO m_enumerate, g a6, k6, b6⟩
    have TA : Cal l.prog w K mg base 3 "tins_at" ["batch", "place", "first", "last"] spTinsAt := ⟨_, _, ok_tinsAt F7 CA OL TS m_LINE, g a7, k7, b7⟩
    have LS : Cal l.prog w K mg base 1 "_law_set_of" ["_law_pairs"] spLSet := ⟨_, _, ok_lset F21 m_sorted m_max, g a21, k21, b21⟩
    have ME : Cal l.prog w K mg base 2 "_law_meets" ["_law_batch", "_law_place", "_law_tin", "_law_first", "_law_last"] spMeets := ⟨_, _, ok_meets F20 CW, g a20, k20, b20⟩
    have MI : Cal l.prog w K mg base 2 "_law_minutes" ["_law_state", "_law_batch", "_law_place"] spMin := ⟨_, _, ok_min F22 CT CW m_range m_max, g a22, k22, b22⟩
    have BO : Cal l.prog w K mg base 1 "both_of" ["one", "other"] (spBoth K) := ⟨_, _, ok_both F1 m_len m_max m_min, g a1, k1, b1⟩
    have IR : Cal l.prog w K mg base 2 "tins_in_racks" ["batch", "place", "racks"] spInRacks := ⟨_, _, ok_inRacks F8 CA CR SO m_LINE, g a8, k8, b8⟩
    have R1 : Cal l.prog w K mg base 4 "tins_reached" ["batch", "fault"] spReach1 := ⟨_, _, ok_reach1 F9 TA IR BO, g a9, k9, b9⟩
    have RE : Cal l.prog w K mg base 5 "reached" ["batches", "faults"] spReached := ⟨_, _, ok_reached F10 R1 SO, g a10, k10, b10⟩
    have FB : Cal l.prog w K mg base 3 "_law_faults_by" ["_law_state", "_law_batches", "_law_places", "_law_many"] spFaultsBy := ⟨_, _, ok_faultsBy F25 (Nat.le_refl 2) CT CU MI m_range m_len, g a25, k25, b25⟩
    have RO : Cal l.prog w K mg base 1 "_law_rack_of" ["_law_batch", "_law_place", "_law_tin"] spRackOf := ⟨_, _, ok_rackOf F26, g a26, k26, b26⟩
    have IS : Cal l.prog w K mg base 3 "_law_is_reached" ["_law_batch", "_law_fault", "_law_tin"] spIsReached := ⟨_, _, ok_isReached F27 ME RO, g a27, k27, b27⟩
    have DR : Cal l.prog w K mg base 4 "_law_due" ["_law_batches", "_law_faults"] spDueR := ⟨_, _, ok_dueR F28 IS LS m_range m_any, g a28, k28, b28⟩
    exact ok_law F29 CB CT CN CM CK FB CH DR RE E4_ L7_ m_range m_list m_tuple
end TK
open PySem PySem.W PyProof.Rows
set_option maxHeartbeats 0 in
theorem PySem.Challenge.cw_tinrecall_k21_reached_by_trying_all_holds : PySem.Challenge.rw_tinrecall_k21_reached_by_trying_all.Holds := by
  w_on; o_law; k_head; (case hw => w_witness2)
  k_fill
  refine TK.law_end (l := PySem.Challenge.rw_tinrecall_k21_reached_by_trying_all) (k := 9) rfl rfl ⟨rfl, by decide, by decide⟩ (fun w h Y => PySem.W.kIn_of Y) ?made
  case made =>
    intro w mg f h KX G hmg TT
    refine' TK.all_mk KX G hmg TT ?a0 ?l0 ?c0 ?k0 ?a1 ?l1 ?c1 ?k1 ?a2 ?l2 ?c2 ?k2 ?a3 ?l3 ?c3 ?k3 ?a4 ?l4 ?c4 ?k4 ?a5 ?l5 ?c5 ?k5 ?a6 ?l6 ?c6 ?k6 ?a7 ?l7 ?c7 ?k7 ?a8 ?l8 ?c8 ?k8 ?a9 ?l9 ?c9 ?k9 ?a10 ?l10 ?c10 ?k10 ?a11 ?l11 ?c11 ?k11 ?a12 ?l12 ?c12 ?k12 ?a13 ?l13 ?c13 ?k13 ?a14 ?l14 ?c14 ?k14 ?a15 ?l15 ?c15 ?k15 ?a16 ?l16 ?c16 ?k16 ?a17 ?l17 ?c17 ?k17 ?a18 ?l18 ?c18 ?k18 ?a19 ?l19 ?c19 ?k19 ?a20 ?l20 ?c20 ?k20 ?a21 ?l21 ?c21 ?k21 ?a22 ?l22 ?c22 ?k22 ?a23 ?l23 ?c23 ?k23 ?a24 ?l24 ?c24 ?k24 ?a25 ?l25 ?c25 ?k25 ?a26 ?l26 ?c26 ?k26 ?a27 ?l27 ?c27 ?k27 ?a28 ?l28 ?c28 ?k28 ?a29 ?l29 ?c29 ?k29 ?zc_LINE ?z_all ?z_any ?z_bool ?z_divmod ?z_enumerate ?z_int ?z_isinstance ?z_len ?z_list ?z_max ?z_min ?z_range ?z_sorted ?z_str ?z_tuple ?z_zip
    (case a0 => k_is); (case l0 => k_is); (case c0 => k_is); (case k0 => k_is)
    (case a1 => k_is); (case l1 => k_is); (case c1 => k_is); (case k1 => k_is)
    (case a2 => k_is); (case l2 => k_is); (case c2 => k_is); (case k2 => k_is)
    (case a3 => k_is); (case l3 => k_is); (case c3 => k_is); (case k3 => k_is)
    (case a4 => k_is); (case l4 => k_is); (case c4 => k_is); (case k4 => k_is)
    (case a5 => k_is); (case l5 => k_is); (case c5 => k_is); (case k5 => k_is)
    (case a6 => k_is); (case l6 => k_is); (case c6 => k_is); (case k6 => k_is)
    (case a7 => k_is); (case l7 => k_is); (case c7 => k_is); (case k7 => k_is)
    (case a8 => k_is); (case l8 => k_is); (case c8 => k_is); (case k8 => k_is)
    (case a9 => k_is); (case l9 => k_is); (case c9 => k_is); (case k9 => k_is)
    (case a10 => k_is); (case l10 => k_is); (case c10 => k_is); (case k10 => k_is)
    (case a11 => k_is); (case l11 => k_is); (case c11 => k_is); (case k11 => k_is)
    (case a12 => k_is); (case l12 => k_is); (case c12 => k_is); (case k12 => k_is)
    (case a13 => k_is); (case l13 => k_is); (case c13 => k_is); (case k13 => k_is)
    (case a14 => k_is); (case l14 => k_is); (case c14 => k_is); (case k14 => k_is)
    (case a15 => k_is); (case l15 => k_is); (case c15 => k_is); (case k15 => k_is)
    (case a16 => k_is); (case l16 => k_is); (case c16 => k_is); (case k16 => k_is)
    (case a17 => k_is); (case l17 => k_is); (case c17 => k_is); (case k17 => k_is)
    (case a18 => k_is); (case l18 => k_is); (case c18 => k_is); (case k18 => k_is)
    (case a19 => k_is); (case l19 => k_is); (case c19 => k_is); (case k19 => k_is)
    (case a20 => k_is); (case l20 => k_is); (case c20 => k_is); (case k20 => k_is)
    (case a21 => k_is); (case l21 => k_is); (case c21 => k_is); (case k21 => k_is)
    (case a22 => k_is); (case l22 => k_is); (case c22 => k_is); (case k22 => k_is)
    (case a23 => k_is); (case l23 => k_is); (case c23 => k_is); (case k23 => k_is)
    (case a24 => k_is); (case l24 => k_is); (case c24 => k_is); (case k24 => k_is)
    (case a25 => k_is); (case l25 => k_is); (case c25 => k_is); (case k25 => k_is)
    (case a26 => k_is); (case l26 => k_is); (case c26 => k_is); (case k26 => k_is)
    (case a27 => k_is); (case l27 => k_is); (case c27 => k_is); (case k27 => k_is)
    (case a28 => k_is); (case l28 => k_is); (case c28 => k_is); (case k28 => k_is)
    (case a29 => k_is); (case l29 => k_is); (case c29 => k_is); (case k29 => k_is)
    (case zc_LINE => k_is)
    (case z_all => k_is); (case z_any => k_is); (case z_bool => k_is); (case z_divmod => k_is); (case z_enumerate => k_is); (case z_int => k_is); (case z_isinstance => k_is); (case z_len => k_is); (case z_list => k_is); (case z_max => k_is); (case z_min => k_is); (case z_range => k_is); (case z_sorted => k_is); (case z_str => k_is); (case z_tuple => k_is); (case z_zip => k_is)

