import PyProof.Rows.All
import Wide.All
import OpenK.AllK
import Wide.FinOn
import HandS.ForMost
import HandS.WideBits
import HandS.IsInst
import HandS.Style
import HandS.AnyAll
import HandS.Nested
import HandS.Walk
import HandS.Evl
import HandS.EndTab
import HandS.SortInts
import HandS.SortRule
import HandS.Conv
import HandS.Star
import HandS.Codes
import HandS.Wide
import HandS.Zip
import HandS.More
import KE.KDictPairs
import KE.GoesMore
import KE.GoesEnum
import PyProof.SumAny
import PyProof.WalksPairs
import PyProof.GenCompT
import PySem.Challenge.RW_tinrecall_k47_widths_and_what_is_missed
set_option Elab.async false
set_option linter.all false
set_option maxRecDepth 100000
set_option maxHeartbeats 5000000
namespace GP
open PySem PySem.Spec PyProof.Rows L2
/-- the values vs are tuples that hold the pairs ps -/
def Prs (H : Hp) (vs : List V) (ps : List (Int × Int)) : Prop := vs.length = ps.length ∧ ∀ (i : Nat) p, ps[i]? = some p → ∃ a, vs[i]? = some (.ref a) ∧ H a = some (.tup [.int p.1, .int p.2])
/-- the sum of g over the pairs -/
def sumP (g : Int → Int → Int) (ps : List (Int × Int)) : Int := (ps.map fun p => g p.1 p.2).sum
def anyP (g : Int → Int → Bool) (ps : List (Int × Int)) : Bool := ps.any fun p => g p.1 p.2
end GP

namespace TK
open PySem PySem.Spec PyProof.Rows L2 GP
def topS (i : Nat) : Stmt := PySem.Challenge.pw_tinrecall_k47_widths_and_what_is_missed.main.body.getD i (.Pass ⟨0, 0, 0, 0⟩)

/-- the draws' state: its dict at d, its cells at c -/
structure StAt (H : Hp) (d c : Addr) (t : Int) : Prop where
  dict : H d = some (.dK [(.inr "cells", .ref c), (.inr "turn", .int t)])
  cells : ∃ cs : List Int, H c = some (.lst (cs.map V.int)) ∧ cs ≠ [] ∧ cs.length ≤ 63
  pos : 0 ≤ t
theorem StAt.ne {H : Hp} {d c : Addr} {t : Int} (h : StAt H d c t) : d ≠ c := by
  obtain ⟨cs, hc, _⟩ := h.cells
  exact ne_of h.dict hc (by intro z; cases z)
/-- all but the state is as it was -/
def Kp (d c : Addr) (H H' : Hp) : Prop := ∀ b o, b ≠ d → b ≠ c → H b = some o → H' b = some o
theorem Kp.refl (d c : Addr) (H : Hp) : Kp d c H H := fun _ _ _ _ h => h
theorem Kp.trans {d c : Addr} {H H1 H2 : Hp} (a : Kp d c H H1) (b : Kp d c H1 H2) : Kp d c H H2 := fun x o h1 h2 h => b x o h1 h2 (a x o h1 h2 h)

theorem ixN_of {n j : Nat} (h : j < n) : ixN n (j : Int) = some j := by
  unfold ixN
  rw [if_pos (Int.natCast_nonneg j), if_pos (by omega), Int.toNat_natCast]
def spTake : Sp := fun vs H Q _ => ∃ (d c : Addr) (t m : Int), vs = [.ref d, .int m] ∧ StAt H d c t ∧ t < 2 ^ 60 ∧ 0 < m ∧ m.natAbs < 2 ^ 250 ∧
  ∀ r H', 0 ≤ r → r < m → StAt H' d c (t + 1) → Kp d c H H' → Q (.int r) H'

abbrev sTake : Stmt := topS 5
theorem scTake : FnScope ["_law_state", "_law_many", "_law_turn", "_law_place", "_law_cell", "_law_digit", "_law_mixed"] ["_law_state", "_law_many"] (defScope sTake) := ⟨rfl, rfl, rfl, by decide +kernel, rfl, by decide +kernel, by decide +kernel⟩
section
variable {K : PySem.W.Frag} {mg : Str → Option Value} {P : Program} {w : World} {base : Heap}
theorem ok_take {f : Addr} {fd : FuncData} {k : Nat} (F : Fun K "_law_take" "_law_take" sTake f fd) (ml : mg "len" = none) (md : mg "divmod" = none) : FnOk P w K mg base CX0 (k + 1) f fd ["_law_state", "_law_many"] spTake := by
  refine F.ok scTake (fun vs H Q E h => ?_) (fun cdv A outer s H vs Q E hr h => ?_)
  · obtain ⟨d, c, t, m, rfl, _⟩ := h
    rfl
  · obtain ⟨d, c, t, m, rfl, hS, ht, hm, hm2, q⟩ := h
    refine ⟨_, pss_cons (ps_set (i := 2) scTake.nd rfl (.inl rfl) (pe_op op_add (pe_dget (hu_of hr) (pv 0) pe_str (fun _ _ => rfl)) pe_int))
      (pss_cons (ps_dput (hu_of hr) (pv 0) pe_str (pv 2) rfl)
      (pss_cons (ps_set (i := 3) scTake.nd rfl (.inl rfl) (pe_op op_mod (pv 2) (pe_callB call_len_seq (by rfl) ml PySem.boot_len (pa_cons (pe_dget (hu_of hr) (pv 0) pe_str (fun _ _ => rfl)) pa_nil))))
      (pss_cons (ps_set (i := 4) scTake.nd rfl (.inl rfl) (pe_ix ix_list (pe_dget (hu_of hr) (pv 0) pe_str (fun _ _ => rfl)) (pv 3) (fun _ _ => rfl)))
      (pss_cons (ps_if (pt_cmpR op_ge (pv 4) (pe_op op_pow pe_int pe_int) (nomark _))
        (pss_cons (ps_asg (pe_callB call_divmodW (by rfl) md (by decide +kernel) (pa_cons (pv 4) (pa_cons (pv 1) pa_nil)))
            (pg_tup rfl (pgs_cons (pg_sub (pe_dget (hu_of hr) (pv 0) pe_str (fun _ _ => rfl)) (pv 3) set_list) (pgs_cons (pg_name (i := 5) scTake.nd rfl (.inl rfl)) pgs_nil))))
          (pss_one (ps_ret (pv 5)))) pss_nil)
      (pss_cons (ps_set (i := 6) scTake.nd rfl (.inl rfl) (pe_op op_mod (pe_op op_mul (pe_op op_add (pe_op op_add (pe_op op_mod (pv 4) pe_int) (pe_op op_mul (pe_op op_mul (pv 2) (pv 2)) pe_int)) pe_int) pe_int) pe_int))
      (pss_cons (ps_set (i := 6) scTake.nd rfl (.inl rfl) (pe_op op_mod (pe_op op_mul (pv 6) (pv 6)) pe_int))
      (pss_one (ps_ret (pe_op op_mod (pe_op op_fdiv (pe_op op_mod (pe_op op_mul (pe_op op_add (pv 6) (pe_op op_mul (pv 2) pe_int)) pe_int) pe_int) pe_int) (pv 1)))))))))), ?_⟩
    obtain ⟨hd, ⟨cs, hc, hne, hlen⟩, hpos⟩ := hS
    have ndc : d ≠ c := ne_of hd hc (by intro z; cases z)
    -- turn = state['turn'] + 1
    refine ⟨.ref d, rfl, d, .int t, rfl, DGet.k (k := Sum.inr "turn") hd, t, 1, rfl, rfl, ?_⟩
    -- state['turn'] = turn
    refine ⟨_, rfl, .ref d, rfl, d, _, rfl, DPut.k (k := Sum.inr "turn") hd (by show 2 < sizeLine; decide), ?_⟩
    have hput : putK [((.inr "cells" : Key), V.ref c), (.inr "turn", .int t)] (.inr "turn") (.int (t + 1)) = [(.inr "cells", .ref c), (.inr "turn", .int (t + 1))] := rfl
    rw [show (.int (t + 1) : V) = V.int (t + 1) from rfl] at *
    rw [hput]
    generalize hH1 : upd H d (.dK [((.inr "cells" : Key), V.ref c), (.inr "turn", .int (t + 1))]) = H1
    have hd1 : H1 d = some (.dK [(.inr "cells", .ref c), (.inr "turn", .int (t + 1))]) := by rw [← hH1]; exact upd_same
    have hc1 : H1 c = some (.lst (cs.map V.int)) := by rw [← hH1, upd_ne ndc.symm]; exact hc
    have k1 : Kp d c H H1 := fun b o h1 h2 e => by rw [← hH1, upd_ne h1]; exact e
    have hlp : 0 < cs.length := List.length_pos_iff.mpr hne
    -- place = turn % len(state['cells'])
    refine ⟨_, rfl, .ref d, rfl, d, .ref c, rfl, DGet.k (k := Sum.inr "cells") hd1, c, _, rfl, .inl (SqL.of hc1), _, _, rfl, rfl, (by show (0 : Int) < ((cs.map V.int).length : Int); rw [List.length_map]; omega), ?_⟩
    dsimp only
    rw [List.length_map]
    have hj0 : 0 ≤ (t + 1) % (cs.length : Int) := Int.emod_nonneg _ (by omega)
    have hj1 : (t + 1) % (cs.length : Int) < cs.length := Int.emod_lt_of_pos _ (by omega)
    obtain ⟨j, hj⟩ := Int.eq_ofNat_of_zero_le hj0
    have hjl : j < cs.length := by omega
    rw [hj]
    have gj : (cs.map V.int)[j]? = some (.int cs[j]) := by rw [List.getElem?_map, List.getElem?_eq_getElem hjl]; rfl
    -- cell = state['cells'][place]
    refine ⟨.ref d, rfl, d, .ref c, rfl, DGet.k (k := Sum.inr "cells") hd1, _, rfl, c, _, _, .int cs[j], rfl, rfl, SqL.of hc1, atI_nat gj, ?_⟩
    generalize cs[j] = x
    -- if cell >= 10 ** 18
    refine ⟨_, rfl, 10, 18, rfl, rfl, ⟨by decide, by decide, by decide⟩, _, _, rfl, rfl, _, rfl, ite2 (fun e => ?_) (fun e => ?_)⟩
    · have hdp : CDivP x m := ⟨hm, PyProof.noPylong_of_log2 (Nat.lt_trans (PySem.Flt.log2_lt_of (by decide) hm2) (by decide))⟩
      refine ⟨_, rfl, _, rfl, x, m, rfl, hdp, fun p hp => ?_⟩
      have npd : d ≠ p := ne_of_none hd1 hp
      have npc : c ≠ p := ne_of_none hc1 hp
      have hd2 : upd H1 p (.tup [.int (x / m), .int (x % m)]) d = some (.dK [(.inr "cells", .ref c), (.inr "turn", .int (t + 1))]) := by rw [upd_ne npd]; exact hd1
      have hc2 : upd H1 p (.tup [.int (x / m), .int (x % m)]) c = some (.lst (cs.map V.int)) := by rw [upd_ne npc]; exact hc1
      refine ⟨p, _, rfl, .inl (.inl upd_same), rfl, _, _, rfl, .ref d, rfl, d, .ref c, rfl, DGet.k (k := Sum.inr "cells") hd2, _, rfl, c, _, _, j, rfl, rfl, hc2, ixN_of (by rw [List.length_map]; exact hjl), _, _, rfl, rfl, ?_⟩
      refine ⟨_, rfl, ?_⟩
      refine q _ _ (Int.emod_nonneg _ (by omega)) (Int.emod_lt_of_pos _ hm) ⟨?_, ⟨cs.set j (x / m), ?_, ?_, ?_⟩, by omega⟩ ?_
      · rw [upd_ne ndc]; exact hd2
      · rw [upd_same, List.map_set]
      · intro z
        have z2 : (cs.set j (x / m)).length = 0 := by rw [z]; rfl
        rw [List.length_set] at z2
        omega
      · rw [List.length_set]; exact hlen
      · intro b o h1 h2 e
        rw [upd_ne h2, upd_ne (ne_of_none (k1 b o h1 h2 e) hp)]
        exact k1 b o h1 h2 e
    · have t1 : t + 1 < 2 ^ 61 := by omega
      -- mixed
      refine ⟨_, rfl, _, _, rfl, rfl, (show (0 : Int) < 2147483629 by decide), _, rfl, _, rfl, t + 1, t + 1, rfl, rfl, .inl ⟨by omega, by omega⟩, _, _, rfl, rfl, .inr ⟨by decide, by decide⟩, _, _, rfl, rfl, _, _, rfl, rfl, _, _, rfl, rfl, .inr ⟨by decide, by decide⟩, _, 2147483647, rfl, rfl, (show (0 : Int) < 2147483647 by decide), ?_⟩
      dsimp only
      generalize hy : ((x % 2147483629 + (t + 1) * (t + 1) * 7919 + 11) * 48271) = y
      have y0 : 0 ≤ y % 2147483647 := Int.emod_nonneg _ (by decide)
      have y1 : y % 2147483647 < 2147483647 := Int.emod_lt_of_pos _ (by decide)
      refine ⟨_, rfl, _, rfl, y % 2147483647, y % 2147483647, rfl, rfl, .inl ⟨by omega, by omega⟩, _, 2147483587, rfl, rfl, (show (0 : Int) < 2147483587 by decide), ?_⟩
      refine ⟨_, rfl, _, rfl, t + 1, 104729, rfl, rfl, .inr ⟨by decide, by decide⟩, _, _, rfl, rfl, _, _, rfl, rfl, .inr ⟨by decide, by decide⟩, _, 2147483629, rfl, rfl, (show (0 : Int) < 2147483629 by decide), _, 64, rfl, rfl, ⟨by decide, by decide⟩, _, rfl, _, m, rfl, rfl, hm, ?_⟩
      exact q _ _ (Int.emod_nonneg _ (by omega)) (Int.emod_lt_of_pos _ hm) ⟨hd1, ⟨cs, hc1, hne, hlen⟩, by omega⟩ k1
end

abbrev sBegin : Stmt := topS 4
theorem scBegin : FnScope ["_law_script", "_law_cells"] ["_law_script"] (defScope sBegin) := ⟨rfl, rfl, rfl, by decide +kernel, rfl, by decide +kernel, by decide +kernel⟩
theorem same_upd {H : Hp} {p : Addr} {o : HO} (h : H p = none) : Same H (upd H p o) := fun b x e => by
  rw [upd_ne (ne_of_none e h)]
  exact e
theorem cut_front (xs : List V) (m : Nat) : cutV xs none (some (m : Int)) = xs.take m := by
  unfold cutV
  rw [HT.sIx_none, HT.sIx_nat]
  show List.take (min m xs.length - 0) (xs.drop 0) = xs.take m
  rw [Nat.sub_zero, List.drop_zero]
  by_cases h : m ≤ xs.length
  · rw [Nat.min_eq_left h]
  · rw [Nat.min_eq_right (by omega), List.take_length, List.take_of_length_le (by omega)]
theorem dp_ints {K : PySem.W.Frag} {H : Hp} : ∀ ns : List Int, DpAll K H (ns.map V.int) (ns.map PyData.int)
  | [] => .nil
  | n :: r => .cons (.int n) (dp_ints r)
theorem lay_ints : ∀ ns : List Int, PyData.canLayAll0 (ns.map PyData.int) = true
  | [] => by simp only [List.map_nil, PyData.canLayAll0]
  | n :: r => by
    rw [List.map_cons, PyData.canLayAll0, lay_ints r]
    simp [PyData.canLay0]
theorem depth_ints : ∀ ns : List Int, PyData.depthAll (ns.map PyData.int) = 0
  | [] => by simp only [List.map_nil, PyData.depthAll]
  | n :: r => by
    rw [List.map_cons, PyData.depthAll, depth_ints r]
    simp [PyData.depth]
theorem shaped_ints (ns : List Int) : SeqAt.shaped (PyData.list (ns.map PyData.int)) = true := by
  unfold SeqAt.shaped
  rw [PyData.canLay0, lay_ints, PyData.depth, depth_ints]
  rfl
theorem eqv_nil (n : Int) (r : List Int) : PyData.eqv (PyData.list ((n :: r).map PyData.int)) (PyData.list []) = false := by
  simp [PyData.eqv, PyData.eqvAll]
theorem eqv_nil0 : PyData.eqv (PyData.list (([] : List Int).map PyData.int)) (PyData.list []) = true := by
  simp [PyData.eqv, PyData.eqvAll]
def spBegin (K : PySem.W.Frag) : Sp := fun vs H Q _ => ∃ (a : Addr) (ns : List Int), vs = [.ref a] ∧ SqL K H a (ns.map V.int) ∧ ns.length ≤ 63 ∧
  ∀ d c H', Same H H' → H d = none → H c = none → StAt H' d c 0 → Q (.ref d) H'
section
variable {K : PySem.W.Frag} {mg : Str → Option Value} {P : Program} {w : World} {base : Heap}
theorem ok_begin {f : Addr} {fd : FuncData} {k : Nat} (F : Fun K "_law_begin" "_law_begin" sBegin f fd) (ml : mg "list" = none) : FnOk P w K mg base CX0 (k + 1) f fd ["_law_script"] (spBegin K) := by
  refine F.ok scBegin (fun vs H Q E h => ?_) (fun cdv A outer s H vs Q E hr h => ?_)
  · obtain ⟨a, ns, rfl, _⟩ := h
    rfl
  · obtain ⟨a, ns, rfl, hS, hlen, q⟩ := h
    refine ⟨_, pss_cons (ps_set (i := 1) scBegin.nd rfl (.inl rfl) (pe_callTy call_list_of (by rfl) ml (by decide +kernel) (pa_cons (pe_slice sl_list (pv 0) po_none (po_some pe_int)) pa_nil)))
      (pss_cons (ps_if (pt_cmpR (op_eqD hr.units) (pv 1) (pe_lst pa_nil) (nomark _)) (pss_one (ps_set (i := 1) scBegin.nd rfl (.inl rfl) (pe_lst (pa_cons pe_int pa_nil)))) pss_nil)
      (pss_one (ps_ret (pe_disp (pps_cons pe_str (pv 1) (pps_cons pe_str pe_int pps_nil)) (by rfl) (by rfl) (fun z => by cases z) (by decide))))), ?_⟩
    -- the end: a dict of what stands at the cells' place
    have fin : ∀ (H1 : Hp) (c : Addr) (cs : List Int) (y : Option V), Same H H1 → H c = none → H1 c = some (.lst (cs.map V.int)) → cs ≠ [] → cs.length ≤ 63 →
        (tRet (tDisp [(tC (.str "cells"), tVar 1), (tC (.str "turn"), tC (.int 0))])) { nx := fun _ H' => Q .non H', rt := Q } [some (.ref a), some (.ref c)] H1 := by
      intro H1 c cs y s1 nc ec hne hl
      refine fun d nd => ⟨_, rfl, upd_same, [(.inr "cells", .ref c), (.inr "turn", .int 0)], rfl, (by show 2 ≤ 15; decide), ?_⟩
      have ndc : c ≠ d := ne_of_none ec nd
      refine q d c _ (fun b o e => ?_) (s1.free nd) nc ⟨?_, ⟨cs, ?_, hne, hl⟩, by decide⟩
      · have nb : b ≠ d := ne_of_none (s1 b o e) nd
        rw [upd_ne nb, upd_ne nb]
        exact s1 b o e
      · exact upd_same
      · rw [upd_ne ndc, upd_ne ndc]
        exact ec
    refine ⟨.ref a, rfl, 63, rfl, a, ns.map V.int, rfl, hS, fun p np => ?_⟩
    have s1 : Same H (upd H p (.lst (cutV (ns.map V.int) none (some 63)))) := same_upd np
    refine ⟨p, _, rfl, .inl (SqL.of upd_same), fun l nl => ?_⟩
    have s2 := s1.trans (same_upd (o := .lst (cutV (ns.map V.int) none (some 63))) nl)
    have ecut : cutV (ns.map V.int) none (some 63) = ns.map V.int := by
      have e := cut_front (ns.map V.int) 63
      have e2 : cutV (ns.map V.int) none (some 63) = (ns.map V.int).take 63 := e
      rw [e2, List.take_of_length_le (by rw [List.length_map]; exact hlen)]
    have el : upd (upd H p (.lst (cutV (ns.map V.int) none (some 63)))) l (.lst (cutV (ns.map V.int) none (some 63))) l = some (.lst (ns.map V.int)) := by
      rw [upd_same, ecut]
    revert s2 el
    generalize upd (upd H p (.lst (cutV (ns.map V.int) none (some 63)))) l (.lst (cutV (ns.map V.int) none (some 63))) = H2
    intro s2 el
    have nlH : H l = none := s1.free nl
    -- if cells == []
    refine ⟨.ref l, rfl, Nat.zero_le _, fun z nz => ?_⟩
    have s3 := s2.trans (same_upd (o := .lst []) nz)
    have nlz : l ≠ z := ne_of_none el nz
    have el3 : upd H2 z (.lst []) l = some (.lst (ns.map V.int)) := by rw [upd_ne nlz]; exact el
    refine ⟨.list (ns.map PyData.int), .list [], .lst (SqL.of el3) (dp_ints ns), .lst (SqL.of upd_same) .nil, shaped_ints ns, shaped_ints [], ?_⟩
    cases ns with
    | nil =>
      refine ⟨true, by rw [eqv_nil0], iteT ?_⟩
      refine ⟨(by show 1 ≤ sizeLine; decide), fun c nc => ?_⟩
      exact fin _ c [_] none (s3.trans (same_upd nc)) (s3.free nc) upd_same (by simp) (by decide)
    | cons n r =>
      refine ⟨false, by rw [eqv_nil], iteF ?_⟩
      exact fin _ l (n :: r) none s3 nlH el3 (by simp) hlen
end

/-- a def of the text that keeps a promise, as its callers see it -/
def Cal (P : Program) (w : World) (K : PySem.W.Frag) (mg : Str → Option Value) (base : Heap) (k : Nat) (x : Str) (ps : List Str) (sp : Sp) : Prop :=
  ∃ f fd, FnOk P w K mg base CX0 k f fd ps sp ∧ mg x = some (.ref f) ∧ PySem.W.keepIn K (.ref f) = true ∧ Binds K fd ps []
theorem pe_own {X : Cx} {k : Nat} {x : Str} {ps : List Str} {sp : Sp} {e : Expr} {es : List Expr} {t : TA} {p pos : Pos} (C : Cal X.prog X.w X.K X.mg X.base k x ps sp) (hr : Room k X.A) (hg : Gl X x) (ha : PA X (e :: es) t)
    (dbg : (x == ("__debug__" : Str)) = false := by decide) (one : starEach (e :: es) X.env = (false, eval e X.env) :: starEach es X.env := by rfl) (star : (backTo pos (starEach es X.env)).any (·.1) = false := by rfl) :
    PE X (.Call (.Name x p) (e :: es) [] pos) (tCall sp [] E0 t) := by
  obtain ⟨f, fd, F, hm, hk, hb⟩ := C
  exact pe_call F hr hg hm hk hb .nil pass0 ha dbg one star
theorem StAt.same {H H' : Hp} {d c : Addr} {t : Int} (h : StAt H d c t) (s : Same H H') : StAt H' d c t :=
  ⟨s _ _ h.dict, let ⟨cs, e, r⟩ := h.cells; ⟨cs, s _ _ e, r⟩, h.pos⟩
theorem Kp.same {H H' : Hp} (d c : Addr) (s : Same H H') : Kp d c H H' := fun b o _ _ e => s b o e
/-- what is made behind the state stays -/
theorem Kp.at {H H' : Hp} {d c a : Addr} {t : Int} {o : HO} (k : Kp d c H H') (S : StAt H d c t) (e : H a = some o) (h1 : ∀ kvs, o ≠ .dK kvs) (h2 : ∀ ns : List Int, o ≠ .lst (ns.map V.int)) : H' a = some o := by
  obtain ⟨cs, ec, _⟩ := S.cells
  refine k a o (fun z => ?_) (fun z => ?_) e
  · rw [z, S.dict] at e
    exact h1 _ (Option.some.inj e).symm
  · rw [z, ec] at e
    exact h2 _ (Option.some.inj e).symm
theorem StAt.upd {H : Hp} {d c l : Addr} {t : Int} {o : HO} (S : StAt H d c t) (h1 : l ≠ d) (h2 : l ≠ c) : StAt (L2.upd H l o) d c t := by
  refine ⟨by rw [upd_ne h1.symm]; exact S.dict, ?_, S.pos⟩
  obtain ⟨cs, ec, r⟩ := S.cells
  exact ⟨cs, by rw [upd_ne h2.symm]; exact ec, r⟩

theorem _root_.GP.Prs.same {H H' : Hp} {vs : List V} {ps : List (Int × Int)} (h : Prs H vs ps) (s : Same H H') : Prs H' vs ps :=
  ⟨h.1, fun i p e => let ⟨a, e1, e2⟩ := h.2 i p e; ⟨a, e1, s _ _ e2⟩⟩
theorem _root_.GP.Prs.kp {H H' : Hp} {d c : Addr} {t : Int} {vs : List V} {ps : List (Int × Int)} (h : Prs H vs ps) (S : StAt H d c t) (k : Kp d c H H') : Prs H' vs ps :=
  ⟨h.1, fun i p e => let ⟨a, e1, e2⟩ := h.2 i p e; ⟨a, e1, k.at S e2 (fun _ z => nomatch z) (fun _ z => nomatch z)⟩⟩
theorem _root_.GP.Prs.upd_lst {H : Hp} {l : Addr} {xs : List V} {o : HO} {vs : List V} {ps : List (Int × Int)} (h : Prs H vs ps) (hl : H l = some (.lst xs)) : Prs (upd H l o) vs ps :=
  ⟨h.1, fun i p e => let ⟨a, e1, e2⟩ := h.2 i p e; ⟨a, e1, by rw [upd_ne (ne_of e2 hl (fun z => nomatch z))]; exact e2⟩⟩
theorem _root_.GP.Prs.nil {H : Hp} : Prs H [] [] := ⟨rfl, fun i p e => by simp at e⟩
theorem _root_.GP.Prs.snoc {H : Hp} {a : Addr} {x y : Int} {vs : List V} {ps : List (Int × Int)} (h : Prs H vs ps) (e : H a = some (.tup [.int x, .int y])) : Prs H (vs ++ [.ref a]) (ps ++ [(x, y)]) := by
  refine ⟨by simp [h.1], fun i p ep => ?_⟩
  by_cases hi : i < ps.length
  · rw [List.getElem?_append_left hi] at ep
    obtain ⟨b, e1, e2⟩ := h.2 i p ep
    exact ⟨b, by rw [List.getElem?_append_left (by rw [h.1]; exact hi)]; exact e1, e2⟩
  · rw [List.getElem?_append_right (by omega)] at ep
    have hz : i - ps.length = 0 := by
      cases hq : i - ps.length with
      | zero => rfl
      | succ n => rw [hq] at ep; simp at ep
    rw [hz] at ep
    have ep' : (x, y) = p := by simpa using ep
    subst ep'
    refine ⟨a, ?_, e⟩
    rw [List.getElem?_append_right (by rw [h.1]; omega), h.1, hz]
    rfl
/-- rising stretches with gaps, from lo on -/
def Ris : Int → List (Int × Int) → Prop
  | _, [] => True
  | lo, p :: r => lo ≤ p.1 ∧ p.1 ≤ p.2 ∧ Ris (p.2 + 2) r
theorem Ris.snoc : ∀ {lo : Int} {ps : List (Int × Int)} {a b : Int}, Ris lo ps → lo ≤ a → (∀ p ∈ ps, p.2 + 2 ≤ a) → a ≤ b → Ris lo (ps ++ [(a, b)])
  | lo, [], a, b, _, h1, _, h3 => ⟨h1, h3, True.intro⟩
  | lo, p :: r, a, b, h, h1, h2, h3 => ⟨h.1, h.2.1, Ris.snoc h.2.2 (h2 p (List.mem_cons_self ..)) (fun q hq => h2 q (List.mem_cons_of_mem _ hq)) h3⟩
theorem pick2 {x y r : Int} (Pv : Int → Prop) (h0 : 0 ≤ r) (h1 : r < 2) (hx : Pv x) (hy : Pv y) : ∃ v, Pv v ∧ atI [V.int x, V.int y] r = some (.int v) := by
  have : r = 0 ∨ r = 1 := by omega
  rcases this with rfl | rfl
  · exact ⟨x, hx, rfl⟩
  · exact ⟨y, hy, rfl⟩
theorem pick3 {x y z r : Int} (Pv : Int → Prop) (h0 : 0 ≤ r) (h1 : r < 3) (hx : Pv x) (hy : Pv y) (hz : Pv z) : ∃ v, Pv v ∧ atI [V.int x, V.int y, V.int z] r = some (.int v) := by
  have : r = 0 ∨ r = 1 ∨ r = 2 := by omega
  rcases this with rfl | rfl | rfl
  · exact ⟨x, hx, rfl⟩
  · exact ⟨y, hy, rfl⟩
  · exact ⟨z, hz, rfl⟩
/-- a new object stands through the state's change -/
theorem Kp.new {H H' : Hp} {d c l : Addr} {t : Int} {o : HO} (k : Kp d c (upd H l o) H') (S : StAt H d c t) (n : H l = none) : H' l = some o := by
  obtain ⟨cs, ec, _⟩ := S.cells
  exact k l o (ne_of_none S.dict n).symm (ne_of_none ec n).symm upd_same
theorem drop_at {α : Type} {l : List α} {i : Nat} {x : α} (h : l[i]? = some x) : l.drop i = x :: l.drop (i + 1) := by
  obtain ⟨lt, e⟩ := List.getElem?_eq_some_iff.mp h
  rw [← e]
  exact List.drop_eq_getElem_cons lt
theorem prs_at {H : Hp} {vs : List V} {ps : List (Int × Int)} {i : Nat} {x : V} (h : Prs H vs ps) (e : vs[i]? = some x) : ∃ (p : Int × Int) (a : Addr), ps[i]? = some p ∧ x = .ref a ∧ H a = some (.tup [.int p.1, .int p.2]) := by
  obtain ⟨hi, _⟩ := List.getElem?_eq_some_iff.mp e
  have hi2 : i < ps.length := by rw [← h.1]; exact hi
  obtain ⟨a, e1, e2⟩ := h.2 i ps[i] (List.getElem?_eq_getElem hi2)
  rw [e] at e1
  exact ⟨ps[i], a, List.getElem?_eq_getElem hi2, Option.some.inj e1, e2⟩

theorem sumP_append (g : Int → Int → Int) (ps qs : List (Int × Int)) : sumP g (ps ++ qs) = sumP g ps + sumP g qs := by
  unfold sumP
  rw [List.map_append, List.sum_append]
def inB (n a b : Int) : Bool := decide (a ≤ n) && decide (n ≤ b)
theorem Ris.le : ∀ {lo : Int} {ps : List (Int × Int)}, Ris lo ps → ∀ p ∈ ps, lo ≤ p.1 ∧ p.1 ≤ p.2
  | _, [], _, _, hp => nomatch hp
  | lo, q :: r, h, p, hp => by
    rcases List.mem_cons.mp hp with e | e'
    · rw [e]; exact ⟨h.1, h.2.1⟩
    · have := Ris.le h.2.2 p e'
      have := h.2.1
      have := h.1
      omega

/-! ### walks over a list or a tuple -/
def Sq (K : PySem.W.Frag) (H : Hp) (a : Addr) (xs : List V) : Prop := SqL K H a xs ∨ SqT K H a xs
def iSeq (K : PySem.W.Frag) (tl : TE) : TI := fun σ H R => tl σ H fun x H1 => ∃ a, x = .ref a ∧ (((∃ xs, SqL K H1 a xs) ∧ R (Itl K a) H1) ∨ ((∃ xs, SqT K H1 a xs) ∧ R (Itt K a) H1))
/-- the iterator that was just laid is no one's -/
theorem lone {X : Cx} {pins : List (Addr × Obj)} {σ : L2.St} {H : Hp} {s : Shared} (I : Inv X pins σ H s) : ∀ b ∈ [s.heap.objs.size], FpOk X pins H b := fun b hb => by
  rw [List.mem_singleton.mp hb]
  exact I.fpOk (H' := H) (Nat.le_refl _) (I.hok.fresh (Nat.le_refl _))
theorem pi_seq {X : Cx} {tg l : Expr} {tl : TE} (walked : PE X l tl) : PI X tg l (iSeq X.K tl) := by
  constructor
  intro pins s σ H R I h
  refine thn (walked.run pins s σ H _ I h) fun u s1 had => ?_
  obtain ⟨_, H1, J, rel, a, rfl, had⟩ := had
  cases rel
  have laid : ∀ o, Inv X pins σ H1 { s1 with heap := s1.heap.push o } := fun o => J.kept (t' := s1.toks) fun _ _ e => Heap.get?_push_of_some _ e
  rcases had with ⟨⟨xs, hq⟩, q⟩ | ⟨⟨xs, hq⟩, q⟩
  · obtain ⟨its, _, isL, _⟩ := J.list hq
    exact wpAny_pyIter_list isL.isList ⟨_, _, _, _, H1, rfl, laid _, turn_list a _, ⟨_, Heap.get?_push_size _ rfl, rfl, rfl⟩, lone J, q⟩
  · obtain ⟨its, _, isT, _⟩ := J.tuple hq
    exact wpAny_pyIter_tuple (items := its.toArray) isT ⟨_, _, _, _, H1, rfl, laid _, turn_tuple a _, ⟨_, Heap.get?_push_size _ rfl, rfl, rfl⟩, lone J, q⟩
/-- the walked thing stands as it stood -/
def SqTo (K : PySem.W.Frag) (H H' : Hp) (a : Addr) (xs : List V) : Prop := (SqL K H a xs → SqL K H' a xs) ∧ (SqT K H a xs → SqT K H' a xs)
theorem SqTo.refl {K : PySem.W.Frag} {H : Hp} {a : Addr} {xs : List V} : SqTo K H H a xs := ⟨fun h => h, fun h => h⟩
theorem same_t {K : PySem.W.Frag} {H H' : Hp} {a : Addr} {xs : List V} (s : Same H H') (h : SqT K H a xs) : SqT K H' a xs :=
  h.elim (fun r => .inl (r.elim (fun e => .inl (s a _ e)) fun ⟨o, e⟩ => .inr ⟨o, s a _ e⟩)) .inr
theorem SqTo.same {K : PySem.W.Frag} {H H' : Hp} {a : Addr} {xs : List V} (s : Same H H') : SqTo K H H' a xs := ⟨s.seq, same_t s⟩
theorem Sq.same {K : PySem.W.Frag} {H H' : Hp} {a : Addr} {xs : List V} (h : Sq K H a xs) (s : Same H H') : Sq K H' a xs := h.elim (fun h => .inl (s.seq h)) fun h => .inr (same_t s h)
theorem Sq.list {K : PySem.W.Frag} {H : Hp} {a : Addr} {xs : List V} (h : H a = some (.lst xs)) : Sq K H a xs := .inl (SqL.of h)
theorem Sq.tup {K : PySem.W.Frag} {H : Hp} {a : Addr} {xs : List V} (h : H a = some (.tup xs)) : Sq K H a xs := .inr (.inl (.inl h))
abbrev ForR (J : It) (g : TG) (tb : TS) (D : Ends) (σ : L2.St) (H1 : Hp) : Prop := ∃ W : Nat → Nat → L2.St → Hp → Prop, (∃ m, W 0 m σ H1) ∧ ∀ i m σ H, W i m σ H →
  (J.stop i H ∧ D.nx σ H) ∨ (J.go i H ∧ ∃ N : L2.St → Hp → Prop, (∀ σ' H', N σ' H' → ∃ m', m' < m ∧ W (i + 1) m' σ' H') ∧ ∀ x H', J.yld i H x H' → g x σ H' fun σ2 H2 => tb { D with nx := N, ct := N, bk := D.nx } σ2 H2)
theorem for_seq {K : PySem.W.Frag} {a : Addr} {xs : List V} {g : TG} {tb : TS} {D : Ends} {σ : L2.St} {H1 : Hp} (hq : Sq K H1 a xs) (Pv : Nat → L2.St → Hp → Prop) (h0 : Pv 0 σ H1)
    (hl : ∀ i σ H', i ≤ xs.length → Pv i σ H' → SqTo K H1 H' a xs)
    (turn : ∀ i x σ H, xs[i]? = some x → Pv i σ H → g x σ H fun σ2 H2 => tb { D with nx := Pv (i + 1), ct := Pv (i + 1), bk := D.nx } σ2 H2) (fin : ∀ σ H, Pv xs.length σ H → D.nx σ H) :
    ((∃ xs, SqL K H1 a xs) ∧ ForR (Itl K a) g tb D σ H1) ∨ ((∃ xs, SqT K H1 a xs) ∧ ForR (Itt K a) g tb D σ H1) := by
  rcases hq with h | h
  · exact .inl ⟨⟨xs, h⟩, for_list (xs := xs) Pv h0 (fun i σ H' hi p => (hl i σ H' hi p).1 h) turn fin⟩
  · exact .inr ⟨⟨xs, h⟩, for_tup (xs := xs) Pv h0 (fun i σ H' hi p => (hl i σ H' hi p).2 h) turn fin⟩

/-! ### pairs as data -/
def pairD (p : Int × Int) : PyData := .tuple [.int p.1, .int p.2]
theorem dp_prs {K : PySem.W.Frag} {H : Hp} : ∀ {us : List V} {ps : List (Int × Int)}, Prs H us ps → DpAll K H us (ps.map pairD)
  | [], [], _ => .nil
  | [], _ :: _, h => nomatch h.1
  | _ :: _, [], h => nomatch h.1
  | u :: us, p :: ps, h => by
    obtain ⟨a, e1, e2⟩ := h.2 0 p rfl
    have eu : u = .ref a := Option.some.inj e1
    subst eu
    refine .cons (.tup (.inl (.inl e2)) (.cons (.int _) (.cons (.int _) .nil))) (dp_prs ⟨Nat.succ.inj h.1, fun i q e => ?_⟩)
    obtain ⟨b, f1, f2⟩ := h.2 (i + 1) q e
    exact ⟨b, f1, f2⟩
theorem lay_prs : ∀ ps : List (Int × Int), PyData.canLayAll0 (ps.map pairD) = true
  | [] => by simp only [List.map_nil, PyData.canLayAll0]
  | p :: r => by
    rw [List.map_cons, PyData.canLayAll0, lay_prs r]
    simp [pairD, PyData.canLay0, PyData.canLayAll0]
theorem depth_prs : ∀ ps : List (Int × Int), PyData.depthAll (ps.map pairD) ≤ 1
  | [] => by simp only [List.map_nil, PyData.depthAll]; omega
  | p :: r => by
    rw [List.map_cons, PyData.depthAll]  -- a pair, then the rest
    have := depth_prs r
    simp [pairD, PyData.depth, PyData.depthAll]
    omega
theorem shaped_prs (ps : List (Int × Int)) : SeqAt.shaped (PyData.list (ps.map pairD)) = true := by
  unfold SeqAt.shaped
  rw [PyData.canLay0, lay_prs, PyData.depth, Bool.true_and]
  exact decide_eq_true (by have := depth_prs ps; omega)
theorem eqv_prs (ps : List (Int × Int)) : PyData.eqv (PyData.list (ps.map pairD)) (PyData.list (ps.map pairD)) = true := SeqAt.eqv_refl _ (by rw [PyData.canLay0]; exact lay_prs ps)
theorem tabG_tabbed {Pt Pu : Addr} {H H2 : Hp} (g : GxR.TabG H Pu) (x : GxR.Tabbed Pt H H2) : GxR.TabG H2 Pu := by
  by_cases e : Pu = Pt
  · rw [e]; exact x.1
  · obtain ⟨ps, h, r⟩ := g
    exact ⟨ps, by rw [x.2 _ e]; exact h, r⟩

theorem Kp.free {H H' : Hp} {d c l : Addr} {t' : Int} (k : Kp d c H H') (S' : StAt H' d c t') (n : H' l = none) : H l = none := by
  cases e : H l with
  | none => rfl
  | some o =>
    obtain ⟨cs1, ec1, _⟩ := S'.cells
    have z := k l o (ne_of_none S'.dict n).symm (ne_of_none ec1 n).symm e
    rw [n] at z
    cases z
theorem StAt.off {H : Hp} {d c l : Addr} {t : Int} (S : StAt H d c t) (n : H l = none) : l ≠ d ∧ l ≠ c := by
  obtain ⟨cs1, ec1, _⟩ := S.cells
  exact ⟨(ne_of_none S.dict n).symm, (ne_of_none ec1 n).symm⟩
/-- no whole number among these: so it's not the draws' cells -/
def NoInt (xs : List V) : Prop := ∀ x ∈ xs, ∀ i, x ≠ .int i
theorem Kp.lst {H H' : Hp} {d c a : Addr} {t : Int} {xs : List V} (k : Kp d c H H') (S : StAt H d c t) (e : H a = some (.lst xs)) (h : NoInt xs) : H' a = some (.lst xs) := by
  obtain ⟨cs, ec, hne, _⟩ := S.cells
  refine k a _ (fun z => ?_) (fun z => ?_) e
  · rw [z, S.dict] at e
    cases e
  · rw [z, ec] at e
    have e' : cs.map V.int = xs := HO.lst.inj (Option.some.inj e)
    cases cs with
    | nil => exact hne rfl
    | cons n r => exact h (.int n) (e' ▸ List.mem_cons_self ..) n rfl
theorem Kp.tup {H H' : Hp} {d c a : Addr} {t : Int} {xs : List V} (k : Kp d c H H') (S : StAt H d c t) (e : H a = some (.tup xs)) : H' a = some (.tup xs) := k.at S e (fun _ z => nomatch z) (fun _ z => nomatch z)
theorem noInt_strs (xs : List Str) : NoInt (xs.map V.str) := fun x hx i e => by
  obtain ⟨y, _, rfl⟩ := List.mem_map.mp hx
  cases e
theorem noInt_prs {H : Hp} {us : List V} {ps : List (Int × Int)} (h : Prs H us ps) : NoInt us := fun x hx i e => by
  obtain ⟨j, hj, e1⟩ := List.getElem_of_mem hx
  obtain ⟨p, a, _, rfl, _⟩ := prs_at h (by rw [List.getElem?_eq_getElem hj, e1])
  cases e

theorem snoc_cases {α : Type} (l : List α) : l = [] ∨ ∃ l' x, l = l' ++ [x] := by
  rcases List.eq_nil_or_concat l with h | ⟨l', x, h⟩
  · exact .inl h
  · exact .inr ⟨l', x, by rw [h]; simp⟩
theorem _root_.GP.Prs.last {H : Hp} {us : List V} {ps : List (Int × Int)} {p : Int × Int} (h : Prs H us (ps ++ [p])) : ∃ us' T, us = us' ++ [.ref T] ∧ H T = some (.tup [.int p.1, .int p.2]) ∧ Prs H us' ps := by
  have hl := h.1
  rw [List.length_append] at hl
  rcases snoc_cases us with e | ⟨us', x, e⟩
  · rw [e] at hl
    simp at hl
  · subst e
    rw [List.length_append] at hl
    have hl' : us'.length = ps.length := Nat.add_right_cancel hl
    obtain ⟨T, e1, e2⟩ := h.2 ps.length p (by rw [List.getElem?_append_right (Nat.le_refl _), Nat.sub_self]; rfl)
    rw [List.getElem?_append_right (by omega), hl', Nat.sub_self] at e1
    refine ⟨us', T, by rw [Option.some.inj e1], e2, hl', fun i q eq => ?_⟩
    have hi : i < ps.length := (List.getElem?_eq_some_iff.mp eq).1
    obtain ⟨b, f1, f2⟩ := h.2 i q (by rw [List.getElem?_append_left hi]; exact eq)
    rw [List.getElem?_append_left (by omega)] at f1
    exact ⟨b, f1, f2⟩
theorem eqv_pr_nil (ps : List (Int × Int)) : PyData.eqv (PyData.list (ps.map pairD)) (PyData.list []) = ps.isEmpty := by
  cases ps with
  | nil => simp [PyData.eqv, PyData.eqvAll]
  | cons p r => simp [PyData.eqv, PyData.eqvAll]
def rIxS (K : PySem.W.Frag) : R2 := fun x y H Q => ∃ p xs i v, x = .ref p ∧ y = .int i ∧ Sq K H p xs ∧ atI xs i = some v ∧ Q v H
theorem ix_seq {X : Cx} : IxR X (rIxS X.K) := by
  intro value slice pins s σ H x y v u Q I rx ry h hs
  obtain ⟨p, xs, i, z, e1, e2, hq, he, q⟩ := h
  rcases hq with hq | hq
  · exact ix_list value slice pins s σ H x y v u Q I rx ry ⟨p, xs, i, z, e1, e2, hq, he, q⟩ hs
  · exact ix_tup value slice pins s σ H x y v u Q I rx ry ⟨p, xs, i, z, e1, e2, hq, he, q⟩ hs

/-! ### a list or a tuple of ints, put in order -/
def SqH (H : Hp) (a : Addr) (xs : List V) : Prop := H a = some (.lst xs) ∨ H a = some (.tup xs)
theorem SqH.sq {K : PySem.W.Frag} {H : Hp} {a : Addr} {xs : List V} (h : SqH H a xs) : Sq K H a xs := h.elim Sq.list Sq.tup
theorem SqH.same {H H' : Hp} {a : Addr} {xs : List V} (h : SqH H a xs) (s : Same H H') : SqH H' a xs := h.imp (s _ _) (s _ _)
section
variable {prog : Program} {w : World} {A : Around} {E : Value → Shared → Prop} {s : Shared}
/-- what a tuple has, gathered into a new list -/
theorem gather_tp {tp : Addr} {its : List Value} {Q : List Value → Shared → Prop} (ht : s.heap.IsTuple tp its.toArray) (hz : its.length ≤ sizeLine)
    (fin : Q its { s with heap := (s.heap.push (seqObj "list" #[] 0)).update s.heap.objs.size (Obj.mapSeq (· ++ its.toArray)) }) : wpAny (model prog w) A (collect (.ref tp)) Q E s := by
  obtain ⟨ob, hob, hcl, m, hdt⟩ := id ht
  unfold collect
  refine wpAny_bind (wpAny_runValue (codeAny_builtin PyProof.Rows.entry_proto_collect' ?_))
  show wpAny _ _ (do again (.builtin "list.__iadd__" ⟨[← newList [], .ref tp], []⟩)) _ _ s
  refine wpAny_bind (wpAny_newList (wpAny_pure ⟨Code.quiet_builtin _ (by decide +kernel), codeAny_builtin PyProof.Rows.entry_list_iadd' ?_⟩))
  show wpAny _ _ (Builtin.List.listExtendWith (.ref s.heap.objs.size) (.ref tp) (.ref s.heap.objs.size)) _ _ { s with heap := s.heap.push (seqObj "list" #[] 0) }
  unfold Builtin.List.listExtendWith
  have hob2 : (s.heap.push (seqObj "list" #[] 0)).get? tp = some ob := Heap.get?_push_of_some _ hob
  refine wpAny_bind (wpAny_typeOf (T := "tuple") ⟨ob, hob2, hcl⟩ ?_)
  have tyEq : (Value.type "tuple" == Value.type "tuple") = true := rfl
  rw [if_pos (by rw [tyEq]; simp)]
  refine wpAny_bind (listItems_at hob2 hdt ?_)
  have own0 : (s.heap.push (seqObj "list" #[] 0)).get? s.heap.objs.size = some (seqObj "list" #[] 0) := Heap.get?_push_size _ rfl
  refine wpAny_bind (listItems_at (n := 0) (xs := #[]) own0 rfl ?_)
  rw [if_neg (by simp)]
  have fits : (#[] ++ its.toArray).size ≤ sizeLine + 1 := by rw [Array.size_append, List.size_toArray]; simp only [List.size_toArray, List.length_nil]; omega
  refine wpAny_bind (listUpdate_at (n := 0) (xs := #[]) own0 rfl ?_ (Nat.zero_le _) fits)
  refine wpAny_pure ?_
  have same : ((#[] : Array Value) ++ its.toArray).toList = its := by simp
  show wpAny (model prog w) A (load s.heap.objs.size >>= fun ob => match ob.data with | .seq xs _ => pure xs.toList | _ => unsupported "internal:collect") Q E _
  refine wpAny_bind (wpAny_load (get?_update_seq own0 _) ?_)
  show wpAny _ _ (pure ((#[] : Array Value) ++ its.toArray).toList) Q E _
  rw [same]
  exact wpAny_pure fin
end

section
variable {prog : Program} {w : World} {A : Around} {E : Value → Shared → Prop} {s : Shared}
/-- sorted(t) of a tuple -/
theorem ordered_tp {tp : Addr} {its : List Value} {below : Value → Value → Bool} {Q : Value → Shared → Prop} (O : SrtO.Swo below) (ht : s.heap.IsTuple tp its.toArray) (hz : its.length ≤ sizeLine)
    (can : 2 ≤ its.length → ∀ (h₁ : Heap) (a : Addr), SrtO.SortableO prog w A.in1.in1 { s with heap := h₁ } a its below)
    (fin : ∀ out : List Value, SrtO.Srtd below out → SrtO.Stb below out its → Q (.ref (s.heap.objs.size + 1)) { s with heap := PyProof.Rows.sortedAll s.heap its out.toArray }) :
    wpAny (model prog w) A (call (.builtin "sorted") [.ref tp]) Q E s := by
  refine Calls.call_function_entry PyProof.Rows.kind_sorted PyProof.Rows.plain_sorted PyProof.Rows.entry_sorted (PyProof.Rows.args_sorted1 _) ?_
  unfold Builtin.«sorted»
  refine wpAny_bind (m := checkCount "sorted" 1 1 _) (wpAny_pure ?_)
  refine wpAny_bind (gather_tp ht hz ?_)
  refine wpAny_bind (wpAny_newList ?_ hz)
  have size1 : ((s.heap.push (seqObj "list" #[] 0)).update s.heap.objs.size (Obj.mapSeq (· ++ its.toArray))).objs.size = s.heap.objs.size + 1 := by
    rw [Heap.size_update, PyProof.Rows.size_push']
  have new1 : (((s.heap.push (seqObj "list" #[] 0)).update s.heap.objs.size (Obj.mapSeq (· ++ its.toArray))).push (seqObj "list" its.toArray 0)).get? (s.heap.objs.size + 1) = some (seqObj "list" its.toArray 0) := by
    rw [← size1]; exact Heap.get?_push_size _ rfl
  show wpAny _ _ _ _ _ { s with heap := ((s.heap.push (seqObj "list" #[] 0)).update s.heap.objs.size (Obj.mapSeq (· ++ its.toArray))).push (seqObj "list" its.toArray 0) }
  rw [size1]
  refine wpAny_bind (wpAny_holding (wpAny_call_entry PyProof.Rows.slot_list_sort ⟨_, new1, rfl⟩ PyProof.Rows.entry_list_sort (SrtO.list_sort_ord O new1 hz (fun two => can two _ _) fun out o1 o2 => ⟨_, rfl, ?_⟩) (PyProof.Rows.args_list_sort _)))
  exact wpAny_pure ⟨_, rfl, fin out o1 o2⟩
end
/-- sorted(xs) of a list or a tuple of ints -/
def rSortedB (K : PySem.W.Frag) : List V → Hp → VK → Prop := fun vs H Q => ∃ (a : Addr) (ns : List Int), vs = [V.ref a] ∧ SqH H a (ns.map V.int) ∧
  ∀ (ms : List Int) (p : Addr), ms.Perm ns → ms.Pairwise (· ≤ ·) → H p = none → Q (.ref p) (upd H p (.lst (ms.map V.int)))
theorem cr_sortedB {X : Cx} : CallR X (.builtin "sorted") (rSortedB X.K) := by
  intro pins s σ H vs us Q I r h
  obtain ⟨a, ns, rfl, hs, q⟩ := h
  rcases hs with hs | hs
  · exact cr_sortedI pins s σ H _ us Q I r ⟨a, ns, rfl, SqL.of hs, q⟩
  · obtain ⟨hz, its, rv, hl⟩ := I.hok a _ hs
    rw [Vals.ref1 r]
    have isI := rv.ints
    refine ordered_tp SrtO.swo_int hl (by rw [← rv.length]; exact hz) (fun two _ _ => SrtO.ints_sortable isI two) fun out o1 o2 => ?_
    obtain ⟨g1, g2, g3⟩ := SrtO.ints_out isI o1 o2
    obtain ⟨epo, there⟩ := PyProof.Rows.sortedAll_at s.heap its out.toArray
    have short : ((out.map SrtO.iv).map V.int).length ≤ sizeLine := by
      rw [List.length_map, g2.length_eq]
      rw [List.length_map] at hz
      exact hz
    exact ⟨.ref _, upd H (s.heap.objs.size + 1) (.lst ((out.map SrtO.iv).map V.int)), I.laid (t' := s.toks) (fun _ _ => PyProof.Rows.sortedAll_old) (Nat.le_succ _) ⟨short, out, epo, vals_of_ints g1, there⟩, rfl, q _ _ g2 g3 (I.hok.fresh (Nat.le_succ _))⟩

/-! ### the first of so many following tins without a sample -/
def Hit (w : Int) (S : List Int) (b : Int) : Prop := ∃ s ∈ S, b ≤ s ∧ s < b + w
def FM (m w : Int) (S : List Int) : V → Prop
  | .int a => 0 ≤ a ∧ a + w ≤ m ∧ ¬ Hit w S a ∧ ∀ b, 0 ≤ b → b < a → Hit w S b
  | .non => ∀ b, 0 ≤ b → b + w ≤ m → Hit w S b
  | _ => False
theorem FM.one {m w : Int} {S : List Int} {v u : V} (h : FM m w S v) (g : FM m w S u) : v = u := by
  cases v <;> try exact h.elim
  · cases u <;> try exact g.elim
    · rfl
    · rename_i a
      obtain ⟨g1, g2, g3, g4⟩ := g
      exact absurd (h a g1 g2) g3
  · rename_i a
    obtain ⟨h1, h2, h3, h4⟩ := h
    cases u <;> try exact g.elim
    · exact absurd (g a h1 h2) h3
    · rename_i b
      obtain ⟨g1, g2, g3, g4⟩ := g
      by_cases c : a < b
      · exact absurd (g4 a h1 c) h3
      · by_cases c2 : b < a
        · exact absurd (h4 b g1 c2) g3
        · exact congrArg V.int (by omega)
theorem FM.kinds {m w : Int} {S : List Int} {v : V} (h : FM m w S v) : v = .non ∨ ∃ a, v = .int a := by
  cases v <;> first | exact .inl rfl | exact .inr ⟨_, rfl⟩ | exact h.elim
/-- all begins below st are hit, and what was gone through lies below st -/
def Gone (w : Int) (S ss : List Int) (i : Nat) (st : Int) : Prop := 0 ≤ st ∧ (∀ b, 0 ≤ b → b < st → Hit w S b) ∧ ∀ x ∈ ss.take i, x < st
theorem Gone.step {w : Int} {S ss : List Int} {i : Nat} {st x : Int} (h : Gone w S ss i st) (e : ss[i]? = some x) (hm : x ∈ S) (c : ¬ st + w ≤ x) : Gone w S ss (i + 1) (if x + 1 > st then x + 1 else st) := by
  obtain ⟨h0, h1, h2⟩ := h
  refine ⟨by split <;> omega, fun b b0 b1 => ?_, fun y hy => ?_⟩
  · by_cases d : b < st
    · exact h1 b b0 d
    · refine ⟨x, hm, ?_, by omega⟩
      split at b1 <;> omega
  · rw [List.take_add_one, e] at hy
    rcases List.mem_append.mp hy with z | z
    · have := h2 y z
      split <;> omega
    · rw [List.mem_singleton.mp z]
      split <;> omega
theorem later {ss : List Int} {i : Nat} {x y : Int} (hp : ss.Pairwise (· ≤ ·)) (e : ss[i]? = some x) (hy : y ∈ ss) : y ∈ ss.take i ∨ x ≤ y := by
  obtain ⟨j, hj, rfl⟩ := List.getElem_of_mem hy
  have hi : i < ss.length := (List.getElem?_eq_some_iff.mp e).1
  have ex : ss[i] = x := (List.getElem?_eq_some_iff.mp e).2
  by_cases c : j < i
  · exact .inl (List.mem_take_iff_getElem.mpr ⟨j, by omega, rfl⟩)
  · right
    rw [← ex]
    by_cases d : j = i
    · subst d; exact Int.le_refl _
    · exact (List.pairwise_iff_getElem.mp hp) i j hi hj (by omega)
/-- nothing in the way -/
theorem Gone.free {w : Int} {S ss : List Int} {i : Nat} {st x : Int} (h : Gone w S ss i st) (hp : ss.Pairwise (· ≤ ·)) (e : ss[i]? = some x) (c : st + w ≤ x) (hm : ∀ y ∈ S, y ∈ ss ∨ x ≤ y) : ¬ Hit w S st := by
  rintro ⟨y, hy, y1, y2⟩
  rcases hm y hy with z | z
  · rcases later hp e z with z | z
    · have := h.2.2 y z
      omega
    · omega
  · omega
theorem FM.told {m w : Int} {S : List Int} {st : Int} (h0 : 0 ≤ st) (h1 : ∀ b, 0 ≤ b → b < st → Hit w S b) (h2 : ¬ Hit w S st) : FM m w S (if st + w ≤ m then .int st else .non) := by
  split
  · rename_i c
    exact ⟨h0, c, h2, h1⟩
  · rename_i c
    exact fun b b0 b1 => h1 b b0 (by omega)
/-! ### samples_needed, first_missed -/
abbrev sNeeded : Stmt := topS 1
theorem scNeeded : FnScope ["many", "width"] ["many", "width"] (defScope sNeeded) := ⟨rfl, rfl, rfl, by decide +kernel, rfl, by decide +kernel, by decide +kernel⟩
def spNeeded : Sp := fun vs H Q _ => ∃ m w : Int, vs = [.int m, .int w] ∧ 1 ≤ w ∧ w ≤ 10 ^ 40 ∧ Q (.int (m / w)) H
abbrev sFirst : Stmt := topS 2
theorem scFirst : FnScope ["many", "width", "samples", "start", "sample"] ["many", "width", "samples"] (defScope sFirst) := ⟨rfl, rfl, rfl, by decide +kernel, rfl, by decide +kernel, by decide +kernel⟩
def spFirst : Sp := fun vs H Q _ => ∃ (m w : Int) (a : Addr) (S : List Int), vs = [.int m, .int w, .ref a] ∧ SqH H a (S.map V.int) ∧ 1 ≤ w ∧ ∀ v H', FM m w S v → Same H H' → Q v H'
theorem int_at {ns : List Int} {i : Nat} {x : V} (hx : (ns.map V.int)[i]? = some x) : ∃ n, ns[i]? = some n ∧ x = .int n := by
  rw [List.getElem?_map] at hx
  cases h : ns[i]? with
  | none => rw [h] at hx; cases hx
  | some n => rw [h] at hx; exact ⟨n, rfl, (Option.some.inj hx).symm⟩
theorem log_lt {i : Int} (h : i.natAbs < 2 ^ 400) : i.natAbs.log2 < 400 := PySem.Flt.log2_lt_of (by decide) h
section
variable {K : PySem.W.Frag} {mg : Str → Option Value} {P : Program} {w : World} {base : Heap}
theorem ok_needed {f : Addr} {fd : FuncData} {k : Nat} (F : Fun K "samples_needed" "samples_needed" sNeeded f fd) : FnOk P w K mg base CX0 (k + 1) f fd ["many", "width"] spNeeded := by
  refine F.ok scNeeded (fun vs H Q E h => ?_) (fun cdv A outer s H vs Q E hr h => ?_)
  · obtain ⟨m, w, rfl, _⟩ := h
    rfl
  · obtain ⟨m, w, rfl, h1, h2, q⟩ := h
    refine ⟨_, pss_one (ps_ret (pe_op op_fdivW (pv 0) (pv 1))), ?_⟩
    exact ⟨_, rfl, _, rfl, m, w, rfl, rfl, ⟨by omega, Nat.lt_trans (log_lt (by omega)) (by decide)⟩, q⟩
theorem ok_first {f : Addr} {fd : FuncData} {k : Nat} (F : Fun K "first_missed" "first_missed" sFirst f fd) (ms : mg "sorted" = none) (mx : mg "max" = none) : FnOk P w K mg base CX0 (k + 1) f fd ["many", "width", "samples"] spFirst := by
  refine F.ok scFirst (fun vs H Q E h => ?_) (fun cdv A outer s H vs Q E hr h => ?_)
  · obtain ⟨m, w, a, S, rfl, _⟩ := h
    rfl
  · obtain ⟨m, w, a, S, rfl, hS, hw, q⟩ := h
    refine ⟨_, pss_cons (ps_set (i := 3) scFirst.nd rfl (.inl rfl) pe_int)
      (Evl.pss_cut (ps_for PassesOwn.never rfl (pi_list (pe_callB cr_sortedB (by rfl) ms (by decide +kernel) (pa_cons (pv 2) pa_nil))) (pg_name (i := 4) scFirst.nd rfl (.inl rfl))
        (pss_cons (ps_if (pt_cmpR op_le (pe_op op_add (pv 3) (pv 1)) (pv 4) (nomark _)) (pss_one ps_break) pss_nil)
        (pss_one (ps_set (i := 3) scFirst.nd rfl (.inl rfl) (pe_callB (call_max2 rfl) (by rfl) mx (by decide +kernel) (pa_cons (pv 3) (pa_cons (pe_op op_add (pv 4) pe_int) pa_nil)))))))
      (pss_one (ps_ret (pe_ifExp (pt_cmpR op_le (pe_op op_add (pv 3) (pv 1)) (pv 0) (nomark _)) (pv 3) pe_non)))), ?_⟩
    refine ⟨fun σ Hx => ∃ (st : Int) (y4 : Option V), σ = [some (.int m), some (.int w), some (.ref a), some (.int st), y4] ∧ 0 ≤ st ∧ (∀ b, 0 ≤ b → b < st → Hit w S b) ∧ ¬ Hit w S st ∧ Same H Hx, ?_, fun σ Hx hM => ?_⟩
    · refine ⟨_, rfl, a, S, rfl, hS, fun ss p hperm hpw np => ?_⟩
      have sp := same_upd (o := .lst (ss.map V.int)) np
      have ep := upd_same (H := H) (a := p) (o := .lst (ss.map V.int))
      refine ⟨p, rfl, ⟨_, SqL.of ep⟩, for_list (xs := ss.map V.int) (fun i σ Hx => ∃ (st : Int) (y4 : Option V), σ = [some (.int m), some (.int w), some (.ref a), some (.int st), y4] ∧ Gone w S ss i st ∧ Same (upd H p (.lst (ss.map V.int))) Hx)
        ⟨0, _, rfl, ⟨by omega, (fun b b0 b1 => by omega), fun _ z => nomatch z⟩, Same.refl _⟩ (fun i σ Hx _ hP => ?_) (fun i x σ Hx hx hP => ?_) (fun σ Hx hP => ?_)⟩
      · obtain ⟨_, _, _, _, sx⟩ := hP
        exact SqL.of (sx _ _ ep)
      · obtain ⟨st, y4, rfl, hg, sx⟩ := hP
        obtain ⟨x, ex, rfl⟩ := int_at hx
        have hxS : x ∈ S := hperm.mem_iff.mp (List.mem_of_getElem? ex)
        refine ⟨_, rfl, _, rfl, st, w, rfl, rfl, _, rfl, _, x, rfl, rfl, _, rfl, ite2 (fun c => ?_) (fun c => ?_)⟩
        · have c' := of_decide_eq_true c
          exact ⟨st, _, rfl, hg.1, hg.2.1, hg.free hpw ex c' fun y hy => .inl (hperm.mem_iff.mpr hy), sp.trans sx⟩
        · have c' : ¬ st + w ≤ x := fun z => c (decide_eq_true z)
          exact ⟨_, rfl, _, rfl, x, 1, rfl, rfl, st, x + 1, rfl, _, _, rfl, hg.step ex hxS c', sx⟩
      · obtain ⟨st, y4, rfl, hg, sx⟩ := hP
        rw [List.length_map] at hg
        refine ⟨st, _, rfl, hg.1, hg.2.1, fun ⟨y, hy, y1, _⟩ => ?_, sp.trans sx⟩
        have := hg.2.2 y (by rw [List.take_length]; exact hperm.mem_iff.mpr hy)
        omega
    · obtain ⟨st, y4, rfl, h0, h1, h2, sx⟩ := hM
      have told := FM.told (m := m) h0 h1 h2
      refine ⟨_, rfl, _, rfl, st, w, rfl, rfl, _, rfl, _, m, rfl, rfl, _, rfl, ite2 (fun c => ?_) (fun c => ?_)⟩
      · rw [if_pos (of_decide_eq_true c)] at told
        exact ⟨_, rfl, q _ _ told sx⟩
      · rw [if_neg (fun z => c (decide_eq_true z))] at told
        exact q _ _ told sx
end

/-! ### the law's own: from sample to sample, and by trying -/
abbrev sMissed : Stmt := topS 8
theorem scMissed : FnScope ["_law_many", "_law_width", "_law_samples_here", "_law_begin_here", "_law_sample"] ["_law_many", "_law_width", "_law_samples_here"] (defScope sMissed) := ⟨rfl, rfl, rfl, by decide +kernel, rfl, by decide +kernel, by decide +kernel⟩
def spMissed : Sp := fun vs H Q _ => ∃ (m w : Int) (a : Addr) (S : List Int), vs = [.int m, .int w, .ref a] ∧ H a = some (.lst (S.map V.int)) ∧ S.length ≤ 100 ∧ 1 ≤ w ∧ ∀ v H', FM m w S v → Same H H' → Q v H'
def belowF (m : Int) (S : List Int) : List Int := S.filter fun s => decide (s < m)
/-- before the last one; behind it -/
def MissW (m w : Int) (S ss : List Int) (i : Nat) (st : Int) : Prop := (i ≤ ss.length ∧ Gone w S ss i st) ∨ (ss.length < i ∧ FM m w S .non)
abbrev sTried : Stmt := topS 9
theorem scTried : FnScope ["_law_many", "_law_width", "_law_samples_here", "_law_first", "_law_sample"] ["_law_many", "_law_width", "_law_samples_here"] (defScope sTried) := ⟨rfl, rfl, rfl, by decide +kernel, rfl, by decide +kernel, by decide +kernel⟩
def spTried : Sp := fun vs H Q _ => ∃ (m w : Int) (a : Addr) (S : List Int), vs = [.int m, .int w, .ref a] ∧ H a = some (.lst (S.map V.int)) ∧ S.length ≤ 100 ∧ 1 ≤ w ∧ w ≤ 2000 ∧ 0 ≤ m ∧ m ≤ 1000 ∧ ∀ v H', FM m w S v → Same H H' → Q v H'
def inW (b w s : Int) : Bool := decide (b ≤ s) && decide (s < b + w)
theorem hit_any {w b : Int} {S : List Int} : (S.map (inW b w)).any id = true ↔ Hit w S b := by
  rw [List.any_map, List.any_eq_true]
  constructor
  · rintro ⟨s, hs, h⟩
    have h' : (decide (b ≤ s) && decide (s < b + w)) = true := h
    rw [Bool.and_eq_true] at h'
    exact ⟨s, hs, of_decide_eq_true h'.1, of_decide_eq_true h'.2⟩
  · rintro ⟨s, hs, h1, h2⟩
    refine ⟨s, hs, ?_⟩
    show (decide (b ≤ s) && decide (s < b + w)) = true
    rw [decide_eq_true h1, decide_eq_true h2]
    rfl
section
variable {K : PySem.W.Frag} {mg : Str → Option Value} {P : Program} {w : World} {base : Heap}
theorem ok_missed {f : Addr} {fd : FuncData} {k : Nat} (F : Fun K "_law_missed" "_law_missed" sMissed f fd) (ms : mg "sorted" = none) (mx : mg "max" = none) : FnOk P w K mg base CX0 (k + 1) f fd ["_law_many", "_law_width", "_law_samples_here"] spMissed := by
  refine F.ok scMissed (fun vs H Q E h => ?_) (fun cdv A outer s H vs Q E hr h => ?_)
  · obtain ⟨m, w, a, S, rfl, _⟩ := h
    rfl
  · obtain ⟨m, w, a, S, rfl, hS, hSl, hw, q⟩ := h
    refine ⟨_, pss_cons (ps_set (i := 3) scMissed.nd rfl (.inl rfl) pe_int)
      (pss_cons (ps_for PassesOwn.never rfl (pi_list (pe_op op_cat (pe_callB cr_sortedI (by rfl) ms (by decide +kernel) (pa_cons (pe_lc (own := [("_law_sample", 4)]) (g := gName 4) (tt := tTest (tOp (rI0 fun i j => .bl (decide (i < j))) (tVar 4) (tVar 0))) (te := tVar 4) rfl scMissed.nd (pi_list (pv 2))
            (blkOk_by (own := [("_law_sample", 4)]) (N := ["_law_many", "_law_width", "_law_samples_here", "_law_begin_here", "_law_sample"]) (sc := defScope sMissed) (by decide +kernel)) (fun _ _ _ _ _ => pg_name (i := 4) scMissed.nd rfl (.inl rfl)) (fun _ _ _ _ _ => pts_one (pt_cmpR op_lt (pv 4) (pv 0) (nomark _))) (fun _ _ _ _ _ => pv 4)) pa_nil)) (pe_lst (pa_cons (pv 0) pa_nil)))) (pg_name (i := 4) scMissed.nd rfl (.inl rfl))
        (pss_cons (ps_if (pt_cmpR op_ge (pe_op op_sub (pv 4) (pv 3)) (pv 1) (nomark _)) (pss_one (ps_ret (pv 3))) pss_nil)
        (pss_one (ps_set (i := 3) scMissed.nd rfl (.inl rfl) (pe_callB (call_max2 rfl) (by rfl) mx (by decide +kernel) (pa_cons (pv 3) (pa_cons (pe_op op_add (pv 4) pe_int) pa_nil)))))))
      (pss_one (ps_ret pe_non))), ?_⟩
    refine ⟨_, rfl, a, rfl, ⟨_, SqL.of hS⟩, fun D nD => lc_list (xs := S.map V.int) (fun j H' => Same H H' ∧ H' D = some (.lst ((belowF m (S.take j)).map V.int))) ⟨same_upd nD, upd_same⟩ (fun j H' _ hP => SqL.of (hP.1 _ _ hS)) (fun j x H' hx hP => ?_) (fun H1 hP => ?_)⟩
    · obtain ⟨sm, eD⟩ := hP
      obtain ⟨x, ex, rfl⟩ := int_at hx
      have et : S.take (j + 1) = S.take j ++ [x] := by rw [List.take_add_one, ex]; rfl
      have hl : (belowF m (S.take j)).length ≤ 100 := by
        have h1 : (belowF m (S.take j)).length ≤ (S.take j).length := List.length_filter_le ..
        have h2 : (S.take j).length ≤ S.length := by rw [List.length_take]; omega
        omega
      refine ⟨rfl, _, rfl, _, rfl, x, m, rfl, rfl, _, rfl, ite2 (fun c => ?_) (fun c => ?_)⟩
      · refine ⟨_, rfl, _, eD, small1000 (by rw [List.length_map]; omega), fun b o e => ?_, ?_⟩
        · rw [upd_ne (ne_of_none e nD)]
          exact sm b o e
        · rw [upd_same, et]
          unfold belowF
          rw [List.filter_append, List.map_append, List.filter_cons_of_pos (p := fun s => decide (s < m)) (a := x) c]
          rfl
      · refine ⟨sm, ?_⟩
        rw [et]
        unfold belowF
        rw [List.filter_append, List.filter_cons_of_neg (p := fun s => decide (s < m)) (a := x) c, List.filter_nil, List.append_nil]
        exact eD
    · obtain ⟨s1, eD⟩ := hP
      rw [List.length_map, List.take_length] at eD
      refine ⟨D, belowF m S, rfl, SqL.of eD, fun ss p hperm hpw np => ?_⟩
      have sp := same_upd (o := .lst (ss.map V.int)) np
      refine ⟨_, rfl, (by show 1 ≤ sizeLine; decide), fun z nz => ?_⟩
      have sz := same_upd (o := .lst [V.int m]) nz
      have hml : ∀ y, y ∈ ss ↔ y ∈ S ∧ y < m := fun y => by
        rw [hperm.mem_iff]
        unfold belowF
        rw [List.mem_filter, decide_eq_true_iff]
      have hsl : ss.length ≤ 100 := by
        rw [hperm.length_eq]
        have h1 : (belowF m S).length ≤ S.length := List.length_filter_le ..
        omega
      refine ⟨p, z, ss.map V.int, [V.int m], rfl, rfl, sz _ _ upd_same, upd_same, Nat.le_trans (show _ ≤ 1000 by rw [List.length_map]; show _ + 1 ≤ _; omega) (by decide), fun g ng => ?_⟩
      have eg : ss.map V.int ++ [V.int m] = (ss ++ [m]).map V.int := by rw [List.map_append]; rfl
      rw [eg]
      have sg := same_upd (o := .lst ((ss ++ [m]).map V.int)) ng
      have S0 := ((s1.trans sp).trans sz).trans sg
      refine ⟨g, rfl, ⟨_, SqL.of upd_same⟩, for_list (xs := (ss ++ [m]).map V.int) (fun i σ Hx => ∃ (st : Int) (y4 : Option V), σ = [some (.int m), some (.int w), some (.ref a), some (.int st), y4] ∧ MissW m w S ss i st ∧ Same H Hx ∧ Hx g = some (.lst ((ss ++ [m]).map V.int)))
        ⟨0, _, rfl, .inl ⟨Nat.zero_le _, by omega, (fun b b0 b1 => by omega), fun _ z => nomatch z⟩, S0, upd_same⟩ (fun i σ Hx _ hP => ?_) (fun i x σ Hx hx hP => ?_) (fun σ Hx hP => ?_)⟩
      · obtain ⟨_, _, _, _, _, e⟩ := hP
        exact SqL.of e
      · obtain ⟨st, y4, rfl, hW, sx, egx⟩ := hP
        obtain ⟨x, ex, rfl⟩ := int_at hx
        have hi : i < (ss ++ [m]).length := (List.getElem?_eq_some_iff.mp ex).1
        rw [List.length_append] at hi
        have hi' : i < ss.length + 1 := hi
        obtain ⟨_, hg⟩ : i ≤ ss.length ∧ Gone w S ss i st := hW.elim id fun z => by omega
        refine ⟨_, rfl, _, rfl, x, st, rfl, rfl, _, rfl, _, w, rfl, rfl, _, rfl, ite2 (fun c => ?_) (fun c => ?_)⟩
        · have c' : w ≤ x - st := of_decide_eq_true c
          refine ⟨_, rfl, q (.int st) Hx ?_ sx⟩
          by_cases hl : i < ss.length
          · rw [List.getElem?_append_left hl] at ex
            have hx2 := (hml x).mp (List.mem_of_getElem? ex)
            refine ⟨hg.1, by omega, hg.free hpw ex (by omega) fun y hy => ?_, hg.2.1⟩
            by_cases d : y < m
            · exact .inl ((hml y).mpr ⟨hy, d⟩)
            · exact .inr (by omega)
          · obtain rfl : i = ss.length := by omega
            rw [List.getElem?_append_right (Nat.le_refl _), Nat.sub_self] at ex
            have exm : m = x := Option.some.inj ex
            subst exm
            refine ⟨hg.1, by omega, fun ⟨y, hy, y1, y2⟩ => ?_, hg.2.1⟩
            have := hg.2.2 y (by rw [List.take_length]; exact (hml y).mpr ⟨hy, by omega⟩)
            omega
        · have c' : ¬ w ≤ x - st := fun z => c (decide_eq_true z)
          refine ⟨_, rfl, _, rfl, x, 1, rfl, rfl, st, x + 1, rfl, _, _, rfl, ?_, sx, egx⟩
          by_cases hl : i < ss.length
          · rw [List.getElem?_append_left hl] at ex
            exact .inl ⟨hl, hg.step ex ((hml x).mp (List.mem_of_getElem? ex)).1 (by omega)⟩
          · obtain rfl : i = ss.length := by omega
            rw [List.getElem?_append_right (Nat.le_refl _), Nat.sub_self] at ex
            have exm : m = x := Option.some.inj ex
            subst exm
            exact .inr ⟨Nat.lt_succ_self _, fun b b0 b1 => hg.2.1 b b0 (by omega)⟩
      · obtain ⟨st, y4, rfl, hW, sx, egx⟩ := hP
        rw [List.length_map, List.length_append] at hW
        have hN : FM m w S .non := hW.elim (fun z => absurd z.1 (by show ¬ ss.length + 1 ≤ ss.length; omega)) (·.2)
        exact q .non Hx hN sx
theorem ok_tried {f : Addr} {fd : FuncData} {k : Nat} (F : Fun K "_law_tried" "_law_tried" sTried f fd) (mr : mg "range" = none) (ma : mg "any" = none) : FnOk P w K mg base CX0 (k + 1) f fd ["_law_many", "_law_width", "_law_samples_here"] spTried := by
  refine F.ok scTried (fun vs H Q E h => ?_) (fun cdv A outer s H vs Q E hr h => ?_)
  · obtain ⟨m, w, a, S, rfl, _⟩ := h
    rfl
  · obtain ⟨m, w, a, S, rfl, hS, hSl, hw, hw2, hm0, hm1, q⟩ := h
    refine ⟨_, pss_cons (ps_for PassesOwn.never rfl (pi_range1 rfl mr (pa_cons (pe_op op_add (pe_op op_sub (pv 0) (pv 1)) pe_int) pa_nil)) (pg_name (i := 3) scTried.nd rfl (.inr rfl))
        (pss_one (ps_if (pt_not (pt_val (pe_callB (cr_any rfl) (by rfl) ma (by decide +kernel) (pa_cons (pe_lc (own := [("_law_sample", 4)]) (g := gName 4) (tt := tYes) (te := tChain (rI0 fun i j => .bl (decide (i ≤ j))) (rI0 fun i j => .bl (decide (i < j))) (tVar 3) (tVar 4) (tOp (rI0 fun i j => .int (i + j)) (tVar 3) (tVar 1))) rfl scTried.nd (pi_list (pv 2))
            (blkOk_by (own := [("_law_sample", 4)]) (N := ["_law_many", "_law_width", "_law_samples_here", "_law_first", "_law_sample"]) (sc := defScope sTried) (by decide +kernel)) (fun _ _ _ _ _ => pg_name (i := 4) scTried.nd rfl (.inl rfl)) (fun _ _ _ _ _ => pts_nil) (fun _ _ _ _ _ => pe_chain op_le op_lt (pv 3) (pv 4) (pe_op op_add (pv 3) (pv 1)))) pa_nil)))) (pss_one (ps_ret (pv 3))) pss_nil)))
      (pss_one (ps_ret pe_non)), ?_⟩
    refine ⟨_, rfl, _, rfl, m, w, rfl, rfl, _, 1, rfl, rfl, m - w + 1, rfl, by omega, by omega, for_range (n := (m - w + 1).toNat) (fun i σ Hx => ∃ y3 : Option V, σ = [some (.int m), some (.int w), some (.ref a), y3, none] ∧ (∀ b, 0 ≤ b → b < (i : Int) → Hit w S b) ∧ Same H Hx)
      ⟨_, rfl, (fun b b0 b1 => by omega), Same.refl _⟩ (fun i σ Hx hi hP => ?_) (fun σ Hx hP => ?_)⟩
    · obtain ⟨y3, rfl, hb, sx⟩ := hP
      have eS := sx _ _ hS
      have z0 : (0 : Int) + (i : Int) = (i : Int) := Int.zero_add _
      rw [z0]
      refine ⟨_, rfl, a, rfl, ⟨_, SqL.of eS⟩, fun D nD => lc_list (xs := S.map V.int) (fun j H' => Same Hx H' ∧ H' D = some (.lst (((S.take j).map (inW (i : Int) w)).map V.bl))) ⟨same_upd nD, upd_same⟩ (fun j H' _ hP => SqL.of (hP.1 _ _ eS)) (fun j x H' hx hP => ?_) (fun H1 hP => ?_)⟩
      · obtain ⟨sm, eD⟩ := hP
        obtain ⟨x, ex, rfl⟩ := int_at hx
        have et : S.take (j + 1) = S.take j ++ [x] := by rw [List.take_add_one, ex]; rfl
        have turn : ∀ b : Bool, b = inW (i : Int) w x → ∃ acc, H' D = some (.lst acc) ∧ acc.length < sizeLine ∧ Same Hx (upd H' D (.lst (acc ++ [.bl b]))) ∧ upd H' D (.lst (acc ++ [.bl b])) D = some (.lst (((S.take (j + 1)).map (inW (i : Int) w)).map V.bl)) := by
          intro b hb
          refine ⟨_, eD, small1000 ?_, fun c o e => ?_, ?_⟩
          · rw [List.length_map, List.length_map, List.length_take]
            omega
          · rw [upd_ne (ne_of_none e nD)]
            exact sm c o e
          · rw [upd_same, et, List.map_append, List.map_append, hb]
            rfl
        refine ⟨rfl, _, rfl, _, rfl, (i : Int), x, rfl, rfl, _, rfl, ite2 (fun e => ?_) (fun e => ?_)⟩
        · refine ⟨_, rfl, _, rfl, (i : Int), w, rfl, rfl, x, _, rfl, rfl, turn _ ?_⟩
          unfold inW
          rw [e, Bool.true_and]
        · refine turn _ ?_
          unfold inW
          rw [Bool.eq_false_iff.mpr e, Bool.false_and]
      · obtain ⟨s1, eD⟩ := hP
        rw [List.length_map, List.take_length] at eD
        refine ⟨D, S.map (inW (i : Int) w), rfl, SqL.of eD, _, rfl, ite2 (fun c => ?_) (fun c => ?_)⟩
        · have nh : ¬ Hit w S (i : Int) := fun z => by
            rw [hit_any.mpr z] at c
            exact absurd c (by decide)
          exact ⟨_, rfl, q (.int (i : Int)) H1 ⟨by omega, by omega, nh, hb⟩ (sx.trans s1)⟩
        · have hh : Hit w S (i : Int) := hit_any.mp (by
            cases z : (S.map (inW (i : Int) w)).any id with
            | true => rfl
            | false => rw [z] at c; exact absurd rfl c)
          refine ⟨_, rfl, fun b b0 b1 => ?_, sx.trans s1⟩
          by_cases e : b = (i : Int)
          · rw [e]; exact hh
          · exact hb b b0 (by omega)
    · obtain ⟨y3, rfl, hb, sx⟩ := hP
      exact q .non Hx (fun b b0 b1 => hb b b0 (by omega)) sx
end

/-! ### draws: great numbers, sizes -/
abbrev sSame : Stmt := topS 7
theorem scSame : FnScope ["_law_found", "_law_due"] ["_law_found", "_law_due"] (defScope sSame) := ⟨rfl, rfl, rfl, by decide +kernel, rfl, by decide +kernel, by decide +kernel⟩
def spSame : Sp := fun vs H Q _ => ∃ v : V, vs = [v, v] ∧ (v = .non ∨ ∃ a, v = .int a) ∧ Q (.bl true) H
abbrev sGreat : Stmt := topS 6
theorem scGreat : FnScope ["_law_state", "_law_parts", "_law_turn"] ["_law_state"] (defScope sGreat) := ⟨rfl, rfl, rfl, by decide +kernel, rfl, by decide +kernel, by decide +kernel⟩
def spGreat : Sp := fun vs H Q _ => ∃ (d c : Addr) (t : Int), vs = [.ref d] ∧ StAt H d c t ∧ t + 3 < 2 ^ 60 ∧ ∀ r H', 0 ≤ r → r < 10 ^ 30 → StAt H' d c (t + 3) → Kp d c H H' → Q (.int r) H'
abbrev sSizes : Stmt := topS 10
theorem scSizes : FnScope ["_law_state", "_law_kind", "_law_many", "_law_some"] ["_law_state"] (defScope sSizes) := ⟨rfl, rfl, rfl, by decide +kernel, rfl, by decide +kernel, by decide +kernel⟩
def spSizes : Sp := fun vs H Q _ => ∃ (d c : Addr) (t : Int), vs = [.ref d] ∧ StAt H d c t ∧ t + 30 < 2 ^ 60 ∧ ∀ (T : Addr) (m w t' : Int) H', H' T = some (.tup [.int m, .int w]) → 0 ≤ m → m < 10 ^ 30 → 1 ≤ w → w ≤ m + 10 → t ≤ t' → t' ≤ t + 20 → StAt H' d c t' → Kp d c H H' → Q (.ref T) H'
section
variable {K : PySem.W.Frag} {mg : Str → Option Value} {P : Program} {w : World} {base : Heap}
theorem ok_same {f : Addr} {fd : FuncData} {k : Nat} (F : Fun K "_law_same" "_law_same" sSame f fd) (mi : mg "isinstance" = none) (mb : mg "bool" = none) (mn : mg "int" = none) : FnOk P w K mg base CX0 (k + 1) f fd ["_law_found", "_law_due"] spSame := by
  refine F.ok scSame (fun vs H Q E h => ?_) (fun cdv A outer s H vs Q E hr h => ?_)
  · obtain ⟨v, rfl, _⟩ := h
    rfl
  · obtain ⟨v, rfl, hv, q⟩ := h
    refine ⟨_, pss_one (ps_ret (pe_ifExp (pt_cmpR op_isN (pv 1) pe_non (nomark _)) (pe_cmpR op_isN (pv 0) pe_non (nomark _)) (pe_and (pe_callB call_isi (by rfl) mi (by decide +kernel) (pa_cons (pv 0) (pa_cons (pe_bltn (v := .ty "int") (by rfl) mn (by decide +kernel) rfl) pa_nil))) (pe_and (pe_not (pe_callB call_isi (by rfl) mi (by decide +kernel) (pa_cons (pv 0) (pa_cons (pe_bltn (v := .ty "bool") (by rfl) mb (by decide +kernel) rfl) pa_nil)))) (pe_one (pe_cmpR op_eq (pv 0) (pv 1) (nomark _))))))), ?_⟩
    rcases hv with rfl | ⟨i, rfl⟩
    · exact ⟨_, rfl, rfl, _, rfl, iteT ⟨_, rfl, rfl, q⟩⟩
    · refine ⟨_, rfl, rfl, _, rfl, iteF ?_⟩
      refine ⟨_, rfl, _, _, .type "int", .type "int", true, rfl, .ty _, .base (.int i), kit_ty (by decide +kernel), _, rfl, iteT ?_⟩
      refine ⟨_, rfl, _, _, .type "int", .type "bool", false, rfl, .ty _, .base (.int i), kit_ty (by decide +kernel), _, rfl, _, rfl, iteT ?_⟩
      refine ⟨_, rfl, _, rfl, rfl, ?_⟩
      rw [decide_eq_true rfl]
      exact q
theorem ok_great {f : Addr} {fd : FuncData} (F : Fun K "_law_great" "_law_great" sGreat f fd) (CT : Cal P w K mg base 1 "_law_take" ["_law_state", "_law_many"] spTake) (mr : mg "range" = none) : FnOk P w K mg base CX0 2 f fd ["_law_state"] spGreat := by
  refine F.ok scGreat (fun vs H Q E h => ?_) (fun cdv A outer s H vs Q E hr h => ?_)
  · obtain ⟨d, c, t, rfl, _⟩ := h
    rfl
  · obtain ⟨d, c, t, rfl, hS, ht, q⟩ := h
    refine ⟨_, pss_cons (ps_setLc (i := 1) (own := [("_law_turn", 2)]) (g := gName 2) (tt := tYes) (te := tCall spTake [] E0 (tCons (tVar 0) (tCons (tOp (rI CPow fun i j => .int (i ^ j.toNat)) (tC (.int 10)) (tC (.int 10))) tNil))) rfl scGreat.nd rfl rfl rfl (pi_range1 rfl mr (pa_cons pe_int pa_nil))
            (blkOk_by (own := [("_law_turn", 2)]) (N := ["_law_state", "_law_parts", "_law_turn"]) (sc := defScope sGreat) (by decide +kernel)) (fun _ _ _ _ _ => pg_name (i := 2) scGreat.nd rfl (.inl rfl)) (fun _ _ _ _ _ => pts_nil) (fun _ _ _ _ _ => pe_own CT hr (by rfl) (pa_cons (pv 0) (pa_cons (pe_op op_pow pe_int pe_int) pa_nil))))
      (pss_one (ps_ret (pe_op op_add (pe_op op_add (pe_op op_mul (pe_ix ix_list (pv 1) pe_int (fun _ _ => rfl)) (pe_op op_pow pe_int pe_int)) (pe_op op_mul (pe_ix ix_list (pv 1) pe_int (fun _ _ => rfl)) (pe_op op_pow pe_int pe_int))) (pe_ix ix_list (pv 1) pe_int (fun _ _ => rfl))))), ?_⟩
    refine ⟨3, rfl, by decide, by decide, fun D nD => lc_range (n := 3) (fun j H' => ∃ ns : List Int, H' D = some (.lst (ns.map V.int)) ∧ ns.length = j ∧ (∀ x ∈ ns, 0 ≤ x ∧ x < 10 ^ 10) ∧ StAt H' d c (t + j) ∧ Kp d c H H') ⟨[], upd_same, rfl, (fun _ z => nomatch z), (by show StAt _ d c (t + 0); rw [Int.add_zero]; exact hS.same (same_upd nD)), Kp.same d c (same_upd nD)⟩ (fun j H' hj hP => ?_) (fun H1 hP => ?_)⟩
    · obtain ⟨ns, eD, hl, hns, hS', k'⟩ := hP
      have offD := hS.off nD
      refine ⟨rfl, _, rfl, 10, 10, rfl, rfl, ⟨by decide, by decide, by decide⟩, d, c, t + j, 10 ^ 10, rfl, hS', by omega, by decide, by decide, fun r H2 r0 r1 hS2 k2 => ?_⟩
      refine ⟨_, k2 _ _ offD.1 offD.2 eD, small1000 (by rw [List.length_map]; omega), ns ++ [r], by rw [upd_same, List.map_append]; rfl, by rw [List.length_append, hl]; rfl, fun x hx => ?_, ?_, fun b o b1 b2 e => ?_⟩
      · rcases List.mem_append.mp hx with z | z
        · exact hns x z
        · rw [List.mem_singleton.mp z]; exact ⟨r0, r1⟩
      · have ej : t + ((j + 1 : Nat) : Int) = t + (j : Int) + 1 := by omega
        rw [ej]
        exact hS2.upd offD.1 offD.2
      · rw [upd_ne (ne_of_none e nD)]
        exact k2 b o b1 b2 (k' b o b1 b2 e)
    · obtain ⟨ns, eD, hl, hns, hS1, k1⟩ := hP
      match ns, hl with
      | [x, y, z], _ =>
        obtain ⟨x0, x1⟩ := hns x (by simp)
        obtain ⟨y0, y1⟩ := hns y (by simp)
        obtain ⟨z0, z1⟩ := hns z (by simp)
        refine ⟨_, rfl, D, _, 0, .int x, rfl, rfl, SqL.of eD, rfl, 10, 20, rfl, rfl, ⟨by decide, by decide, by decide⟩, x, 10 ^ 20, rfl, rfl, .inl ⟨by omega, by omega⟩, ?_⟩
        refine ⟨_, rfl, D, _, 1, .int y, rfl, rfl, SqL.of eD, rfl, 10, 10, rfl, rfl, ⟨by decide, by decide, by decide⟩, y, 10 ^ 10, rfl, rfl, .inl ⟨by omega, by omega⟩, x * 10 ^ 20, y * 10 ^ 10, rfl, rfl, ?_⟩
        refine ⟨_, rfl, D, _, 2, .int z, rfl, rfl, SqL.of eD, rfl, x * 10 ^ 20 + y * 10 ^ 10, z, rfl, rfl, ?_⟩
        exact q _ H1 (by omega) (by omega) hS1 k1
theorem ok_sizes {f : Addr} {fd : FuncData} (F : Fun K "_law_sizes" "_law_sizes" sSizes f fd) (CT : Cal P w K mg base 1 "_law_take" ["_law_state", "_law_many"] spTake) (CG : Cal P w K mg base 2 "_law_great" ["_law_state"] spGreat) : FnOk P w K mg base CX0 3 f fd ["_law_state"] spSizes := by
  refine F.ok scSizes (fun vs H Q E h => ?_) (fun cdv A outer s H vs Q E hr h => ?_)
  · obtain ⟨d, c, t, rfl, _⟩ := h
    rfl
  · obtain ⟨d, c, t, rfl, hS, ht, q⟩ := h
    have hr1 := hr.mono (show 1 ≤ 2 by decide)
    refine ⟨_, pss_cons (ps_set (i := 1) scSizes.nd rfl (.inl rfl) (pe_own CT hr1 (by rfl) (pa_cons (pv 0) (pa_cons pe_int pa_nil))))
      (pss_cons (ps_set (i := 2) scSizes.nd rfl (.inl rfl) (pe_ix ix_list (pe_lst (pa_cons (pe_own CT hr1 (by rfl) (pa_cons (pv 0) (pa_cons pe_int pa_nil))) (pa_cons (pe_own CT hr1 (by rfl) (pa_cons (pv 0) (pa_cons pe_int pa_nil))) (pa_cons (pe_own CT hr1 (by rfl) (pa_cons (pv 0) (pa_cons pe_int pa_nil))) (pa_cons (pe_own CG hr (by rfl) (pa_cons (pv 0) pa_nil)) (pa_cons (pe_op op_mul pe_int pe_int) pa_nil)))))) (pv 1) (fun _ _ => rfl)))
      (pss_cons (ps_set (i := 3) scSizes.nd rfl (.inl rfl) (pe_lst (pa_cons (pe_op op_add pe_int (pe_own CT hr1 (by rfl) (pa_cons (pv 0) (pa_cons pe_int pa_nil)))) (pa_cons (pe_op op_add pe_int (pe_op op_fdivW (pv 2) (pe_op op_add pe_int (pe_own CT hr1 (by rfl) (pa_cons (pv 0) (pa_cons pe_int pa_nil)))))) (pa_cons (pe_op op_add pe_int (pe_op op_mod (pe_own CG hr (by rfl) (pa_cons (pv 0) pa_nil)) (pe_op op_add (pv 2) pe_int))) (pa_cons pe_int pa_nil))))))
      (pss_one (ps_ret (pe_tup (pa_cons (pv 2) (pa_cons (pe_ix ix_list (pv 3) (pe_own CT hr1 (by rfl) (pa_cons (pv 0) (pa_cons pe_int pa_nil))) (fun _ _ => rfl)) pa_nil))))))), ?_⟩
    refine ⟨_, rfl, d, c, t, 5, rfl, hS, by omega, by decide, by decide, fun kd H1 kd0 kd1 hS1 k1 => ?_⟩
    refine ⟨_, rfl, d, c, t + 1, 4, rfl, hS1, by omega, by decide, by decide, fun r2 H2 r20 r21 hS2 k2 => ?_⟩
    refine ⟨_, rfl, d, c, t + 1 + 1, 60, rfl, hS2, by omega, by decide, by decide, fun r3 H3 r30 r31 hS3 k3 => ?_⟩
    refine ⟨_, rfl, d, c, t + 1 + 1 + 1, 1001, rfl, hS3, by omega, by decide, by decide, fun r4 H4 r40 r41 hS4 k4 => ?_⟩
    refine ⟨_, rfl, d, c, t + 1 + 1 + 1 + 1, rfl, hS4, by omega, fun r5 H5 r50 r51 hS5 k5 => ?_⟩
    refine ⟨24, 7, rfl, rfl, .inl ⟨by decide, by decide⟩, (by show 5 ≤ sizeLine; decide), fun z nz => ?_⟩
    have sz := same_upd (o := .lst [.int r2, .int r3, .int r4, .int r5, .int (24 * 7)]) nz
    obtain ⟨m, m0, m1, hat⟩ : ∃ m : Int, 0 ≤ m ∧ m < 10 ^ 30 ∧ atI [V.int r2, V.int r3, V.int r4, V.int r5, V.int (24 * 7)] kd = some (.int m) := by
      have : kd = 0 ∨ kd = 1 ∨ kd = 2 ∨ kd = 3 ∨ kd = 4 := by omega
      rcases this with rfl | rfl | rfl | rfl | rfl
      · exact ⟨r2, by omega, by omega, rfl⟩
      · exact ⟨r3, by omega, by omega, rfl⟩
      · exact ⟨r4, by omega, by omega, rfl⟩
      · exact ⟨r5, by omega, by omega, rfl⟩
      · exact ⟨24 * 7, by decide, by decide, rfl⟩
    refine ⟨_, rfl, z, _, kd, .int m, rfl, rfl, SqL.of upd_same, hat, ?_⟩
    have k06 : Kp d c H (upd H5 z (.lst [.int r2, .int r3, .int r4, .int r5, .int (24 * 7)])) := ((((k1.trans k2).trans k3).trans k4).trans k5).trans (Kp.same d c sz)
    have hS6 := hS5.same sz
    revert k06 hS6
    generalize upd H5 z (.lst [.int r2, .int r3, .int r4, .int r5, .int (24 * 7)]) = H6
    intro k06 hS6
    refine ⟨_, rfl, d, c, t + 1 + 1 + 1 + 1 + 3, 9, rfl, hS6, by omega, by decide, by decide, fun r7 H7 r70 r71 hS7 k7 => ⟨1, r7, rfl, rfl, ?_⟩⟩
    refine ⟨_, rfl, _, rfl, d, c, _, 30, rfl, hS7, by omega, by decide, by decide, fun r8 H8 r80 r81 hS8 k8 => ⟨1, r8, rfl, rfl, m, 1 + r8, rfl, rfl, ⟨by omega, Nat.lt_trans (log_lt (by omega)) (by decide)⟩, 1, m / (1 + r8), rfl, rfl, ?_⟩⟩
    have hq0 : 0 ≤ m / (1 + r8) := Int.ediv_nonneg m0 (by omega)
    have hq1 : m / (1 + r8) ≤ m := Int.ediv_le_self _ m0
    refine ⟨_, rfl, d, c, _, rfl, hS8, by omega, fun r9 H9 r90 r91 hS9 k9 => ⟨_, rfl, m, 2, rfl, rfl, r9, m + 2, rfl, rfl, by omega, 1, r9 % (m + 2), rfl, rfl, (by show 4 ≤ sizeLine; decide), fun z10 nz10 => ?_⟩⟩
    have hm0 : 0 ≤ r9 % (m + 2) := Int.emod_nonneg _ (by omega)
    have hm1 : r9 % (m + 2) < m + 2 := Int.emod_lt_of_pos _ (by omega)
    have sz10 := same_upd (o := .lst [.int (1 + r7), .int (1 + m / (1 + r8)), .int (1 + r9 % (m + 2)), .int 7]) nz10
    have off10 := hS9.off nz10
    refine ⟨_, rfl, _, rfl, _, rfl, d, c, _, 4, rfl, hS9.same sz10, by omega, by decide, by decide, fun r11 H11 r110 r111 hS11 k11 => ?_⟩
    obtain ⟨w, w0, w1, hat2⟩ : ∃ w : Int, 1 ≤ w ∧ w ≤ m + 10 ∧ atI [V.int (1 + r7), V.int (1 + m / (1 + r8)), V.int (1 + r9 % (m + 2)), V.int 7] r11 = some (.int w) := by
      have : r11 = 0 ∨ r11 = 1 ∨ r11 = 2 ∨ r11 = 3 := by omega
      rcases this with rfl | rfl | rfl | rfl
      · exact ⟨_, by omega, by omega, rfl⟩
      · exact ⟨_, by omega, by omega, rfl⟩
      · exact ⟨_, by omega, by omega, rfl⟩
      · exact ⟨_, by omega, by omega, rfl⟩
    refine ⟨z10, _, r11, .int w, rfl, rfl, SqL.of (k11 _ _ off10.1 off10.2 upd_same), hat2, (by show 2 ≤ sizeLine; decide), fun T nT => ?_⟩
    have sT := same_upd (o := .tup [.int m, .int w]) nT
    exact q T m w _ _ upd_same m0 m1 w0 w1 (by omega) (by omega) (hS11.same sT) (((((k06.trans k7).trans k8).trans k9).trans ((Kp.same d c sz10).trans k11)).trans (Kp.same d c sT))
end

/-! ### samples -/
/-- a test, then a word of what it gives -/
def tMidT (tt : TT) : TT := fun σ H Q => ∃ M : Bool → Hp → Prop, tt σ H M ∧ ∀ b H', M b H' → Q b H'
theorem pt_mid {X : Cx} {e : Expr} {tt : TT} (h : PT X e tt) : PT X e (tMidT tt) := ⟨fun pins s σ H Q I ⟨M, h1, h2⟩ => thn (h.run pins s σ H M I h1) fun _ _ ⟨H1, I1, q⟩ => ⟨H1, I1, h2 _ _ q⟩⟩
theorem eqv_int_nil (ns : List Int) : PyData.eqv (PyData.list (ns.map PyData.int)) (PyData.list []) = ns.isEmpty := by
  cases ns with
  | nil => simp [PyData.eqv, PyData.eqvAll]
  | cons p r => simp [PyData.eqv, PyData.eqvAll]
theorem seqIx {j n : Nat} (h : j < n) : seqIndex? (j : Int) n = some j := by
  unfold seqIndex?
  have h0 : ¬ ((j : Int) < 0) := by omega
  have h1 : (decide (0 ≤ (j : Int)) && decide ((j : Int) < (n : Int))) = true := by rw [decide_eq_true (by omega), decide_eq_true (by omega)]; rfl
  simp only [if_neg h0, h1, if_true]
  rfl
theorem erase_map {α β : Type} (f : α → β) : ∀ (xs : List α) (k : Nat), (xs.map f).eraseIdx k = (xs.eraseIdx k).map f
  | [], _ => rfl
  | _ :: _, 0 => rfl
  | x :: r, k + 1 => congrArg (f x :: ·) (erase_map f r k)
/-- the ends of the first so many widths -/
def endsF (w : Int) (n : Nat) : List Int := (List.range n).map fun j : Nat => ((j : Int) + 1) * w - 1
theorem endsF_snoc (w : Int) (n : Nat) : endsF w (n + 1) = endsF w n ++ [((n : Int) + 1) * w - 1] := by unfold endsF; rw [List.range_succ, List.map_append]; rfl
theorem endsF_len (w : Int) (n : Nat) : (endsF w n).length = n := by unfold endsF; rw [List.length_map, List.length_range]
abbrev sSamples : Stmt := topS 11
theorem scSamples : FnScope ["_law_state", "_law_many", "_law_width", "_law_few", "_law_kind", "_law_found", "_law_at", "_law_number", "_law_turn"] ["_law_state", "_law_many", "_law_width"] (defScope sSamples) := ⟨rfl, rfl, rfl, by decide +kernel, rfl, by decide +kernel, by decide +kernel⟩
def spSamples : Sp := fun vs H Q _ => ∃ (d c : Addr) (t m w : Int), vs = [.ref d, .int m, .int w] ∧ StAt H d c t ∧ t + 300 < 2 ^ 60 ∧ 0 ≤ m ∧ m < 10 ^ 30 ∧ 1 ≤ w ∧ w ≤ m + 10 ∧
  ∀ (l : Addr) (ss : List Int) (t' : Int) H', H l = none → H' l = some (.lst (ss.map V.int)) → ss.length ≤ 30 → t ≤ t' → t' ≤ t + 150 → StAt H' d c t' → Kp d c H H' → Q (.ref l) H'
def SamW (H : Hp) (d c : Addr) (t m w fe kd B : Int) (σ : L2.St) (Hx : Hp) : Prop := ∃ (l : Addr) (ss : List Int) (t' : Int) (y6 : Option V), σ = [some (.ref d), some (.int m), some (.int w), some (.int fe), some (.int kd), some (.ref l), y6, none, none] ∧ H l = none ∧ Hx l = some (.lst (ss.map V.int)) ∧ ss.length ≤ 24 ∧ t ≤ t' ∧ t' ≤ t + B ∧ StAt Hx d c t' ∧ Kp d c H Hx
theorem kp_at {H Hx : Hp} {d c l : Addr} {o : HO} (k : Kp d c H Hx) (nl : H l = none) : Kp d c H (upd Hx l o) := fun b o b1 b2 e => by
  rw [upd_ne (ne_of_none e nl)]
  exact k b o b1 b2 e
section
variable {K : PySem.W.Frag} {mg : Str → Option Value} {P : Program} {w : World} {base : Heap}
theorem ok_samples {f : Addr} {fd : FuncData} (F : Fun K "_law_samples" "_law_samples" sSamples f fd) (CT : Cal P w K mg base 1 "_law_take" ["_law_state", "_law_many"] spTake) (CG : Cal P w K mg base 2 "_law_great" ["_law_state"] spGreat) (mr : mg "range" = none) (me : mg "len" = none) (mx : mg "max" = none) (mm : mg "min" = none) : FnOk P w K mg base CX0 3 f fd ["_law_state", "_law_many", "_law_width"] spSamples := by
  refine F.ok scSamples (fun vs H Q E h => ?_) (fun cdv A outer s H vs Q E hr h => ?_)
  · obtain ⟨d, c, t, m, w, rfl, _⟩ := h
    rfl
  · obtain ⟨d, c, t, m, w, rfl, hS, ht, m0, m1, w0, w1, q⟩ := h
    have hr1 := hr.mono (show 1 ≤ 2 by decide)
    refine ⟨_, pss_cons (ps_par rfl scSamples.nd (i := 3) (j := 4) rfl rfl (by decide) rfl rfl (pa_cons (pe_callB (call_min2 rfl) (by rfl) mm (by decide +kernel) (pa_cons pe_int (pa_cons (pe_op op_fdivW (pv 1) (pv 2)) pa_nil))) (pa_cons (pe_own CT hr1 (by rfl) (pa_cons (pv 0) (pa_cons pe_int pa_nil))) pa_nil)) (by rfl))
      (pss_cons (ps_setLc (i := 5) (own := [("_law_number", 7)]) (g := gName 7) (tt := tYes) (te := tOp (rI0 fun i j => .int (i - j)) (tOp (rI CMul fun i j => .int (i * j)) (tOp (rI0 fun i j => .int (i + j)) (tVar 7) (tC (.int 1))) (tVar 2)) (tC (.int 1))) rfl scSamples.nd rfl rfl rfl (pi_range1 rfl mr (pa_cons (pv 3) pa_nil))
            (blkOk_by (own := [("_law_number", 7)]) (N := ["_law_state", "_law_many", "_law_width", "_law_few", "_law_kind", "_law_found", "_law_at", "_law_number", "_law_turn"]) (sc := defScope sSamples) (by decide +kernel)) (fun _ _ _ _ _ => pg_name (i := 7) scSamples.nd rfl (.inl rfl)) (fun _ _ _ _ _ => pts_nil) (fun _ _ _ _ _ => pe_op op_sub (pe_op op_mul (pe_op op_add (pv 7) pe_int) (pv 2)) pe_int))
      (Evl.pss_cut (ps_if (pt_mid (PW.pt (pw_or (pt_cmpR op_eq (pv 4) pe_int (nomark _)) (pw_or1 (pt_cmpR (op_eqD hr.units) (pv 5) (pe_lst pa_nil) (nomark _))))))
          (pss_one (ps_setLc (i := 5) (own := [("_law_turn", 8)]) (g := gName 8) (tt := tYes) (te := tOp (rI (fun _ j => 0 < j) fun i j => .int (i % j)) (tCall spGreat [] E0 (tCons (tVar 0) tNil)) (tOp (rI0 fun i j => .int (i + j)) (tVar 1) (tC (.int 3)))) rfl scSamples.nd rfl rfl rfl (pi_range1 rfl mr (pa_cons (pe_own CT hr1 (by rfl) (pa_cons (pv 0) (pa_cons pe_int pa_nil))) pa_nil))
            (blkOk_by (own := [("_law_turn", 8)]) (N := ["_law_state", "_law_many", "_law_width", "_law_few", "_law_kind", "_law_found", "_law_at", "_law_number", "_law_turn"]) (sc := defScope sSamples) (by decide +kernel)) (fun _ _ _ _ _ => pg_name (i := 8) scSamples.nd rfl (.inl rfl)) (fun _ _ _ _ _ => pts_nil) (fun _ _ _ _ _ => pe_op op_mod (pe_own CG hr (by rfl) (pa_cons (pv 0) pa_nil)) (pe_op op_add (pv 1) pe_int))))
          (pss_one (ps_if (pt_cmpR op_eq (pv 4) pe_int (nomark _)) (pss_one (ps_expr (pe_bm PySem.F.plainAttrs_list PySem.F.slot_list_pop PySem.F.type_list_pop mt_popAt (pv 5) (pa_cons (pe_own CT hr1 (by rfl) (pa_cons (pv 0) (pa_cons (pv 3) pa_nil))) pa_nil))))
            (pss_one (ps_if (pt_cmpR op_eq (pv 4) pe_int (nomark _))
              (pss_cons (ps_set (i := 6) scSamples.nd rfl (.inl rfl) (pe_own CT hr1 (by rfl) (pa_cons (pv 0) (pa_cons (pv 3) pa_nil))))
              (pss_one (ps_asg (pe_callB (call_max2 rfl) (by rfl) mx (by decide +kernel) (pa_cons pe_int (pa_cons (pe_op op_add (pe_ix ix_list (pv 5) (pv 6) (fun _ _ => rfl)) (pe_ix ix_list (pe_lst (pa_cons pe_int (pa_cons (pe_un un_neg pe_int) (pa_cons pe_int pa_nil)))) (pe_own CT hr1 (by rfl) (pa_cons (pv 0) (pa_cons pe_int pa_nil))) (fun _ _ => rfl))) pa_nil))) (pg_sub (pv 5) (pv 6) set_list))))
              pss_nil)))))
      (Evl.pss_cut (ps_if (pt_cmpR op_eq (pe_own CT hr1 (by rfl) (pa_cons (pv 0) (pa_cons pe_int pa_nil))) pe_int (nomark _)) (pss_one (ps_expr (pe_bm0 PySem.F.plainAttrs_list PySem.F.slot_list_reverse PySem.F.type_list_reverse mt_reverse (pv 5)))) pss_nil)
      (pss_cons (ps_if (PW.pt (pw_and (pt_cmpR (op_neD hr.units) (pv 5) (pe_lst pa_nil) (nomark _)) (pw_and (pt_cmpR op_lt (pe_callB call_len_seq (by rfl) me PySem.boot_len (pa_cons (pv 5) pa_nil)) pe_int (nomark _)) (pw_and1 (pt_cmpR op_eq (pe_own CT hr1 (by rfl) (pa_cons (pv 0) (pa_cons pe_int pa_nil))) pe_int (nomark _))))))
          (pss_one (ps_expr (pe_bm PySem.F.plainAttrs_list PySem.F.slot_list_append PySem.F.type_list_append mt_append (pv 5) (pa_cons (pe_ix ix_list (pv 5) (pe_own CT hr1 (by rfl) (pa_cons (pv 0) (pa_cons (pe_callB call_len_seq (by rfl) me PySem.boot_len (pa_cons (pv 5) pa_nil)) pa_nil))) (fun _ _ => rfl)) pa_nil)))) pss_nil)
      (pss_one (ps_ret (pv 5))))))), ?_⟩
    refine ⟨_, rfl, _, rfl, m, w, rfl, rfl, ⟨by omega, Nat.lt_trans (log_lt (by omega)) (by decide)⟩, 24, m / w, rfl, ?_⟩
    have hq0 : 0 ≤ m / w := Int.ediv_nonneg m0 (by omega)
    obtain ⟨fe, hfe, fe0, fe1⟩ : ∃ fe : Int, (if m / w < 24 then m / w else 24) = fe ∧ 0 ≤ fe ∧ fe ≤ 24 := ⟨_, rfl, by split <;> omega, by split <;> omega⟩
    rw [hfe]
    refine ⟨_, rfl, d, c, t, 4, rfl, hS, by omega, by decide, by decide, fun kd H1 kd0 kd1 hS1 k1 => ⟨_, _, rfl, ?_⟩⟩
    refine ⟨_, rfl, fe, rfl, by omega, by omega, fun D nD => lc_range (n := fe.toNat) (fun j H' => Same H1 H' ∧ H' D = some (.lst ((endsF w j).map V.int))) ⟨same_upd nD, upd_same⟩ (fun j H' hj hP => ?_) (fun H2 hP => ?_)⟩
    · obtain ⟨sm, eD⟩ := hP
      have z0 : (0 : Int) + (j : Int) = (j : Int) := Int.zero_add _
      refine ⟨rfl, _, rfl, 0 + (j : Int), 1, rfl, rfl, _, rfl, 0 + (j : Int) + 1, w, rfl, rfl, .inl ⟨by omega, by omega⟩, _, 1, rfl, rfl, _, eD, small1000 (by rw [List.length_map, endsF_len]; omega), fun b o e => ?_, ?_⟩
      · rw [upd_ne (ne_of_none e nD)]
        exact sm b o e
      · rw [upd_same, endsF_snoc, List.map_append, z0]
        rfl
    obtain ⟨s2, eD2⟩ := hP
    have nDH : H D = none := Kp.free k1 hS1 nD
    have offD := hS1.off nD
    have hS2 := hS1.same s2
    have k02 : Kp d c H H2 := k1.trans (Kp.same d c s2)
    have hel : (endsF w fe.toNat).length = fe.toNat := endsF_len ..
    revert eD2 hel
    generalize endsF w fe.toNat = es
    intro eD2 hel
    refine ⟨SamW H d c t m w fe kd 100, ?_, fun σ Hx hM => ?_⟩
    · refine ⟨fun b H' => Same H2 H' ∧ (b = false → 0 < fe), ?_, fun b H3 hM => ?_⟩
      · refine ⟨_, rfl, rfl, _, rfl, ite2 (fun c1 => ?_) (fun c1 => ?_)⟩
        · exact ⟨Same.refl _, fun z => nomatch z⟩
        · refine ⟨_, rfl, Nat.zero_le _, fun z nz => ?_⟩
          have sz := same_upd (o := .lst []) nz
          refine ⟨_, _, .lst (SqL.of (sz _ _ eD2)) (dp_ints es), .lst (SqL.of upd_same) .nil, shaped_ints _, shaped_ints [], _, rfl, sz, fun hb => ?_⟩
          rw [eqv_int_nil] at hb
          have : es ≠ [] := fun e => by rw [e] at hb; exact nomatch hb
          have := List.length_pos_iff.mpr this
          omega
      obtain ⟨s3, hb⟩ := hM
      have eD3 := s3 _ _ eD2
      have hS3 := hS2.same s3
      have k03 : Kp d c H H3 := k02.trans (Kp.same d c s3)
      cases b with
      | true =>
        refine iteT ?_
        refine ⟨_, rfl, d, c, t + 1, 25, rfl, hS3, by omega, by decide, by decide, fun r4 H4 r40 r41 hS4 k4 => ⟨r4, rfl, by omega, by omega, fun D5 nD5 => lc_range (n := r4.toNat) (fun j H' => ∃ (ns : List Int) (t' : Int), H' D5 = some (.lst (ns.map V.int)) ∧ ns.length = j ∧ t ≤ t' ∧ t' ≤ t + 2 + 3 * j ∧ StAt H' d c t' ∧ Kp d c H H') ⟨[], t + 1 + 1, upd_same, rfl, by omega, by omega, hS4.same (same_upd nD5), (k03.trans k4).trans (Kp.same d c (same_upd nD5))⟩ (fun j H' hj hP => ?_) (fun H5 hP => ?_)⟩⟩
        · obtain ⟨ns, t', e5, hl, u0, u1, hS', k'⟩ := hP
          have off5 := hS4.off nD5
          refine ⟨rfl, _, rfl, d, c, t', rfl, hS', by omega, fun r H6 r0 r1 hS6 k6 => ⟨_, rfl, m, 3, rfl, rfl, r, m + 3, rfl, rfl, by omega, ?_⟩⟩
          exact ⟨_, k6 _ _ off5.1 off5.2 e5, small1000 (by rw [List.length_map]; omega), ns ++ [r % (m + 3)], t' + 3, by rw [upd_same, List.map_append]; rfl, by rw [List.length_append, hl]; rfl, by omega, by omega, hS6.upd off5.1 off5.2, kp_at (k'.trans k6) (Kp.free (k03.trans k4) hS4 nD5)⟩
        · obtain ⟨ns, t', e5, hl, u0, u1, hS', k'⟩ := hP
          exact ⟨D5, ns, t', _, rfl, Kp.free (k03.trans k4) hS4 nD5, e5, by omega, u0, by omega, hS', k'⟩
      | false =>
        have hfe2 := hb rfl
        refine iteF ?_
        refine ⟨_, rfl, rfl, _, rfl, ite2 (fun c1 => ?_) (fun c1 => ?_)⟩
        · refine ⟨_, rfl, .inl ⟨rfl, _, SqL.of eD3⟩, _, rfl, _, rfl, d, c, t + 1, fe, rfl, hS3, by omega, by omega, by omega, fun r H4 r0 r1 hS4 k4 => ?_⟩
          obtain ⟨j, rfl⟩ := Int.eq_ofNat_of_zero_le r0
          have hj : j < es.length := by omega
          refine ⟨D, _, (j : Int), j, .int es[j], rfl, rfl, k4 _ _ offD.1 offD.2 eD3, by omega, by omega, seqIx (by rw [List.length_map]; exact hj), by rw [List.getElem?_map, List.getElem?_eq_getElem hj]; rfl, ?_⟩
          have el : (es.eraseIdx j).length ≤ 24 := by have := List.length_eraseIdx_le es j; omega
          exact ⟨D, es.eraseIdx j, t + 1 + 1, _, rfl, nDH, by rw [upd_same, erase_map], el, by omega, by omega, hS4.upd offD.1 offD.2, kp_at (k03.trans k4) nDH⟩
        · refine ⟨_, rfl, rfl, _, rfl, ite2 (fun c2 => ?_) (fun c2 => ?_)⟩
          · refine ⟨_, rfl, _, rfl, d, c, t + 1, fe, rfl, hS3, by omega, by omega, by omega, fun r H4 r0 r1 hS4 k4 => ?_⟩
            obtain ⟨j, rfl⟩ := Int.eq_ofNat_of_zero_le r0
            have hj : j < es.length := by omega
            have eD4 := k4 _ _ offD.1 offD.2 eD3
            refine ⟨_, rfl, _, rfl, D, _, (j : Int), .int es[j], rfl, rfl, SqL.of eD4, atI_nat (by rw [List.getElem?_map, List.getElem?_eq_getElem hj]; rfl), 1, rfl, (by show 3 ≤ sizeLine; decide), fun z5 nz5 => ?_⟩
            have sz5 := same_upd (o := .lst [.int 1, .int (-1), .int 0]) nz5
            have off5 := hS4.off nz5
            refine ⟨_, rfl, d, c, t + 1 + 1, 3, rfl, hS4.same sz5, by omega, by decide, by decide, fun r6 H6 r60 r61 hS6 k6 => ?_⟩
            obtain ⟨v, hv⟩ : ∃ v : Int, atI [V.int 1, V.int (-1), V.int 0] r6 = some (.int v) := by
              have : r6 = 0 ∨ r6 = 1 ∨ r6 = 2 := by omega
              rcases this with rfl | rfl | rfl
              · exact ⟨_, rfl⟩
              · exact ⟨_, rfl⟩
              · exact ⟨_, rfl⟩
            have k46 : Kp d c H4 H6 := (Kp.same d c sz5).trans k6
            refine ⟨z5, _, r6, .int v, rfl, rfl, SqL.of (k6 _ _ off5.1 off5.2 upd_same), hv, es[j], v, rfl, rfl, 0, es[j] + v, rfl, ?_⟩
            refine ⟨_, rfl, _, rfl, D, _, (j : Int), j, rfl, rfl, k46 _ _ offD.1 offD.2 eD4, ixN_of (by rw [List.length_map]; exact hj), ?_⟩
            exact ⟨D, es.set j (if es[j] + v > 0 then es[j] + v else 0), t + 1 + 1 + 1, _, rfl, nDH, by rw [upd_same, List.map_set], by rw [List.length_set]; omega, by omega, by omega, hS6.upd offD.1 offD.2, kp_at ((k03.trans k4).trans k46) nDH⟩
          · exact ⟨D, es, t + 1, _, rfl, nDH, eD3, by omega, by omega, by omega, hS3, k03⟩
    obtain ⟨l, ss, t4, y6, rfl, nl, el, hsl, u0, u1, hS4, k4⟩ := hM
    have offl := hS.off nl
    refine ⟨SamW H d c t m w fe kd 101, ?_, fun σ Hy hM => ?_⟩
    · refine ⟨_, rfl, d, c, t4, 2, rfl, hS4, by omega, by decide, by decide, fun r H5 r0 r1 hS5 k5 => ⟨rfl, _, rfl, ite2 (fun c1 => ?_) (fun c1 => ?_)⟩⟩
      · have e5 := k5 _ _ offl.1 offl.2 el
        exact ⟨_, rfl, .inl ⟨rfl, _, SqL.of e5⟩, l, _, rfl, rfl, e5, l, ss.reverse, t4 + 1, _, rfl, nl, by rw [upd_same, List.map_reverse], by rw [List.length_reverse]; exact hsl, by omega, by omega, hS5.upd offl.1 offl.2, kp_at (k4.trans k5) nl⟩
      · exact ⟨l, ss, t4 + 1, _, rfl, nl, k5 _ _ offl.1 offl.2 el, hsl, by omega, by omega, hS5, k4.trans k5⟩
    obtain ⟨l, ss, t5, y6, rfl, nl, el, hsl, u0, u1, hS5, k5⟩ := hM
    have offl := hS.off nl
    refine ⟨_, rfl, Nat.zero_le _, fun z nz => ?_⟩
    have sz := same_upd (o := .lst []) nz
    refine ⟨_, _, .lst (SqL.of (sz _ _ el)) (dp_ints ss), .lst (SqL.of upd_same) .nil, shaped_ints _, shaped_ints [], _, rfl, ?_⟩
    have k6 : Kp d c H (upd Hy z (.lst [])) := k5.trans (Kp.same d c sz)
    have hS6 := hS5.same sz
    have el6 := sz _ _ el
    revert k6 hS6 el6
    generalize upd Hy z (.lst []) = H6
    intro k6 hS6 el6
    rw [eqv_int_nil]
    refine ite2 (fun c1 => ?_) (fun c1 => iteF ⟨_, rfl, q l ss t5 H6 nl el6 (by omega) u0 (by omega) hS6 k6⟩)
    have hne : ss ≠ [] := fun e => by rw [e] at c1; exact absurd c1 (by decide)
    have hpos := List.length_pos_iff.mpr hne
    have lm : (ss.map V.int).length = ss.length := List.length_map ..
    refine ⟨_, rfl, l, _, rfl, Sq.list el6, _, 24, rfl, rfl, _, rfl, ite2 (fun c2 => ?_) (fun c2 => iteF ⟨_, rfl, q l ss t5 H6 nl el6 (by omega) u0 (by omega) hS6 k6⟩)⟩
    refine ⟨_, rfl, d, c, t5, 3, rfl, hS6, by omega, by decide, by decide, fun r H7 r0 r1 hS7 k7 => ⟨rfl, _, rfl, ite2 (fun c3 => ?_) (fun c3 => ?_)⟩⟩
    · have el7 := k7 _ _ offl.1 offl.2 el6
      refine ⟨_, rfl, .inl ⟨rfl, _, SqL.of el7⟩, _, rfl, _, rfl, _, rfl, l, _, rfl, Sq.list el7, d, c, t5 + 1, (ss.length : Int), by rw [lm]; rfl, hS7, by omega, by omega, by omega, fun r8 H8 r80 r81 hS8 k8 => ?_⟩
      obtain ⟨j, rfl⟩ := Int.eq_ofNat_of_zero_le r80
      have hj : j < ss.length := by omega
      have el8 := k8 _ _ offl.1 offl.2 el7
      refine ⟨l, _, (j : Int), .int ss[j], rfl, rfl, SqL.of el8, atI_nat (by rw [List.getElem?_map, List.getElem?_eq_getElem hj]; rfl), l, _, _, rfl, rfl, el8, small1000 (by omega), ?_⟩
      refine ⟨_, rfl, q l (ss ++ [ss[j]]) (t5 + 1 + 1) _ nl (by rw [upd_same, List.map_append]; rfl) (by rw [List.length_append]; show _ + 1 ≤ _; omega) (by omega) (by omega) (hS8.upd offl.1 offl.2) (kp_at ((k6.trans k7).trans k8) nl)⟩
    · exact ⟨_, rfl, q l ss (t5 + 1) H7 nl (k7 _ _ offl.1 offl.2 el6) (by omega) (by omega) (by omega) hS7 (k6.trans k7)⟩
end

/-! ### one at each width's end -/
theorem cut_back (xs : List V) (m : Nat) : cutV xs (some (m : Int)) none = xs.drop m := by
  unfold cutV
  rw [HT.sIx_none, HT.sIx_nat]
  by_cases h : m ≤ xs.length
  · rw [Nat.min_eq_left h]
    exact List.take_of_length_le (by rw [List.length_drop]; exact Nat.le_refl _)
  · rw [Nat.min_eq_right (by omega), Nat.sub_self, List.take_zero, List.drop_eq_nil_of_le (by omega)]
theorem mem_ends {w x : Int} {n : Nat} : x ∈ endsF w n ↔ ∃ j, j < n ∧ x = ((j : Int) + 1) * w - 1 := by
  unfold endsF
  rw [List.mem_map]
  exact ⟨fun ⟨j, h1, h2⟩ => ⟨j, List.mem_range.mp h1, h2.symm⟩, fun ⟨j, h1, h2⟩ => ⟨j, List.mem_range.mpr h1, h2.symm⟩⟩
theorem div_at {w b : Int} (hw : 1 ≤ w) : b / w * w ≤ b ∧ b < b / w * w + w := by
  have e := Int.mul_ediv_add_emod b w
  have m0 := Int.emod_nonneg b (show w ≠ 0 by omega)
  have m1 := Int.emod_lt_of_pos b (show 0 < w by omega)
  rw [Int.mul_comm] at e
  omega
/-- the width in which a tin lies, its end is behind it, less than a width -/
theorem end_in {m w b : Int} (hw : 1 ≤ w) (b0 : 0 ≤ b) : b ≤ ((((b / w).toNat : Nat) : Int) + 1) * w - 1 ∧ ((((b / w).toNat : Nat) : Int) + 1) * w - 1 < b + w ∧ (b + w ≤ m → (b / w).toNat < (m / w).toNat) := by
  have hq : 0 ≤ b / w := Int.ediv_nonneg b0 (by omega)
  have ⟨d1, d2⟩ := div_at (b := b) hw
  have ec : (((b / w).toNat : Nat) : Int) = b / w := Int.toNat_of_nonneg hq
  rw [ec, Int.add_mul, Int.one_mul]
  refine ⟨by omega, by omega, fun h => ?_⟩
  have : b / w + 1 ≤ m / w := Int.le_ediv_of_mul_le (by omega) (by rw [Int.add_mul, Int.one_mul]; omega)
  omega
theorem ends_none {m w : Int} (hw : 1 ≤ w) : FM m w (endsF w (m / w).toNat) .non := fun b b0 b1 => by
  have ⟨h1, h2, h3⟩ := end_in (m := m) hw b0
  exact ⟨_, mem_ends.mpr ⟨_, h3 b1, rfl⟩, h1, h2⟩
theorem take_ends (w : Int) (n k : Nat) (h : k ≤ n) : ∀ x, x ∈ (endsF w n).take k ↔ ∃ j, j < k ∧ x = ((j : Int) + 1) * w - 1 := fun x => by
  rw [← mem_ends]
  unfold endsF
  rw [← List.map_take, List.take_range, Nat.min_eq_left h]
theorem drop_ends (w : Int) (n k : Nat) : ∀ x, x ∈ (endsF w n).drop k ↔ ∃ j, k ≤ j ∧ j < n ∧ x = ((j : Int) + 1) * w - 1 := fun x => by
  constructor
  · intro h
    obtain ⟨i, hi, e⟩ := List.mem_iff_getElem.mp h
    rw [List.length_drop, endsF_len] at hi
    refine ⟨k + i, by omega, by omega, ?_⟩
    rw [← e, List.getElem_drop]
    unfold endsF
    rw [List.getElem_map, List.getElem_range]
  · rintro ⟨j, h1, h2, e⟩
    refine List.mem_iff_getElem.mpr ⟨j - k, by rw [List.length_drop, endsF_len]; omega, ?_⟩
    rw [List.getElem_drop, e]
    unfold endsF
    rw [List.getElem_map, List.getElem_range]
    have : k + (j - k) = j := by omega
    rw [this]
theorem ends_gap {m w : Int} {k : Nat} (hw : 1 ≤ w) (hk : k < (m / w).toNat) : FM m w ((endsF w (m / w).toNat).take k ++ (endsF w (m / w).toNat).drop (k + 1)) (.int ((k : Int) * w)) := by
  have hkw : 0 ≤ (k : Int) * w := Int.mul_nonneg (by omega) (by omega)
  refine ⟨hkw, ?_, ?_, fun b b0 b1 => ?_⟩
  · have ⟨d1, _⟩ := div_at (b := m) hw
    have h1 : ((k : Int) + 1) * w ≤ m / w * w := Int.mul_le_mul_of_nonneg_right (by omega) (by omega)
    rw [Int.add_mul, Int.one_mul] at h1
    omega
  · rintro ⟨s, hs, h1, h2⟩
    rcases List.mem_append.mp hs with z | z
    · obtain ⟨j, hj, rfl⟩ := (take_ends w _ k (by omega) s).mp z
      have : ((j : Int) + 1) * w ≤ (k : Int) * w := Int.mul_le_mul_of_nonneg_right (by omega) (by omega)
      omega
    · obtain ⟨j, hj, _, rfl⟩ := (drop_ends w _ (k + 1) s).mp z
      have : ((k : Int) + 2) * w ≤ ((j : Int) + 1) * w := Int.mul_le_mul_of_nonneg_right (by omega) (by omega)
      rw [Int.add_mul] at this
      omega
  · have ⟨h1, h2, _⟩ := end_in (m := m) hw b0
    have hlt : b / w < k := Int.ediv_lt_of_lt_mul (by omega) b1
    refine ⟨_, List.mem_append.mpr (.inl ((take_ends w _ k (by omega) _).mpr ⟨(b / w).toNat, ?_, rfl⟩)), h1, h2⟩
    have hq : 0 ≤ b / w := Int.ediv_nonneg b0 (by omega)
    omega
theorem eqv_ints (ns : List Int) : PyData.eqv (PyData.list (ns.map PyData.int)) (PyData.list (ns.map PyData.int)) = true := SeqAt.eqv_refl _ (SeqAt.canLay_of_shaped (shaped_ints ns))
/-! ### one turn of the law -/
abbrev sRight : Stmt := topS 12
theorem scRight : FnScope ["_law_state", "_law_many", "_law_width", "_law_needed", "_law_ends", "_law_at", "_law_samples_here", "_law_due", "_law_kept", "_law_handed", "_law_number"] ["_law_state"] (defScope sRight) := ⟨rfl, rfl, rfl, by decide +kernel, rfl, by decide +kernel, by decide +kernel⟩
def spRight : Sp := fun vs H Q _ => ∃ (d c : Addr) (t : Int), vs = [.ref d] ∧ StAt H d c t ∧ t + 500 < 2 ^ 60 ∧ ∀ t' H', t ≤ t' → t' ≤ t + 200 → StAt H' d c t' → Kp d c H H' → Q (.bl true) H'
section
variable {K : PySem.W.Frag} {mg : Str → Option Value} {P : Program} {w : World} {base : Heap}
theorem ok_right {f : Addr} {fd : FuncData} (F : Fun K "_law_right" "_law_right" sRight f fd) (CT : Cal P w K mg base 1 "_law_take" ["_law_state", "_law_many"] spTake) (CZ : Cal P w K mg base 3 "_law_sizes" ["_law_state"] spSizes) (CN : Cal P w K mg base 1 "samples_needed" ["many", "width"] spNeeded) (CF : Cal P w K mg base 1 "first_missed" ["many", "width", "samples"] spFirst) (CE : Cal P w K mg base 1 "_law_same" ["_law_found", "_law_due"] spSame) (CM : Cal P w K mg base 1 "_law_missed" ["_law_many", "_law_width", "_law_samples_here"] spMissed) (CR : Cal P w K mg base 1 "_law_tried" ["_law_many", "_law_width", "_law_samples_here"] spTried) (CS : Cal P w K mg base 3 "_law_samples" ["_law_state", "_law_many", "_law_width"] spSamples)
    (mr : mg "range" = none) (mm : mg "min" = none) (ml : mg "list" = none) (mt : mg "tuple" = none) : FnOk P w K mg base CX0 4 f fd ["_law_state"] spRight := by
  refine F.ok scRight (fun vs H Q E h => ?_) (fun cdv A outer s H vs Q E hr h => ?_)
  · obtain ⟨d, c, t, rfl, _⟩ := h
    rfl
  · obtain ⟨d, c, t, rfl, hS, ht, q⟩ := h
    have hr1 := hr.mono (show 1 ≤ 3 by decide)
    refine ⟨_, pss_cons (ps_asg (pe_own CZ hr (by rfl) (pa_cons (pv 0) pa_nil)) (pg_tup rfl (pgs_cons (pg_name (i := 1) scRight.nd rfl (.inl rfl)) (pgs_cons (pg_name (i := 2) scRight.nd rfl (.inr rfl)) pgs_nil))))
      (pss_cons (ps_set (i := 3) scRight.nd rfl (.inl rfl) (pe_own CN hr1 (by rfl) (pa_cons (pv 1) (pa_cons (pv 2) pa_nil))))
      (pss_cons (ps_if (pt_not (pt_val (pe_own CE hr1 (by rfl) (pa_cons (pv 3) (pa_cons (pe_op op_fdivW (pv 1) (pv 2)) pa_nil))))) (pss_one (ps_ret pe_bl)) pss_nil)
      (pss_cons (ps_setLc (i := 4) (own := [("_law_number", 10)]) (g := gName 10) (tt := tYes) (te := tOp (rI0 fun i j => .int (i - j)) (tOp (rI CMul fun i j => .int (i * j)) (tOp (rI0 fun i j => .int (i + j)) (tVar 10) (tC (.int 1))) (tVar 2)) (tC (.int 1))) rfl scRight.nd rfl rfl rfl (pi_range1 rfl mr (pa_cons (pe_callB (call_min2 rfl) (by rfl) mm (by decide +kernel) (pa_cons pe_int (pa_cons (pv 3) pa_nil))) pa_nil))
            (blkOk_by (own := [("_law_number", 10)]) (N := ["_law_state", "_law_many", "_law_width", "_law_needed", "_law_ends", "_law_at", "_law_samples_here", "_law_due", "_law_kept", "_law_handed", "_law_number"]) (sc := defScope sRight) (by decide +kernel)) (fun _ _ _ _ _ => pg_name (i := 10) scRight.nd rfl (.inl rfl)) (fun _ _ _ _ _ => pts_nil) (fun _ _ _ _ _ => pe_op op_sub (pe_op op_mul (pe_op op_add (pv 10) pe_int) (pv 2)) pe_int))
      (pss_cons (ps_if (pt_mid (PW.pt (pw_and (pt_cmpR op_lt (pv 3) pe_int (nomark _)) (pw_and1 (pt_cmpR op_notN (pe_own CF hr1 (by rfl) (pa_cons (pv 1) (pa_cons (pv 2) (pa_cons (pv 4) pa_nil)))) pe_non (nomark _)))))) (pss_one (ps_ret pe_bl)) pss_nil)
      (Evl.pss_cut (ps_if (pt_chain op_lt op_lt pe_int (pv 3) pe_int)
          (pss_cons (ps_set (i := 5) scRight.nd rfl (.inl rfl) (pe_own CT hr1 (by rfl) (pa_cons (pv 0) (pa_cons (pv 3) pa_nil))))
          (pss_one (ps_if (pt_not (pt_val (pe_own CE hr1 (by rfl) (pa_cons (pe_own CF hr1 (by rfl) (pa_cons (pv 1) (pa_cons (pv 2) (pa_cons (pe_op op_cat (pe_slice sl_list (pv 4) po_none (po_some (pv 5))) (pe_slice sl_list (pv 4) (po_some (pe_op op_add (pv 5) pe_int)) po_none)) pa_nil)))) (pa_cons (pe_op op_mul (pv 5) (pv 2)) pa_nil))))) (pss_one (ps_ret pe_bl)) pss_nil))) pss_nil)
      (pss_cons (ps_set (i := 6) scRight.nd rfl (.inl rfl) (pe_own CS hr (by rfl) (pa_cons (pv 0) (pa_cons (pv 1) (pa_cons (pv 2) pa_nil)))))
      (pss_cons (ps_par rfl scRight.nd (i := 7) (j := 8) rfl rfl (by decide) rfl rfl (pa_cons (pe_own CM hr1 (by rfl) (pa_cons (pv 1) (pa_cons (pv 2) (pa_cons (pv 6) pa_nil)))) (pa_cons (pe_callTy call_list_of (by rfl) ml (by decide +kernel) (pa_cons (pv 6) pa_nil)) pa_nil)) (by rfl))
      (pss_cons (ps_if (pt_mid (PW.pt (pw_and (pt_cmpR op_lt (pv 1) pe_int (nomark _)) (pw_and1 (pt_cmpR op_ne (pv 7) (pe_own CR hr1 (by rfl) (pa_cons (pv 1) (pa_cons (pv 2) (pa_cons (pv 6) pa_nil)))) (nomark _)))))) (pss_one (ps_ret pe_bl)) pss_nil)
      (pss_cons (ps_for PassesOwn.never rfl (pi_tup (pe_tup (pa_cons (pv 6) (pa_cons (pe_callTy call_tuple_of (by rfl) mt (by decide +kernel) (pa_cons (pv 6) pa_nil)) (pa_cons (pv 6) pa_nil))))) (pg_name (i := 9) scRight.nd rfl (.inl rfl))
          (pss_one (ps_if (pt_not (pt_val (pe_own CE hr1 (by rfl) (pa_cons (pe_own CF hr1 (by rfl) (pa_cons (pv 1) (pa_cons (pv 2) (pa_cons (pv 9) pa_nil)))) (pa_cons (pv 7) pa_nil))))) (pss_one (ps_ret pe_bl)) pss_nil)))
      (pss_one (ps_ret (pe_cmpR (op_eqD hr.units) (pv 6) (pv 8) (nomark _))))))))))))), ?_⟩
    refine ⟨_, rfl, d, c, t, rfl, hS, by omega, fun T m w t1 H1 eT m0 m1 w0 w1 u0 u1 hS1 k1 => ?_⟩
    refine ⟨T, _, rfl, .inl (.inl eT), rfl, _, _, rfl, _, _, rfl, rfl, ?_⟩
    have hw40 : w ≤ 10 ^ 40 := by omega
    refine ⟨_, rfl, _, rfl, m, w, rfl, w0, hw40, ?_⟩
    refine ⟨_, rfl, _, rfl, _, rfl, m, w, rfl, rfl, ⟨by omega, Nat.lt_trans (log_lt (by omega)) (by decide)⟩, .int (m / w), rfl, .inr ⟨_, rfl⟩, _, rfl, iteF ?_⟩
    have hq0 : 0 ≤ m / w := Int.ediv_nonneg m0 (by omega)
    -- ends
    refine ⟨_, rfl, 24, m / w, rfl, _, rfl, by split <;> omega, by split <;> omega, fun D nD => lc_range (n := (if m / w < 24 then m / w else 24).toNat) (fun j H' => Same H1 H' ∧ H' D = some (.lst ((endsF w j).map V.int))) ⟨same_upd nD, upd_same⟩ (fun j H' hj hP => ?_) (fun H2 hP => ?_)⟩
    · obtain ⟨sm, eD⟩ := hP
      have hj24 : j < 24 := by
        have : (if m / w < 24 then m / w else 24).toNat ≤ 24 := by split <;> omega
        omega
      have z0 : (0 : Int) + (j : Int) = (j : Int) := Int.zero_add _
      refine ⟨rfl, _, rfl, 0 + (j : Int), 1, rfl, rfl, _, rfl, 0 + (j : Int) + 1, w, rfl, rfl, .inl ⟨by omega, by omega⟩, _, 1, rfl, rfl, _, eD, small1000 (by rw [List.length_map, endsF_len]; omega), fun b o e => ?_, ?_⟩
      · rw [upd_ne (ne_of_none e nD)]
        exact sm b o e
      · rw [upd_same, endsF_snoc, List.map_append, z0]
        rfl
    obtain ⟨s2, eD2⟩ := hP
    have hS2 := hS1.same s2
    have k2 : Kp d c H H2 := k1.trans (Kp.same d c s2)
    have offD := hS1.off nD
    have hfew : m / w < 25 → (if m / w < 24 then m / w else 24) = m / w := fun h => by split <;> omega
    have hel : (endsF w (if m / w < 24 then m / w else 24).toNat).length ≤ 24 := by rw [endsF_len]; split <;> omega
    refine ⟨fun b H' => b = false ∧ Same H2 H', ?_, fun b H3 hM => ?_⟩
    · refine ⟨_, rfl, m / w, 25, rfl, rfl, _, rfl, ite2 (fun c1 => ?_) (fun c1 => ?_)⟩
      · have c1' : m / w < 25 := of_decide_eq_true c1
        refine ⟨_, rfl, _, rfl, _, rfl, m, w, D, _, rfl, .inl eD2, w0, fun v H3 hv s3 => ⟨rfl, ?_⟩⟩
        rw [hfew c1'] at hv
        have ev := hv.one (ends_none w0)
        subst ev
        exact ⟨false, rfl, rfl, s3⟩
      · exact ⟨rfl, Same.refl _⟩
    obtain ⟨rfl, s3⟩ := hM
    refine iteF ?_
    have hS3 := hS2.same s3
    have k3 : Kp d c H H3 := k2.trans (Kp.same d c s3)
    have eD3 := s3 _ _ eD2
    -- one left out
    refine ⟨fun σ Hx => ∃ (t' : Int) (y5 : Option V), σ = [some (.ref d), some (.int m), some (.int w), some (.int (m / w)), some (.ref D), y5, none, none, none, none, none] ∧ t1 ≤ t' ∧ t' ≤ t1 + 1 ∧ StAt Hx d c t' ∧ Kp d c H Hx, ?_, fun σ Hx hM => ?_⟩
    · refine ⟨_, rfl, 0, m / w, rfl, rfl, _, rfl, ite2 (fun c1 => ?_) (fun c1 => ?_)⟩
      · have c1' : 0 < m / w := of_decide_eq_true c1
        refine ⟨m / w, 25, rfl, rfl, _, rfl, ite2 (fun c2 => ?_) (fun c2 => ?_)⟩
        · have c2' : m / w < 25 := of_decide_eq_true c2
          refine ⟨_, rfl, _, rfl, d, c, t1, m / w, rfl, hS3, by omega, c1', by omega, fun r H4 r0 r1 hS4 k4 => ?_⟩
          obtain ⟨j, rfl⟩ := Int.eq_ofNat_of_zero_le r0
          have eD4 := k4 _ _ offD.1 offD.2 eD3
          rw [hfew c2'] at eD4
          refine ⟨_, rfl, _, rfl, _, rfl, _, rfl, (j : Int), rfl, D, _, rfl, SqL.of eD4, fun g5 ng5 => ?_⟩
          have sg5 := same_upd (o := .lst (cutV ((endsF w (m / w).toNat).map V.int) none (some (j : Int)))) ng5
          refine ⟨_, rfl, _, rfl, (j : Int), 1, rfl, rfl, (j : Int) + 1, rfl, D, _, rfl, SqL.of (sg5 _ _ eD4), fun g6 ng6 => ?_⟩
          have sg6 := same_upd (o := .lst (cutV ((endsF w (m / w).toNat).map V.int) (some ((j : Int) + 1)) none)) ng6
          have hl5 := cutV_length ((endsF w (m / w).toNat).map V.int) none (some (j : Int))
          have hl6 := cutV_length ((endsF w (m / w).toNat).map V.int) (some ((j : Int) + 1)) none
          rw [List.length_map, endsF_len] at hl5 hl6
          refine ⟨g5, g6, _, _, rfl, rfl, sg6 _ _ upd_same, upd_same, Nat.le_trans (show _ ≤ 1000 by omega) (by decide), fun g7 ng7 => ?_⟩
          have ecut : cutV ((endsF w (m / w).toNat).map V.int) none (some (j : Int)) ++ cutV ((endsF w (m / w).toNat).map V.int) (some ((j : Int) + 1)) none = ((endsF w (m / w).toNat).take j ++ (endsF w (m / w).toNat).drop (j + 1)).map V.int := by
            have e1 : ((j : Int) + 1) = ((j + 1 : Nat) : Int) := by omega
            rw [cut_front, e1, cut_back, List.map_append, List.map_take, List.map_drop]
          rw [ecut]
          have sg7 := same_upd (o := .lst (((endsF w (m / w).toNat).take j ++ (endsF w (m / w).toNat).drop (j + 1)).map V.int)) ng7
          have S7 := (sg5.trans sg6).trans sg7
          refine ⟨m, w, g7, _, rfl, .inl upd_same, w0, fun v H8 hv s8 => ?_⟩
          have ev := hv.one (ends_gap w0 (show j < (m / w).toNat by omega))
          subst ev
          refine ⟨_, rfl, _, rfl, (j : Int), w, rfl, rfl, .inl ⟨by omega, by omega⟩, .int ((j : Int) * w), rfl, .inr ⟨_, rfl⟩, _, rfl, iteF ?_⟩
          exact ⟨t1 + 1, _, rfl, by omega, by omega, (hS4.same S7).same s8, ((k3.trans k4).trans (Kp.same d c S7)).trans (Kp.same d c s8)⟩
        · exact ⟨t1, _, rfl, by omega, by omega, hS3, k3⟩
      · exact ⟨_, rfl, iteF ⟨t1, _, rfl, by omega, by omega, hS3, k3⟩⟩
    obtain ⟨t4, y5, rfl, v0, v1, hS4, k4⟩ := hM
    -- samples
    refine ⟨_, rfl, _, rfl, _, rfl, d, c, t4, m, w, rfl, hS4, by omega, m0, m1, w0, w1, fun l ss t5 H5 nl el hsl x0 x1 hS5 k5 => ?_⟩
    refine ⟨_, rfl, _, rfl, _, rfl, m, w, l, ss, rfl, el, by omega, w0, fun v H6 hv s6 => ?_⟩
    have el6 := s6 _ _ el
    refine ⟨_, rfl, l, _, rfl, .inl (SqL.of el6), fun g ng => ⟨_, _, rfl, ?_⟩⟩
    have sg := same_upd (o := .lst (ss.map V.int)) ng
    have eg := upd_same (H := H6) (a := g) (o := .lst (ss.map V.int))
    have el7 := sg _ _ el6
    have hS7 := (hS5.same s6).same sg
    have k7 : Kp d c H (upd H6 g (.lst (ss.map V.int))) := (k4.trans k5).trans ((Kp.same d c s6).trans (Kp.same d c sg))
    revert eg el7 hS7 k7
    generalize upd H6 g (.lst (ss.map V.int)) = H7
    intro eg el7 hS7 k7
    refine ⟨fun b H' => b = false ∧ Same H7 H', ?_, fun b H8 hM => ?_⟩
    · refine ⟨_, rfl, m, 1001, rfl, rfl, _, rfl, ite2 (fun c1 => ?_) (fun c1 => ?_)⟩
      · have c1' : m < 1001 := of_decide_eq_true c1
        refine ⟨_, rfl, _, rfl, _, rfl, _, rfl, m, w, l, ss, rfl, el7, by omega, w0, by omega, m0, by omega, fun u H8 hu s8 => ?_⟩
        have eu := hu.one hv
        subst eu
        have hsc : scal u u = true := by
          rcases hv.kinds with e | ⟨i, e⟩ <;> rw [e] <;> rfl
        refine ⟨hsc, false, ?_, rfl, s8⟩
        rw [decide_eq_true rfl]
        rfl
      · exact ⟨rfl, Same.refl _⟩
    obtain ⟨rfl, s8⟩ := hM
    refine iteF ?_
    have el8 := s8 _ _ el7
    -- each way
    refine ⟨_, rfl, _, rfl, l, _, rfl, .inl ⟨SqL.of el8, fun g9 ng9 => ⟨_, rfl, (by show 3 ≤ sizeLine; decide), fun T10 nT10 => ?_⟩⟩⟩
    have sg9 := same_upd (o := .tup (ss.map V.int)) ng9
    have sT := same_upd (o := .tup [.ref l, .ref g9, .ref l]) nT10
    have S10 := (s8.trans sg9).trans sT
    have hall : ∀ x ∈ [V.ref l, V.ref g9, V.ref l], ∃ z, x = .ref z ∧ SqH (upd (upd H8 g9 (.tup (ss.map V.int))) T10 (.tup [.ref l, .ref g9, .ref l])) z (ss.map V.int) := fun x hx => by
      have e1 : SqH (upd (upd H8 g9 (.tup (ss.map V.int))) T10 (.tup [.ref l, .ref g9, .ref l])) l (ss.map V.int) := .inl (S10 _ _ el7)
      have e2 : SqH (upd (upd H8 g9 (.tup (ss.map V.int))) T10 (.tup [.ref l, .ref g9, .ref l])) g9 (ss.map V.int) := .inr (sT _ _ upd_same)
      simp only [List.mem_cons, List.mem_nil_iff, or_false] at hx
      rcases hx with rfl | rfl | rfl
      · exact ⟨_, rfl, e1⟩
      · exact ⟨_, rfl, e2⟩
      · exact ⟨_, rfl, e1⟩
    have eT10 := upd_same (H := upd H8 g9 (.tup (ss.map V.int))) (a := T10) (o := .tup [.ref l, .ref g9, .ref l])
    revert hall eT10 S10
    generalize upd (upd H8 g9 (.tup (ss.map V.int))) T10 (.tup [.ref l, .ref g9, .ref l]) = H10
    intro S10 hall eT10
    refine ⟨T10, rfl, ⟨_, .inl (.inl eT10)⟩, for_tup (xs := [.ref l, .ref g9, .ref l]) (fun i σ Hy => ∃ y9 : Option V, σ = [some (.ref d), some (.int m), some (.int w), some (.int (m / w)), some (.ref D), y5, some (.ref l), some v, some (.ref g), y9, none] ∧ Same H10 Hy)
      ⟨_, rfl, Same.refl _⟩ (fun i σ Hy _ hP => ?_) (fun i x σ Hy hx hP => ?_) (fun σ Hy hP => ?_)⟩
    · obtain ⟨_, _, sy⟩ := hP
      exact .inl (.inl (sy _ _ eT10))
    · obtain ⟨y9, rfl, sy⟩ := hP
      obtain ⟨z, rfl, hz⟩ := hall x (List.mem_of_getElem? hx)
      refine ⟨_, rfl, _, rfl, _, rfl, m, w, z, ss, rfl, hz.same sy, w0, fun u H11 hu s11 => ?_⟩
      have eu := hu.one hv
      subst eu
      exact ⟨_, rfl, u, rfl, hv.kinds, _, rfl, iteF ⟨_, rfl, sy.trans s11⟩⟩
    · obtain ⟨y9, rfl, sy⟩ := hP
      have S := S10.trans sy
      refine ⟨_, rfl, _, rfl, _, _, .lst (SqL.of (S _ _ el7)) (dp_ints ss), .lst (SqL.of (S _ _ eg)) (dp_ints ss), shaped_ints _, shaped_ints _, ?_⟩
      rw [eqv_ints]
      exact q t5 Hy (by omega) (by omega) (hS7.same S) (k7.trans (Kp.same d c S))
end
/-! ### the law -/
abbrev sLaw : Stmt := topS 13
theorem scLaw : FnScope ["_law_script", "_law_state", "_law_turn"] ["_law_script"] (defScope sLaw) := ⟨rfl, rfl, rfl, by decide +kernel, rfl, by decide +kernel, by decide +kernel⟩
def spLaw (K : PySem.W.Frag) : Sp := fun vs H Q _ => ∃ (a : Addr) (ns : List Int), vs = [.ref a] ∧ SqL K H a (ns.map V.int) ∧ ns.length ≤ 63 ∧ ∀ H', Q (.bl true) H'
theorem all_yes (n : Nat) : (List.replicate n true).all id = true := by
  rw [List.all_eq_true]
  intro b hb
  exact (List.mem_replicate.mp hb).2
section
variable {K : PySem.W.Frag} {mg : Str → Option Value} {P : Program} {w : World} {base : Heap}
theorem ok_law {f : Addr} {fd : FuncData} (F : Fun K "law" "law" sLaw f fd) (CB : Cal P w K mg base 1 "_law_begin" ["_law_script"] (spBegin K)) (CR : Cal P w K mg base 4 "_law_right" ["_law_state"] spRight) (mr : mg "range" = none) (ma : mg "all" = none) : FnOk P w K mg base CX0 5 f fd ["_law_script"] (spLaw K) := by
  refine F.ok scLaw (fun vs H Q E h => ?_) (fun cdv A outer s H vs Q E hr h => ?_)
  · obtain ⟨a, ns, rfl, _⟩ := h
    rfl
  · obtain ⟨a, ns, rfl, hS, hlen, q⟩ := h
    have hr1 := hr.mono (show 1 ≤ 4 by decide)
    refine ⟨_, pss_cons (ps_set (i := 1) scLaw.nd rfl (.inr rfl) (pe_own CB hr1 (by rfl) (pa_cons (pv 0) pa_nil)))
      (pss_one (ps_ret (pe_callB (cr_all rfl) (by rfl) ma (by decide +kernel) (pa_cons (pe_lc (own := [("_law_turn", 2)]) (g := gName 2) (tt := tYes) (te := tCall spRight [] E0 (tCons (tVar 1) tNil)) rfl scLaw.nd (pi_range1 rfl mr (pa_cons pe_int pa_nil))
            (blkOk_by (own := [("_law_turn", 2)]) (N := ["_law_script", "_law_state", "_law_turn"]) (sc := defScope sLaw) (by decide +kernel)) (fun _ _ _ _ _ => pg_name (i := 2) scLaw.nd rfl (.inl rfl)) (fun _ _ _ _ _ => pts_nil) (fun _ _ _ _ _ => pe_own CR hr (by rfl) (pa_cons (pv 1) pa_nil))) pa_nil)))), ?_⟩
    refine ⟨.ref a, rfl, a, ns, rfl, hS, hlen, fun d c H1 s1 nd nc hS1 => ?_⟩
    refine ⟨6, rfl, by decide, by decide, fun D nD => lc_range (n := 6) (fun j H' => ∃ t : Int, H' D = some (.lst ((List.replicate j true).map V.bl)) ∧ 0 ≤ t ∧ t ≤ 200 * j ∧ StAt H' d c t) ⟨0, upd_same, by omega, by omega, hS1.same (same_upd nD)⟩ (fun j H' hj hP => ?_) (fun H2 hP => ?_)⟩
    · obtain ⟨t, eD, t0, t1, hS'⟩ := hP
      have offD := hS1.off nD
      refine ⟨rfl, _, rfl, d, c, t, rfl, hS', by omega, fun t' H3 u0 u1 hS3 k3 => ?_⟩
      refine ⟨_, k3 _ _ offD.1 offD.2 eD, small1000 (by rw [List.length_map, List.length_replicate]; omega), t', ?_, by omega, by omega, hS3.upd offD.1 offD.2⟩
      rw [upd_same, List.replicate_succ', List.map_append]
      rfl
    · obtain ⟨t, eD, _⟩ := hP
      refine ⟨D, List.replicate 6 true, rfl, SqL.of eD, ?_⟩
      rw [all_yes]
      exact q _
end

/-! ### the end: what the top has left, the tables of code objects among it -/
/-- each def of the text has a code object with an empty table -/
def Tabs (q : Program) (mg : Str → Option Value) (h : Heap) : Prop := ∀ dr ∈ recsOf q, ∃ (f : Addr) (o : Obj) (fd : FuncData) (c P : Addr), mg dr.name = some (.ref f) ∧ h.get? f = some o ∧ o.data = .func fd ∧ fd.code = .ref c ∧ PySem.W.CodeHd h c P ∧ h.get? P = some (PySem.W.tabObj #[])
theorem tab_in {q : Program} {mg : Str → Option Value} {h : Heap} {K : PySem.W.Frag} {y : Str} {f c P : Addr} {oc e : Value} {od dd : Option Addr} {fd : FuncData} {osl sl : Array (Option Value)} {vs : Array Value} (TT : Tabs q mg h) (X : K.In h) (rec : ((recsOf q).any fun r => r.name == y) = true)
    (g : mg y = some (.ref f)) (lf : K.lookup f = some ⟨oc, od, .func fd, osl⟩) (hc : fd.code = .ref c) (lc : K.lookup c = some ⟨e, dd, .fields vs, sl⟩) (v : vs[11]? = some (.ref P)) : PySem.W.CodeHd h c P ∧ h.get? P = some (PySem.W.tabObj #[]) := by
  obtain ⟨dr, mem, nm⟩ := List.any_eq_true.mp rec
  obtain ⟨f', o', fd', c', P', t1, t2, t3, t4, t5, t6⟩ := TT dr mem
  have ef : f' = f := by
    rw [beq_iff_eq.mp nm, g] at t1
    exact (Value.ref.inj (Option.some.inj t1)).symm
  rw [ef, X _ _ lf] at t2
  rw [← Option.some.inj t2] at t3
  have efd : fd = fd' := Data.func.inj t3
  rw [← efd, hc] at t4
  have ec : c = c' := Value.ref.inj t4
  rw [← ec] at t5
  have t5' := t5
  obtain ⟨oc', us, _, _, _, _, _, _, _, u1, _, u3, u4, _⟩ := t5'
  rw [X _ _ lc] at u1
  rw [← Option.some.inj u1] at u3
  have eu : vs = us := Data.fields.inj u3
  rw [← eu, v] at u4
  have eP : P = P' := Value.ref.inj (Option.some.inj u4)
  rw [eP]
  exact ⟨t5, t6⟩
theorem law_end {l : PySem.W.OpenLaw} {k : Nat} {q : Program} {loose : List Str} {XP : (Str → Option Value) → Heap → Prop} {YP : World → Heap → Prop} {d : DefRec} {K : Params → PySem.W.Frag} (most : l.most = some 63) (plain : d.params.defaults = []) (room : Room k callerA)
    (part : ∀ w h, YP w h → (K w.params).In h) (made : ∀ (w : World) (mg : Str → Option Value) (f : Addr) (h : Heap), (K w.params).In h → h.Ns mainGlobals mg → mg d.name = some (.ref f) → Tabs q mg h → LamX.LawAtS l w (K w.params) CX0 k 63 "_law_script" mg f h) : PySem.W.WalkO q loose XP YP l.row.toRowW d [] (fun f vs => PySem.call f vs) := by
  refine Att.attach_callB most plain ?_
  intro w _ s₁ mg _ f _ _ _ _ a vs ns ground said _ _ _ name script nums len size still
  have X := part w _ said
  have tabs : Tabs q mg s₁.heap := fun dr mem => by
    obtain ⟨f', o', fd', c', P', t1, t2, t3, t4, t5, t6⟩ := ground.T.tab dr mem
    exact ⟨f', o', fd', c', P', t1, t2, t3, t4, PySem.W.CodeHd.of t5 t6, t6.2⟩
  obtain ⟨fd, cs, sp, e1, e2, e3, e4, e5, e6⟩ := made w mg f _ X ground.T.g name tabs
  exact LamX.law_callTs X ground.T.g ground.T.b ground.T.builtins ground.T.nolimit still e1 e2 e3 ground.T.bmain script nums (Nat.le_trans len (by decide)) room e6 e4 (fun H z1 z2 => e5 H a ns len size z1 z2) fun _ _ _ z => z

theorem all_mk {l : PySem.W.OpenLaw} {q : Program} {w : World} {K : PySem.W.Frag} {h : Heap} {mg : Str → Option Value} {fa f0 f1 f2 f3 f4 f5 f6 f7 f8 f9 f10 f11 : Addr} (X : K.In h) (G : h.Ns mainGlobals mg) (hfa : mg "law" = some (.ref fa)) (TT : Tabs q mg h)
    {od0 an0 od1 an1 od2 an2 od3 an3 od4 an4 od5 an5 od6 an6 od7 an7 od8 an8 od9 an9 od10 an10 od11 an11 : Option Addr} {sl0 sl1 sl2 sl3 sl4 sl5 sl6 sl7 sl8 sl9 sl10 sl11 : Array (Option Value)} {oc0 kV0 dc0 pm0 ct0 cd0 oc1 kV1 dc1 pm1 ct1 cd1 oc2 kV2 dc2 pm2 ct2 cd2 oc3 kV3 dc3 pm3 ct3 cd3 oc4 kV4 dc4 pm4 ct4 cd4 oc5 kV5 dc5 pm5 ct5 cd5 oc6 kV6 dc6 pm6 ct6 cd6 oc7 kV7 dc7 pm7 ct7 cd7 oc8 kV8 dc8 pm8 ct8 cd8 oc9 kV9 dc9 pm9 ct9 cd9 oc10 kV10 dc10 pm10 ct10 cd10 oc11 kV11 dc11 pm11 ct11 cd11 : Value}
    (a0 : PySem.W.nsIn K mainGlobals "samples_needed" = some (some (.ref f0))) (l0 : K.lookup f0 = some ⟨oc0, od0, .func (PySem.W.fnOf "samples_needed" "samples_needed" (defArgs sNeeded) (defBody sNeeded) (defScope sNeeded) .none kV0 dc0 pm0 an0 cd0 ct0), sl0⟩) (c0' : PySem.W.codeIn K cd0 "samples_needed" = true) (k0 : PySem.W.keepIn K (.ref f0) = true)
    (a1 : PySem.W.nsIn K mainGlobals "first_missed" = some (some (.ref f1))) (l1 : K.lookup f1 = some ⟨oc1, od1, .func (PySem.W.fnOf "first_missed" "first_missed" (defArgs sFirst) (defBody sFirst) (defScope sFirst) .none kV1 dc1 pm1 an1 cd1 ct1), sl1⟩) (c1' : PySem.W.codeIn K cd1 "first_missed" = true) (k1 : PySem.W.keepIn K (.ref f1) = true)
    (a2 : PySem.W.nsIn K mainGlobals "_law_begin" = some (some (.ref f2))) (l2 : K.lookup f2 = some ⟨oc2, od2, .func (PySem.W.fnOf "_law_begin" "_law_begin" (defArgs sBegin) (defBody sBegin) (defScope sBegin) .none kV2 dc2 pm2 an2 cd2 ct2), sl2⟩) (c2' : PySem.W.codeIn K cd2 "_law_begin" = true) (k2 : PySem.W.keepIn K (.ref f2) = true)
    (a3 : PySem.W.nsIn K mainGlobals "_law_take" = some (some (.ref f3))) (l3 : K.lookup f3 = some ⟨oc3, od3, .func (PySem.W.fnOf "_law_take" "_law_take" (defArgs sTake) (defBody sTake) (defScope sTake) .none kV3 dc3 pm3 an3 cd3 ct3), sl3⟩) (c3' : PySem.W.codeIn K cd3 "_law_take" = true) (k3 : PySem.W.keepIn K (.ref f3) = true)
    (a4 : PySem.W.nsIn K mainGlobals "_law_great" = some (some (.ref f4))) (l4 : K.lookup f4 = some ⟨oc4, od4, .func (PySem.W.fnOf "_law_great" "_law_great" (defArgs sGreat) (defBody sGreat) (defScope sGreat) .none kV4 dc4 pm4 an4 cd4 ct4), sl4⟩) (c4' : PySem.W.codeIn K cd4 "_law_great" = true) (k4 : PySem.W.keepIn K (.ref f4) = true)
    (a5 : PySem.W.nsIn K mainGlobals "_law_same" = some (some (.ref f5))) (l5 : K.lookup f5 = some ⟨oc5, od5, .func (PySem.W.fnOf "_law_same" "_law_same" (defArgs sSame) (defBody sSame) (defScope sSame) .none kV5 dc5 pm5 an5 cd5 ct5), sl5⟩) (c5' : PySem.W.codeIn K cd5 "_law_same" = true) (k5 : PySem.W.keepIn K (.ref f5) = true)
    (a6 : PySem.W.nsIn K mainGlobals "_law_missed" = some (some (.ref f6))) (l6 : K.lookup f6 = some ⟨oc6, od6, .func (PySem.W.fnOf "_law_missed" "_law_missed" (defArgs sMissed) (defBody sMissed) (defScope sMissed) .none kV6 dc6 pm6 an6 cd6 ct6), sl6⟩) (c6' : PySem.W.codeIn K cd6 "_law_missed" = true) (k6 : PySem.W.keepIn K (.ref f6) = true)
    (a7 : PySem.W.nsIn K mainGlobals "_law_tried" = some (some (.ref f7))) (l7 : K.lookup f7 = some ⟨oc7, od7, .func (PySem.W.fnOf "_law_tried" "_law_tried" (defArgs sTried) (defBody sTried) (defScope sTried) .none kV7 dc7 pm7 an7 cd7 ct7), sl7⟩) (c7' : PySem.W.codeIn K cd7 "_law_tried" = true) (k7 : PySem.W.keepIn K (.ref f7) = true)
    (a8 : PySem.W.nsIn K mainGlobals "_law_sizes" = some (some (.ref f8))) (l8 : K.lookup f8 = some ⟨oc8, od8, .func (PySem.W.fnOf "_law_sizes" "_law_sizes" (defArgs sSizes) (defBody sSizes) (defScope sSizes) .none kV8 dc8 pm8 an8 cd8 ct8), sl8⟩) (c8' : PySem.W.codeIn K cd8 "_law_sizes" = true) (k8 : PySem.W.keepIn K (.ref f8) = true)
    (a9 : PySem.W.nsIn K mainGlobals "_law_samples" = some (some (.ref f9))) (l9 : K.lookup f9 = some ⟨oc9, od9, .func (PySem.W.fnOf "_law_samples" "_law_samples" (defArgs sSamples) (defBody sSamples) (defScope sSamples) .none kV9 dc9 pm9 an9 cd9 ct9), sl9⟩) (c9' : PySem.W.codeIn K cd9 "_law_samples" = true) (k9 : PySem.W.keepIn K (.ref f9) = true)
    (a10 : PySem.W.nsIn K mainGlobals "_law_right" = some (some (.ref f10))) (l10 : K.lookup f10 = some ⟨oc10, od10, .func (PySem.W.fnOf "_law_right" "_law_right" (defArgs sRight) (defBody sRight) (defScope sRight) .none kV10 dc10 pm10 an10 cd10 ct10), sl10⟩) (c10' : PySem.W.codeIn K cd10 "_law_right" = true) (k10 : PySem.W.keepIn K (.ref f10) = true)
    (a11 : PySem.W.nsIn K mainGlobals "law" = some (some (.ref f11))) (l11 : K.lookup f11 = some ⟨oc11, od11, .func (PySem.W.fnOf "law" "law" (defArgs sLaw) (defBody sLaw) (defScope sLaw) .none kV11 dc11 pm11 an11 cd11 ct11), sl11⟩) (c11' : PySem.W.codeIn K cd11 "law" = true) (k11 : PySem.W.keepIn K (.ref f11) = true)
    (z_all : PySem.W.nsIn K mainGlobals "all" = some none) (z_any : PySem.W.nsIn K mainGlobals "any" = some none) (z_bool : PySem.W.nsIn K mainGlobals "bool" = some none) (z_divmod : PySem.W.nsIn K mainGlobals "divmod" = some none) (z_int : PySem.W.nsIn K mainGlobals "int" = some none) (z_isinstance : PySem.W.nsIn K mainGlobals "isinstance" = some none) (z_len : PySem.W.nsIn K mainGlobals "len" = some none) (z_list : PySem.W.nsIn K mainGlobals "list" = some none) (z_max : PySem.W.nsIn K mainGlobals "max" = some none) (z_min : PySem.W.nsIn K mainGlobals "min" = some none) (z_range : PySem.W.nsIn K mainGlobals "range" = some none) (z_sorted : PySem.W.nsIn K mainGlobals "sorted" = some none) (z_tuple : PySem.W.nsIn K mainGlobals "tuple" = some none) :
    LamX.LawAtS l w K CX0 5 63 "_law_script" mg fa h := by
  cases hfa.symm.trans (PySem.W.mg_of X G a11)
  have F0 := fun_mk (st := sNeeded) l0 c0' k0
  have b0 := F0.binds (ps := ["many", "width"]) fun _ _ _ _ _ _ us hl => match us, hl with | [_, _], _ => rfl
  have F1 := fun_mk (st := sFirst) l1 c1' k1
  have b1 := F1.binds (ps := ["many", "width", "samples"]) fun _ _ _ _ _ _ us hl => match us, hl with | [_, _, _], _ => rfl
  have F2 := fun_mk (st := sBegin) l2 c2' k2
  have b2 := F2.binds (ps := ["_law_script"]) fun _ _ _ _ _ _ us hl => match us, hl with | [_], _ => rfl
  have F3 := fun_mk (st := sTake) l3 c3' k3
  have b3 := F3.binds (ps := ["_law_state", "_law_many"]) fun _ _ _ _ _ _ us hl => match us, hl with | [_, _], _ => rfl
  have F4 := fun_mk (st := sGreat) l4 c4' k4
  have b4 := F4.binds (ps := ["_law_state"]) fun _ _ _ _ _ _ us hl => match us, hl with | [_], _ => rfl
  have F5 := fun_mk (st := sSame) l5 c5' k5
  have b5 := F5.binds (ps := ["_law_found", "_law_due"]) fun _ _ _ _ _ _ us hl => match us, hl with | [_, _], _ => rfl
  have F6 := fun_mk (st := sMissed) l6 c6' k6
  have b6 := F6.binds (ps := ["_law_many", "_law_width", "_law_samples_here"]) fun _ _ _ _ _ _ us hl => match us, hl with | [_, _, _], _ => rfl
  have F7 := fun_mk (st := sTried) l7 c7' k7
  have b7 := F7.binds (ps := ["_law_many", "_law_width", "_law_samples_here"]) fun _ _ _ _ _ _ us hl => match us, hl with | [_, _, _], _ => rfl
  have F8 := fun_mk (st := sSizes) l8 c8' k8
  have b8 := F8.binds (ps := ["_law_state"]) fun _ _ _ _ _ _ us hl => match us, hl with | [_], _ => rfl
  have F9 := fun_mk (st := sSamples) l9 c9' k9
  have b9 := F9.binds (ps := ["_law_state", "_law_many", "_law_width"]) fun _ _ _ _ _ _ us hl => match us, hl with | [_, _, _], _ => rfl
  have F10 := fun_mk (st := sRight) l10 c10' k10
  have b10 := F10.binds (ps := ["_law_state"]) fun _ _ _ _ _ _ us hl => match us, hl with | [_], _ => rfl
  have F11 := fun_mk (st := sLaw) l11 c11' k11
  have m_all := PySem.W.mg_none_of X G z_all
  have m_any := PySem.W.mg_none_of X G z_any
  have m_bool := PySem.W.mg_none_of X G z_bool
  have m_divmod := PySem.W.mg_none_of X G z_divmod
  have m_int := PySem.W.mg_none_of X G z_int
  have m_isinstance := PySem.W.mg_none_of X G z_isinstance
  have m_len := PySem.W.mg_none_of X G z_len
  have m_list := PySem.W.mg_none_of X G z_list
  have m_max := PySem.W.mg_none_of X G z_max
  have m_min := PySem.W.mg_none_of X G z_min
  have m_range := PySem.W.mg_none_of X G z_range
  have m_sorted := PySem.W.mg_none_of X G z_sorted
  have m_tuple := PySem.W.mg_none_of X G z_tuple
  refine ⟨PySem.W.fnOf "law" "law" (defArgs sLaw) (defBody sLaw) (defScope sLaw) .none kV11 dc11 pm11 an11 cd11 ct11, [], spLaw K, (fun p hp => nomatch hp), (fun p hp => nomatch hp), (fun p hp => nomatch hp), fun s v => .of_eq rfl, fun H a ns hl _ hH hS => ?_, fun base _ _ TB => ?_⟩
  ·  exact ⟨a, ns, rfl, hS, hl, fun _ => rfl⟩
  · have g := fun {x : Str} {f : Addr} (a : PySem.W.nsIn K mainGlobals x = some (some (.ref f))) => PySem.W.mg_of X G a
    have CT : Cal l.prog w K mg base 1 "_law_take" ["_law_state", "_law_many"] spTake := ⟨_, _, ok_take F3 m_len m_divmod, g a3, k3, b3⟩
    have CB : Cal l.prog w K mg base 1 "_law_begin" ["_law_script"] (spBegin K) := ⟨_, _, ok_begin F2 m_list, g a2, k2, b2⟩
    have GR : Cal l.prog w K mg base 2 "_law_great" ["_law_state"] spGreat := ⟨_, _, ok_great F4 CT m_range, g a4, k4, b4⟩
    have SZ : Cal l.prog w K mg base 3 "_law_sizes" ["_law_state"] spSizes := ⟨_, _, ok_sizes F8 CT GR, g a8, k8, b8⟩
    have ND : Cal l.prog w K mg base 1 "samples_needed" ["many", "width"] spNeeded := ⟨_, _, ok_needed F0, g a0, k0, b0⟩
    have FI : Cal l.prog w K mg base 1 "first_missed" ["many", "width", "samples"] spFirst := ⟨_, _, ok_first F1 m_sorted m_max, g a1, k1, b1⟩
    have SA : Cal l.prog w K mg base 1 "_law_same" ["_law_found", "_law_due"] spSame := ⟨_, _, ok_same F5 m_isinstance m_bool m_int, g a5, k5, b5⟩
    have MS : Cal l.prog w K mg base 1 "_law_missed" ["_law_many", "_law_width", "_law_samples_here"] spMissed := ⟨_, _, ok_missed F6 m_sorted m_max, g a6, k6, b6⟩
    have TR : Cal l.prog w K mg base 1 "_law_tried" ["_law_many", "_law_width", "_law_samples_here"] spTried := ⟨_, _, ok_tried F7 m_range m_any, g a7, k7, b7⟩
    have SM : Cal l.prog w K mg base 3 "_law_samples" ["_law_state", "_law_many", "_law_width"] spSamples := ⟨_, _, ok_samples F9 CT GR m_range m_len m_max m_min, g a9, k9, b9⟩
    have RI : Cal l.prog w K mg base 4 "_law_right" ["_law_state"] spRight := ⟨_, _, ok_right F10 CT SZ ND FI SA MS TR SM m_range m_min m_list m_tuple, g a10, k10, b10⟩
    exact ok_law F11 CB RI m_range m_all
end TK
open PySem PySem.W PyProof.Rows
set_option maxHeartbeats 0 in
theorem PySem.Challenge.cw_tinrecall_k47_widths_and_what_is_missed_holds : PySem.Challenge.rw_tinrecall_k47_widths_and_what_is_missed.Holds := by
  w_on; o_law; k_head; (case hw => w_witness2)
  k_fill
  refine TK.law_end (l := PySem.Challenge.rw_tinrecall_k47_widths_and_what_is_missed) (k := 5) rfl rfl ⟨rfl, by decide, by decide⟩ (fun w h Y => PySem.W.kIn_of Y) ?made
  case made =>
    intro w mg f h KX G hmg TT
    refine' TK.all_mk KX G hmg TT ?a0 ?l0 ?c0 ?k0 ?a1 ?l1 ?c1 ?k1 ?a2 ?l2 ?c2 ?k2 ?a3 ?l3 ?c3 ?k3 ?a4 ?l4 ?c4 ?k4 ?a5 ?l5 ?c5 ?k5 ?a6 ?l6 ?c6 ?k6 ?a7 ?l7 ?c7 ?k7 ?a8 ?l8 ?c8 ?k8 ?a9 ?l9 ?c9 ?k9 ?a10 ?l10 ?c10 ?k10 ?a11 ?l11 ?c11 ?k11 ?z_all ?z_any ?z_bool ?z_divmod ?z_int ?z_isinstance ?z_len ?z_list ?z_max ?z_min ?z_range ?z_sorted ?z_tuple
    (case a0 => k_is); (case l0 => k_is); (case c0 => k_is); (case k0 => k_is)
    (case a1 => k_is); (case l1 => k_is); (case c1 => k_is); (case k1 => k_is)
    (case a2 => k_is); (case l2 => k_is); (case c2 => k_is); (case k2 => k_is)
    (case a3 => k_is); (case l3 => k_is); (case c3 => k_is); (case k3 => k_is)
    (case a4 => k_is); (case l4 => k_is); (case c4 => k_is); (case k4 => k_is)
    (case a5 => k_is); (case l5 => k_is); (case c5 => k_is); (case k5 => k_is)
    (case a6 => k_is); (case l6 => k_is); (case c6 => k_is); (case k6 => k_is)
    (case a7 => k_is); (case l7 => k_is); (case c7 => k_is); (case k7 => k_is)
    (case a8 => k_is); (case l8 => k_is); (case c8 => k_is); (case k8 => k_is)
    (case a9 => k_is); (case l9 => k_is); (case c9 => k_is); (case k9 => k_is)
    (case a10 => k_is); (case l10 => k_is); (case c10 => k_is); (case k10 => k_is)
    (case a11 => k_is); (case l11 => k_is); (case c11 => k_is); (case k11 => k_is)
    (case z_all => k_is); (case z_any => k_is); (case z_bool => k_is); (case z_divmod => k_is); (case z_int => k_is); (case z_isinstance => k_is); (case z_len => k_is); (case z_list => k_is); (case z_max => k_is); (case z_min => k_is); (case z_range => k_is); (case z_sorted => k_is); (case z_tuple => k_is)

