import PyProof.Rows.All
import Wide.All
import OpenK.AllK
import Wide.FinOn
import HandS.ForMost
import HandS.IsInst
import HandS.Replace
import HandS.Wide
import HandS.NoneIn
import HandS.Walk
import HandS.Evl
import HandS.More
import HandS.Zip
import HandS.Conv
import KE.KxIndex
import PySem.Challenge.RW_wayneedle_k04_places_turned
set_option Elab.async false
set_option linter.all false
set_option maxRecDepth 100000
set_option maxHeartbeats 4000000

namespace M
open PySem PySem.Spec PyProof.Rows L2
def topS (i : Nat) : Stmt := PySem.Challenge.pw_wayneedle_k04_places_turned.main.body.getD i (.Pass ⟨0, 0, 0, 0⟩)
abbrev s_is_whole : Stmt := topS 1
theorem sc_is_whole : FnScope ["thing"] ["thing"] (defScope s_is_whole) := ⟨rfl, rfl, rfl, by decide +kernel, rfl, by decide +kernel, by decide +kernel⟩
abbrev s_step : Stmt := topS 11
theorem sc_step : FnScope ["letter"] ["letter"] (defScope s_step) := ⟨rfl, rfl, rfl, by decide +kernel, rfl, by decide +kernel, by decide +kernel⟩
abbrev s_is_lot : Stmt := topS 12
theorem sc_is_lot : FnScope ["thing"] ["thing"] (defScope s_is_lot) := ⟨rfl, rfl, rfl, by decide +kernel, rfl, by decide +kernel, by decide +kernel⟩
abbrev s_refuse_unless_lot : Stmt := topS 13
theorem sc_refuse_unless_lot : FnScope ["thing"] ["thing"] (defScope s_refuse_unless_lot) := ⟨rfl, rfl, rfl, by decide +kernel, rfl, by decide +kernel, by decide +kernel⟩
abbrev s_mirrors : Stmt := topS 14
theorem sc_mirrors : FnScope ["lot"] ["lot"] (defScope s_mirrors) := ⟨rfl, rfl, rfl, by decide +kernel, rfl, by decide +kernel, by decide +kernel⟩
abbrev s_true : Stmt := topS 15
theorem sc_true : FnScope ["lot", "letter", "at"] ["lot", "letter"] (defScope s_true) := ⟨rfl, rfl, rfl, by decide +kernel, rfl, by decide +kernel, by decide +kernel⟩
abbrev s_both : Stmt := topS 16
theorem sc_both : FnScope ["one", "other", "quarters"] ["one", "other"] (defScope s_both) := ⟨rfl, rfl, rfl, by decide +kernel, rfl, by decide +kernel, by decide +kernel⟩
abbrev s_undone : Stmt := topS 17
theorem sc_undone : FnScope ["lot"] ["lot"] (defScope s_undone) := ⟨rfl, rfl, rfl, by decide +kernel, rfl, by decide +kernel, by decide +kernel⟩
abbrev s_turned : Stmt := topS 18
theorem sc_turned : FnScope ["lot", "place", "east", "north", "along_east", "along_north"] ["lot", "place"] (defScope s_turned) := ⟨rfl, rfl, rfl, by decide +kernel, rfl, by decide +kernel, by decide +kernel⟩
abbrev s_Lfar : Stmt := topS 20
theorem sc_Lfar : FnScope ["_law_pool_here", "_law_wide", "_law_some"] ["_law_pool_here", "_law_wide"] (defScope s_Lfar) := ⟨rfl, rfl, rfl, by decide +kernel, rfl, by decide +kernel, by decide +kernel⟩
abbrev s_Lpool : Stmt := topS 21
theorem sc_Lpool : FnScope ["_law_script", "_law_k", "_law_cell", "_law_left"] ["_law_script", "_law_k"] (defScope s_Lpool) := ⟨rfl, rfl, rfl, by decide +kernel, rfl, by decide +kernel, by decide +kernel⟩
abbrev s_Ltake : Stmt := topS 22
theorem sc_Ltake : FnScope ["_law_pool_here", "_law_wide", "_law_found", "_law_primes", "_law_one", "_law_two"] ["_law_pool_here", "_law_wide"] (defScope s_Ltake) := ⟨rfl, rfl, rfl, by decide +kernel, rfl, by decide +kernel, by decide +kernel⟩
abbrev s_Lmix : Stmt := topS 23
theorem sc_Lmix : FnScope ["_law_pool_here", "_law_things", "_law_found", "_law_thing"] ["_law_pool_here", "_law_things"] (defScope s_Lmix) := ⟨rfl, rfl, rfl, by decide +kernel, rfl, by decide +kernel, by decide +kernel⟩
abbrev s_Lwhole : Stmt := topS 24
theorem sc_Lwhole : FnScope ["_law_thing"] ["_law_thing"] (defScope s_Lwhole) := ⟨rfl, rfl, rfl, by decide +kernel, rfl, by decide +kernel, by decide +kernel⟩
abbrev s_Lsame : Stmt := topS 25
theorem sc_Lsame : FnScope ["_law_found", "_law_due", "_law_one", "_law_other"] ["_law_found", "_law_due"] (defScope s_Lsame) := ⟨rfl, rfl, rfl, by decide +kernel, rfl, by decide +kernel, by decide +kernel⟩
abbrev s_Ltrue : Stmt := topS 26
theorem sc_Ltrue : FnScope ["_law_lot", "_law_letter", "_law_at"] ["_law_lot", "_law_letter"] (defScope s_Ltrue) := ⟨rfl, rfl, rfl, by decide +kernel, rfl, by decide +kernel, by decide +kernel⟩
abbrev s_Loff : Stmt := topS 27
theorem sc_Loff : FnScope ["_law_place", "_law_letter", "_law_many", "_law_east", "_law_north"] ["_law_place", "_law_letter", "_law_many"] (defScope s_Loff) := ⟨rfl, rfl, rfl, by decide +kernel, rfl, by decide +kernel, by decide +kernel⟩
abbrev s_Lturned : Stmt := topS 28
theorem sc_Lturned : FnScope ["_law_lot", "_law_place"] ["_law_lot", "_law_place"] (defScope s_Lturned) := ⟨rfl, rfl, rfl, by decide +kernel, rfl, by decide +kernel, by decide +kernel⟩
abbrev s_law : Stmt := topS 29
theorem sc_law : FnScope ["_law_script", "_law_pool_here", "_law_wide", "_law_one", "_law_other", "_law_more", "_law_lot", "_law_here", "_law_there", "_law_k"] ["_law_script"] (defScope s_law) := ⟨rfl, rfl, rfl, by decide +kernel, rfl, by decide +kernel, by decide +kernel⟩
/-- what the top has left -/
structure Top (w : World) (K : PySem.W.Frag) (mg : Str → Option Value) where
  a_is_whole : Addr
  fd_is_whole : FuncData
  F_is_whole : Fun K "is_whole" "is_whole" s_is_whole a_is_whole fd_is_whole
  b_is_whole : Binds K fd_is_whole ["thing"] []
  g_is_whole : mg "is_whole" = some (.ref a_is_whole)
  a_step : Addr
  fd_step : FuncData
  F_step : Fun K "step" "step" s_step a_step fd_step
  b_step : Binds K fd_step ["letter"] []
  g_step : mg "step" = some (.ref a_step)
  a_is_lot : Addr
  fd_is_lot : FuncData
  F_is_lot : Fun K "is_lot" "is_lot" s_is_lot a_is_lot fd_is_lot
  b_is_lot : Binds K fd_is_lot ["thing"] []
  g_is_lot : mg "is_lot" = some (.ref a_is_lot)
  a_refuse_unless_lot : Addr
  fd_refuse_unless_lot : FuncData
  F_refuse_unless_lot : Fun K "refuse_unless_lot" "refuse_unless_lot" s_refuse_unless_lot a_refuse_unless_lot fd_refuse_unless_lot
  b_refuse_unless_lot : Binds K fd_refuse_unless_lot ["thing"] []
  g_refuse_unless_lot : mg "refuse_unless_lot" = some (.ref a_refuse_unless_lot)
  a_mirrors : Addr
  fd_mirrors : FuncData
  F_mirrors : Fun K "mirrors" "mirrors" s_mirrors a_mirrors fd_mirrors
  b_mirrors : Binds K fd_mirrors ["lot"] []
  g_mirrors : mg "mirrors" = some (.ref a_mirrors)
  a_true : Addr
  fd_true : FuncData
  F_true : Fun K "true" "true" s_true a_true fd_true
  b_true : Binds K fd_true ["lot", "letter"] []
  g_true : mg "true" = some (.ref a_true)
  a_both : Addr
  fd_both : FuncData
  F_both : Fun K "both" "both" s_both a_both fd_both
  b_both : Binds K fd_both ["one", "other"] []
  g_both : mg "both" = some (.ref a_both)
  a_undone : Addr
  fd_undone : FuncData
  F_undone : Fun K "undone" "undone" s_undone a_undone fd_undone
  b_undone : Binds K fd_undone ["lot"] []
  g_undone : mg "undone" = some (.ref a_undone)
  a_turned : Addr
  fd_turned : FuncData
  F_turned : Fun K "turned" "turned" s_turned a_turned fd_turned
  b_turned : Binds K fd_turned ["lot", "place"] []
  g_turned : mg "turned" = some (.ref a_turned)
  a_Lfar : Addr
  fd_Lfar : FuncData
  F_Lfar : Fun K "_law_far" "_law_far" s_Lfar a_Lfar fd_Lfar
  b_Lfar : Binds K fd_Lfar ["_law_pool_here", "_law_wide"] []
  g_Lfar : mg "_law_far" = some (.ref a_Lfar)
  a_Lpool : Addr
  fd_Lpool : FuncData
  F_Lpool : Fun K "_law_pool" "_law_pool" s_Lpool a_Lpool fd_Lpool
  b_Lpool : Binds K fd_Lpool ["_law_script", "_law_k"] []
  g_Lpool : mg "_law_pool" = some (.ref a_Lpool)
  a_Ltake : Addr
  fd_Ltake : FuncData
  F_Ltake : Fun K "_law_take" "_law_take" s_Ltake a_Ltake fd_Ltake
  b_Ltake : Binds K fd_Ltake ["_law_pool_here", "_law_wide"] []
  g_Ltake : mg "_law_take" = some (.ref a_Ltake)
  a_Lmix : Addr
  fd_Lmix : FuncData
  F_Lmix : Fun K "_law_mix" "_law_mix" s_Lmix a_Lmix fd_Lmix
  b_Lmix : Binds K fd_Lmix ["_law_pool_here", "_law_things"] []
  g_Lmix : mg "_law_mix" = some (.ref a_Lmix)
  a_Lwhole : Addr
  fd_Lwhole : FuncData
  F_Lwhole : Fun K "_law_whole" "_law_whole" s_Lwhole a_Lwhole fd_Lwhole
  b_Lwhole : Binds K fd_Lwhole ["_law_thing"] []
  g_Lwhole : mg "_law_whole" = some (.ref a_Lwhole)
  a_Lsame : Addr
  fd_Lsame : FuncData
  F_Lsame : Fun K "_law_same" "_law_same" s_Lsame a_Lsame fd_Lsame
  b_Lsame : Binds K fd_Lsame ["_law_found", "_law_due"] []
  g_Lsame : mg "_law_same" = some (.ref a_Lsame)
  a_Ltrue : Addr
  fd_Ltrue : FuncData
  F_Ltrue : Fun K "_law_true" "_law_true" s_Ltrue a_Ltrue fd_Ltrue
  b_Ltrue : Binds K fd_Ltrue ["_law_lot", "_law_letter"] []
  g_Ltrue : mg "_law_true" = some (.ref a_Ltrue)
  a_Loff : Addr
  fd_Loff : FuncData
  F_Loff : Fun K "_law_off" "_law_off" s_Loff a_Loff fd_Loff
  b_Loff : Binds K fd_Loff ["_law_place", "_law_letter", "_law_many"] []
  g_Loff : mg "_law_off" = some (.ref a_Loff)
  a_Lturned : Addr
  fd_Lturned : FuncData
  F_Lturned : Fun K "_law_turned" "_law_turned" s_Lturned a_Lturned fd_Lturned
  b_Lturned : Binds K fd_Lturned ["_law_lot", "_law_place"] []
  g_Lturned : mg "_law_turned" = some (.ref a_Lturned)
  a_law : Addr
  fd_law : FuncData
  F_law : Fun K "law" "law" s_law a_law fd_law
  b_law : Binds K fd_law ["_law_script"] []
  g_law : mg "law" = some (.ref a_law)
  g_LETTERS : ∃ t, mg "LETTERS" = some (.str "nesw" t)
  a_STEPS : Addr
  g_STEPS : mg "STEPS" = some (.ref a_STEPS)
  v_STEPS_0 : ∃ q, KDct K w a_STEPS "n" (.ref q) ∧ ∀ H, SqT K H q [.int (0), .int (1)]
  v_STEPS_1 : ∃ q, KDct K w a_STEPS "e" (.ref q) ∧ ∀ H, SqT K H q [.int (1), .int (0)]
  v_STEPS_2 : ∃ q, KDct K w a_STEPS "s" (.ref q) ∧ ∀ H, SqT K H q [.int (0), .int (-1)]
  v_STEPS_3 : ∃ q, KDct K w a_STEPS "w" (.ref q) ∧ ∀ H, SqT K H q [.int (-1), .int (0)]
  m_abs : mg "abs" = none
  m_all : mg "all" = none
  m_bool : mg "bool" = none
  m_int : mg "int" = none
  m_isinstance : mg "isinstance" = none
  m_len : mg "len" = none
  m_list : mg "list" = none
  m_range : mg "range" = none
  m_str : mg "str" = none
  m_tuple : mg "tuple" = none
  m_zip : mg "zip" = none
/-! ### heaps, pools -/
/-- all but what stands at p is as it was -/
def But (p : Addr) (H H' : Hp) : Prop := ∀ b o, b ≠ p → H b = some o → H' b = some o
theorem But.refl (p : Addr) (H : Hp) : But p H H := fun _ _ _ h => h
theorem But.trans {p : Addr} {H H1 H2 : Hp} (a : But p H H1) (b : But p H1 H2) : But p H H2 := fun c o hc h => b c o hc (a c o hc h)
theorem But.of {p : Addr} {H H' : Hp} (a : Same H H') : But p H H' := fun b o _ h => a b o h
theorem But.upd {p : Addr} {H H' : Hp} {o : HO} (a : But p H H') : But p H (upd H' p o) := fun b u hb h => by
  rw [upd_ne hb]
  exact a b u hb h
theorem same_upd {H : Hp} {p : Addr} {o : HO} (h : H p = none) : Same H (upd H p o) := fun b x e => by
  rw [upd_ne (ne_of_none e h)]
  exact e
/-- changed at a new place alone -/
theorem But.same {p : Addr} {H H1 H2 : Hp} (n : H p = none) (a : Same H H1) (b : But p H1 H2) : Same H H2 := fun c o h => b c o (ne_of_none h n) (a c o h)
theorem But.free {p l : Addr} {H H1 : Hp} (a : But p H H1) (n : l ≠ p) (h : H1 l = none) : H l = none := by
  cases e : H l with
  | none => rfl
  | some o =>
    rw [a l o n e] at h
    cases h
/-- a change at a place that H doesn't know -/
theorem But.mut {p l : Addr} {H H1 : Hp} {o : HO} (a : But p H H1) (n : H l = none) : But p H (L2.upd H1 l o) := fun b u hb h => by
  rw [upd_ne (ne_of_none h n)]
  exact a b u hb h
/-- the spring of draws: four whole numbers, the first not below nought -/
def Pool (H : Hp) (p : Addr) : Prop := ∃ l c k n : Int, 0 ≤ l ∧ H p = some (.lst [.int l, .int c, .int k, .int n])
theorem Pool.same {H H' : Hp} {p : Addr} (h : Pool H p) (e : Same H H') : Pool H' p := by
  obtain ⟨l, c, k, n, h0, h1⟩ := h
  exact ⟨l, c, k, n, h0, e _ _ h1⟩
theorem Pool.ne_tup {H : Hp} {p q : Addr} {xs : List V} (h : Pool H p) (e : H q = some (.tup xs)) : q ≠ p := by
  obtain ⟨l, c, k, n, h0, h1⟩ := h
  exact ne_of e h1 (by intro z; cases z)
theorem Pool.ne_new {H : Hp} {p q : Addr} (h : Pool H p) (e : H q = none) : q ≠ p := by
  obtain ⟨l, c, k, n, h0, h1⟩ := h
  intro z
  rw [z, h1] at e
  cases e
theorem Pool.upd {H : Hp} {p q : Addr} {o : HO} (h : Pool H p) (e : q ≠ p) : Pool (L2.upd H q o) p := by
  obtain ⟨l, c, k, n, h0, h1⟩ := h
  refine ⟨l, c, k, n, h0, ?_⟩
  rw [upd_ne (Ne.symm e)]
  exact h1
theorem seq_but {K : PySem.W.Frag} {H H' : Hp} {p a : Addr} {xs : List V} (e : But p H H') (n : a ≠ p) (h : SqL K H a xs) : SqL K H' a xs := by
  rcases h with (h | ⟨o, h⟩) | h
  · exact .inl (.inl (e _ _ n h))
  · exact .inl (.inr ⟨o, e _ _ n h⟩)
  · exact .inr h
theorem abs_if (n : Int) : 0 ≤ (if n < 0 then -n else n) := by
  split <;> omega
local macro_rules | `(tactic| walk_at "go") => `(tactic| repeat (first
  | (with_reducible exact rfl)
  | (refine ⟨_, _, rfl, rfl, ?_⟩)
  | (refine ⟨_, rfl, ?_⟩)
  | (refine ⟨rfl, ?_⟩)))
def spPool (K : PySem.W.Frag) : Sp := fun vs H Q _ => ∃ (a : Addr) (ns : List Int) (k : Int), vs = [.ref a, .int k] ∧ SqL K H a (ns.map V.int) ∧ ns.length ≤ 63 ∧ 0 ≤ k ∧ ∀ H' p, Same H H' → H p = none → Pool H' p → Q (.ref p) H'
def spTake : Sp := fun vs H Q _ => ∃ (p : Addr) (m : Int), vs = [.ref p, .int m] ∧ 0 < m ∧ m < 2 ^ 200 ∧ Pool H p ∧ ∀ H' (r : Int), But p H H' → Pool H' p → 0 ≤ r → r < m → Q (.int r) H'
theorem iteY {c A B : Prop} [Decidable c] (hc : c) (h : A) : if decide c = true then A else B := by
  rw [if_pos (decide_eq_true hc)]
  exact h
theorem iteYn {c A B : Prop} [Decidable c] (hc : c) (h : B) : if (!decide c) = true then A else B := by
  rw [decide_eq_true hc]
  exact h
theorem iteDN {b : Bool} {A B : Prop} (hb : b = false) (h : B) : if b = true then A else B := by
  rw [hb]
  exact h
theorem iteDY {b : Bool} {A B : Prop} (hb : b = true) (h : A) : if b = true then A else B := by
  rw [hb]
  exact h
theorem iteNE {d e : PyData} {A B : Prop} (h : d = e) (hs : SeqAt.shaped d = true) (hB : B) : if (!PyData.eqv d e) = true then A else B := by
  subst h
  rw [SeqAt.eqv_refl d (SeqAt.canLay_of_shaped hs)]
  exact hB
theorem ne_no {x y : V} (e : x = y) : (!decide (x = y)) = false := by
  rw [decide_eq_true e]
  rfl
theorem iteN {x y : V} {A B : Prop} (e : x = y) (h : B) : if (!decide (x = y)) = true then A else B := by
  rw [ne_no e, if_neg Bool.false_ne_true]
  exact h
section
variable {P : Program} {w : World} {K : PySem.W.Frag} {mg : Str → Option Value} {base : Heap}
theorem ok_Lpool (T : Top w K mg) : FnOk P w K mg base CX0 1 T.a_Lpool T.fd_Lpool ["_law_script", "_law_k"] (spPool K) := by
  refine T.F_Lpool.ok sc_Lpool (fun vs H Q E h => ?_) (fun cdv A outer s H vs Q E hr h => ?_)
  · obtain ⟨a, ns, k, rfl, _⟩ := h
    rfl
  · obtain ⟨a, ns, k, rfl, hS, hlen, hk, q⟩ := h
    refine ⟨_, (pss_cons (ps_set (i := 2) sc_Lpool.nd rfl (.inl rfl) pe_int)
      (Evl.pss_cut (ps_if (pt_cmpR op_gt (pe_callB call_len_seq (by rfl) T.m_len (by decide +kernel) (pa_cons (pv 0) pa_nil)) pe_int (nomark _)) (pss_one (ps_set (i := 2) sc_Lpool.nd rfl (.inl rfl) (pe_ix ix_list (pv 0) (pe_op op_mod (pv 1) (pe_callB call_len_seq (by rfl) T.m_len (by decide +kernel) (pa_cons (pv 0) pa_nil))) (fun _ _ => rfl)))) pss_nil)
      (pss_cons (ps_set (i := 3) sc_Lpool.nd rfl (.inl rfl) pe_int)
      (pss_cons (ps_if (PW.pt (pw_and (pt_cmpR op_lt (pv 1) (pe_callB call_len_seq (by rfl) T.m_len (by decide +kernel) (pa_cons (pv 0) pa_nil)) (nomark _)) (pw_and1 (pt_cmpR op_ge (pe_callB call_abs (by rfl) T.m_abs (by decide +kernel) (pa_cons (pv 2) pa_nil)) (pe_op op_pow pe_int pe_int) (nomark _))))) (pss_one (ps_set (i := 3) sc_Lpool.nd rfl (.inl rfl) (pe_callB call_abs (by rfl) T.m_abs (by decide +kernel) (pa_cons (pv 2) pa_nil)))) pss_nil)
      (pss_one (ps_ret (pe_lst (pa_cons (pv 3) (pa_cons (pv 2) (pa_cons (pv 1) (pa_cons pe_int pa_nil))))))))))), ?_⟩
    have hL : ((ns.map V.int).length : Int) = ns.length := by rw [List.length_map]
    have fin : ∀ (l c : Int), 0 ≤ l → ∀ p, H p = none → Q (.ref p) (upd H p (.lst [.int l, .int c, .int k, .int 0])) := fun l c hl p hp =>
      q _ p (same_upd hp) hp ⟨l, c, k, 0, hl, upd_same⟩
    refine ⟨fun σ H' => H' = H ∧ ∃ c : Int, σ = [some (.ref a), some (.int k), some (.int c), none], ?_, ?_⟩
    · refine ⟨.ref a, rfl, a, ns.map V.int, rfl, .inl hS, _, _, rfl, rfl, _, rfl, ite2 (fun e => ?_) (fun e => ?_)⟩
      · have e0 : (0 : Int) < ((ns.map V.int).length : Int) := of_decide_eq_true e
        refine ⟨.ref a, rfl, .int k, rfl, .ref a, rfl, a, ns.map V.int, rfl, .inl hS, k, _, rfl, rfl, e0, ?_⟩
        have h1 := Int.emod_nonneg k (show ((ns.map V.int).length : Int) ≠ 0 by omega)
        have h2 := Int.emod_lt_of_pos k e0
        obtain ⟨j, hj⟩ : ∃ j : Nat, k % ((ns.map V.int).length : Int) = j := ⟨(k % ((ns.map V.int).length : Int)).toNat, by omega⟩
        have hj2 : j < ns.length := by omega
        have g : (ns.map V.int)[j]? = some (.int ns[j]) := by
          rw [List.getElem?_map, List.getElem?_eq_getElem hj2]
          rfl
        have gi : atI (ns.map V.int) (k % ((ns.map V.int).length : Int)) = some (.int ns[j]) := by
          rw [hj]
          exact atI_nat g
        exact ⟨a, _, _, _, rfl, rfl, hS, gi, rfl, _, rfl⟩
      · exact ⟨rfl, 0, rfl⟩
    · rintro σ H' ⟨rfl, c, rfl⟩
      refine ⟨.int k, rfl, .ref a, rfl, a, ns.map V.int, rfl, .inl hS, _, _, rfl, rfl, _, rfl, ite2 (fun e => ?_) (fun e => ?_)⟩
      · refine ⟨.int c, rfl, c, rfl, _, _, rfl, rfl, ⟨by decide, by decide, by decide⟩, _, _, rfl, rfl, _, rfl, ite2 (fun e => ?_) (fun e => ?_)⟩
        · exact ⟨.int c, rfl, c, rfl, _, rfl, _, rfl, _, rfl, by show 4 ≤ sizeLine; decide, fin _ c (abs_if c)⟩
        · exact ⟨_, rfl, _, rfl, _, rfl, by show 4 ≤ sizeLine; decide, fin 0 c (by decide)⟩
      · refine ite2 (fun e2 => by cases e2) (fun _ => ?_)
        exact ⟨_, rfl, _, rfl, _, rfl, by show 4 ≤ sizeLine; decide, fin 0 c (by decide)⟩
def primes : List Int := [2147483629, 2147483587, 2147483579, 2147483563, 2147483549, 2147483543, 2147483497, 2147483489]
theorem primes_at {i : Int} (h0 : 0 ≤ i) (h1 : i < 8) : ∃ p : Int, atI (primes.map V.int) i = some (.int p) ∧ 0 < p ∧ p < 2147483647 := by
  obtain rfl | rfl | rfl | rfl | rfl | rfl | rfl | rfl : i = 0 ∨ i = 1 ∨ i = 2 ∨ i = 3 ∨ i = 4 ∨ i = 5 ∨ i = 6 ∨ i = 7 := by omega
  all_goals exact ⟨_, rfl, by decide, by decide⟩
theorem pow_ok (a : Int) : CPow (a % 2147483647) 5 := by
  have h1 := Int.emod_nonneg a (show (2147483647 : Int) ≠ 0 by decide)
  have h2 := Int.emod_lt_of_pos a (show (0 : Int) < 2147483647 by decide)
  exact ⟨by decide, by decide, by omega⟩
theorem ok_Ltake (T : Top w K mg) : FnOk P w K mg base CX0 1 T.a_Ltake T.fd_Ltake ["_law_pool_here", "_law_wide"] spTake := by
  refine T.F_Ltake.ok sc_Ltake (fun vs H Q E h => ?_) (fun cdv A outer s H vs Q E hr h => ?_)
  · obtain ⟨p, m, rfl, _⟩ := h
    rfl
  · obtain ⟨p, m, rfl, hm, hb, ⟨l, c, k, n, hl, hp⟩, q⟩ := h
    refine ⟨_, (pss_cons (ps_if (pt_cmpR op_gt (pe_ix ix_list (pv 0) pe_int (fun _ _ => rfl)) pe_int (nomark _)) (pss_cons (ps_set (i := 2) sc_Ltake.nd rfl (.inl rfl) (pe_op op_mod (pe_ix ix_list (pv 0) pe_int (fun _ _ => rfl)) (pv 1)))
      (pss_cons (ps_asg (pe_op op_fdivW (pe_ix ix_list (pv 0) pe_int (fun _ _ => rfl)) (pv 1)) (pg_sub (pv 0) pe_int set_list))
      (pss_one (ps_ret (pv 2))))) pss_nil)
      (pss_cons (ps_asg (pe_op op_add (pe_ix ix_list (pv 0) pe_int (fun _ _ => rfl)) pe_int) (pg_sub (pv 0) pe_int set_list))
      (pss_cons (ps_set (i := 3) sc_Ltake.nd rfl (.inl rfl) (pe_lst (pa_cons pe_int (pa_cons pe_int (pa_cons pe_int (pa_cons pe_int (pa_cons pe_int (pa_cons pe_int (pa_cons pe_int (pa_cons pe_int pa_nil))))))))))
      (pss_cons (ps_set (i := 4) sc_Ltake.nd rfl (.inl rfl) (pe_op op_mod (pe_op op_add (pe_op op_add (pe_op op_add (pe_ix ix_list (pv 0) pe_int (fun _ _ => rfl)) (pe_op op_mul pe_int (pe_ix ix_list (pv 0) pe_int (fun _ _ => rfl)))) (pe_op op_mul pe_int (pe_ix ix_list (pv 0) pe_int (fun _ _ => rfl)))) pe_int) pe_int))
      (pss_cons (ps_set (i := 4) sc_Ltake.nd rfl (.inl rfl) (pe_op op_mod (pe_op op_pow (pv 4) pe_int) (pe_ix ix_list (pv 3) (pe_op op_mod (pe_ix ix_list (pv 0) pe_int (fun _ _ => rfl)) pe_int) (fun _ _ => rfl))))
      (pss_cons (ps_set (i := 5) sc_Ltake.nd rfl (.inl rfl) (pe_op op_mod (pe_op op_add (pe_op op_add (pv 4) (pe_op op_mul pe_int (pe_ix ix_list (pv 0) pe_int (fun _ _ => rfl)))) (pe_ix ix_list (pv 0) pe_int (fun _ _ => rfl))) pe_int))
      (pss_one (ps_ret (pe_op op_mod (pe_op op_add (pe_op op_mul (pe_op op_mod (pe_op op_pow (pv 5) pe_int) pe_int) pe_int) (pv 4)) (pv 1)))))))))), ?_⟩
    refine ⟨.ref p, rfl, p, _, 0, .int l, rfl, rfl, .inl (.inl hp), rfl, _, _, rfl, rfl, _, rfl, ite2 (fun e => ?_) (fun e => ?_)⟩
    · refine ⟨.ref p, rfl, p, _, 0, .int l, rfl, rfl, .inl (.inl hp), rfl, .int m, rfl, l, m, rfl, rfl, hm, ?_⟩
      refine ⟨.ref p, rfl, p, _, 0, .int l, rfl, rfl, .inl (.inl hp), rfl, .int m, rfl, l, m, rfl, rfl, wide_div (b := 200) hm (by omega) (by decide) (by decide), ?_⟩
      refine ⟨.ref p, rfl, p, _, 0, 0, rfl, rfl, hp, rfl, ?_⟩
      refine ⟨_, rfl, q _ _ (But.refl p H).upd ⟨l / m, c, k, n, Int.ediv_nonneg hl (by omega), ?_⟩ (Int.emod_nonneg l (by omega)) (Int.emod_lt_of_pos l hm)⟩
      exact upd_same
    · refine ⟨.ref p, rfl, p, _, 3, .int n, rfl, rfl, .inl (.inl hp), rfl, n, 1, rfl, rfl, .ref p, rfl, p, _, 3, 3, rfl, rfl, hp, rfl, ?_⟩
      refine ⟨by show 8 ≤ sizeLine; decide, fun o no => ?_⟩
      have hop : o ≠ p := fun z => by
        rw [z, upd_same] at no
        cases no
      have h3 : (upd (upd H p (.lst [.int l, .int c, .int k, .int (n + 1)])) o (.lst (primes.map V.int))) p = some (.lst [.int l, .int c, .int k, .int (n + 1)]) := by
        rw [upd_ne (Ne.symm hop), upd_same]
      have h4 : (upd (upd H p (.lst [.int l, .int c, .int k, .int (n + 1)])) o (.lst (primes.map V.int))) o = some (.lst (primes.map V.int)) := upd_same
      have bt : But p H (upd (upd H p (.lst [.int l, .int c, .int k, .int (n + 1)])) o (.lst (primes.map V.int))) := fun b u hb h => by
        have nb : b ≠ o := fun z => by
          have : (upd H p (.lst [.int l, .int c, .int k, .int (n + 1)])) b = some u := by
            rw [upd_ne hb]
            exact h
          rw [z] at this
          exact absurd (this.symm.trans no) (by intro z; cases z)
        rw [upd_ne nb, upd_ne hb]
        exact h
      have i8 : 0 ≤ (n + 1) % 8 := Int.emod_nonneg _ (by decide)
      have j8 : (n + 1) % 8 < 8 := Int.emod_lt_of_pos _ (by decide)
      obtain ⟨pr, hpr, pr0, pr1⟩ := primes_at i8 j8
      refine ⟨.ref p, rfl, p, _, 1, .int c, rfl, rfl, .inl (.inl h3), rfl, .ref p, rfl, p, _, 2, .int k, rfl, rfl, .inl (.inl h3), rfl, 7919, k, rfl, rfl, .inl ⟨by decide, by decide⟩, _, _, rfl, rfl, .ref p, rfl, p, _, 3, .int (n + 1), rfl, rfl, .inl (.inl h3), rfl, 104729, n + 1, rfl, rfl, .inl ⟨by decide, by decide⟩, _, _, rfl, rfl, _, _, rfl, rfl, _, _, rfl, rfl, (by show (0 : Int) < 2147483647; decide), ?_⟩
      refine ⟨_, rfl, _, _, rfl, rfl, pow_ok _, .ref o, rfl, .ref p, rfl, p, _, 3, .int (n + 1), rfl, rfl, .inl (.inl h3), rfl, _, _, rfl, rfl, (by show (0 : Int) < 8; decide), o, _, _, .int pr, rfl, rfl, .inl (.inl h4), hpr, _, _, rfl, rfl, pr0, ?_⟩
      refine ⟨_, rfl, .ref p, rfl, p, _, 2, .int k, rfl, rfl, .inl (.inl h3), rfl, 40692, k, rfl, rfl, .inl ⟨by decide, by decide⟩, _, _, rfl, rfl, .ref p, rfl, p, _, 3, .int (n + 1), rfl, rfl, .inl (.inl h3), rfl, _, _, rfl, rfl, _, _, rfl, rfl, (by show (0 : Int) < 2147483647; decide), ?_⟩
      refine ⟨_, rfl, _, _, rfl, rfl, pow_ok _, _, _, rfl, rfl, (by show (0 : Int) < 2147483647; decide), _, _, rfl, rfl, .inr ⟨by decide, by decide⟩, _, rfl, _, _, rfl, rfl, .int m, rfl, _, _, rfl, rfl, hm, ?_⟩
      exact q _ _ bt ⟨l, c, k, n + 1, hl, h3⟩ (Int.emod_nonneg _ (by omega)) (Int.emod_lt_of_pos _ hm)
/-! ### data alike -/
theorem sqt_same {K : PySem.W.Frag} {H H' : Hp} {a : Addr} {xs : List V} (e : Same H H') (h : SqT K H a xs) : SqT K H' a xs := Evl.ex_t (show Evl.Ex H H' from e) h
mutual
theorem dp_same {K : PySem.W.Frag} {H H' : Hp} (e : Same H H') : ∀ (d : PyData) (v : V), Dp K H v d → Dp K H' v d
  | .none, _, h => by cases h; exact .non
  | .bool b, _, h => by cases h; exact .bl b
  | .int i, _, h => by cases h; exact .int i
  | .str x, _, h => by cases h; exact .str x
  | .list ds, _, h => by
    cases h with
    | lst hs ha => exact .lst (e.seq hs) (dpa_same e ds _ ha)
  | .tuple ds, _, h => by
    cases h with
    | tup hs ha => exact .tup (sqt_same e hs) (dpa_same e ds _ ha)
  | .dict _, _, h => by cases h
theorem dpa_same {K : PySem.W.Frag} {H H' : Hp} (e : Same H H') : ∀ (ds : List PyData) (vs : List V), DpAll K H vs ds → DpAll K H' vs ds
  | [], _, h => by cases h; exact .nil
  | d :: ds, _, h => by
    cases h with
    | cons h1 h2 => exact .cons (dp_same e d _ h1) (dpa_same e ds _ h2)
end
theorem dpa_len {K : PySem.W.Frag} {H : Hp} : ∀ (ds : List PyData) (vs : List V), DpAll K H vs ds → vs.length = ds.length
  | [], _, h => by cases h; rfl
  | d :: ds, _, h => by
    cases h with
    | cons h1 h2 =>
      rw [List.length_cons, List.length_cons, dpa_len ds _ h2]
theorem dpa_at {K : PySem.W.Frag} {H : Hp} : ∀ (ds : List PyData) (vs : List V), DpAll K H vs ds → ∀ (i : Nat) (v : V), vs[i]? = some v → ∃ d, ds[i]? = some d ∧ Dp K H v d
  | [], _, h, i, v, e => by cases h; cases e
  | d :: ds, _, h, i, v, e => by
    cases h with
    | cons h1 h2 =>
      cases i with
      | zero =>
        cases e
        exact ⟨d, rfl, h1⟩
      | succ j => exact dpa_at ds _ h2 j v e
theorem ty_tup {K : PySem.W.Frag} {H : Hp} {a : Addr} {xs : List V} (h : SqT K H a xs) : TyX K H (.ref a) (.type "tuple") := by
  rcases h with (h | ⟨o, h⟩) | ⟨o, its, n, lk, hc, _⟩
  · exact .base (.tup h)
  · exact .fTuple h
  · exact .kTuple lk hc
/-- none, truths, whole numbers, texts, and tuples of these, at most n deep -/
def okD : Nat → PyData → Bool
  | _, .none => true
  | _, .bool _ => true
  | _, .int _ => true
  | _, .str _ => true
  | n + 1, .tuple ds => decide (ds.length ≤ 1000) && ds.all fun d => okD n d
  | _, _ => false
theorem walk_zipT {K : PySem.W.Frag} {a b : Addr} {xs ys : List V} {n : Nat} (hn : n = min xs.length ys.length) : Walk (RZ.ItzT K a b) n (fun H => SqT K H a xs ∧ SqT K H b ys) (YPair (fun i => xs[i]?) (fun i => ys[i]?)) where
  goes := fun i H lt ⟨p, q⟩ => ⟨xs, ys, _, _, p, q, List.getElem?_eq_getElem (by omega), List.getElem?_eq_getElem (by omega)⟩
  stops := fun H ⟨p, q⟩ => ⟨xs, ys, p, q, by omega⟩
  yields := fun i H v H' _ ⟨p, q⟩ ⟨T, x, y, e1, e2, e3, e4, e5⟩ => ⟨T, x, y, e1, e2, e3, e4 xs p, e5 ys q⟩
theorem all_true : ∀ n : Nat, (List.replicate n true).all id = true
  | 0 => rfl
  | n + 1 => by rw [List.replicate_succ, List.all_cons, all_true n]; rfl
def spWhole : Sp := fun vs H Q _ => ∃ i : Int, vs = [.int i] ∧ Q (.bl true) H
theorem ok_Lwhole (T : Top w K mg) : FnOk P w K mg base CX0 1 T.a_Lwhole T.fd_Lwhole ["_law_thing"] spWhole := by
  refine T.F_Lwhole.ok sc_Lwhole (fun vs H Q E h => ?_) (fun cdv A outer s H vs Q E hr h => ?_)
  · obtain ⟨i, rfl, _⟩ := h
    rfl
  · obtain ⟨i, rfl, q⟩ := h
    refine ⟨_, (pss_one (ps_ret (pe_and (pe_callB call_isi (by rfl) T.m_isinstance (by decide +kernel) (pa_cons (pv 0) (pa_cons (pe_bltn (v := .ty "int") (by rfl) T.m_int (by decide +kernel) rfl) pa_nil))) (pe_one (pe_not (pe_callB call_isi (by rfl) T.m_isinstance (by decide +kernel) (pa_cons (pv 0) (pa_cons (pe_bltn (v := .ty "bool") (by rfl) T.m_bool (by decide +kernel) rfl) pa_nil)))))))), ?_⟩
    refine ⟨.int i, rfl, _, _, _, _, true, rfl, .ty _, .base (.int i), kit_ty (by decide +kernel), _, rfl, iteT ?_⟩
    exact ⟨.int i, rfl, _, _, _, _, false, rfl, .ty _, .base (.int i), kit_ty (by decide +kernel), _, rfl, q⟩
def spSame (K : PySem.W.Frag) (n : Nat) : Sp := fun vs H Q _ => ∃ (x y : V) (d : PyData), vs = [x, y] ∧ Dp K H x d ∧ Dp K H y d ∧ okD n d = true ∧ ∀ H', Same H H' → Q (.bl true) H'
theorem ok_Lsame0 (T : Top w K mg) : FnOk P w K mg base CX0 2 T.a_Lsame T.fd_Lsame ["_law_found", "_law_due"] (spSame K 0) := by
  have G_Lwhole := ok_Lwhole (P := P) (w := w) (base := base) T
  refine T.F_Lsame.ok sc_Lsame (fun vs H Q E h => ?_) (fun cdv A outer s H vs Q E hr h => ?_)
  · obtain ⟨x, y, d, rfl, _⟩ := h
    rfl
  · obtain ⟨x, y, d, rfl, hx, hy, ok, q⟩ := h
    refine ⟨_, (pss_cons (ps_if (pt_val (pe_callB call_isi (by rfl) T.m_isinstance (by decide +kernel) (pa_cons (pv 1) (pa_cons (pe_bltn (v := .ty "tuple") (by rfl) T.m_tuple (by decide +kernel) rfl) pa_nil)))) pss_never pss_nil)
      (pss_cons (ps_if (pt_cmpR op_isN (pv 1) pe_non (nomark _)) (pss_one (ps_ret (pe_cmpR op_isN (pv 0) pe_non (nomark _)))) pss_nil)
      (pss_cons (ps_if (pt_val (pe_callB call_isi (by rfl) T.m_isinstance (by decide +kernel) (pa_cons (pv 1) (pa_cons (pe_bltn (v := .ty "bool") (by rfl) T.m_bool (by decide +kernel) rfl) pa_nil)))) (pss_one (ps_ret (pe_and (pe_callB call_isi (by rfl) T.m_isinstance (by decide +kernel) (pa_cons (pv 0) (pa_cons (pe_bltn (v := .ty "bool") (by rfl) T.m_bool (by decide +kernel) rfl) pa_nil))) (pe_one (pe_cmpR op_eq (pv 0) (pv 1) (nomark _)))))) pss_nil)
      (pss_cons (ps_if (pt_val (pe_callB call_isi (by rfl) T.m_isinstance (by decide +kernel) (pa_cons (pv 1) (pa_cons (pe_bltn (v := .ty "str") (by rfl) T.m_str (by decide +kernel) rfl) pa_nil)))) (pss_one (ps_ret (pe_and (pe_callB call_isi (by rfl) T.m_isinstance (by decide +kernel) (pa_cons (pv 0) (pa_cons (pe_bltn (v := .ty "str") (by rfl) T.m_str (by decide +kernel) rfl) pa_nil))) (pe_one (pe_cmpR op_eq (pv 0) (pv 1) (nomark _)))))) pss_nil)
      (pss_one (ps_ret (pe_and (pe_call G_Lwhole (hr.mono (by omega)) (by rfl) T.g_Lwhole T.F_Lwhole.kp T.b_Lwhole .nil pass0 (pa_cons (pv 0) pa_nil)) (pe_one (pe_cmpR op_eq (pv 0) (pv 1) (nomark _)))))))))), ?_⟩
    have Q0 := q H (Same.refl H)
    cases d with
    | none =>
      cases hx
      cases hy
      exact ⟨.non, rfl, _, _, _, _, false, rfl, .ty _, .base .non, kit_ty (by decide +kernel), _, rfl, iteF ⟨.non, rfl, rfl, _, rfl, iteT ⟨.non, rfl, rfl, Q0⟩⟩⟩
    | bool b =>
      cases hx
      cases hy
      refine ⟨.bl b, rfl, _, _, _, _, false, rfl, .ty _, .base (.bl b), kit_ty (by decide +kernel), _, rfl, iteF ⟨.bl b, rfl, rfl, _, rfl, iteF ?_⟩⟩
      refine ⟨.bl b, rfl, _, _, _, _, true, rfl, .ty _, .base (.bl b), kit_ty (by decide +kernel), _, rfl, iteT ?_⟩
      refine ⟨.bl b, rfl, _, _, _, _, true, rfl, .ty _, .base (.bl b), kit_ty (by decide +kernel), _, rfl, iteT ⟨.bl b, rfl, .bl b, rfl, rfl, ?_⟩⟩
      rw [decide_eq_true rfl]
      exact Q0
    | int i =>
      cases hx
      cases hy
      refine ⟨.int i, rfl, _, _, _, _, false, rfl, .ty _, .base (.int i), kit_ty (by decide +kernel), _, rfl, iteF ⟨.int i, rfl, rfl, _, rfl, iteF ?_⟩⟩
      refine ⟨.int i, rfl, _, _, _, _, false, rfl, .ty _, .base (.int i), kit_ty (by decide +kernel), _, rfl, iteF ?_⟩
      refine ⟨.int i, rfl, _, _, _, _, false, rfl, .ty _, .base (.int i), kit_ty (by decide +kernel), _, rfl, iteF ?_⟩
      refine ⟨.int i, rfl, i, rfl, _, rfl, iteT ⟨.int i, rfl, .int i, rfl, rfl, ?_⟩⟩
      rw [decide_eq_true rfl]
      exact Q0
    | str z =>
      cases hx
      cases hy
      refine ⟨.str z, rfl, _, _, _, _, false, rfl, .ty _, .base (.str z), kit_ty (by decide +kernel), _, rfl, iteF ⟨.str z, rfl, rfl, _, rfl, iteF ?_⟩⟩
      refine ⟨.str z, rfl, _, _, _, _, false, rfl, .ty _, .base (.str z), kit_ty (by decide +kernel), _, rfl, iteF ?_⟩
      refine ⟨.str z, rfl, _, _, _, _, true, rfl, .ty _, .base (.str z), kit_ty (by decide +kernel), _, rfl, iteT ?_⟩
      refine ⟨.str z, rfl, _, _, _, _, true, rfl, .ty _, .base (.str z), kit_ty (by decide +kernel), _, rfl, iteT ⟨.str z, rfl, .str z, rfl, rfl, ?_⟩⟩
      rw [decide_eq_true rfl]
      exact Q0
    | list ds => cases ok
    | tuple ds => cases ok
    | dict ds => cases ok
theorem ok_LsameS (T : Top w K mg) {n : Nat} (G_Lsame : FnOk P w K mg base CX0 (n + 2) T.a_Lsame T.fd_Lsame ["_law_found", "_law_due"] (spSame K n)) : FnOk P w K mg base CX0 (n + 3) T.a_Lsame T.fd_Lsame ["_law_found", "_law_due"] (spSame K (n + 1)) := by
  have G_Lwhole := ok_Lwhole (P := P) (w := w) (base := base) T
  refine T.F_Lsame.ok sc_Lsame (fun vs H Q E h => ?_) (fun cdv A outer s H vs Q E hr h => ?_)
  · obtain ⟨x, y, d, rfl, _⟩ := h
    rfl
  · obtain ⟨x, y, d, rfl, hx, hy, ok, q⟩ := h
    refine ⟨_, (pss_cons (ps_if (pt_val (pe_callB call_isi (by rfl) T.m_isinstance (by decide +kernel) (pa_cons (pv 1) (pa_cons (pe_bltn (v := .ty "tuple") (by rfl) T.m_tuple (by decide +kernel) rfl) pa_nil)))) (pss_cons (ps_if (PW.pt (pw_or (pt_not (pt_val (pe_callB call_isi (by rfl) T.m_isinstance (by decide +kernel) (pa_cons (pv 0) (pa_cons (pe_bltn (v := .ty "tuple") (by rfl) T.m_tuple (by decide +kernel) rfl) pa_nil))))) (pw_or1 (pt_cmpR op_ne (pe_callB call_len_seq (by rfl) T.m_len (by decide +kernel) (pa_cons (pv 0) pa_nil)) (pe_callB call_len_seq (by rfl) T.m_len (by decide +kernel) (pa_cons (pv 1) pa_nil)) (nomark _))))) (pss_one (ps_ret pe_bl)) pss_nil)
      (pss_one (ps_ret (pe_callB (cr_all rfl) (by rfl) T.m_all (by decide +kernel) (pa_cons (pe_lc (own := [("_law_one", 2), ("_law_other", 3)]) (g := gTup K 2 (gCons (gName 2) (gCons (gName 3) gNil))) (by rfl) sc_Lsame.nd (RZ.pi_zipA (by rfl) T.m_zip (pa_cons (pv 0) (pa_cons (pv 1) pa_nil))) (blkOk_by (own := [("_law_one", 2), ("_law_other", 3)]) (N := ["_law_found", "_law_due", "_law_one", "_law_other"]) (sc := defScope s_Lsame) (by decide +kernel)) (fun _ _ _ _ _ => (pg_tup rfl (pgs_cons (pg_name (i := 2) sc_Lsame.nd rfl (Or.inl rfl)) (pgs_cons (pg_name (i := 3) sc_Lsame.nd rfl (Or.inl rfl)) pgs_nil)))) (fun _ _ _ _ _ => pts_nil) (fun _ _ _ _ _ => (pe_call G_Lsame hr (by rfl) T.g_Lsame T.F_Lsame.kp T.b_Lsame .nil pass0 (pa_cons (pv 2) (pa_cons (pv 3) pa_nil))))) pa_nil))))) pss_nil)
      (pss_cons (ps_if (pt_cmpR op_isN (pv 1) pe_non (nomark _)) (pss_one (ps_ret (pe_cmpR op_isN (pv 0) pe_non (nomark _)))) pss_nil)
      (pss_cons (ps_if (pt_val (pe_callB call_isi (by rfl) T.m_isinstance (by decide +kernel) (pa_cons (pv 1) (pa_cons (pe_bltn (v := .ty "bool") (by rfl) T.m_bool (by decide +kernel) rfl) pa_nil)))) (pss_one (ps_ret (pe_and (pe_callB call_isi (by rfl) T.m_isinstance (by decide +kernel) (pa_cons (pv 0) (pa_cons (pe_bltn (v := .ty "bool") (by rfl) T.m_bool (by decide +kernel) rfl) pa_nil))) (pe_one (pe_cmpR op_eq (pv 0) (pv 1) (nomark _)))))) pss_nil)
      (pss_cons (ps_if (pt_val (pe_callB call_isi (by rfl) T.m_isinstance (by decide +kernel) (pa_cons (pv 1) (pa_cons (pe_bltn (v := .ty "str") (by rfl) T.m_str (by decide +kernel) rfl) pa_nil)))) (pss_one (ps_ret (pe_and (pe_callB call_isi (by rfl) T.m_isinstance (by decide +kernel) (pa_cons (pv 0) (pa_cons (pe_bltn (v := .ty "str") (by rfl) T.m_str (by decide +kernel) rfl) pa_nil))) (pe_one (pe_cmpR op_eq (pv 0) (pv 1) (nomark _)))))) pss_nil)
      (pss_one (ps_ret (pe_and (pe_call G_Lwhole (hr.mono (by omega)) (by rfl) T.g_Lwhole T.F_Lwhole.kp T.b_Lwhole .nil pass0 (pa_cons (pv 0) pa_nil)) (pe_one (pe_cmpR op_eq (pv 0) (pv 1) (nomark _)))))))))), ?_⟩
    have Q0 := q H (Same.refl H)
    cases d with
    | none =>
      cases hx
      cases hy
      exact ⟨.non, rfl, _, _, _, _, false, rfl, .ty _, .base .non, kit_ty (by decide +kernel), _, rfl, iteF ⟨.non, rfl, rfl, _, rfl, iteT ⟨.non, rfl, rfl, Q0⟩⟩⟩
    | bool b =>
      cases hx
      cases hy
      refine ⟨.bl b, rfl, _, _, _, _, false, rfl, .ty _, .base (.bl b), kit_ty (by decide +kernel), _, rfl, iteF ⟨.bl b, rfl, rfl, _, rfl, iteF ?_⟩⟩
      refine ⟨.bl b, rfl, _, _, _, _, true, rfl, .ty _, .base (.bl b), kit_ty (by decide +kernel), _, rfl, iteT ?_⟩
      refine ⟨.bl b, rfl, _, _, _, _, true, rfl, .ty _, .base (.bl b), kit_ty (by decide +kernel), _, rfl, iteT ⟨.bl b, rfl, .bl b, rfl, rfl, ?_⟩⟩
      rw [decide_eq_true rfl]
      exact Q0
    | int i =>
      cases hx
      cases hy
      refine ⟨.int i, rfl, _, _, _, _, false, rfl, .ty _, .base (.int i), kit_ty (by decide +kernel), _, rfl, iteF ⟨.int i, rfl, rfl, _, rfl, iteF ?_⟩⟩
      refine ⟨.int i, rfl, _, _, _, _, false, rfl, .ty _, .base (.int i), kit_ty (by decide +kernel), _, rfl, iteF ?_⟩
      refine ⟨.int i, rfl, _, _, _, _, false, rfl, .ty _, .base (.int i), kit_ty (by decide +kernel), _, rfl, iteF ?_⟩
      refine ⟨.int i, rfl, i, rfl, _, rfl, iteT ⟨.int i, rfl, .int i, rfl, rfl, ?_⟩⟩
      rw [decide_eq_true rfl]
      exact Q0
    | str z =>
      cases hx
      cases hy
      refine ⟨.str z, rfl, _, _, _, _, false, rfl, .ty _, .base (.str z), kit_ty (by decide +kernel), _, rfl, iteF ⟨.str z, rfl, rfl, _, rfl, iteF ?_⟩⟩
      refine ⟨.str z, rfl, _, _, _, _, false, rfl, .ty _, .base (.str z), kit_ty (by decide +kernel), _, rfl, iteF ?_⟩
      refine ⟨.str z, rfl, _, _, _, _, true, rfl, .ty _, .base (.str z), kit_ty (by decide +kernel), _, rfl, iteT ?_⟩
      refine ⟨.str z, rfl, _, _, _, _, true, rfl, .ty _, .base (.str z), kit_ty (by decide +kernel), _, rfl, iteT ⟨.str z, rfl, .str z, rfl, rfl, ?_⟩⟩
      rw [decide_eq_true rfl]
      exact Q0
    | list ds => cases ok
    | dict ds => cases ok
    | tuple ds =>
      cases hx with
      | @tup a xs _ sx ax =>
        cases hy with
        | @tup b ys _ sy ay =>
          have lx := dpa_len ds xs ax
          have ly := dpa_len ds ys ay
          obtain ⟨okL, okA⟩ := Bool.and_eq_true_iff.mp (show (decide (ds.length ≤ 1000) && ds.all fun d => okD n d) = true from ok)
          have okl : ds.length ≤ 1000 := of_decide_eq_true okL
          refine ⟨.ref b, rfl, _, _, _, _, true, rfl, .ty _, ty_tup sy, kit_ty (by decide +kernel), _, rfl, iteT ?_⟩
          refine ⟨.ref a, rfl, _, _, _, _, true, rfl, .ty _, ty_tup sx, kit_ty (by decide +kernel), _, rfl, iteF ?_⟩
          refine ⟨.ref a, rfl, a, xs, rfl, .inr sx, .ref b, rfl, b, ys, rfl, .inr sy, rfl, _, rfl, iteN (by rw [lx, ly]) ?_⟩
          refine ⟨.ref a, rfl, .ref b, rfl, a, b, xs, ys, rfl, .inr ⟨sx, sy, fun D hD => lc_it (walk_zipT (xs := xs) (ys := ys) (n := ds.length) (by omega)) (fun i H' => Same H H' ∧ H' D = some (.lst ((List.replicate i true).map V.bl))) ⟨same_upd hD, upd_same⟩ (fun i H' _ h => ⟨sqt_same h.1 sx, sqt_same h.1 sy⟩) ?_ ?_⟩⟩
          · rintro i v H1 H2 hi ⟨sm, eD⟩ ⟨t, u1, u2, rfl, nt, rfl, e1, e2⟩
            have st : Same H1 (upd H1 t (.tup [u1, u2])) := same_upd nt
            obtain ⟨d1, f1, g1⟩ := dpa_at ds xs ax i u1 e1
            obtain ⟨d2, f2, g2⟩ := dpa_at ds ys ay i u2 e2
            have ed : d2 = d1 := Option.some.inj (f2.symm.trans f1)
            subst ed
            have okd : okD n d2 = true := List.all_eq_true.mp okA d2 (List.mem_of_getElem? f1)
            refine ⟨t, [u1, u2], rfl, .inl (.inl upd_same), rfl, u1, [u2], rfl, u2, [], rfl, rfl, rfl, ?_⟩
            refine ⟨u1, rfl, u2, rfl, u1, u2, d2, rfl, dp_same (sm.trans st) d2 u1 g1, dp_same (sm.trans st) d2 u2 g2, okd, fun H3 s3 => ?_⟩
            refine ⟨_, s3 _ _ (st _ _ eD), ?_, ?_, ?_⟩
            · rw [List.length_map, List.length_replicate]
              exact small1000 (by omega)
            · exact fun b' o e => by
                rw [upd_ne (ne_of_none e hD)]
                exact s3 _ _ (st _ _ (sm _ _ e))
            · rw [upd_same, List.replicate_succ', List.map_append]
              rfl
          · rintro H1 ⟨sm, eD⟩
            refine ⟨_, List.replicate ds.length true, rfl, .inl (.inl eD), ?_⟩
            rw [all_true]
            exact q _ sm
theorem ok_Lsame (T : Top w K mg) : ∀ n : Nat, FnOk P w K mg base CX0 (n + 2) T.a_Lsame T.fd_Lsame ["_law_found", "_law_due"] (spSame K n)
  | 0 => ok_Lsame0 T
  | n + 1 => ok_LsameS T (ok_Lsame T n)
/-! ### mixed -/
def spMix (K : PySem.W.Frag) : Sp := fun vs H Q _ => ∃ (p t : Addr) (xs : List V), vs = [.ref p, .ref t] ∧ Pool H p ∧ t ≠ p ∧ SqL K H t xs ∧ xs.length ≤ 900 ∧
  ∀ H' f ys, But p H H' → H f = none → H' f = some (.lst ys) → ys.length = xs.length → (∀ v ∈ ys, v ∈ xs) → Pool H' p → Q (.ref f) H'
theorem sqt_but {K : PySem.W.Frag} {H H' : Hp} {p a : Addr} {xs : List V} (e : But p H H') (n : a ≠ p) (h : SqT K H a xs) : SqT K H' a xs := by
  rcases h with (h | ⟨o, h⟩) | h
  · exact .inl (.inl (e _ _ n h))
  · exact .inl (.inr ⟨o, e _ _ n h⟩)
  · exact .inr h
theorem ok_Lmix (T : Top w K mg) : FnOk P w K mg base CX0 2 T.a_Lmix T.fd_Lmix ["_law_pool_here", "_law_things"] (spMix K) := by
  have G_Ltake := ok_Ltake (P := P) (w := w) (base := base) T
  refine T.F_Lmix.ok sc_Lmix (fun vs H Q E h => ?_) (fun cdv A outer s H vs Q E hr h => ?_)
  · obtain ⟨p, t, xs, rfl, _⟩ := h
    rfl
  · obtain ⟨p, t, xs, rfl, hp, ht, hS, hl, q⟩ := h
    refine ⟨_, (pss_cons (ps_set (i := 2) sc_Lmix.nd rfl (.inl rfl) (pe_lst pa_nil))
      (pss_cons (ps_for PassesOwn.never rfl (pi_list (pv 1)) (pg_name (i := 3) sc_Lmix.nd rfl (.inl rfl)) (pss_one (ps_expr (pe_bm PySem.F.plainAttrs_list PySem.F.slot_list_insert PySem.F.type_list_insert mt_insert (pv 2) (pa_cons (pe_call G_Ltake hr (by rfl) T.g_Ltake T.F_Ltake.kp T.b_Ltake .nil pass0 (pa_cons (pv 0) (pa_cons (pe_op op_add (pe_callB call_len_seq (by rfl) T.m_len (by decide +kernel) (pa_cons (pv 2) pa_nil)) pe_int) pa_nil))) (pa_cons (pv 3) pa_nil))))))
      (pss_one (ps_ret (pv 2))))), ?_⟩
    refine ⟨Nat.zero_le _, fun f nf => ?_⟩
    have nfp : f ≠ p := hp.ne_new nf
    have b0 : But p H (upd H f (.lst [])) := But.of (same_upd nf)
    refine ⟨.ref t, rfl, t, rfl, ⟨xs, seq_but b0 ht hS⟩, for_it (walk_list (xs := xs)) (fun i σ H' => ∃ y ys, σ = [some (.ref p), some (.ref t), some (.ref f), y] ∧ ys.length = i ∧ (∀ v ∈ ys, v ∈ xs) ∧ H' f = some (.lst ys) ∧ Pool H' p ∧ But p H H')
      ⟨none, [], rfl, rfl, (fun _ h => nomatch h), upd_same, hp.upd nfp, b0⟩ (fun i σ H' _ h => ?_) ?_ ?_⟩
    · obtain ⟨y, ys, _, _, _, _, _, bt⟩ := h
      exact seq_but bt ht hS
    · rintro i x σ H1 H2 hi ⟨y, ys, rfl, hy, hin, ef, hp1, bt⟩ ⟨rfl, hx⟩
      refine ⟨.ref f, rfl, .inl ⟨rfl, _, .inl (.inl ef)⟩, .ref p, rfl, .ref f, rfl, f, ys, rfl, .inl (.inl (.inl ef)), _, _, rfl, rfl, p, _, rfl, by omega, by omega, hp1, fun H3 r b3 hp3 h0 h1 => ?_⟩
      have ef3 : H3 f = some (.lst ys) := b3 _ _ nfp ef
      refine ⟨x, rfl, f, ys, r, x, rfl, rfl, ef3, small1000 (by omega), h0, by omega, ?_⟩
      refine ⟨_, _, rfl, ?_, ?_, upd_same, hp3.upd nfp, fun b o hb h => ?_⟩
      · rw [List.length_append, List.length_append, List.length_take, List.length_drop, List.length_singleton]
        omega
      · intro v hv
        rcases List.mem_append.mp hv with h | h
        · rcases List.mem_append.mp h with h | h
          · exact hin v (List.mem_of_mem_take h)
          · rw [List.mem_singleton.mp h]
            exact List.mem_of_getElem? hx
        · exact hin v (List.mem_of_mem_drop h)
      · rw [upd_ne (ne_of_none h nf)]
        exact b3 _ _ hb (bt _ _ hb h)
    · rintro σ H1 ⟨y, ys, rfl, hy, hin, ef, hp1, bt⟩
      exact ⟨.ref f, rfl, q H1 f ys bt nf ef hy hin hp1⟩
/-! ### far numbers -/
def Far : Int := 10 ^ 29
def spFar : Sp := fun vs H Q _ => ∃ (p : Addr) (m : Int), vs = [.ref p, .int m] ∧ 0 < m ∧ m ≤ 10 ^ 29 ∧ Pool H p ∧ ∀ H' (r : Int), But p H H' → Pool H' p → -(10 ^ 39) < r → r < 10 ^ 39 → Q (.int r) H'
theorem but_new {p q : Addr} {H : Hp} {o : HO} (h : H q = none) : But p H (upd H q o) := But.of (same_upd h)
theorem far6 {m r : Int} (h0 : 0 ≤ m) (h1 : m ≤ 10 ^ 29) (h2 : 0 ≤ r) (h3 : r < 2 * 10 ^ 9) : -(10 ^ 39) < m / 10 ^ (Int.toNat 9) * (r - 10 ^ (Int.toNat 9)) ∧ m / 10 ^ (Int.toNat 9) * (r - 10 ^ (Int.toNat 9)) < 10 ^ 39 := by
  have e9 : (10 ^ (Int.toNat 9) : Int) = 1000000000 := by decide
  rw [e9]
  have a0 : 0 ≤ m / 1000000000 := by omega
  have a1 : m / 1000000000 ≤ 10 ^ 20 := by omega
  have b0 : -1000000000 ≤ r - 1000000000 := by omega
  have b1 : r - 1000000000 ≤ 1000000000 := by omega
  generalize m / 1000000000 = x at a0 a1
  generalize r - 1000000000 = y at b0 b1
  have c1 : x * y ≤ x * 1000000000 := Int.mul_le_mul_of_nonneg_left b1 a0
  have c2 : x * (-1000000000) ≤ x * y := Int.mul_le_mul_of_nonneg_left b0 a0
  constructor <;> omega
theorem ok_Lfar (T : Top w K mg) : FnOk P w K mg base CX0 2 T.a_Lfar T.fd_Lfar ["_law_pool_here", "_law_wide"] spFar := by
  have G_Ltake := ok_Ltake (P := P) (w := w) (base := base) T
  refine T.F_Lfar.ok sc_Lfar (fun vs H Q E h => ?_) (fun cdv A outer s H vs Q E hr h => ?_)
  · obtain ⟨p, m, rfl, _⟩ := h
    rfl
  · obtain ⟨p, m, rfl, hm, hb, hp, q⟩ := h
    refine ⟨_, (pss_cons (ps_if (pt_cmpR op_lt (pv 1) (pe_op op_pow pe_int pe_int) (nomark _)) (pss_one (ps_ret (pe_op op_sub (pe_call G_Ltake hr (by rfl) T.g_Ltake T.F_Ltake.kp T.b_Ltake .nil pass0 (pa_cons (pv 0) (pa_cons (pe_op op_add (pe_op op_mul pe_int (pv 1)) pe_int) pa_nil))) (pv 1)))) pss_nil)
      (pss_cons (ps_set (i := 2) sc_Lfar.nd rfl (.inl rfl) (pe_lst (pa_cons pe_int (pa_cons pe_int (pa_cons (pe_un un_neg pe_int) (pa_cons (pv 1) (pa_cons (pe_op op_sub pe_int (pv 1)) (pa_cons (pe_op op_sub (pe_call G_Ltake hr (by rfl) T.g_Ltake T.F_Ltake.kp T.b_Ltake .nil pass0 (pa_cons (pv 0) (pa_cons pe_int pa_nil))) pe_int) pa_nil))))))))
      (pss_cons (ps_expr (pe_bm PySem.F.plainAttrs_list PySem.F.slot_list_append PySem.F.type_list_append mt_append (pv 2) (pa_cons (pe_op op_mul (pe_op op_fdivW (pv 1) (pe_op op_pow pe_int pe_int)) (pe_op op_sub (pe_call G_Ltake hr (by rfl) T.g_Ltake T.F_Ltake.kp T.b_Ltake .nil pass0 (pa_cons (pv 0) (pa_cons (pe_op op_mul pe_int (pe_op op_pow pe_int pe_int)) pa_nil))) (pe_op op_pow pe_int pe_int))) pa_nil)))
      (pss_one (ps_ret (pe_ix ix_list (pv 2) (pe_call G_Ltake hr (by rfl) T.g_Ltake T.F_Ltake.kp T.b_Ltake .nil pass0 (pa_cons (pv 0) (pa_cons pe_int pa_nil))) (fun _ _ => rfl))))))), ?_⟩
    refine ⟨.int m, rfl, _, _, rfl, rfl, ⟨by decide, by decide, by decide⟩, _, _, rfl, rfl, _, rfl, ite2 (fun e => ?_) (fun e => ?_)⟩
    · have e1 : m < 10 ^ 9 := of_decide_eq_true e
      refine ⟨.ref p, rfl, .int m, rfl, _, _, rfl, rfl, .inl ⟨by decide, by decide⟩, _, _, rfl, rfl, p, _, rfl, by omega, by omega, hp, fun H1 r b1 p1 h0 h1 => ?_⟩
      exact ⟨.int m, rfl, _, _, rfl, rfl, q H1 _ b1 p1 (by omega) (by omega)⟩
    · refine ⟨_, rfl, _, rfl, _, rfl, _, _, rfl, rfl, .ref p, rfl, p, 19, rfl, by decide, by decide, hp, fun H1 r1 b1 p1 h0 h1 => ?_⟩
      refine ⟨_, _, rfl, rfl, by show 6 ≤ sizeLine; decide, fun l nl => ?_⟩
      have nlp : l ≠ p := p1.ne_new nl
      refine ⟨.ref l, rfl, .inl ⟨rfl, _, .inl (.inl upd_same)⟩, .int m, rfl, _, _, rfl, rfl, ⟨by decide, by decide, by decide⟩, m, _, rfl, rfl, wide_div (b := 200) (by decide) (by decide) (by decide) (by decide), ?_⟩
      refine ⟨.ref p, rfl, _, _, rfl, rfl, ⟨by decide, by decide, by decide⟩, _, _, rfl, rfl, .inl ⟨by decide, by decide⟩, p, _, rfl, by decide, by decide, p1.upd nlp, fun H2 r2 b2 p2 h2 h3 => ?_⟩
      have h3' : r2 < 2 * 10 ^ 9 := h3
      refine ⟨_, _, rfl, rfl, ⟨by decide, by decide, by decide⟩, _, _, rfl, rfl, _, _, rfl, rfl, .inr ⟨?_, ?_⟩, ?_⟩
      · show -(2 ^ 64) < r2 - (10 ^ (Int.toNat 9) : Int)
        have e9 : (10 ^ (Int.toNat 9) : Int) = 1000000000 := by decide
        omega
      · show r2 - (10 ^ (Int.toNat 9) : Int) < 2 ^ 64
        have e9 : (10 ^ (Int.toNat 9) : Int) = 1000000000 := by decide
        omega
      · have el : H2 l = some (.lst [.int 0, .int 1, .int (-1), .int m, .int (0 - m), .int (r1 - 9)]) := b2 _ _ nlp upd_same
        refine ⟨l, _, _, rfl, rfl, el, by show 6 < sizeLine; decide, ?_⟩
        refine ⟨.ref l, rfl, .ref p, rfl, p, 7, rfl, by decide, by decide, p2.upd nlp, fun H3 r3 b3 p3 h4 h5 => ?_⟩
        have el3 : H3 l = some (.lst ([.int 0, .int 1, .int (-1), .int m, .int (0 - m), .int (r1 - 9)] ++ [.int (m / 10 ^ (Int.toNat 9) * (r2 - 10 ^ (Int.toNat 9)))])) := b3 _ _ nlp upd_same
        have nl0 : H l = none := b1.free nlp nl
        have bt : But p H H3 := ((((b1.mut nl0).trans b2).mut nl0)).trans b3
        obtain rfl | rfl | rfl | rfl | rfl | rfl | rfl : r3 = 0 ∨ r3 = 1 ∨ r3 = 2 ∨ r3 = 3 ∨ r3 = 4 ∨ r3 = 5 ∨ r3 = 6 := by omega
        · exact ⟨l, _, 0, _, rfl, rfl, .inl (.inl el3), rfl, q H3 _ bt p3 (by decide) (by decide)⟩
        · exact ⟨l, _, 1, _, rfl, rfl, .inl (.inl el3), rfl, q H3 _ bt p3 (by decide) (by decide)⟩
        · exact ⟨l, _, 2, _, rfl, rfl, .inl (.inl el3), rfl, q H3 _ bt p3 (by decide) (by decide)⟩
        · exact ⟨l, _, 3, _, rfl, rfl, .inl (.inl el3), rfl, q H3 _ bt p3 (by omega) (by omega)⟩
        · exact ⟨l, _, 4, _, rfl, rfl, .inl (.inl el3), rfl, q H3 _ bt p3 (by omega) (by omega)⟩
        · exact ⟨l, _, 5, _, rfl, rfl, .inl (.inl el3), rfl, q H3 _ bt p3 (by omega) (by omega)⟩
        · have h6 := far6 (m := m) (r := r2) (by omega) hb h2 h3'
          exact ⟨l, _, 6, _, rfl, rfl, .inl (.inl el3), rfl, q H3 _ bt p3 h6.1 h6.2⟩
/-! ### letters, steps -/
def cd : Fin 4 → Nat
  | 0 => 110
  | 1 => 101
  | 2 => 115
  | 3 => 119
def Lt (l : Fin 4) : Str := ⟨#[cd l]⟩
abbrev nesw : Str := PySem.Str.ofString "nesw"
theorem lt0 : PySem.Str.ofString "n" = Lt 0 := by decide +kernel
theorem lt1 : PySem.Str.ofString "e" = Lt 1 := by decide +kernel
theorem lt2 : PySem.Str.ofString "s" = Lt 2 := by decide +kernel
theorem lt3 : PySem.Str.ofString "w" = Lt 3 := by decide +kernel
theorem ltd : ∀ l m : Fin 4, decide (V.str (Lt l) = V.str (Lt m)) = decide (l = m) := by decide +kernel
theorem occ : ∀ l : Fin 4, Builtin.Str.occurrences nesw (Lt l) 0 nesw.length 1 = [l.val] := by decide +kernel
theorem nesw_len : nesw.length ≤ sizeLine := by decide +kernel
theorem nesw_at : ∀ (i : Nat) (h : i < 4) (c : Nat), nesw.cps[i]? = some c → (⟨#[c]⟩ : Str) = Lt ⟨i, h⟩
  | 0, _, c, e => by cases e; rfl
  | 1, _, c, e => by cases e; rfl
  | 2, _, c, e => by cases e; rfl
  | 3, _, c, e => by cases e; rfl
def dx : Fin 4 → Int
  | 0 => 0
  | 1 => 1
  | 2 => 0
  | 3 => -1
def dy : Fin 4 → Int
  | 0 => 1
  | 1 => 0
  | 2 => -1
  | 3 => 0
theorem dxb : ∀ l : Fin 4, -(2 ^ 64) < dx l ∧ dx l < 2 ^ 64 := by decide +kernel
theorem dyb : ∀ l : Fin 4, -(2 ^ 64) < dy l ∧ dy l < 2 ^ 64 := by decide +kernel
def spOff (K : PySem.W.Frag) : Sp := fun vs H Q _ => ∃ (p : Addr) (e n m : Int) (l : Fin 4), vs = [.ref p, .str (Lt l), .int m] ∧ SqT K H p [.int e, .int n] ∧ ∀ H' q, Same H H' → H q = none → H' q = some (.tup [.int (e + m * dx l), .int (n + m * dy l)]) → Q (.ref q) H'
theorem ok_Loff (T : Top w K mg) : FnOk P w K mg base CX0 1 T.a_Loff T.fd_Loff ["_law_place", "_law_letter", "_law_many"] (spOff K) := by
  refine T.F_Loff.ok sc_Loff (fun vs H Q E h => ?_) (fun cdv A outer s H vs Q E hr h => ?_)
  · obtain ⟨p, e, n, m, l, rfl, _⟩ := h
    rfl
  · obtain ⟨p, e, n, m, l, rfl, hp, q⟩ := h
    refine ⟨_, (pss_cons (ps_asg (pe_dget (hu_of hr) (pe_disp (pps_cons pe_str (pe_tup (pa_cons pe_int (pa_cons pe_int pa_nil))) (pps_cons pe_str (pe_tup (pa_cons pe_int (pa_cons pe_int pa_nil))) (pps_cons pe_str (pe_tup (pa_cons pe_int (pa_cons (pe_un un_neg pe_int) pa_nil))) (pps_cons pe_str (pe_tup (pa_cons (pe_un un_neg pe_int) (pa_cons pe_int pa_nil))) pps_nil)))) (by rfl) (by rfl) (fun z => by cases z) (by decide)) (pv 1) (fun _ _ => rfl)) (pg_tup rfl (pgs_cons (pg_name (i := 3) sc_Loff.nd rfl (.inl rfl)) (pgs_cons (pg_name (i := 4) sc_Loff.nd rfl (.inl rfl)) pgs_nil))))
      (pss_one (ps_ret (pe_tup (pa_cons (pe_op op_add (pe_ix ix_tup (pv 0) pe_int (fun _ _ => rfl)) (pe_op op_mul (pv 2) (pv 3))) (pa_cons (pe_op op_add (pe_ix ix_tup (pv 0) pe_int (fun _ _ => rfl)) (pe_op op_mul (pv 2) (pv 4))) pa_nil)))))), ?_⟩
    intro d nd
    refine ⟨by show 2 ≤ sizeLine; decide, fun t1 n1 => ⟨by show 2 ≤ sizeLine; decide, fun t2 n2 => ⟨_, rfl, by show 2 ≤ sizeLine; decide, fun t3 n3 => ⟨_, rfl, by show 2 ≤ sizeLine; decide, fun t4 n4 => ?_⟩⟩⟩⟩
    have s0 := same_upd (o := .dK []) nd
    have s1 := same_upd (o := .tup [.int 0, .int 1]) n1
    have s2 := same_upd (o := .tup [.int 1, .int 0]) n2
    have s3 := same_upd (o := .tup [.int 0, .int (-1)]) n3
    have s4 := same_upd (o := .tup [.int (-1), .int 0]) n4
    have ed := s4 _ _ (s3 _ _ (s2 _ _ (s1 _ _ (upd_same (H := H) (a := d) (o := .dK [])))))
    refine ⟨ed, [(Sum.inr (PySem.Str.ofString "n"), .ref t1), (Sum.inr (PySem.Str.ofString "e"), .ref t2), (Sum.inr (PySem.Str.ofString "s"), .ref t3), (Sum.inr (PySem.Str.ofString "w"), .ref t4)], rfl, Nat.le_of_ble_eq_true rfl, ?_⟩
    refine ⟨.str (Lt l), rfl, d, ?_⟩
    have key : ∃ t, valV (mergeK [] [((Sum.inr (PySem.Str.ofString "n") : Key), V.ref t1), (Sum.inr (PySem.Str.ofString "e"), .ref t2), (Sum.inr (PySem.Str.ofString "s"), .ref t3), (Sum.inr (PySem.Str.ofString "w"), .ref t4)]) (Sum.inr (Lt l)) = some (.ref t) ∧
        (upd (upd (upd (upd (upd H d (.dK [])) t1 (.tup [.int 0, .int 1])) t2 (.tup [.int 1, .int 0])) t3 (.tup [.int 0, .int (-1)])) t4 (.tup [.int (-1), .int 0])) t = some (.tup [.int (dx l), .int (dy l)]) := by
      rw [lt0, lt1, lt2, lt3]
      match l with
      | 0 => exact ⟨t1, rfl, s4 _ _ (s3 _ _ (s2 _ _ upd_same))⟩
      | 1 => exact ⟨t2, rfl, s4 _ _ (s3 _ _ upd_same)⟩
      | 2 => exact ⟨t3, rfl, s4 _ _ upd_same⟩
      | 3 => exact ⟨t4, rfl, upd_same⟩
    obtain ⟨t, kt, et⟩ := key
    have sAll := (((s0.trans s1).trans s2).trans s3).trans s4
    have sD : Same H (upd (upd (upd (upd (upd (upd H d (.dK [])) t1 (.tup [.int 0, .int 1])) t2 (.tup [.int 1, .int 0])) t3 (.tup [.int 0, .int (-1)])) t4 (.tup [.int (-1), .int 0])) d (.dK (mergeK [] [((Sum.inr (PySem.Str.ofString "n") : Key), V.ref t1), (Sum.inr (PySem.Str.ofString "e"), .ref t2), (Sum.inr (PySem.Str.ofString "s"), .ref t3), (Sum.inr (PySem.Str.ofString "w"), .ref t4)]))) := fun b x h => by
      rw [upd_ne (ne_of_none h nd)]
      exact sAll _ _ h
    have ntd : t ≠ d := ne_of et ed (by intro z; cases z)
    refine ⟨.ref t, rfl, ?_, ?_⟩
    · have g := DGet.k (k := Sum.inr (Lt l)) (H := upd (upd (upd (upd (upd (upd H d (.dK [])) t1 (.tup [.int 0, .int 1])) t2 (.tup [.int 1, .int 0])) t3 (.tup [.int 0, .int (-1)])) t4 (.tup [.int (-1), .int 0])) d (.dK (mergeK [] [((Sum.inr (PySem.Str.ofString "n") : Key), V.ref t1), (Sum.inr (PySem.Str.ofString "e"), .ref t2), (Sum.inr (PySem.Str.ofString "s"), .ref t3), (Sum.inr (PySem.Str.ofString "w"), .ref t4)]))) (a := d) upd_same
      rw [kt] at g
      exact g
    · refine ⟨t, [.int (dx l), .int (dy l)], rfl, .inl (.inl ?_), rfl, _, _, rfl, _, _, rfl, rfl, ?_⟩
      · rw [upd_ne ntd]
        exact et
      · refine ⟨.ref p, rfl, p, _, 0, .int e, rfl, rfl, sqt_same sD hp, rfl, .int m, rfl, _, rfl, m, dx l, rfl, rfl, .inr (dxb l), _, _, rfl, rfl, ?_⟩
        refine ⟨.ref p, rfl, p, _, 1, .int n, rfl, rfl, sqt_same sD hp, rfl, .int m, rfl, _, rfl, m, dy l, rfl, rfl, .inr (dyb l), _, _, rfl, rfl, by show 2 ≤ sizeLine; decide, fun r nr => ?_⟩
        exact q _ r (sD.trans (same_upd nr)) (sD.free nr) upd_same
/-! ### lots -/
def tr (a : Fin 8) (l : Fin 4) : Fin 4 := if a.val < 4 then ⟨(a.val + l.val) % 4, by omega⟩ else ⟨(a.val + 4 - l.val) % 4, by omega⟩
def un (a : Fin 8) : Fin 8 := if a.val < 4 then ⟨(4 - a.val) % 4, by omega⟩ else a
def bo (a b : Fin 8) : Fin 8 :=
  let q := if a.val < 4 then (a.val + b.val) % 4 else (a.val + 8 - b.val) % 4
  if (decide (a.val < 4)) = (decide (b.val < 4)) then ⟨q % 4, by omega⟩ else ⟨q % 4 + 4, by omega⟩
theorem at_mir : ∀ (a : Fin 8) (l : Fin 4), (4 : Int) ≤ a.val → atI nesw.cps.toList (((a.val : Int) - (l.val : Int)) % 4) = some (cd (tr a l)) := by decide +kernel
theorem at_tur : ∀ (a : Fin 8) (l : Fin 4), ¬ (4 : Int) ≤ a.val → atI nesw.cps.toList (((a.val : Int) + (l.val : Int)) % 4) = some (cd (tr a l)) := by decide +kernel
theorem un_mir : ∀ a : Fin 8, (4 : Int) ≤ a.val → ((un a).val : Int) = a.val := by decide +kernel
theorem un_tur : ∀ a : Fin 8, ¬ (4 : Int) ≤ a.val → ((un a).val : Int) = (-(a.val : Int)) % 4 := by decide +kernel
theorem bo_1 : ∀ a b : Fin 8, (4 : Int) ≤ a.val → (4 : Int) ≤ b.val → ((bo a b).val : Int) = ((a.val : Int) - b.val) % 4 := by decide +kernel
theorem bo_2 : ∀ a b : Fin 8, (4 : Int) ≤ a.val → ¬ (4 : Int) ≤ b.val → ((bo a b).val : Int) = ((a.val : Int) - b.val) % 4 + 4 := by decide +kernel
theorem bo_3 : ∀ a b : Fin 8, ¬ (4 : Int) ≤ a.val → (4 : Int) ≤ b.val → ((bo a b).val : Int) = ((a.val : Int) + b.val) % 4 + 4 := by decide +kernel
theorem bo_4 : ∀ a b : Fin 8, ¬ (4 : Int) ≤ a.val → ¬ (4 : Int) ≤ b.val → ((bo a b).val : Int) = ((a.val : Int) + b.val) % 4 := by decide +kernel
def spIsLot : Sp := fun vs H Q _ => ∃ i : Int, vs = [.int i] ∧ 0 ≤ i ∧ i ≤ 7 ∧ Q (.bl true) H
def spRefuse : Sp := fun vs H Q _ => ∃ i : Int, vs = [.int i] ∧ 0 ≤ i ∧ i ≤ 7 ∧ Q .non H
def spMirrors : Sp := fun vs H Q _ => ∃ i : Int, vs = [.int i] ∧ Q (.bl (decide (4 ≤ i))) H
def spTrue : Sp := fun vs H Q _ => ∃ (a : Fin 8) (l : Fin 4), vs = [.int a.val, .str (Lt l)] ∧ Q (.str (Lt (tr a l))) H
def spShown : Sp := fun vs H Q _ => ∃ (a : Fin 8) (l : Fin 4), vs = [.int a.val, .str (Lt l)] ∧ Q (.str (Lt (tr (un a) l))) H
def spUndone : Sp := fun vs H Q _ => ∃ (a : Fin 8), vs = [.int a.val] ∧ Q (.int (un a).val) H
def spBoth : Sp := fun vs H Q _ => ∃ (a b : Fin 8), vs = [.int a.val, .int b.val] ∧ Q (.int (bo a b).val) H
theorem f8 (a : Fin 8) : (0 : Int) ≤ a.val ∧ (a.val : Int) ≤ 7 := by omega
theorem ok_is_whole (T : Top w K mg) : FnOk P w K mg base CX0 1 T.a_is_whole T.fd_is_whole ["thing"] spWhole := by
  refine T.F_is_whole.ok sc_is_whole (fun vs H Q E h => ?_) (fun cdv A outer s H vs Q E hr h => ?_)
  · obtain ⟨i, rfl, _⟩ := h
    rfl
  · obtain ⟨i, rfl, q⟩ := h
    refine ⟨_, (pss_one (ps_ret (pe_and (pe_callB call_isi (by rfl) T.m_isinstance (by decide +kernel) (pa_cons (pv 0) (pa_cons (pe_bltn (v := .ty "int") (by rfl) T.m_int (by decide +kernel) rfl) pa_nil))) (pe_one (pe_not (pe_callB call_isi (by rfl) T.m_isinstance (by decide +kernel) (pa_cons (pv 0) (pa_cons (pe_bltn (v := .ty "bool") (by rfl) T.m_bool (by decide +kernel) rfl) pa_nil)))))))), ?_⟩
    refine ⟨.int i, rfl, _, _, _, _, true, rfl, .ty _, .base (.int i), kit_ty (by decide +kernel), _, rfl, iteT ?_⟩
    exact ⟨.int i, rfl, _, _, _, _, false, rfl, .ty _, .base (.int i), kit_ty (by decide +kernel), _, rfl, q⟩
theorem ok_is_lot (T : Top w K mg) : FnOk P w K mg base CX0 2 T.a_is_lot T.fd_is_lot ["thing"] spIsLot := by
  have G_is_whole := ok_is_whole (P := P) (w := w) (base := base) T
  refine T.F_is_lot.ok sc_is_lot (fun vs H Q E h => ?_) (fun cdv A outer s H vs Q E hr h => ?_)
  · obtain ⟨i, rfl, _⟩ := h
    rfl
  · obtain ⟨i, rfl, h0, h7, q⟩ := h
    refine ⟨_, (pss_one (ps_ret (pe_and (pe_call G_is_whole hr (by rfl) T.g_is_whole T.F_is_whole.kp T.b_is_whole .nil pass0 (pa_cons (pv 0) pa_nil)) (pe_one (pe_chain op_le op_le pe_int (pv 0) pe_int))))), ?_⟩
    refine ⟨.int i, rfl, i, rfl, _, rfl, iteT ?_⟩
    refine ⟨.int i, rfl, _, _, rfl, rfl, _, rfl, ite2 (fun e => ?_) (fun e => absurd (decide_eq_true h0) e)⟩
    refine ⟨_, _, rfl, rfl, ?_⟩
    show Q (.bl (decide (i ≤ 7))) H
    rw [decide_eq_true h7]
    exact q
theorem ok_refuse_unless_lot (T : Top w K mg) : FnOk P w K mg base CX0 3 T.a_refuse_unless_lot T.fd_refuse_unless_lot ["thing"] spRefuse := by
  have G_is_lot := ok_is_lot (P := P) (w := w) (base := base) T
  refine T.F_refuse_unless_lot.ok sc_refuse_unless_lot (fun vs H Q E h => ?_) (fun cdv A outer s H vs Q E hr h => ?_)
  · obtain ⟨i, rfl, _⟩ := h
    rfl
  · obtain ⟨i, rfl, h0, h7, q⟩ := h
    refine ⟨_, (pss_one (ps_if (pt_not (pt_val (pe_call G_is_lot hr (by rfl) T.g_is_lot T.F_is_lot.kp T.b_is_lot .nil pass0 (pa_cons (pv 0) pa_nil)))) (pss_one ps_never) pss_nil)), ?_⟩
    exact ⟨.int i, rfl, i, rfl, h0, h7, _, rfl, iteF q⟩
theorem ok_mirrors (T : Top w K mg) : FnOk P w K mg base CX0 1 T.a_mirrors T.fd_mirrors ["lot"] spMirrors := by
  refine T.F_mirrors.ok sc_mirrors (fun vs H Q E h => ?_) (fun cdv A outer s H vs Q E hr h => ?_)
  · obtain ⟨i, rfl, _⟩ := h
    rfl
  · obtain ⟨i, rfl, q⟩ := h
    exact ⟨_, (pss_one (ps_ret (pe_cmpR op_ge (pv 0) pe_int (nomark _)))), .int i, rfl, _, _, rfl, rfl, q⟩
theorem ok_true (T : Top w K mg) : FnOk P w K mg base CX0 4 T.a_true T.fd_true ["lot", "letter"] spTrue := by
  have G_refuse_unless_lot := ok_refuse_unless_lot (P := P) (w := w) (base := base) T
  have G_mirrors := ok_mirrors (P := P) (w := w) (base := base) T
  refine T.F_true.ok sc_true (fun vs H Q E h => ?_) (fun cdv A outer s H vs Q E hr h => ?_)
  · obtain ⟨a, l, rfl, _⟩ := h
    rfl
  · obtain ⟨a, l, rfl, q⟩ := h
    refine ⟨_, (pss_cons (ps_expr (pe_call G_refuse_unless_lot hr (by rfl) T.g_refuse_unless_lot T.F_refuse_unless_lot.kp T.b_refuse_unless_lot .nil pass0 (pa_cons (pv 0) pa_nil)))
      (pss_cons (ps_set (i := 2) sc_true.nd rfl (.inl rfl) (pe_bm PySem.F.plainAttrs_str PySem.F.slot_str_index PySem.F.type_str_index mt_sindex (pe_glob (v := .str "nesw") (by rfl) T.g_LETTERS.choose_spec ⟨_, rfl⟩) (pa_cons (pv 1) pa_nil)))
      (pss_cons (ps_if (pt_val (pe_call G_mirrors (hr.mono (by decide)) (by rfl) T.g_mirrors T.F_mirrors.kp T.b_mirrors .nil pass0 (pa_cons (pv 0) pa_nil))) (pss_one (ps_ret (pe_ix ix_str (pe_glob (v := .str "nesw") (by rfl) T.g_LETTERS.choose_spec ⟨_, rfl⟩) (pe_op op_mod (pe_op op_sub (pv 0) (pv 2)) pe_int) (fun _ _ => rfl)))) pss_nil)
      (pss_one (ps_ret (pe_ix ix_str (pe_glob (v := .str "nesw") (by rfl) T.g_LETTERS.choose_spec ⟨_, rfl⟩) (pe_op op_mod (pe_op op_add (pv 0) (pv 2)) pe_int) (fun _ _ => rfl))))))), ?_⟩
    refine ⟨.int a.val, rfl, a.val, rfl, (f8 a).1, (f8 a).2, ?_⟩
    refine ⟨rfl, _, rfl, _, _, l.val, [], rfl, rfl, occ l, ?_⟩
    refine ⟨.int a.val, rfl, a.val, rfl, _, rfl, ite2 (fun e => ?_) (fun e => ?_)⟩
    · have e1 : (4 : Int) ≤ a.val := of_decide_eq_true e
      exact ⟨.int a.val, rfl, _, rfl, _, _, rfl, rfl, _, _, rfl, rfl, by show (0 : Int) < 4; decide, _, _, _, rfl, rfl, nesw_len, at_mir a l e1, q⟩
    · have e1 : ¬ (4 : Int) ≤ a.val := fun z => e (decide_eq_true z)
      exact ⟨.int a.val, rfl, _, rfl, _, _, rfl, rfl, _, _, rfl, rfl, by show (0 : Int) < 4; decide, _, _, _, rfl, rfl, nesw_len, at_tur a l e1, q⟩
theorem ok_undone (T : Top w K mg) : FnOk P w K mg base CX0 4 T.a_undone T.fd_undone ["lot"] spUndone := by
  have G_refuse_unless_lot := ok_refuse_unless_lot (P := P) (w := w) (base := base) T
  have G_mirrors := ok_mirrors (P := P) (w := w) (base := base) T
  refine T.F_undone.ok sc_undone (fun vs H Q E h => ?_) (fun cdv A outer s H vs Q E hr h => ?_)
  · obtain ⟨a, rfl, _⟩ := h
    rfl
  · obtain ⟨a, rfl, q⟩ := h
    refine ⟨_, (pss_cons (ps_expr (pe_call G_refuse_unless_lot hr (by rfl) T.g_refuse_unless_lot T.F_refuse_unless_lot.kp T.b_refuse_unless_lot .nil pass0 (pa_cons (pv 0) pa_nil)))
      (pss_cons (ps_if (pt_val (pe_call G_mirrors (hr.mono (by decide)) (by rfl) T.g_mirrors T.F_mirrors.kp T.b_mirrors .nil pass0 (pa_cons (pv 0) pa_nil))) (pss_one (ps_ret (pv 0))) pss_nil)
      (pss_one (ps_ret (pe_op op_mod (pe_un un_neg (pv 0)) pe_int))))), ?_⟩
    refine ⟨.int a.val, rfl, a.val, rfl, (f8 a).1, (f8 a).2, ?_⟩
    refine ⟨.int a.val, rfl, a.val, rfl, _, rfl, ite2 (fun e => ?_) (fun e => ?_)⟩
    · rw [un_mir a (of_decide_eq_true e)] at q
      exact ⟨_, rfl, q⟩
    · rw [un_tur a (fun z => e (decide_eq_true z))] at q
      exact ⟨.int a.val, rfl, _, rfl, _, _, rfl, rfl, by show (0 : Int) < 4; decide, q⟩
theorem ok_both (T : Top w K mg) : FnOk P w K mg base CX0 4 T.a_both T.fd_both ["one", "other"] spBoth := by
  have G_refuse_unless_lot := ok_refuse_unless_lot (P := P) (w := w) (base := base) T
  have G_mirrors := ok_mirrors (P := P) (w := w) (base := base) T
  refine T.F_both.ok sc_both (fun vs H Q E h => ?_) (fun cdv A outer s H vs Q E hr h => ?_)
  · obtain ⟨a, b, rfl, _⟩ := h
    rfl
  · obtain ⟨a, b, rfl, q⟩ := h
    refine ⟨_, (pss_cons (ps_expr (pe_call G_refuse_unless_lot hr (by rfl) T.g_refuse_unless_lot T.F_refuse_unless_lot.kp T.b_refuse_unless_lot .nil pass0 (pa_cons (pv 0) pa_nil)))
      (pss_cons (ps_expr (pe_call G_refuse_unless_lot hr (by rfl) T.g_refuse_unless_lot T.F_refuse_unless_lot.kp T.b_refuse_unless_lot .nil pass0 (pa_cons (pv 1) pa_nil)))
      (pss_cons (ps_set (i := 2) sc_both.nd rfl (.inl rfl) (pe_ifExp (pt_val (pe_call G_mirrors (hr.mono (by decide)) (by rfl) T.g_mirrors T.F_mirrors.kp T.b_mirrors .nil pass0 (pa_cons (pv 0) pa_nil))) (pe_op op_sub (pv 0) (pv 1)) (pe_op op_add (pv 0) (pv 1))))
      (pss_cons (ps_if (pt_cmpR op_ne (pe_call G_mirrors (hr.mono (by decide)) (by rfl) T.g_mirrors T.F_mirrors.kp T.b_mirrors .nil pass0 (pa_cons (pv 0) pa_nil)) (pe_call G_mirrors (hr.mono (by decide)) (by rfl) T.g_mirrors T.F_mirrors.kp T.b_mirrors .nil pass0 (pa_cons (pv 1) pa_nil)) (nomark _)) (pss_one (ps_ret (pe_op op_add (pe_op op_mod (pv 2) pe_int) pe_int))) pss_nil)
      (pss_one (ps_ret (pe_op op_mod (pv 2) pe_int))))))), ?_⟩
    refine ⟨.int a.val, rfl, a.val, rfl, (f8 a).1, (f8 a).2, ?_⟩
    refine ⟨.int b.val, rfl, b.val, rfl, (f8 b).1, (f8 b).2, ?_⟩
    by_cases ha : (4 : Int) ≤ a.val
    · refine ⟨.int a.val, rfl, a.val, rfl, true, by rw [decide_eq_true ha], iteT ?_⟩
      refine ⟨.int a.val, rfl, .int b.val, rfl, _, _, rfl, rfl, .int a.val, rfl, a.val, rfl, .int b.val, rfl, b.val, rfl, rfl, _, rfl, ?_⟩
      by_cases hb : (4 : Int) ≤ b.val
      · rw [bo_1 a b ha hb] at q
        refine ite2 (fun z => ?_) (fun _ => ?_)
        · rw [decide_eq_true ha, decide_eq_true hb] at z
          cases z
        · exact ⟨_, rfl, _, _, rfl, rfl, by show (0 : Int) < 4; decide, q⟩
      · rw [bo_2 a b ha hb] at q
        refine ite2 (fun _ => ?_) (fun z => ?_)
        · exact ⟨_, rfl, _, _, rfl, rfl, by show (0 : Int) < 4; decide, _, _, rfl, rfl, q⟩
        · rw [decide_eq_true ha, decide_eq_false hb] at z
          exact absurd rfl z
    · refine ⟨.int a.val, rfl, a.val, rfl, false, by rw [decide_eq_false ha], iteF ?_⟩
      refine ⟨.int a.val, rfl, .int b.val, rfl, _, _, rfl, rfl, .int a.val, rfl, a.val, rfl, .int b.val, rfl, b.val, rfl, rfl, _, rfl, ?_⟩
      by_cases hb : (4 : Int) ≤ b.val
      · rw [bo_3 a b ha hb] at q
        refine ite2 (fun _ => ?_) (fun z => ?_)
        · exact ⟨_, rfl, _, _, rfl, rfl, by show (0 : Int) < 4; decide, _, _, rfl, rfl, q⟩
        · rw [decide_eq_false ha, decide_eq_true hb] at z
          exact absurd rfl z
      · rw [bo_4 a b ha hb] at q
        refine ite2 (fun z => ?_) (fun _ => ?_)
        · rw [decide_eq_false ha, decide_eq_false hb] at z
          cases z
        · exact ⟨_, rfl, _, _, rfl, rfl, by show (0 : Int) < 4; decide, q⟩
def spLtrue : Sp := fun vs H Q _ => ∃ (a : Fin 8) (l : Fin 4), vs = [.int a.val, .str (Lt l)] ∧ Q (.str (Lt (tr a l))) H
theorem at_tur2 : ∀ (a : Fin 8) (l : Fin 4), (a.val : Int) < 4 → atI nesw.cps.toList (((l.val : Int) + (a.val : Int)) % 4) = some (cd (tr a l)) := by decide +kernel
theorem at_mir2 : ∀ (a : Fin 8) (l : Fin 4), ¬ (a.val : Int) < 4 → atI nesw.cps.toList (((a.val : Int) - (l.val : Int)) % 4) = some (cd (tr a l)) := by decide +kernel
theorem ok_Ltrue (T : Top w K mg) : FnOk P w K mg base CX0 1 T.a_Ltrue T.fd_Ltrue ["_law_lot", "_law_letter"] spLtrue := by
  refine T.F_Ltrue.ok sc_Ltrue (fun vs H Q E h => ?_) (fun cdv A outer s H vs Q E hr h => ?_)
  · obtain ⟨a, l, rfl, _⟩ := h
    rfl
  · obtain ⟨a, l, rfl, q⟩ := h
    refine ⟨_, (pss_cons (ps_set (i := 2) sc_Ltrue.nd rfl (.inl rfl) (pe_bm PySem.F.plainAttrs_str PySem.F.slot_str_index PySem.F.type_str_index mt_sindex pe_str (pa_cons (pv 1) pa_nil)))
      (pss_one (ps_ret (pe_ix ix_str pe_str (pe_ifExp (pt_cmpR op_lt (pv 0) pe_int (nomark _)) (pe_op op_mod (pe_op op_add (pv 2) (pv 0)) pe_int) (pe_op op_mod (pe_op op_sub (pv 0) (pv 2)) pe_int)) (fun _ _ => rfl))))), ?_⟩
    refine ⟨rfl, _, rfl, _, _, l.val, [], rfl, rfl, occ l, ?_⟩
    refine ⟨.int a.val, rfl, _, _, rfl, rfl, _, rfl, ite2 (fun e => ?_) (fun e => ?_)⟩
    · have e1 : (a.val : Int) < 4 := of_decide_eq_true e
      exact ⟨_, rfl, .int a.val, rfl, _, _, rfl, rfl, _, _, rfl, rfl, by show (0 : Int) < 4; decide, _, _, _, rfl, rfl, nesw_len, at_tur2 a l e1, q⟩
    · have e1 : ¬ (a.val : Int) < 4 := fun z => e (decide_eq_true z)
      exact ⟨.int a.val, rfl, _, rfl, _, _, rfl, rfl, _, _, rfl, rfl, by show (0 : Int) < 4; decide, _, _, _, rfl, rfl, nesw_len, at_mir2 a l e1, q⟩
def spStep (K : PySem.W.Frag) : Sp := fun vs H Q _ => ∃ (l : Fin 4), vs = [.str (Lt l)] ∧ ∀ q, (∀ H', SqT K H' q [.int (dx l), .int (dy l)]) → Q (.ref q) H
theorem steps_at (T : Top w K mg) : ∀ l : Fin 4, ∃ q, KDct K w T.a_STEPS (Lt l) (.ref q) ∧ ∀ H, SqT K H q [.int (dx l), .int (dy l)]
  | 0 => by rw [← lt0]; exact T.v_STEPS_0
  | 1 => by rw [← lt1]; exact T.v_STEPS_1
  | 2 => by rw [← lt2]; exact T.v_STEPS_2
  | 3 => by rw [← lt3]; exact T.v_STEPS_3
theorem ok_step (T : Top w K mg) : FnOk P w K mg base CX0 1 T.a_step T.fd_step ["letter"] (spStep K) := by
  refine T.F_step.ok sc_step (fun vs H Q E h => ?_) (fun cdv A outer s H vs Q E hr h => ?_)
  · obtain ⟨l, rfl, _⟩ := h
    rfl
  · obtain ⟨l, rfl, q⟩ := h
    obtain ⟨r, hk, ht⟩ := steps_at T l
    exact ⟨_, (pss_one (ps_ret (pe_ix ix_kdict (pe_glob (v := .ref T.a_STEPS) (by rfl) T.g_STEPS rfl) (pv 0) (fun _ _ => rfl)))), .str (Lt l), rfl, _, _, _, rfl, rfl, hk, q r ht⟩
/-! ### places turned -/
def tx (a : Fin 8) (e n : Int) : Int := e * dx (tr a 1) + n * dx (tr a 0)
def ty (a : Fin 8) (e n : Int) : Int := e * dy (tr a 1) + n * dy (tr a 0)
def spTurned (Sq : Hp → Addr → List V → Prop) : Sp := fun vs H Q _ => ∃ (p : Addr) (e n : Int) (a : Fin 8), vs = [.int a.val, .ref p] ∧ Sq H p [.int e, .int n] ∧ ∀ q, H q = none → Q (.ref q) (upd H q (.tup [.int (tx a e n), .int (ty a e n)]))
theorem ok_turned (T : Top w K mg) : FnOk P w K mg base CX0 5 T.a_turned T.fd_turned ["lot", "place"] (spTurned (SqT K)) := by
  have G_true := ok_true (P := P) (w := w) (base := base) T
  have G_step := ok_step (P := P) (w := w) (base := base) T
  refine T.F_turned.ok sc_turned (fun vs H Q E h => ?_) (fun cdv A outer s H vs Q E hr h => ?_)
  · obtain ⟨p, e, n, a, rfl, _⟩ := h
    rfl
  · obtain ⟨p, e, n, a, rfl, hp, q⟩ := h
    refine ⟨_, (pss_cons (ps_asg (pv 1) (pg_tup rfl (pgs_cons (pg_name (i := 2) sc_turned.nd rfl (.inl rfl)) (pgs_cons (pg_name (i := 3) sc_turned.nd rfl (.inl rfl)) pgs_nil))))
      (pss_cons (ps_set (i := 4) sc_turned.nd rfl (.inl rfl) (pe_call G_step (hr.mono (by decide)) (by rfl) T.g_step T.F_step.kp T.b_step .nil pass0 (pa_cons (pe_call G_true hr (by rfl) T.g_true T.F_true.kp T.b_true .nil pass0 (pa_cons (pv 0) (pa_cons pe_str pa_nil))) pa_nil)))
      (pss_cons (ps_set (i := 5) sc_turned.nd rfl (.inl rfl) (pe_call G_step (hr.mono (by decide)) (by rfl) T.g_step T.F_step.kp T.b_step .nil pass0 (pa_cons (pe_call G_true hr (by rfl) T.g_true T.F_true.kp T.b_true .nil pass0 (pa_cons (pv 0) (pa_cons pe_str pa_nil))) pa_nil)))
      (pss_one (ps_ret (pe_tup (pa_cons (pe_op op_add (pe_op op_mul (pv 2) (pe_ix ix_tup (pv 4) pe_int (fun _ _ => rfl))) (pe_op op_mul (pv 3) (pe_ix ix_tup (pv 5) pe_int (fun _ _ => rfl)))) (pa_cons (pe_op op_add (pe_op op_mul (pv 2) (pe_ix ix_tup (pv 4) pe_int (fun _ _ => rfl))) (pe_op op_mul (pv 3) (pe_ix ix_tup (pv 5) pe_int (fun _ _ => rfl)))) pa_nil)))))))), ?_⟩
    refine ⟨.ref p, rfl, p, _, rfl, hp, rfl, _, _, rfl, _, _, rfl, rfl, ?_⟩
    rw [lt0, lt1]
    refine ⟨.int a.val, rfl, a, 1, rfl, tr a 1, rfl, fun u hu => ⟨.int a.val, rfl, a, 0, rfl, tr a 0, rfl, fun v hv => ?_⟩⟩
    refine ⟨.int e, rfl, .ref u, rfl, u, _, 0, _, rfl, rfl, hu H, rfl, _, _, rfl, rfl, .inr (dxb _), .int n, rfl, .ref v, rfl, v, _, 0, _, rfl, rfl, hv H, rfl, _, _, rfl, rfl, .inr (dxb _), _, _, rfl, rfl, ?_⟩
    exact ⟨.int e, rfl, .ref u, rfl, u, _, 1, _, rfl, rfl, hu H, rfl, _, _, rfl, rfl, .inr (dyb _), .int n, rfl, .ref v, rfl, v, _, 1, _, rfl, rfl, hv H, rfl, _, _, rfl, rfl, .inr (dyb _), _, _, rfl, rfl, by show 2 ≤ sizeLine; decide, q⟩
theorem ok_turnedL (T : Top w K mg) : FnOk P w K mg base CX0 5 T.a_turned T.fd_turned ["lot", "place"] (spTurned (SqL K)) := by
  have G_true := ok_true (P := P) (w := w) (base := base) T
  have G_step := ok_step (P := P) (w := w) (base := base) T
  refine T.F_turned.ok sc_turned (fun vs H Q E h => ?_) (fun cdv A outer s H vs Q E hr h => ?_)
  · obtain ⟨p, e, n, a, rfl, _⟩ := h
    rfl
  · obtain ⟨p, e, n, a, rfl, hp, q⟩ := h
    refine ⟨_, (pss_cons (ps_asg (pv 1) (pg_unl rfl (pgs_cons (pg_name (i := 2) sc_turned.nd rfl (.inl rfl)) (pgs_cons (pg_name (i := 3) sc_turned.nd rfl (.inl rfl)) pgs_nil))))
      (pss_cons (ps_set (i := 4) sc_turned.nd rfl (.inl rfl) (pe_call G_step (hr.mono (by decide)) (by rfl) T.g_step T.F_step.kp T.b_step .nil pass0 (pa_cons (pe_call G_true hr (by rfl) T.g_true T.F_true.kp T.b_true .nil pass0 (pa_cons (pv 0) (pa_cons pe_str pa_nil))) pa_nil)))
      (pss_cons (ps_set (i := 5) sc_turned.nd rfl (.inl rfl) (pe_call G_step (hr.mono (by decide)) (by rfl) T.g_step T.F_step.kp T.b_step .nil pass0 (pa_cons (pe_call G_true hr (by rfl) T.g_true T.F_true.kp T.b_true .nil pass0 (pa_cons (pv 0) (pa_cons pe_str pa_nil))) pa_nil)))
      (pss_one (ps_ret (pe_tup (pa_cons (pe_op op_add (pe_op op_mul (pv 2) (pe_ix ix_tup (pv 4) pe_int (fun _ _ => rfl))) (pe_op op_mul (pv 3) (pe_ix ix_tup (pv 5) pe_int (fun _ _ => rfl)))) (pa_cons (pe_op op_add (pe_op op_mul (pv 2) (pe_ix ix_tup (pv 4) pe_int (fun _ _ => rfl))) (pe_op op_mul (pv 3) (pe_ix ix_tup (pv 5) pe_int (fun _ _ => rfl)))) pa_nil)))))))), ?_⟩
    refine ⟨.ref p, rfl, p, _, rfl, hp, rfl, _, _, rfl, _, _, rfl, rfl, ?_⟩
    rw [lt0, lt1]
    refine ⟨.int a.val, rfl, a, 1, rfl, tr a 1, rfl, fun u hu => ⟨.int a.val, rfl, a, 0, rfl, tr a 0, rfl, fun v hv => ?_⟩⟩
    refine ⟨.int e, rfl, .ref u, rfl, u, _, 0, _, rfl, rfl, hu H, rfl, _, _, rfl, rfl, .inr (dxb _), .int n, rfl, .ref v, rfl, v, _, 0, _, rfl, rfl, hv H, rfl, _, _, rfl, rfl, .inr (dxb _), _, _, rfl, rfl, ?_⟩
    exact ⟨.int e, rfl, .ref u, rfl, u, _, 1, _, rfl, rfl, hu H, rfl, _, _, rfl, rfl, .inr (dyb _), .int n, rfl, .ref v, rfl, v, _, 1, _, rfl, rfl, hv H, rfl, _, _, rfl, rfl, .inr (dyb _), _, _, rfl, rfl, by show 2 ≤ sizeLine; decide, q⟩
def spLturned (K : PySem.W.Frag) : Sp := fun vs H Q _ => ∃ (p : Addr) (e n : Int) (a : Fin 8), vs = [.int a.val, .ref p] ∧ SqT K H p [.int e, .int n] ∧ ∀ H' q, Same H H' → H' q = some (.tup [.int (tx a e n), .int (ty a e n)]) → Q (.ref q) H'
theorem ok_Lturned (T : Top w K mg) : FnOk P w K mg base CX0 2 T.a_Lturned T.fd_Lturned ["_law_lot", "_law_place"] (spLturned K) := by
  have G_Loff := ok_Loff (P := P) (w := w) (base := base) T
  have G_Ltrue := ok_Ltrue (P := P) (w := w) (base := base) T
  refine T.F_Lturned.ok sc_Lturned (fun vs H Q E h => ?_) (fun cdv A outer s H vs Q E hr h => ?_)
  · obtain ⟨p, e, n, a, rfl, _⟩ := h
    rfl
  · obtain ⟨p, e, n, a, rfl, hp, q⟩ := h
    refine ⟨_, (pss_one (ps_ret (pe_call G_Loff hr (by rfl) T.g_Loff T.F_Loff.kp T.b_Loff .nil pass0 (pa_cons (pe_call G_Loff hr (by rfl) T.g_Loff T.F_Loff.kp T.b_Loff .nil pass0 (pa_cons (pe_tup (pa_cons pe_int (pa_cons pe_int pa_nil))) (pa_cons (pe_call G_Ltrue hr (by rfl) T.g_Ltrue T.F_Ltrue.kp T.b_Ltrue .nil pass0 (pa_cons (pv 0) (pa_cons pe_str pa_nil))) (pa_cons (pe_ix ix_tup (pv 1) pe_int (fun _ _ => rfl)) pa_nil)))) (pa_cons (pe_call G_Ltrue hr (by rfl) T.g_Ltrue T.F_Ltrue.kp T.b_Ltrue .nil pass0 (pa_cons (pv 0) (pa_cons pe_str pa_nil))) (pa_cons (pe_ix ix_tup (pv 1) pe_int (fun _ _ => rfl)) pa_nil)))))), ?_⟩
    refine ⟨by show 2 ≤ sizeLine; decide, fun t0 n0 => ?_⟩
    have s0 := same_upd (o := .tup [.int 0, .int 0]) n0
    rw [lt0, lt1]
    refine ⟨.int a.val, rfl, a, 1, rfl, .ref p, rfl, p, _, 0, .int e, rfl, rfl, sqt_same s0 hp, rfl, t0, 0, 0, e, tr a 1, rfl, .inl (.inl upd_same), fun H1 r s1 nr er => ?_⟩
    refine ⟨.int a.val, rfl, a, 0, rfl, .ref p, rfl, p, _, 1, .int n, rfl, rfl, sqt_same (s0.trans s1) hp, rfl, r, _, _, n, tr a 0, rfl, .inl (.inl er), fun H2 r2 s2 nr2 er2 => ?_⟩
    refine q H2 r2 ((s0.trans s1).trans s2) ?_
    rw [er2]
    show some (HO.tup [.int (0 + e * dx (tr a 1) + n * dx (tr a 0)), .int (0 + e * dy (tr a 1) + n * dy (tr a 0))]) = some (HO.tup [.int (e * dx (tr a 1) + n * dx (tr a 0)), .int (e * dy (tr a 1) + n * dy (tr a 0))])
    rw [Int.zero_add, Int.zero_add]
theorem t_add (d f e1 n1 e2 n2 : Int) : (e1 + e2) * d + (n1 + n2) * f = e1 * d + n1 * f + (e2 * d + n2 * f) := by
  rw [Int.add_mul, Int.add_mul]
  omega
theorem c_x1 : ∀ a b : Fin 8, dx (tr a 1) * dx (tr b 1) + dy (tr a 1) * dx (tr b 0) = dx (tr (bo b a) 1) := by decide +kernel
theorem c_x0 : ∀ a b : Fin 8, dx (tr a 0) * dx (tr b 1) + dy (tr a 0) * dx (tr b 0) = dx (tr (bo b a) 0) := by decide +kernel
theorem c_y1 : ∀ a b : Fin 8, dx (tr a 1) * dy (tr b 1) + dy (tr a 1) * dy (tr b 0) = dy (tr (bo b a) 1) := by decide +kernel
theorem c_y0 : ∀ a b : Fin 8, dx (tr a 0) * dy (tr b 1) + dy (tr a 0) * dy (tr b 0) = dy (tr (bo b a) 0) := by decide +kernel
theorem lin (e n a b c d u v : Int) : (e * a + n * b) * u + (e * c + n * d) * v = e * (a * u + c * v) + n * (b * u + d * v) := by
  rw [Int.add_mul, Int.add_mul, Int.mul_add, Int.mul_add, Int.mul_assoc, Int.mul_assoc, Int.mul_assoc, Int.mul_assoc]
  omega
theorem t_bo_x (a b : Fin 8) (e n : Int) : tx b (tx a e n) (ty a e n) = tx (bo b a) e n := by
  unfold tx ty
  rw [lin, c_x1, c_x0]
theorem t_bo_y (a b : Fin 8) (e n : Int) : ty b (tx a e n) (ty a e n) = ty (bo b a) e n := by
  unfold tx ty
  rw [lin, c_y1, c_y0]
theorem g_2 : ∀ a : Fin 8, bo (un a) a = 0 := by decide +kernel
theorem t_0x (e n : Int) : tx 0 e n = e := by
  show e * 1 + n * 0 = e
  omega
theorem t_0y (e n : Int) : ty 0 e n = n := by
  show e * 0 + n * 1 = n
  omega
theorem of8 {r : Int} (h0 : 0 ≤ r) (h1 : r < 8) : ∃ a : Fin 8, r = (a.val : Int) := ⟨⟨r.toNat, by omega⟩, by show r = ((r.toNat : Nat) : Int); omega⟩
theorem rg8 {x : V} (h : x ∈ rgV 0 8) : ∃ a : Fin 8, x = .int (a.val : Int) := by
  obtain ⟨i, hi, rfl⟩ := List.mem_map.mp h
  have h8 : i < 8 := List.mem_range.mp hi
  exact ⟨⟨i, h8⟩, by rw [Int.zero_add]⟩
def spLaw (K : PySem.W.Frag) : Sp := fun vs H Q _ => ∃ (a : Addr) (ns : List Int), vs = [.ref a] ∧ SqL K H a (ns.map V.int) ∧ ns.length ≤ 63 ∧ ∀ H', Q (.bl true) H'
theorem ok_law (T : Top w K mg) : FnOk P w K mg base CX0 6 T.a_law T.fd_law ["_law_script"] (spLaw K) := by
  have G_Lpool := ok_Lpool (P := P) (w := w) (base := base) T
  have G_Ltake := ok_Ltake (P := P) (w := w) (base := base) T
  have G_Lmix := ok_Lmix (P := P) (w := w) (base := base) T
  have G_Lfar := ok_Lfar (P := P) (w := w) (base := base) T
  have G_Lturned := ok_Lturned (P := P) (w := w) (base := base) T
  have G_Lsame := ok_Lsame (P := P) (w := w) (base := base) T 1
  have G_turned := ok_turned (P := P) (w := w) (base := base) T
  have G_turnedL := ok_turnedL (P := P) (w := w) (base := base) T
  have G_both := ok_both (P := P) (w := w) (base := base) T
  have G_undone := ok_undone (P := P) (w := w) (base := base) T
  refine T.F_law.ok sc_law (fun vs H Q E h => ?_) (fun cdv A outer s H vs Q E hr h => ?_)
  · obtain ⟨a, ns, rfl, _⟩ := h
    rfl
  · obtain ⟨a, ns, rfl, hS, hlen, q⟩ := h
    refine ⟨_, (pss_cons (ps_set (i := 1) sc_law.nd rfl (.inr rfl) (pe_call G_Lpool (hr.mono (by decide)) (by rfl) T.g_Lpool T.F_Lpool.kp T.b_Lpool .nil pass0 (pa_cons (pv 0) (pa_cons pe_int pa_nil))))
      (Evl.pss_cut (ps_set (i := 2) sc_law.nd rfl (.inr rfl) (pe_ix ix_tup (pe_tup (pa_cons pe_int (pa_cons (pe_op op_pow pe_int pe_int) pa_nil))) (pe_call G_Ltake (hr.mono (by decide)) (by rfl) T.g_Ltake T.F_Ltake.kp T.b_Ltake .nil pass0 (pa_cons (pv 1) (pa_cons pe_int pa_nil))) (fun _ _ => rfl)))
      (pss_cons (ps_asg (pe_lc (own := [("_law_k", 9)]) (g := gName 9) (by rfl) sc_law.nd (pi_range1 (by rfl) T.m_range (pa_cons pe_int pa_nil)) (blkOk_by (own := [("_law_k", 9)]) (N := ["_law_script", "_law_pool_here", "_law_wide", "_law_one", "_law_other", "_law_more", "_law_lot", "_law_here", "_law_there", "_law_k"]) (sc := defScope s_law) (by decide +kernel)) (fun _ _ _ _ _ => (pg_name (i := 9) sc_law.nd rfl (Or.inl rfl))) (fun _ _ _ _ _ => pts_nil) (fun _ _ _ _ _ => (pe_tup (pa_cons (pe_call G_Lfar (hr.mono (by decide)) (by rfl) T.g_Lfar T.F_Lfar.kp T.b_Lfar .nil pass0 (pa_cons (pv 1) (pa_cons (pv 2) pa_nil))) (pa_cons (pe_call G_Lfar (hr.mono (by decide)) (by rfl) T.g_Lfar T.F_Lfar.kp T.b_Lfar .nil pass0 (pa_cons (pv 1) (pa_cons (pv 2) pa_nil))) pa_nil))))) (pg_unl rfl (pgs_cons (pg_name (i := 3) sc_law.nd rfl (.inl rfl)) (pgs_cons (pg_name (i := 4) sc_law.nd rfl (.inl rfl)) pgs_nil))))
      (pss_cons (ps_set (i := 5) sc_law.nd rfl (.inl rfl) (pe_call G_Ltake (hr.mono (by decide)) (by rfl) T.g_Ltake T.F_Ltake.kp T.b_Ltake .nil pass0 (pa_cons (pv 1) (pa_cons pe_int pa_nil))))
      (pss_cons (ps_for PassesOwn.never rfl (pi_list (pe_call G_Lmix (hr.mono (by decide)) (by rfl) T.g_Lmix T.F_Lmix.kp T.b_Lmix .nil pass0 (pa_cons (pv 1) (pa_cons (pe_listRg (by rfl) (by rfl) T.m_list (prg_1 (by rfl) T.m_range pe_int)) pa_nil)))) (pg_name (i := 6) sc_law.nd rfl (.inl rfl)) (pss_cons (ps_par (i := 7) (j := 8) (by rfl) sc_law.nd rfl rfl (by decide) rfl rfl (pa_cons (pe_call G_turned hr (by rfl) T.g_turned T.F_turned.kp T.b_turned .nil pass0 (pa_cons (pv 6) (pa_cons (pv 3) pa_nil))) (pa_cons (pe_call G_turnedL hr (by rfl) T.g_turned T.F_turned.kp T.b_turned .nil pass0 (pa_cons (pv 6) (pa_cons (pe_callTy call_list_of (by rfl) T.m_list (by decide +kernel) (pa_cons (pv 4) pa_nil)) pa_nil))) pa_nil)) (by rfl))
      (pss_cons (ps_if (PW.pt (pw_or (pt_not (pt_val (pe_call G_Lsame (hr.mono (by decide)) (by rfl) T.g_Lsame T.F_Lsame.kp T.b_Lsame .nil pass0 (pa_cons (pv 7) (pa_cons (pe_call G_Lturned (hr.mono (by decide)) (by rfl) T.g_Lturned T.F_Lturned.kp T.b_Lturned .nil pass0 (pa_cons (pv 6) (pa_cons (pv 3) pa_nil))) pa_nil))))) (pw_or1 (pt_not (pt_val (pe_call G_Lsame (hr.mono (by decide)) (by rfl) T.g_Lsame T.F_Lsame.kp T.b_Lsame .nil pass0 (pa_cons (pv 8) (pa_cons (pe_call G_Lturned (hr.mono (by decide)) (by rfl) T.g_Lturned T.F_Lturned.kp T.b_Lturned .nil pass0 (pa_cons (pv 6) (pa_cons (pv 4) pa_nil))) pa_nil)))))))) (pss_one (ps_ret pe_bl)) pss_nil)
      (pss_cons (ps_if (pt_cmpR (op_neD hr.units) (pe_call G_turned hr (by rfl) T.g_turned T.F_turned.kp T.b_turned .nil pass0 (pa_cons (pv 6) (pa_cons (pe_tup (pa_cons (pe_op op_add (pe_ix ix_tup (pv 3) pe_int (fun _ _ => rfl)) (pe_ix ix_tup (pv 4) pe_int (fun _ _ => rfl))) (pa_cons (pe_op op_add (pe_ix ix_tup (pv 3) pe_int (fun _ _ => rfl)) (pe_ix ix_tup (pv 4) pe_int (fun _ _ => rfl))) pa_nil))) pa_nil))) (pe_tup (pa_cons (pe_op op_add (pe_ix ix_tup (pv 7) pe_int (fun _ _ => rfl)) (pe_ix ix_tup (pv 8) pe_int (fun _ _ => rfl))) (pa_cons (pe_op op_add (pe_ix ix_tup (pv 7) pe_int (fun _ _ => rfl)) (pe_ix ix_tup (pv 8) pe_int (fun _ _ => rfl))) pa_nil))) (nomark _)) (pss_one (ps_ret pe_bl)) pss_nil)
      (pss_one (ps_if (PW.pt (pw_or (pt_cmpR (op_neD hr.units) (pe_call G_turned hr (by rfl) T.g_turned T.F_turned.kp T.b_turned .nil pass0 (pa_cons (pe_call G_both (hr.mono (by decide)) (by rfl) T.g_both T.F_both.kp T.b_both .nil pass0 (pa_cons (pv 5) (pa_cons (pv 6) pa_nil))) (pa_cons (pv 3) pa_nil))) (pe_call G_turned hr (by rfl) T.g_turned T.F_turned.kp T.b_turned .nil pass0 (pa_cons (pv 5) (pa_cons (pv 7) pa_nil))) (nomark _)) (pw_or1 (pt_cmpR (op_neD hr.units) (pe_call G_turned hr (by rfl) T.g_turned T.F_turned.kp T.b_turned .nil pass0 (pa_cons (pe_call G_undone (hr.mono (by decide)) (by rfl) T.g_undone T.F_undone.kp T.b_undone .nil pass0 (pa_cons (pv 6) pa_nil)) (pa_cons (pv 7) pa_nil))) (pv 3) (nomark _))))) (pss_one (ps_ret pe_bl)) pss_nil))))))
      (pss_one (ps_ret pe_bl))))))), ?_⟩
    refine ⟨.ref a, rfl, a, ns, 0, rfl, hS, hlen, by decide, fun H1 p sm np hp => ?_⟩
    refine ⟨fun σ H' => Pool H' p ∧ ∃ m : Int, 0 < m ∧ m ≤ 10 ^ 29 ∧ σ = [some (.ref a), some (.ref p), some (.int m), none, none, none, none, none, none, none], ?_, ?_⟩
    · refine ⟨_, _, rfl, rfl, ⟨by decide, by decide, by decide⟩, by show 2 ≤ sizeLine; decide, fun t nt => ?_⟩
      have ntp : t ≠ p := hp.ne_new nt
      refine ⟨.ref p, rfl, p, 2, rfl, by decide, by decide, hp.upd ntp, fun H2 r b2 p2 h0 h1 => ?_⟩
      obtain rfl | rfl : r = 0 ∨ r = 1 := by omega
      · exact ⟨t, _, 0, .int 4, rfl, rfl, .inl (.inl (b2 _ _ ntp upd_same)), rfl, p2, 4, by decide, by decide, rfl⟩
      · exact ⟨t, _, 1, .int (10 ^ (Int.toNat 29)), rfl, rfl, .inl (.inl (b2 _ _ ntp upd_same)), rfl, p2, 10 ^ (Int.toNat 29), by decide, by decide, rfl⟩
    rintro σ H2 ⟨hp2, m, m0, m1, rfl⟩
    -- the two places
    refine ⟨2, rfl, by decide, by decide, fun D hD => lc_range (lo := 0) (n := 2) (fun j H' => Pool H' p ∧ ∃ ps : List V, ps.length = j ∧ (∀ v ∈ ps, ∃ t e n, v = .ref t ∧ H' t = some (.tup [.int e, .int n])) ∧ H' D = some (.lst ps)) ⟨hp2.upd (hp2.ne_new hD), [], rfl, (fun _ h => nomatch h), upd_same⟩ ?_ ?_⟩
    · rintro j H3 hj ⟨hp3, ps, hl, hps, eD⟩
      have nD : D ≠ p := hp2.ne_new hD
      refine ⟨rfl, ?_⟩
      refine ⟨.ref p, rfl, .int m, rfl, p, m, rfl, m0, m1, hp3, fun H4 e b4 hp4 _ _ => ?_⟩
      refine ⟨.ref p, rfl, .int m, rfl, p, m, rfl, m0, m1, hp4, fun H5 n b5 hp5 _ _ => ?_⟩
      refine ⟨by show 2 ≤ sizeLine; decide, fun t nt => ?_⟩
      have ntp : t ≠ p := hp5.ne_new nt
      have st := same_upd (o := .tup [.int e, .int n]) nt
      have eD6 := st _ _ (b5 _ _ nD (b4 _ _ nD eD))
      refine ⟨ps, eD6, small1000 (by omega), (hp5.upd ntp).upd nD, ps ++ [.ref t], ?_, ?_, upd_same⟩
      · rw [List.length_append, hl]
        rfl
      · intro v hv
        rcases List.mem_append.mp hv with h | h
        · obtain ⟨t', e', n', rfl, h'⟩ := hps v h
          have h6 := st _ _ (b5 _ _ (hp4.ne_tup (b4 _ _ (hp3.ne_tup h') h')) (b4 _ _ (hp3.ne_tup h') h'))
          refine ⟨t', e', n', rfl, ?_⟩
          rw [upd_ne (ne_of h6 eD6 (by intro z; cases z))]
          exact h6
        · rw [List.mem_singleton.mp h]
          refine ⟨t, e, n, rfl, ?_⟩
          rw [upd_ne (ne_of (upd_same (H := H5) (a := t) (o := .tup [.int e, .int n])) eD6 (by intro z; cases z))]
          exact upd_same
    rintro H3 ⟨hp3, ps, hl, hps, eD⟩
    match ps, hl with
    | [u1, u2], _ =>
      obtain ⟨t1, e1, n1, rfl, h1⟩ := hps u1 (by simp)
      obtain ⟨t2, e2, n2, rfl, h2⟩ := hps u2 (by simp)
      refine ⟨D, _, rfl, .inl (.inl eD), rfl, _, _, rfl, _, _, rfl, rfl, ?_⟩
      refine ⟨.ref p, rfl, p, 8, rfl, by decide, by decide, hp3, fun H4 r b4 hp4 r0 r8 => ?_⟩
      obtain ⟨b, rfl⟩ := of8 r0 r8
      have h1 := b4 _ _ (hp3.ne_tup h1) h1
      have h2 := b4 _ _ (hp3.ne_tup h2) h2
      -- the lots
      refine ⟨.ref p, rfl, 8, rfl, RgOk.of_le (by decide) (by decide) (by decide) (by decide), fun l nl => ?_⟩
      have nlp : l ≠ p := hp4.ne_new nl
      have sl := same_upd (o := .lst (rgV 0 8)) nl
      refine ⟨p, l, rgV 0 8, rfl, hp4.upd nlp, nlp, .inl (.inl upd_same), by rw [rgV_length]; decide, fun H5 f ys b5 nf ef hy hin hp5 => ?_⟩
      have h1 := b5 _ _ ((hp4.upd nlp).ne_tup (sl _ _ h1)) (sl _ _ h1)
      have h2 := b5 _ _ ((hp4.upd nlp).ne_tup (sl _ _ h2)) (sl _ _ h2)
      refine ⟨f, rfl, ⟨_, .inl (.inl ef)⟩, for_it (walk_list (xs := ys)) (fun i σ H' => Same H5 H' ∧ ∃ y6 y7 y8 y9, σ = [some (.ref a), some (.ref p), some (.int m), some (.ref t1), some (.ref t2), some (.int b.val), y6, y7, y8, y9]) ⟨Same.refl _, none, none, none, none, rfl⟩ (fun i σ H' _ h => .inl (.inl (h.1 _ _ ef))) ?_ (fun σ H' _ => q H')⟩
      rintro j x σ H7 H8 hj ⟨s7, y6, y7, y8, y9, rfl⟩ ⟨rfl, hx⟩
      obtain ⟨c, rfl⟩ := rg8 (hin x (List.mem_of_getElem? hx))
      have h1 := s7 _ _ h1
      have h2 := s7 _ _ h2
      -- here, there
      refine ⟨.int c.val, rfl, .ref t1, rfl, t1, e1, n1, c, rfl, .inl (.inl h1), fun he nhe => ?_⟩
      have s8 := same_upd (o := .tup [.int (tx c e1 n1), .int (ty c e1 n1)]) nhe
      have ehe : (upd H8 he (.tup [.int (tx c e1 n1), .int (ty c e1 n1)])) he = some (.tup [.int (tx c e1 n1), .int (ty c e1 n1)]) := upd_same
      refine ⟨.int c.val, rfl, .ref t2, rfl, t2, _, rfl, .inr (.inl (.inl (s8 _ _ h2))), fun l2 nl2 => ⟨l2, e2, n2, c, rfl, .inl (.inl upd_same), fun th nth => ?_⟩⟩
      have s9 := same_upd (o := .lst [.int e2, .int n2]) nl2
      have s10 := same_upd (o := .tup [.int (tx c e2 n2), .int (ty c e2 n2)]) nth
      have eth : (upd (upd (upd H8 he (.tup [.int (tx c e1 n1), .int (ty c e1 n1)])) l2 (.lst [.int e2, .int n2])) th (.tup [.int (tx c e2 n2), .int (ty c e2 n2)])) th = some (.tup [.int (tx c e2 n2), .int (ty c e2 n2)]) := upd_same
      refine ⟨_, _, rfl, ?_⟩
      have ehe := s10 _ _ (s9 _ _ ehe)
      have h1 := s10 _ _ (s9 _ _ (s8 _ _ h1))
      have h2 := s10 _ _ (s9 _ _ (s8 _ _ h2))
      have sA := (s8.trans s9).trans s10
      generalize upd (upd (upd H8 he (.tup [.int (tx c e1 n1), .int (ty c e1 n1)])) l2 (.lst [.int e2, .int n2])) th (.tup [.int (tx c e2 n2), .int (ty c e2 n2)]) = H9 at *
      -- by own reckoning
      refine ⟨.ref he, rfl, .int c.val, rfl, .ref t1, rfl, t1, e1, n1, c, rfl, .inl (.inl h1), fun H10 d1 s11 ed1 => ?_⟩
      refine ⟨_, _, .tuple [.int (tx c e1 n1), .int (ty c e1 n1)], rfl, .tup (.inl (.inl (s11 _ _ ehe))) (.cons (.int _) (.cons (.int _) .nil)), .tup (.inl (.inl ed1)) (.cons (.int _) (.cons (.int _) .nil)), rfl, fun H11 s12 => ⟨_, rfl, iteF ?_⟩⟩
      have sB := s11.trans s12
      refine ⟨.ref th, rfl, .int c.val, rfl, .ref t2, rfl, t2, e2, n2, c, rfl, .inl (.inl (sB _ _ h2)), fun H12 d2 s13 ed2 => ?_⟩
      refine ⟨_, _, .tuple [.int (tx c e2 n2), .int (ty c e2 n2)], rfl, .tup (.inl (.inl (s13 _ _ (sB _ _ eth)))) (.cons (.int _) (.cons (.int _) .nil)), .tup (.inl (.inl ed2)) (.cons (.int _) (.cons (.int _) .nil)), rfl, fun H13 s14 => ⟨_, rfl, iteF ?_⟩⟩
      have sC := sB.trans (s13.trans s14)
      have ehe := sC _ _ ehe
      have eth := sC _ _ eth
      have h1 := sC _ _ h1
      have h2 := sC _ _ h2
      have sD := sA.trans sC
      clear sC sB s14 s13 s12 s11 sA
      -- two added
      refine ⟨.int c.val, rfl, .ref t1, rfl, t1, _, 0, .int e1, rfl, rfl, .inl (.inl h1), rfl, .ref t2, rfl, t2, _, 0, .int e2, rfl, rfl, .inl (.inl h2), rfl, _, _, rfl, rfl, .ref t1, rfl, t1, _, 1, .int n1, rfl, rfl, .inl (.inl h1), rfl, .ref t2, rfl, t2, _, 1, .int n2, rfl, rfl, .inl (.inl h2), rfl, _, _, rfl, rfl, by show 2 ≤ sizeLine; decide, fun t3 nt3 => ?_⟩
      refine ⟨t3, e1 + e2, n1 + n2, c, rfl, .inl (.inl upd_same), fun q1 nq1 => ?_⟩
      have sE := (same_upd (o := .tup [.int (e1 + e2), .int (n1 + n2)]) nt3).trans (same_upd (o := .tup [.int (tx c (e1 + e2) (n1 + n2)), .int (ty c (e1 + e2) (n1 + n2))]) nq1)
      refine ⟨.ref he, rfl, he, _, 0, _, rfl, rfl, .inl (.inl (sE _ _ ehe)), rfl, .ref th, rfl, th, _, 0, _, rfl, rfl, .inl (.inl (sE _ _ eth)), rfl, _, _, rfl, rfl, .ref he, rfl, he, _, 1, _, rfl, rfl, .inl (.inl (sE _ _ ehe)), rfl, .ref th, rfl, th, _, 1, _, rfl, rfl, .inl (.inl (sE _ _ eth)), rfl, _, _, rfl, rfl, by show 2 ≤ sizeLine; decide, fun q2 nq2 => ?_⟩
      have sF := same_upd (o := .tup [.int (tx c e1 n1 + tx c e2 n2), .int (ty c e1 n1 + ty c e2 n2)]) nq2
      refine ⟨.tuple [.int (tx c (e1 + e2) (n1 + n2)), .int (ty c (e1 + e2) (n1 + n2))], .tuple [.int (tx c e1 n1 + tx c e2 n2), .int (ty c e1 n1 + ty c e2 n2)], .tup (.inl (.inl (sF _ _ upd_same))) (.cons (.int _) (.cons (.int _) .nil)), .tup (.inl (.inl upd_same)) (.cons (.int _) (.cons (.int _) .nil)), rfl, rfl, _, rfl, iteNE (by rw [show tx c (e1 + e2) (n1 + n2) = tx c e1 n1 + tx c e2 n2 from t_add _ _ _ _ _ _, show ty c (e1 + e2) (n1 + n2) = ty c e1 n1 + ty c e2 n2 from t_add _ _ _ _ _ _]) rfl ?_⟩
      have ehe := sF _ _ (sE _ _ ehe)
      have h1 := sF _ _ (sE _ _ h1)
      have sG := sD.trans (sE.trans sF)
      clear sD sE sF
      -- the one behind the other
      refine ⟨.int b.val, rfl, .int c.val, rfl, b, c, rfl, .ref t1, rfl, t1, e1, n1, bo b c, rfl, .inl (.inl h1), fun q3 nq3 => ?_⟩
      have sH := same_upd (o := .tup [.int (tx (bo b c) e1 n1), .int (ty (bo b c) e1 n1)]) nq3
      refine ⟨.int b.val, rfl, .ref he, rfl, he, _, _, b, rfl, .inl (.inl (sH _ _ ehe)), fun q4 nq4 => ?_⟩
      have sI := same_upd (o := .tup [.int (tx b (tx c e1 n1) (ty c e1 n1)), .int (ty b (tx c e1 n1) (ty c e1 n1))]) nq4
      refine ⟨.tuple [.int (tx (bo b c) e1 n1), .int (ty (bo b c) e1 n1)], .tuple [.int (tx b (tx c e1 n1) (ty c e1 n1)), .int (ty b (tx c e1 n1) (ty c e1 n1))], .tup (.inl (.inl (sI _ _ upd_same))) (.cons (.int _) (.cons (.int _) .nil)), .tup (.inl (.inl upd_same)) (.cons (.int _) (.cons (.int _) .nil)), rfl, rfl, _, rfl, iteNE (by rw [t_bo_x, t_bo_y]) rfl ?_⟩
      have ehe := sI _ _ (sH _ _ ehe)
      have h1 := sI _ _ (sH _ _ h1)
      refine ⟨.int c.val, rfl, c, rfl, .ref he, rfl, he, _, _, un c, rfl, .inl (.inl ehe), fun q5 nq5 => ?_⟩
      have sJ := same_upd (o := .tup [.int (tx (un c) (tx c e1 n1) (ty c e1 n1)), .int (ty (un c) (tx c e1 n1) (ty c e1 n1))]) nq5
      refine ⟨.ref t1, rfl, .tuple [.int (tx (un c) (tx c e1 n1) (ty c e1 n1)), .int (ty (un c) (tx c e1 n1) (ty c e1 n1))], .tuple [.int e1, .int n1], .tup (.inl (.inl upd_same)) (.cons (.int _) (.cons (.int _) .nil)), .tup (.inl (.inl (sJ _ _ h1))) (.cons (.int _) (.cons (.int _) .nil)), rfl, rfl, _, rfl, iteNE (by rw [t_bo_x, t_bo_y, g_2, t_0x, t_0y]) rfl ?_⟩
      exact ⟨(s7.trans sG).trans ((sH.trans sI).trans sJ), _, _, _, _, rfl⟩
end
theorem all_mk {l : PySem.W.OpenLaw} {w : World} {K : PySem.W.Frag} {h : Heap} {mg : Str → Option Value} {fa : Addr} (X : K.In h) (G : h.Ns mainGlobals mg) (hfa : mg "law" = some (.ref fa))
    {f_is_whole : Addr} {od_is_whole an_is_whole : Option Addr} {sl_is_whole : Array (Option Value)} {oc_is_whole kV_is_whole dc_is_whole pm_is_whole cd_is_whole ct_is_whole : Value}
    {f_step : Addr} {od_step an_step : Option Addr} {sl_step : Array (Option Value)} {oc_step kV_step dc_step pm_step cd_step ct_step : Value}
    {f_is_lot : Addr} {od_is_lot an_is_lot : Option Addr} {sl_is_lot : Array (Option Value)} {oc_is_lot kV_is_lot dc_is_lot pm_is_lot cd_is_lot ct_is_lot : Value}
    {f_refuse_unless_lot : Addr} {od_refuse_unless_lot an_refuse_unless_lot : Option Addr} {sl_refuse_unless_lot : Array (Option Value)} {oc_refuse_unless_lot kV_refuse_unless_lot dc_refuse_unless_lot pm_refuse_unless_lot cd_refuse_unless_lot ct_refuse_unless_lot : Value}
    {f_mirrors : Addr} {od_mirrors an_mirrors : Option Addr} {sl_mirrors : Array (Option Value)} {oc_mirrors kV_mirrors dc_mirrors pm_mirrors cd_mirrors ct_mirrors : Value}
    {f_true : Addr} {od_true an_true : Option Addr} {sl_true : Array (Option Value)} {oc_true kV_true dc_true pm_true cd_true ct_true : Value}
    {f_both : Addr} {od_both an_both : Option Addr} {sl_both : Array (Option Value)} {oc_both kV_both dc_both pm_both cd_both ct_both : Value}
    {f_undone : Addr} {od_undone an_undone : Option Addr} {sl_undone : Array (Option Value)} {oc_undone kV_undone dc_undone pm_undone cd_undone ct_undone : Value}
    {f_turned : Addr} {od_turned an_turned : Option Addr} {sl_turned : Array (Option Value)} {oc_turned kV_turned dc_turned pm_turned cd_turned ct_turned : Value}
    {f_Lfar : Addr} {od_Lfar an_Lfar : Option Addr} {sl_Lfar : Array (Option Value)} {oc_Lfar kV_Lfar dc_Lfar pm_Lfar cd_Lfar ct_Lfar : Value}
    {f_Lpool : Addr} {od_Lpool an_Lpool : Option Addr} {sl_Lpool : Array (Option Value)} {oc_Lpool kV_Lpool dc_Lpool pm_Lpool cd_Lpool ct_Lpool : Value}
    {f_Ltake : Addr} {od_Ltake an_Ltake : Option Addr} {sl_Ltake : Array (Option Value)} {oc_Ltake kV_Ltake dc_Ltake pm_Ltake cd_Ltake ct_Ltake : Value}
    {f_Lmix : Addr} {od_Lmix an_Lmix : Option Addr} {sl_Lmix : Array (Option Value)} {oc_Lmix kV_Lmix dc_Lmix pm_Lmix cd_Lmix ct_Lmix : Value}
    {f_Lwhole : Addr} {od_Lwhole an_Lwhole : Option Addr} {sl_Lwhole : Array (Option Value)} {oc_Lwhole kV_Lwhole dc_Lwhole pm_Lwhole cd_Lwhole ct_Lwhole : Value}
    {f_Lsame : Addr} {od_Lsame an_Lsame : Option Addr} {sl_Lsame : Array (Option Value)} {oc_Lsame kV_Lsame dc_Lsame pm_Lsame cd_Lsame ct_Lsame : Value}
    {f_Ltrue : Addr} {od_Ltrue an_Ltrue : Option Addr} {sl_Ltrue : Array (Option Value)} {oc_Ltrue kV_Ltrue dc_Ltrue pm_Ltrue cd_Ltrue ct_Ltrue : Value}
    {f_Loff : Addr} {od_Loff an_Loff : Option Addr} {sl_Loff : Array (Option Value)} {oc_Loff kV_Loff dc_Loff pm_Loff cd_Loff ct_Loff : Value}
    {f_Lturned : Addr} {od_Lturned an_Lturned : Option Addr} {sl_Lturned : Array (Option Value)} {oc_Lturned kV_Lturned dc_Lturned pm_Lturned cd_Lturned ct_Lturned : Value}
    {f_law : Addr} {od_law an_law : Option Addr} {sl_law : Array (Option Value)} {oc_law kV_law dc_law pm_law cd_law ct_law : Value}
    {t_LETTERS : Tok}
    {f_STEPS : Addr}
    {es_STEPS : Array DictEntry} {n_STEPS : Nat}
    
    {q_STEPS_0 : Addr}
    {dd_STEPS_0 : Option Addr} {sl_STEPS_0 : Array (Option Value)} {nn_STEPS_0 : Nat} {tk_STEPS_0_0 : Tok} {tk_STEPS_0_1 : Tok}
    {q_STEPS_1 : Addr}
    {dd_STEPS_1 : Option Addr} {sl_STEPS_1 : Array (Option Value)} {nn_STEPS_1 : Nat} {tk_STEPS_1_0 : Tok} {tk_STEPS_1_1 : Tok}
    {q_STEPS_2 : Addr}
    {dd_STEPS_2 : Option Addr} {sl_STEPS_2 : Array (Option Value)} {nn_STEPS_2 : Nat} {tk_STEPS_2_0 : Tok} {tk_STEPS_2_1 : Tok}
    {q_STEPS_3 : Addr}
    {dd_STEPS_3 : Option Addr} {sl_STEPS_3 : Array (Option Value)} {nn_STEPS_3 : Nat} {tk_STEPS_3_0 : Tok} {tk_STEPS_3_1 : Tok}
    (A_is_whole : PySem.W.nsIn K mainGlobals "is_whole" = some (some (.ref f_is_whole))) (L_is_whole : K.lookup f_is_whole = some ⟨oc_is_whole, od_is_whole, .func (PySem.W.fnOf "is_whole" "is_whole" (defArgs s_is_whole) (defBody s_is_whole) (defScope s_is_whole) .none kV_is_whole dc_is_whole pm_is_whole an_is_whole cd_is_whole ct_is_whole), sl_is_whole⟩) (C_is_whole : PySem.W.codeIn K cd_is_whole "is_whole" = true) (K_is_whole : PySem.W.keepIn K (.ref f_is_whole) = true)
    (A_step : PySem.W.nsIn K mainGlobals "step" = some (some (.ref f_step))) (L_step : K.lookup f_step = some ⟨oc_step, od_step, .func (PySem.W.fnOf "step" "step" (defArgs s_step) (defBody s_step) (defScope s_step) .none kV_step dc_step pm_step an_step cd_step ct_step), sl_step⟩) (C_step : PySem.W.codeIn K cd_step "step" = true) (K_step : PySem.W.keepIn K (.ref f_step) = true)
    (A_is_lot : PySem.W.nsIn K mainGlobals "is_lot" = some (some (.ref f_is_lot))) (L_is_lot : K.lookup f_is_lot = some ⟨oc_is_lot, od_is_lot, .func (PySem.W.fnOf "is_lot" "is_lot" (defArgs s_is_lot) (defBody s_is_lot) (defScope s_is_lot) .none kV_is_lot dc_is_lot pm_is_lot an_is_lot cd_is_lot ct_is_lot), sl_is_lot⟩) (C_is_lot : PySem.W.codeIn K cd_is_lot "is_lot" = true) (K_is_lot : PySem.W.keepIn K (.ref f_is_lot) = true)
    (A_refuse_unless_lot : PySem.W.nsIn K mainGlobals "refuse_unless_lot" = some (some (.ref f_refuse_unless_lot))) (L_refuse_unless_lot : K.lookup f_refuse_unless_lot = some ⟨oc_refuse_unless_lot, od_refuse_unless_lot, .func (PySem.W.fnOf "refuse_unless_lot" "refuse_unless_lot" (defArgs s_refuse_unless_lot) (defBody s_refuse_unless_lot) (defScope s_refuse_unless_lot) .none kV_refuse_unless_lot dc_refuse_unless_lot pm_refuse_unless_lot an_refuse_unless_lot cd_refuse_unless_lot ct_refuse_unless_lot), sl_refuse_unless_lot⟩) (C_refuse_unless_lot : PySem.W.codeIn K cd_refuse_unless_lot "refuse_unless_lot" = true) (K_refuse_unless_lot : PySem.W.keepIn K (.ref f_refuse_unless_lot) = true)
    (A_mirrors : PySem.W.nsIn K mainGlobals "mirrors" = some (some (.ref f_mirrors))) (L_mirrors : K.lookup f_mirrors = some ⟨oc_mirrors, od_mirrors, .func (PySem.W.fnOf "mirrors" "mirrors" (defArgs s_mirrors) (defBody s_mirrors) (defScope s_mirrors) .none kV_mirrors dc_mirrors pm_mirrors an_mirrors cd_mirrors ct_mirrors), sl_mirrors⟩) (C_mirrors : PySem.W.codeIn K cd_mirrors "mirrors" = true) (K_mirrors : PySem.W.keepIn K (.ref f_mirrors) = true)
    (A_true : PySem.W.nsIn K mainGlobals "true" = some (some (.ref f_true))) (L_true : K.lookup f_true = some ⟨oc_true, od_true, .func (PySem.W.fnOf "true" "true" (defArgs s_true) (defBody s_true) (defScope s_true) .none kV_true dc_true pm_true an_true cd_true ct_true), sl_true⟩) (C_true : PySem.W.codeIn K cd_true "true" = true) (K_true : PySem.W.keepIn K (.ref f_true) = true)
    (A_both : PySem.W.nsIn K mainGlobals "both" = some (some (.ref f_both))) (L_both : K.lookup f_both = some ⟨oc_both, od_both, .func (PySem.W.fnOf "both" "both" (defArgs s_both) (defBody s_both) (defScope s_both) .none kV_both dc_both pm_both an_both cd_both ct_both), sl_both⟩) (C_both : PySem.W.codeIn K cd_both "both" = true) (K_both : PySem.W.keepIn K (.ref f_both) = true)
    (A_undone : PySem.W.nsIn K mainGlobals "undone" = some (some (.ref f_undone))) (L_undone : K.lookup f_undone = some ⟨oc_undone, od_undone, .func (PySem.W.fnOf "undone" "undone" (defArgs s_undone) (defBody s_undone) (defScope s_undone) .none kV_undone dc_undone pm_undone an_undone cd_undone ct_undone), sl_undone⟩) (C_undone : PySem.W.codeIn K cd_undone "undone" = true) (K_undone : PySem.W.keepIn K (.ref f_undone) = true)
    (A_turned : PySem.W.nsIn K mainGlobals "turned" = some (some (.ref f_turned))) (L_turned : K.lookup f_turned = some ⟨oc_turned, od_turned, .func (PySem.W.fnOf "turned" "turned" (defArgs s_turned) (defBody s_turned) (defScope s_turned) .none kV_turned dc_turned pm_turned an_turned cd_turned ct_turned), sl_turned⟩) (C_turned : PySem.W.codeIn K cd_turned "turned" = true) (K_turned : PySem.W.keepIn K (.ref f_turned) = true)
    (A_Lfar : PySem.W.nsIn K mainGlobals "_law_far" = some (some (.ref f_Lfar))) (L_Lfar : K.lookup f_Lfar = some ⟨oc_Lfar, od_Lfar, .func (PySem.W.fnOf "_law_far" "_law_far" (defArgs s_Lfar) (defBody s_Lfar) (defScope s_Lfar) .none kV_Lfar dc_Lfar pm_Lfar an_Lfar cd_Lfar ct_Lfar), sl_Lfar⟩) (C_Lfar : PySem.W.codeIn K cd_Lfar "_law_far" = true) (K_Lfar : PySem.W.keepIn K (.ref f_Lfar) = true)
    (A_Lpool : PySem.W.nsIn K mainGlobals "_law_pool" = some (some (.ref f_Lpool))) (L_Lpool : K.lookup f_Lpool = some ⟨oc_Lpool, od_Lpool, .func (PySem.W.fnOf "_law_pool" "_law_pool" (defArgs s_Lpool) (defBody s_Lpool) (defScope s_Lpool) .none kV_Lpool dc_Lpool pm_Lpool an_Lpool cd_Lpool ct_Lpool), sl_Lpool⟩) (C_Lpool : PySem.W.codeIn K cd_Lpool "_law_pool" = true) (K_Lpool : PySem.W.keepIn K (.ref f_Lpool) = true)
    (A_Ltake : PySem.W.nsIn K mainGlobals "_law_take" = some (some (.ref f_Ltake))) (L_Ltake : K.lookup f_Ltake = some ⟨oc_Ltake, od_Ltake, .func (PySem.W.fnOf "_law_take" "_law_take" (defArgs s_Ltake) (defBody s_Ltake) (defScope s_Ltake) .none kV_Ltake dc_Ltake pm_Ltake an_Ltake cd_Ltake ct_Ltake), sl_Ltake⟩) (C_Ltake : PySem.W.codeIn K cd_Ltake "_law_take" = true) (K_Ltake : PySem.W.keepIn K (.ref f_Ltake) = true)
    (A_Lmix : PySem.W.nsIn K mainGlobals "_law_mix" = some (some (.ref f_Lmix))) (L_Lmix : K.lookup f_Lmix = some ⟨oc_Lmix, od_Lmix, .func (PySem.W.fnOf "_law_mix" "_law_mix" (defArgs s_Lmix) (defBody s_Lmix) (defScope s_Lmix) .none kV_Lmix dc_Lmix pm_Lmix an_Lmix cd_Lmix ct_Lmix), sl_Lmix⟩) (C_Lmix : PySem.W.codeIn K cd_Lmix "_law_mix" = true) (K_Lmix : PySem.W.keepIn K (.ref f_Lmix) = true)
    (A_Lwhole : PySem.W.nsIn K mainGlobals "_law_whole" = some (some (.ref f_Lwhole))) (L_Lwhole : K.lookup f_Lwhole = some ⟨oc_Lwhole, od_Lwhole, .func (PySem.W.fnOf "_law_whole" "_law_whole" (defArgs s_Lwhole) (defBody s_Lwhole) (defScope s_Lwhole) .none kV_Lwhole dc_Lwhole pm_Lwhole an_Lwhole cd_Lwhole ct_Lwhole), sl_Lwhole⟩) (C_Lwhole : PySem.W.codeIn K cd_Lwhole "_law_whole" = true) (K_Lwhole : PySem.W.keepIn K (.ref f_Lwhole) = true)
    (A_Lsame : PySem.W.nsIn K mainGlobals "_law_same" = some (some (.ref f_Lsame))) (L_Lsame : K.lookup f_Lsame = some ⟨oc_Lsame, od_Lsame, .func (PySem.W.fnOf "_law_same" "_law_same" (defArgs s_Lsame) (defBody s_Lsame) (defScope s_Lsame) .none kV_Lsame dc_Lsame pm_Lsame an_Lsame cd_Lsame ct_Lsame), sl_Lsame⟩) (C_Lsame : PySem.W.codeIn K cd_Lsame "_law_same" = true) (K_Lsame : PySem.W.keepIn K (.ref f_Lsame) = true)
    (A_Ltrue : PySem.W.nsIn K mainGlobals "_law_true" = some (some (.ref f_Ltrue))) (L_Ltrue : K.lookup f_Ltrue = some ⟨oc_Ltrue, od_Ltrue, .func (PySem.W.fnOf "_law_true" "_law_true" (defArgs s_Ltrue) (defBody s_Ltrue) (defScope s_Ltrue) .none kV_Ltrue dc_Ltrue pm_Ltrue an_Ltrue cd_Ltrue ct_Ltrue), sl_Ltrue⟩) (C_Ltrue : PySem.W.codeIn K cd_Ltrue "_law_true" = true) (K_Ltrue : PySem.W.keepIn K (.ref f_Ltrue) = true)
    (A_Loff : PySem.W.nsIn K mainGlobals "_law_off" = some (some (.ref f_Loff))) (L_Loff : K.lookup f_Loff = some ⟨oc_Loff, od_Loff, .func (PySem.W.fnOf "_law_off" "_law_off" (defArgs s_Loff) (defBody s_Loff) (defScope s_Loff) .none kV_Loff dc_Loff pm_Loff an_Loff cd_Loff ct_Loff), sl_Loff⟩) (C_Loff : PySem.W.codeIn K cd_Loff "_law_off" = true) (K_Loff : PySem.W.keepIn K (.ref f_Loff) = true)
    (A_Lturned : PySem.W.nsIn K mainGlobals "_law_turned" = some (some (.ref f_Lturned))) (L_Lturned : K.lookup f_Lturned = some ⟨oc_Lturned, od_Lturned, .func (PySem.W.fnOf "_law_turned" "_law_turned" (defArgs s_Lturned) (defBody s_Lturned) (defScope s_Lturned) .none kV_Lturned dc_Lturned pm_Lturned an_Lturned cd_Lturned ct_Lturned), sl_Lturned⟩) (C_Lturned : PySem.W.codeIn K cd_Lturned "_law_turned" = true) (K_Lturned : PySem.W.keepIn K (.ref f_Lturned) = true)
    (A_law : PySem.W.nsIn K mainGlobals "law" = some (some (.ref f_law))) (L_law : K.lookup f_law = some ⟨oc_law, od_law, .func (PySem.W.fnOf "law" "law" (defArgs s_law) (defBody s_law) (defScope s_law) .none kV_law dc_law pm_law an_law cd_law ct_law), sl_law⟩) (C_law : PySem.W.codeIn K cd_law "law" = true) (K_law : PySem.W.keepIn K (.ref f_law) = true)
    (A_LETTERS : PySem.W.nsIn K mainGlobals "LETTERS" = some (some (.str "nesw" t_LETTERS)))
    (A_STEPS : PySem.W.nsIn K mainGlobals "STEPS" = some (some (.ref f_STEPS)))
    (D_STEPS : K.lookup f_STEPS = some ⟨.type "dict", none, .dict es_STEPS n_STEPS, #[]⟩)
    (Y_STEPS : PySem.W.KeysLit w.params es_STEPS.toList)
    (N_STEPS_0 : PySem.W.nsIn K f_STEPS "n" = some (some (.ref q_STEPS_0)))
    (V_STEPS_0 : K.lookup q_STEPS_0 = some ⟨.type "tuple", dd_STEPS_0, .seq #[.int (0) tk_STEPS_0_0, .int (1) tk_STEPS_0_1] nn_STEPS_0, sl_STEPS_0⟩)
    (N_STEPS_1 : PySem.W.nsIn K f_STEPS "e" = some (some (.ref q_STEPS_1)))
    (V_STEPS_1 : K.lookup q_STEPS_1 = some ⟨.type "tuple", dd_STEPS_1, .seq #[.int (1) tk_STEPS_1_0, .int (0) tk_STEPS_1_1] nn_STEPS_1, sl_STEPS_1⟩)
    (N_STEPS_2 : PySem.W.nsIn K f_STEPS "s" = some (some (.ref q_STEPS_2)))
    (V_STEPS_2 : K.lookup q_STEPS_2 = some ⟨.type "tuple", dd_STEPS_2, .seq #[.int (0) tk_STEPS_2_0, .int (-1) tk_STEPS_2_1] nn_STEPS_2, sl_STEPS_2⟩)
    (N_STEPS_3 : PySem.W.nsIn K f_STEPS "w" = some (some (.ref q_STEPS_3)))
    (V_STEPS_3 : K.lookup q_STEPS_3 = some ⟨.type "tuple", dd_STEPS_3, .seq #[.int (-1) tk_STEPS_3_0, .int (0) tk_STEPS_3_1] nn_STEPS_3, sl_STEPS_3⟩)
    (Z_abs : PySem.W.nsIn K mainGlobals "abs" = some none)
    (Z_all : PySem.W.nsIn K mainGlobals "all" = some none)
    (Z_bool : PySem.W.nsIn K mainGlobals "bool" = some none)
    (Z_int : PySem.W.nsIn K mainGlobals "int" = some none)
    (Z_isinstance : PySem.W.nsIn K mainGlobals "isinstance" = some none)
    (Z_len : PySem.W.nsIn K mainGlobals "len" = some none)
    (Z_list : PySem.W.nsIn K mainGlobals "list" = some none)
    (Z_range : PySem.W.nsIn K mainGlobals "range" = some none)
    (Z_str : PySem.W.nsIn K mainGlobals "str" = some none)
    (Z_tuple : PySem.W.nsIn K mainGlobals "tuple" = some none)
    (Z_zip : PySem.W.nsIn K mainGlobals "zip" = some none) :
    ∃ fd : FuncData, (∀ (s : Shared) (v : Value), BindsTo s fd ⟨[v], []⟩ [("_law_script", v)]) ∧ ∀ base : Heap, K.In base → base.Ns mainGlobals mg → FnOk l.prog w K mg base CX0 6 fa fd ["_law_script"] (spLaw K) := by
  have e := hfa.symm.trans (PySem.W.mg_of X G A_law)
  cases e
  let T : Top w K mg := {
    a_is_whole := f_is_whole, fd_is_whole := _, F_is_whole := fun_mk (st := s_is_whole) L_is_whole C_is_whole K_is_whole,
    b_is_whole := (fun_mk (st := s_is_whole) L_is_whole C_is_whole K_is_whole).binds (ps := ["thing"]) fun _ _ _ _ _ _ us hl => match us, hl with | [_], _ => rfl,
    g_is_whole := PySem.W.mg_of X G A_is_whole,
    a_step := f_step, fd_step := _, F_step := fun_mk (st := s_step) L_step C_step K_step,
    b_step := (fun_mk (st := s_step) L_step C_step K_step).binds (ps := ["letter"]) fun _ _ _ _ _ _ us hl => match us, hl with | [_], _ => rfl,
    g_step := PySem.W.mg_of X G A_step,
    a_is_lot := f_is_lot, fd_is_lot := _, F_is_lot := fun_mk (st := s_is_lot) L_is_lot C_is_lot K_is_lot,
    b_is_lot := (fun_mk (st := s_is_lot) L_is_lot C_is_lot K_is_lot).binds (ps := ["thing"]) fun _ _ _ _ _ _ us hl => match us, hl with | [_], _ => rfl,
    g_is_lot := PySem.W.mg_of X G A_is_lot,
    a_refuse_unless_lot := f_refuse_unless_lot, fd_refuse_unless_lot := _, F_refuse_unless_lot := fun_mk (st := s_refuse_unless_lot) L_refuse_unless_lot C_refuse_unless_lot K_refuse_unless_lot,
    b_refuse_unless_lot := (fun_mk (st := s_refuse_unless_lot) L_refuse_unless_lot C_refuse_unless_lot K_refuse_unless_lot).binds (ps := ["thing"]) fun _ _ _ _ _ _ us hl => match us, hl with | [_], _ => rfl,
    g_refuse_unless_lot := PySem.W.mg_of X G A_refuse_unless_lot,
    a_mirrors := f_mirrors, fd_mirrors := _, F_mirrors := fun_mk (st := s_mirrors) L_mirrors C_mirrors K_mirrors,
    b_mirrors := (fun_mk (st := s_mirrors) L_mirrors C_mirrors K_mirrors).binds (ps := ["lot"]) fun _ _ _ _ _ _ us hl => match us, hl with | [_], _ => rfl,
    g_mirrors := PySem.W.mg_of X G A_mirrors,
    a_true := f_true, fd_true := _, F_true := fun_mk (st := s_true) L_true C_true K_true,
    b_true := (fun_mk (st := s_true) L_true C_true K_true).binds (ps := ["lot", "letter"]) fun _ _ _ _ _ _ us hl => match us, hl with | [_, _], _ => rfl,
    g_true := PySem.W.mg_of X G A_true,
    a_both := f_both, fd_both := _, F_both := fun_mk (st := s_both) L_both C_both K_both,
    b_both := (fun_mk (st := s_both) L_both C_both K_both).binds (ps := ["one", "other"]) fun _ _ _ _ _ _ us hl => match us, hl with | [_, _], _ => rfl,
    g_both := PySem.W.mg_of X G A_both,
    a_undone := f_undone, fd_undone := _, F_undone := fun_mk (st := s_undone) L_undone C_undone K_undone,
    b_undone := (fun_mk (st := s_undone) L_undone C_undone K_undone).binds (ps := ["lot"]) fun _ _ _ _ _ _ us hl => match us, hl with | [_], _ => rfl,
    g_undone := PySem.W.mg_of X G A_undone,
    a_turned := f_turned, fd_turned := _, F_turned := fun_mk (st := s_turned) L_turned C_turned K_turned,
    b_turned := (fun_mk (st := s_turned) L_turned C_turned K_turned).binds (ps := ["lot", "place"]) fun _ _ _ _ _ _ us hl => match us, hl with | [_, _], _ => rfl,
    g_turned := PySem.W.mg_of X G A_turned,
    a_Lfar := f_Lfar, fd_Lfar := _, F_Lfar := fun_mk (st := s_Lfar) L_Lfar C_Lfar K_Lfar,
    b_Lfar := (fun_mk (st := s_Lfar) L_Lfar C_Lfar K_Lfar).binds (ps := ["_law_pool_here", "_law_wide"]) fun _ _ _ _ _ _ us hl => match us, hl with | [_, _], _ => rfl,
    g_Lfar := PySem.W.mg_of X G A_Lfar,
    a_Lpool := f_Lpool, fd_Lpool := _, F_Lpool := fun_mk (st := s_Lpool) L_Lpool C_Lpool K_Lpool,
    b_Lpool := (fun_mk (st := s_Lpool) L_Lpool C_Lpool K_Lpool).binds (ps := ["_law_script", "_law_k"]) fun _ _ _ _ _ _ us hl => match us, hl with | [_, _], _ => rfl,
    g_Lpool := PySem.W.mg_of X G A_Lpool,
    a_Ltake := f_Ltake, fd_Ltake := _, F_Ltake := fun_mk (st := s_Ltake) L_Ltake C_Ltake K_Ltake,
    b_Ltake := (fun_mk (st := s_Ltake) L_Ltake C_Ltake K_Ltake).binds (ps := ["_law_pool_here", "_law_wide"]) fun _ _ _ _ _ _ us hl => match us, hl with | [_, _], _ => rfl,
    g_Ltake := PySem.W.mg_of X G A_Ltake,
    a_Lmix := f_Lmix, fd_Lmix := _, F_Lmix := fun_mk (st := s_Lmix) L_Lmix C_Lmix K_Lmix,
    b_Lmix := (fun_mk (st := s_Lmix) L_Lmix C_Lmix K_Lmix).binds (ps := ["_law_pool_here", "_law_things"]) fun _ _ _ _ _ _ us hl => match us, hl with | [_, _], _ => rfl,
    g_Lmix := PySem.W.mg_of X G A_Lmix,
    a_Lwhole := f_Lwhole, fd_Lwhole := _, F_Lwhole := fun_mk (st := s_Lwhole) L_Lwhole C_Lwhole K_Lwhole,
    b_Lwhole := (fun_mk (st := s_Lwhole) L_Lwhole C_Lwhole K_Lwhole).binds (ps := ["_law_thing"]) fun _ _ _ _ _ _ us hl => match us, hl with | [_], _ => rfl,
    g_Lwhole := PySem.W.mg_of X G A_Lwhole,
    a_Lsame := f_Lsame, fd_Lsame := _, F_Lsame := fun_mk (st := s_Lsame) L_Lsame C_Lsame K_Lsame,
    b_Lsame := (fun_mk (st := s_Lsame) L_Lsame C_Lsame K_Lsame).binds (ps := ["_law_found", "_law_due"]) fun _ _ _ _ _ _ us hl => match us, hl with | [_, _], _ => rfl,
    g_Lsame := PySem.W.mg_of X G A_Lsame,
    a_Ltrue := f_Ltrue, fd_Ltrue := _, F_Ltrue := fun_mk (st := s_Ltrue) L_Ltrue C_Ltrue K_Ltrue,
    b_Ltrue := (fun_mk (st := s_Ltrue) L_Ltrue C_Ltrue K_Ltrue).binds (ps := ["_law_lot", "_law_letter"]) fun _ _ _ _ _ _ us hl => match us, hl with | [_, _], _ => rfl,
    g_Ltrue := PySem.W.mg_of X G A_Ltrue,
    a_Loff := f_Loff, fd_Loff := _, F_Loff := fun_mk (st := s_Loff) L_Loff C_Loff K_Loff,
    b_Loff := (fun_mk (st := s_Loff) L_Loff C_Loff K_Loff).binds (ps := ["_law_place", "_law_letter", "_law_many"]) fun _ _ _ _ _ _ us hl => match us, hl with | [_, _, _], _ => rfl,
    g_Loff := PySem.W.mg_of X G A_Loff,
    a_Lturned := f_Lturned, fd_Lturned := _, F_Lturned := fun_mk (st := s_Lturned) L_Lturned C_Lturned K_Lturned,
    b_Lturned := (fun_mk (st := s_Lturned) L_Lturned C_Lturned K_Lturned).binds (ps := ["_law_lot", "_law_place"]) fun _ _ _ _ _ _ us hl => match us, hl with | [_, _], _ => rfl,
    g_Lturned := PySem.W.mg_of X G A_Lturned,
    a_law := fa, fd_law := _, F_law := fun_mk (st := s_law) L_law C_law K_law,
    b_law := (fun_mk (st := s_law) L_law C_law K_law).binds (ps := ["_law_script"]) fun _ _ _ _ _ _ us hl => match us, hl with | [_], _ => rfl,
    g_law := PySem.W.mg_of X G A_law,
    g_LETTERS := ⟨_, PySem.W.mg_of X G A_LETTERS⟩,
    a_STEPS := f_STEPS, g_STEPS := PySem.W.mg_of X G A_STEPS,
    v_STEPS_0 := ⟨_, ⟨_, _, _, D_STEPS, Y_STEPS, N_STEPS_0, rfl⟩, fun H => .inr ⟨_, _, _, V_STEPS_0, rfl, rfl, by show 2 ≤ sizeLine; decide, (.cons ⟨_, rfl⟩ (.cons ⟨_, rfl⟩ .nil))⟩⟩,
    v_STEPS_1 := ⟨_, ⟨_, _, _, D_STEPS, Y_STEPS, N_STEPS_1, rfl⟩, fun H => .inr ⟨_, _, _, V_STEPS_1, rfl, rfl, by show 2 ≤ sizeLine; decide, (.cons ⟨_, rfl⟩ (.cons ⟨_, rfl⟩ .nil))⟩⟩,
    v_STEPS_2 := ⟨_, ⟨_, _, _, D_STEPS, Y_STEPS, N_STEPS_2, rfl⟩, fun H => .inr ⟨_, _, _, V_STEPS_2, rfl, rfl, by show 2 ≤ sizeLine; decide, (.cons ⟨_, rfl⟩ (.cons ⟨_, rfl⟩ .nil))⟩⟩,
    v_STEPS_3 := ⟨_, ⟨_, _, _, D_STEPS, Y_STEPS, N_STEPS_3, rfl⟩, fun H => .inr ⟨_, _, _, V_STEPS_3, rfl, rfl, by show 2 ≤ sizeLine; decide, (.cons ⟨_, rfl⟩ (.cons ⟨_, rfl⟩ .nil))⟩⟩,
    m_abs := PySem.W.mg_none_of X G Z_abs, m_all := PySem.W.mg_none_of X G Z_all, m_bool := PySem.W.mg_none_of X G Z_bool, m_int := PySem.W.mg_none_of X G Z_int, m_isinstance := PySem.W.mg_none_of X G Z_isinstance, m_len := PySem.W.mg_none_of X G Z_len, m_list := PySem.W.mg_none_of X G Z_list, m_range := PySem.W.mg_none_of X G Z_range, m_str := PySem.W.mg_none_of X G Z_str, m_tuple := PySem.W.mg_none_of X G Z_tuple, m_zip := PySem.W.mg_none_of X G Z_zip }
  exact ⟨T.fd_law, fun s v => .of_eq rfl, fun base _ _ => ok_law T⟩
end M
open PySem PySem.W PyProof.Rows
set_option maxHeartbeats 0 in
theorem PySem.Challenge.cw_wayneedle_k04_places_turned_holds : PySem.Challenge.rw_wayneedle_k04_places_turned.Holds := by
  w_on; o_law; k_head; (case hw => w_witness2)
  k_fill
  refine L2.walk_of (l := PySem.Challenge.rw_wayneedle_k04_places_turned) (n := 63) (k := 6) (x := "_law_script") (CX := fun _ => L2.CX0) (sp := fun w => M.spLaw _) rfl (by decide) rfl ⟨rfl, by decide, by decide⟩ (fun w h Y => PySem.W.kIn_of Y) ?F (fun _ _ a ns hl _ hS => ⟨a, ns, rfl, hS, hl, fun _ => rfl⟩) (fun _ _ _ _ _ h => h)
  case F =>
    intro w mg fa h KX G hmg
    refine' M.all_mk KX G hmg ?A_is_whole ?L_is_whole ?C_is_whole ?K_is_whole ?A_step ?L_step ?C_step ?K_step ?A_is_lot ?L_is_lot ?C_is_lot ?K_is_lot ?A_refuse_unless_lot ?L_refuse_unless_lot ?C_refuse_unless_lot ?K_refuse_unless_lot ?A_mirrors ?L_mirrors ?C_mirrors ?K_mirrors ?A_true ?L_true ?C_true ?K_true ?A_both ?L_both ?C_both ?K_both ?A_undone ?L_undone ?C_undone ?K_undone ?A_turned ?L_turned ?C_turned ?K_turned ?A_Lfar ?L_Lfar ?C_Lfar ?K_Lfar ?A_Lpool ?L_Lpool ?C_Lpool ?K_Lpool ?A_Ltake ?L_Ltake ?C_Ltake ?K_Ltake ?A_Lmix ?L_Lmix ?C_Lmix ?K_Lmix ?A_Lwhole ?L_Lwhole ?C_Lwhole ?K_Lwhole ?A_Lsame ?L_Lsame ?C_Lsame ?K_Lsame ?A_Ltrue ?L_Ltrue ?C_Ltrue ?K_Ltrue ?A_Loff ?L_Loff ?C_Loff ?K_Loff ?A_Lturned ?L_Lturned ?C_Lturned ?K_Lturned ?A_law ?L_law ?C_law ?K_law ?A_LETTERS ?A_STEPS ?D_STEPS ?Y_STEPS ?N_STEPS_0 ?V_STEPS_0 ?N_STEPS_1 ?V_STEPS_1 ?N_STEPS_2 ?V_STEPS_2 ?N_STEPS_3 ?V_STEPS_3 ?Z_abs ?Z_all ?Z_bool ?Z_int ?Z_isinstance ?Z_len ?Z_list ?Z_range ?Z_str ?Z_tuple ?Z_zip
    (case A_is_whole => k_is); (case L_is_whole => k_is); (case C_is_whole => k_is); (case K_is_whole => k_is); (case A_step => k_is); (case L_step => k_is); (case C_step => k_is); (case K_step => k_is); (case A_is_lot => k_is); (case L_is_lot => k_is); (case C_is_lot => k_is); (case K_is_lot => k_is); (case A_refuse_unless_lot => k_is); (case L_refuse_unless_lot => k_is); (case C_refuse_unless_lot => k_is); (case K_refuse_unless_lot => k_is); (case A_mirrors => k_is); (case L_mirrors => k_is); (case C_mirrors => k_is); (case K_mirrors => k_is); (case A_true => k_is); (case L_true => k_is); (case C_true => k_is); (case K_true => k_is); (case A_both => k_is); (case L_both => k_is); (case C_both => k_is); (case K_both => k_is); (case A_undone => k_is); (case L_undone => k_is); (case C_undone => k_is); (case K_undone => k_is); (case A_turned => k_is); (case L_turned => k_is); (case C_turned => k_is); (case K_turned => k_is); (case A_Lfar => k_is); (case L_Lfar => k_is); (case C_Lfar => k_is); (case K_Lfar => k_is); (case A_Lpool => k_is); (case L_Lpool => k_is); (case C_Lpool => k_is); (case K_Lpool => k_is); (case A_Ltake => k_is); (case L_Ltake => k_is); (case C_Ltake => k_is); (case K_Ltake => k_is); (case A_Lmix => k_is); (case L_Lmix => k_is); (case C_Lmix => k_is); (case K_Lmix => k_is); (case A_Lwhole => k_is); (case L_Lwhole => k_is); (case C_Lwhole => k_is); (case K_Lwhole => k_is); (case A_Lsame => k_is); (case L_Lsame => k_is); (case C_Lsame => k_is); (case K_Lsame => k_is); (case A_Ltrue => k_is); (case L_Ltrue => k_is); (case C_Ltrue => k_is); (case K_Ltrue => k_is); (case A_Loff => k_is); (case L_Loff => k_is); (case C_Loff => k_is); (case K_Loff => k_is); (case A_Lturned => k_is); (case L_Lturned => k_is); (case C_Lturned => k_is); (case K_Lturned => k_is); (case A_law => k_is); (case L_law => k_is); (case C_law => k_is); (case K_law => k_is); (case A_LETTERS => k_is); (case A_STEPS => k_is); (case D_STEPS => k_is); (case Y_STEPS => k_keys); (case N_STEPS_0 => k_is); (case V_STEPS_0 => k_is); (case N_STEPS_1 => k_is); (case V_STEPS_1 => k_is); (case N_STEPS_2 => k_is); (case V_STEPS_2 => k_is); (case N_STEPS_3 => k_is); (case V_STEPS_3 => k_is); (case Z_abs => k_is); (case Z_all => k_is); (case Z_bool => k_is); (case Z_int => k_is); (case Z_isinstance => k_is); (case Z_len => k_is); (case Z_list => k_is); (case Z_range => k_is); (case Z_str => k_is); (case Z_tuple => k_is); (case Z_zip => k_is)
