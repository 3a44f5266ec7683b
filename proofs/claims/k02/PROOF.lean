import PyProof.Rows.All
import Wide.All
import OpenK.AllK
import Wide.FinOn
import HandS.ForMost
import HandS.IsInst
import HandS.Replace
import HandS.Wide
import HandS.NoneIn
import HandS.Walk
import HandS.Evl
import HandS.More
import HandS.Zip
import HandS.Conv
import KE.KxIndex
import PySem.Challenge.RW_wayneedle_k02_lots_truly
set_option Elab.async false
set_option linter.all false
set_option maxRecDepth 100000
set_option maxHeartbeats 4000000

namespace M
open PySem PySem.Spec PyProof.Rows L2
def topS (i : Nat) : Stmt := PySem.Challenge.pw_wayneedle_k02_lots_truly.main.body.getD i (.Pass ⟨0, 0, 0, 0⟩)
abbrev s_is_whole : Stmt := topS 1
theorem sc_is_whole : FnScope ["thing"] ["thing"] (defScope s_is_whole) := ⟨rfl, rfl, rfl, by decide +kernel, rfl, by decide +kernel, by decide +kernel⟩
abbrev s_is_lot : Stmt := topS 10
theorem sc_is_lot : FnScope ["thing"] ["thing"] (defScope s_is_lot) := ⟨rfl, rfl, rfl, by decide +kernel, rfl, by decide +kernel, by decide +kernel⟩
abbrev s_refuse_unless_lot : Stmt := topS 11
theorem sc_refuse_unless_lot : FnScope ["thing"] ["thing"] (defScope s_refuse_unless_lot) := ⟨rfl, rfl, rfl, by decide +kernel, rfl, by decide +kernel, by decide +kernel⟩
abbrev s_mirrors : Stmt := topS 12
theorem sc_mirrors : FnScope ["lot"] ["lot"] (defScope s_mirrors) := ⟨rfl, rfl, rfl, by decide +kernel, rfl, by decide +kernel, by decide +kernel⟩
abbrev s_true : Stmt := topS 13
theorem sc_true : FnScope ["lot", "letter", "at"] ["lot", "letter"] (defScope s_true) := ⟨rfl, rfl, rfl, by decide +kernel, rfl, by decide +kernel, by decide +kernel⟩
abbrev s_shown : Stmt := topS 14
theorem sc_shown : FnScope ["lot", "letter"] ["lot", "letter"] (defScope s_shown) := ⟨rfl, rfl, rfl, by decide +kernel, rfl, by decide +kernel, by decide +kernel⟩
abbrev s_undone : Stmt := topS 15
theorem sc_undone : FnScope ["lot"] ["lot"] (defScope s_undone) := ⟨rfl, rfl, rfl, by decide +kernel, rfl, by decide +kernel, by decide +kernel⟩
abbrev s_Lpool : Stmt := topS 17
theorem sc_Lpool : FnScope ["_law_script", "_law_k", "_law_cell", "_law_left"] ["_law_script", "_law_k"] (defScope s_Lpool) := ⟨rfl, rfl, rfl, by decide +kernel, rfl, by decide +kernel, by decide +kernel⟩
abbrev s_Ltake : Stmt := topS 18
theorem sc_Ltake : FnScope ["_law_pool_here", "_law_wide", "_law_found", "_law_primes", "_law_one", "_law_two"] ["_law_pool_here", "_law_wide"] (defScope s_Ltake) := ⟨rfl, rfl, rfl, by decide +kernel, rfl, by decide +kernel, by decide +kernel⟩
abbrev s_Lmix : Stmt := topS 19
theorem sc_Lmix : FnScope ["_law_pool_here", "_law_things", "_law_found", "_law_thing"] ["_law_pool_here", "_law_things"] (defScope s_Lmix) := ⟨rfl, rfl, rfl, by decide +kernel, rfl, by decide +kernel, by decide +kernel⟩
abbrev s_Lwhole : Stmt := topS 20
theorem sc_Lwhole : FnScope ["_law_thing"] ["_law_thing"] (defScope s_Lwhole) := ⟨rfl, rfl, rfl, by decide +kernel, rfl, by decide +kernel, by decide +kernel⟩
abbrev s_Lsame : Stmt := topS 21
theorem sc_Lsame : FnScope ["_law_found", "_law_due", "_law_one", "_law_other"] ["_law_found", "_law_due"] (defScope s_Lsame) := ⟨rfl, rfl, rfl, by decide +kernel, rfl, by decide +kernel, by decide +kernel⟩
abbrev s_Ltrue : Stmt := topS 22
theorem sc_Ltrue : FnScope ["_law_lot", "_law_letter", "_law_at"] ["_law_lot", "_law_letter"] (defScope s_Ltrue) := ⟨rfl, rfl, rfl, by decide +kernel, rfl, by decide +kernel, by decide +kernel⟩
abbrev s_law : Stmt := topS 23
theorem sc_law : FnScope ["_law_script", "_law_pool_here", "_law_pairs", "_law_lot", "_law_letter", "_law_due"] ["_law_script"] (defScope s_law) := ⟨rfl, rfl, rfl, by decide +kernel, rfl, by decide +kernel, by decide +kernel⟩
/-- what the top has left -/
structure Top (w : World) (K : PySem.W.Frag) (mg : Str → Option Value) where
  a_is_whole : Addr
  fd_is_whole : FuncData
  F_is_whole : Fun K "is_whole" "is_whole" s_is_whole a_is_whole fd_is_whole
  b_is_whole : Binds K fd_is_whole ["thing"] []
  g_is_whole : mg "is_whole" = some (.ref a_is_whole)
  a_is_lot : Addr
  fd_is_lot : FuncData
  F_is_lot : Fun K "is_lot" "is_lot" s_is_lot a_is_lot fd_is_lot
  b_is_lot : Binds K fd_is_lot ["thing"] []
  g_is_lot : mg "is_lot" = some (.ref a_is_lot)
  a_refuse_unless_lot : Addr
  fd_refuse_unless_lot : FuncData
  F_refuse_unless_lot : Fun K "refuse_unless_lot" "refuse_unless_lot" s_refuse_unless_lot a_refuse_unless_lot fd_refuse_unless_lot
  b_refuse_unless_lot : Binds K fd_refuse_unless_lot ["thing"] []
  g_refuse_unless_lot : mg "refuse_unless_lot" = some (.ref a_refuse_unless_lot)
  a_mirrors : Addr
  fd_mirrors : FuncData
  F_mirrors : Fun K "mirrors" "mirrors" s_mirrors a_mirrors fd_mirrors
  b_mirrors : Binds K fd_mirrors ["lot"] []
  g_mirrors : mg "mirrors" = some (.ref a_mirrors)
  a_true : Addr
  fd_true : FuncData
  F_true : Fun K "true" "true" s_true a_true fd_true
  b_true : Binds K fd_true ["lot", "letter"] []
  g_true : mg "true" = some (.ref a_true)
  a_shown : Addr
  fd_shown : FuncData
  F_shown : Fun K "shown" "shown" s_shown a_shown fd_shown
  b_shown : Binds K fd_shown ["lot", "letter"] []
  g_shown : mg "shown" = some (.ref a_shown)
  a_undone : Addr
  fd_undone : FuncData
  F_undone : Fun K "undone" "undone" s_undone a_undone fd_undone
  b_undone : Binds K fd_undone ["lot"] []
  g_undone : mg "undone" = some (.ref a_undone)
  a_Lpool : Addr
  fd_Lpool : FuncData
  F_Lpool : Fun K "_law_pool" "_law_pool" s_Lpool a_Lpool fd_Lpool
  b_Lpool : Binds K fd_Lpool ["_law_script", "_law_k"] []
  g_Lpool : mg "_law_pool" = some (.ref a_Lpool)
  a_Ltake : Addr
  fd_Ltake : FuncData
  F_Ltake : Fun K "_law_take" "_law_take" s_Ltake a_Ltake fd_Ltake
  b_Ltake : Binds K fd_Ltake ["_law_pool_here", "_law_wide"] []
  g_Ltake : mg "_law_take" = some (.ref a_Ltake)
  a_Lmix : Addr
  fd_Lmix : FuncData
  F_Lmix : Fun K "_law_mix" "_law_mix" s_Lmix a_Lmix fd_Lmix
  b_Lmix : Binds K fd_Lmix ["_law_pool_here", "_law_things"] []
  g_Lmix : mg "_law_mix" = some (.ref a_Lmix)
  a_Lwhole : Addr
  fd_Lwhole : FuncData
  F_Lwhole : Fun K "_law_whole" "_law_whole" s_Lwhole a_Lwhole fd_Lwhole
  b_Lwhole : Binds K fd_Lwhole ["_law_thing"] []
  g_Lwhole : mg "_law_whole" = some (.ref a_Lwhole)
  a_Lsame : Addr
  fd_Lsame : FuncData
  F_Lsame : Fun K "_law_same" "_law_same" s_Lsame a_Lsame fd_Lsame
  b_Lsame : Binds K fd_Lsame ["_law_found", "_law_due"] []
  g_Lsame : mg "_law_same" = some (.ref a_Lsame)
  a_Ltrue : Addr
  fd_Ltrue : FuncData
  F_Ltrue : Fun K "_law_true" "_law_true" s_Ltrue a_Ltrue fd_Ltrue
  b_Ltrue : Binds K fd_Ltrue ["_law_lot", "_law_letter"] []
  g_Ltrue : mg "_law_true" = some (.ref a_Ltrue)
  a_law : Addr
  fd_law : FuncData
  F_law : Fun K "law" "law" s_law a_law fd_law
  b_law : Binds K fd_law ["_law_script"] []
  g_law : mg "law" = some (.ref a_law)
  g_LETTERS : ∃ t, mg "LETTERS" = some (.str "nesw" t)
  m_abs : mg "abs" = none
  m_all : mg "all" = none
  m_bool : mg "bool" = none
  m_int : mg "int" = none
  m_isinstance : mg "isinstance" = none
  m_len : mg "len" = none
  m_list : mg "list" = none
  m_range : mg "range" = none
  m_str : mg "str" = none
  m_tuple : mg "tuple" = none
  m_zip : mg "zip" = none
/-! ### heaps, pools -/
/-- all but what stands at p is as it was -/
def But (p : Addr) (H H' : Hp) : Prop := ∀ b o, b ≠ p → H b = some o → H' b = some o
theorem But.refl (p : Addr) (H : Hp) : But p H H := fun _ _ _ h => h
theorem But.trans {p : Addr} {H H1 H2 : Hp} (a : But p H H1) (b : But p H1 H2) : But p H H2 := fun c o hc h => b c o hc (a c o hc h)
theorem But.of {p : Addr} {H H' : Hp} (a : Same H H') : But p H H' := fun b o _ h => a b o h
theorem But.upd {p : Addr} {H H' : Hp} {o : HO} (a : But p H H') : But p H (upd H' p o) := fun b u hb h => by
  rw [upd_ne hb]
  exact a b u hb h
theorem same_upd {H : Hp} {p : Addr} {o : HO} (h : H p = none) : Same H (upd H p o) := fun b x e => by
  rw [upd_ne (ne_of_none e h)]
  exact e
/-- changed at a new place alone -/
theorem But.same {p : Addr} {H H1 H2 : Hp} (n : H p = none) (a : Same H H1) (b : But p H1 H2) : Same H H2 := fun c o h => b c o (ne_of_none h n) (a c o h)
theorem But.free {p l : Addr} {H H1 : Hp} (a : But p H H1) (n : l ≠ p) (h : H1 l = none) : H l = none := by
  cases e : H l with
  | none => rfl
  | some o =>
    rw [a l o n e] at h
    cases h
/-- a change at a place that H doesn't know -/
theorem But.mut {p l : Addr} {H H1 : Hp} {o : HO} (a : But p H H1) (n : H l = none) : But p H (L2.upd H1 l o) := fun b u hb h => by
  rw [upd_ne (ne_of_none h n)]
  exact a b u hb h
/-- the spring of draws: four whole numbers, the first not below nought -/
def Pool (H : Hp) (p : Addr) : Prop := ∃ l c k n : Int, 0 ≤ l ∧ H p = some (.lst [.int l, .int c, .int k, .int n])
theorem Pool.same {H H' : Hp} {p : Addr} (h : Pool H p) (e : Same H H') : Pool H' p := by
  obtain ⟨l, c, k, n, h0, h1⟩ := h
  exact ⟨l, c, k, n, h0, e _ _ h1⟩
theorem Pool.ne_tup {H : Hp} {p q : Addr} {xs : List V} (h : Pool H p) (e : H q = some (.tup xs)) : q ≠ p := by
  obtain ⟨l, c, k, n, h0, h1⟩ := h
  exact ne_of e h1 (by intro z; cases z)
theorem Pool.ne_new {H : Hp} {p q : Addr} (h : Pool H p) (e : H q = none) : q ≠ p := by
  obtain ⟨l, c, k, n, h0, h1⟩ := h
  intro z
  rw [z, h1] at e
  cases e
theorem Pool.upd {H : Hp} {p q : Addr} {o : HO} (h : Pool H p) (e : q ≠ p) : Pool (L2.upd H q o) p := by
  obtain ⟨l, c, k, n, h0, h1⟩ := h
  refine ⟨l, c, k, n, h0, ?_⟩
  rw [upd_ne (Ne.symm e)]
  exact h1
theorem seq_but {K : PySem.W.Frag} {H H' : Hp} {p a : Addr} {xs : List V} (e : But p H H') (n : a ≠ p) (h : SqL K H a xs) : SqL K H' a xs := by
  rcases h with (h | ⟨o, h⟩) | h
  · exact .inl (.inl (e _ _ n h))
  · exact .inl (.inr ⟨o, e _ _ n h⟩)
  · exact .inr h
theorem abs_if (n : Int) : 0 ≤ (if n < 0 then -n else n) := by
  split <;> omega
local macro_rules | `(tactic| walk_at "go") => `(tactic| repeat (first
  | (with_reducible exact rfl)
  | (refine ⟨_, _, rfl, rfl, ?_⟩)
  | (refine ⟨_, rfl, ?_⟩)
  | (refine ⟨rfl, ?_⟩)))
def spPool (K : PySem.W.Frag) : Sp := fun vs H Q _ => ∃ (a : Addr) (ns : List Int) (k : Int), vs = [.ref a, .int k] ∧ SqL K H a (ns.map V.int) ∧ ns.length ≤ 63 ∧ 0 ≤ k ∧ ∀ H' p, Same H H' → H p = none → Pool H' p → Q (.ref p) H'
def spTake : Sp := fun vs H Q _ => ∃ (p : Addr) (m : Int), vs = [.ref p, .int m] ∧ 0 < m ∧ m < 2 ^ 200 ∧ Pool H p ∧ ∀ H' (r : Int), But p H H' → Pool H' p → 0 ≤ r → r < m → Q (.int r) H'
theorem iteY {c A B : Prop} [Decidable c] (hc : c) (h : A) : if decide c = true then A else B := by
  rw [if_pos (decide_eq_true hc)]
  exact h
theorem iteYn {c A B : Prop} [Decidable c] (hc : c) (h : B) : if (!decide c) = true then A else B := by
  rw [decide_eq_true hc]
  exact h
theorem iteDN {b : Bool} {A B : Prop} (hb : b = false) (h : B) : if b = true then A else B := by
  rw [hb]
  exact h
theorem iteDY {b : Bool} {A B : Prop} (hb : b = true) (h : A) : if b = true then A else B := by
  rw [hb]
  exact h
theorem iteNE {d e : PyData} {A B : Prop} (h : d = e) (hs : SeqAt.shaped d = true) (hB : B) : if (!PyData.eqv d e) = true then A else B := by
  subst h
  rw [SeqAt.eqv_refl d (SeqAt.canLay_of_shaped hs)]
  exact hB
theorem ne_no {x y : V} (e : x = y) : (!decide (x = y)) = false := by
  rw [decide_eq_true e]
  rfl
theorem iteN {x y : V} {A B : Prop} (e : x = y) (h : B) : if (!decide (x = y)) = true then A else B := by
  rw [ne_no e, if_neg Bool.false_ne_true]
  exact h
section
variable {P : Program} {w : World} {K : PySem.W.Frag} {mg : Str → Option Value} {base : Heap}
theorem ok_Lpool (T : Top w K mg) : FnOk P w K mg base CX0 1 T.a_Lpool T.fd_Lpool ["_law_script", "_law_k"] (spPool K) := by
  refine T.F_Lpool.ok sc_Lpool (fun vs H Q E h => ?_) (fun cdv A outer s H vs Q E hr h => ?_)
  · obtain ⟨a, ns, k, rfl, _⟩ := h
    rfl
  · obtain ⟨a, ns, k, rfl, hS, hlen, hk, q⟩ := h
    refine ⟨_, (pss_cons (ps_set (i := 2) sc_Lpool.nd rfl (.inl rfl) pe_int)
      (Evl.pss_cut (ps_if (pt_cmpR op_gt (pe_callB call_len_seq (by rfl) T.m_len (by decide +kernel) (pa_cons (pv 0) pa_nil)) pe_int (nomark _)) (pss_one (ps_set (i := 2) sc_Lpool.nd rfl (.inl rfl) (pe_ix ix_list (pv 0) (pe_op op_mod (pv 1) (pe_callB call_len_seq (by rfl) T.m_len (by decide +kernel) (pa_cons (pv 0) pa_nil))) (fun _ _ => rfl)))) pss_nil)
      (pss_cons (ps_set (i := 3) sc_Lpool.nd rfl (.inl rfl) pe_int)
      (pss_cons (ps_if (PW.pt (pw_and (pt_cmpR op_lt (pv 1) (pe_callB call_len_seq (by rfl) T.m_len (by decide +kernel) (pa_cons (pv 0) pa_nil)) (nomark _)) (pw_and1 (pt_cmpR op_ge (pe_callB call_abs (by rfl) T.m_abs (by decide +kernel) (pa_cons (pv 2) pa_nil)) (pe_op op_pow pe_int pe_int) (nomark _))))) (pss_one (ps_set (i := 3) sc_Lpool.nd rfl (.inl rfl) (pe_callB call_abs (by rfl) T.m_abs (by decide +kernel) (pa_cons (pv 2) pa_nil)))) pss_nil)
      (pss_one (ps_ret (pe_lst (pa_cons (pv 3) (pa_cons (pv 2) (pa_cons (pv 1) (pa_cons pe_int pa_nil))))))))))), ?_⟩
    have hL : ((ns.map V.int).length : Int) = ns.length := by rw [List.length_map]
    have fin : ∀ (l c : Int), 0 ≤ l → ∀ p, H p = none → Q (.ref p) (upd H p (.lst [.int l, .int c, .int k, .int 0])) := fun l c hl p hp =>
      q _ p (same_upd hp) hp ⟨l, c, k, 0, hl, upd_same⟩
    refine ⟨fun σ H' => H' = H ∧ ∃ c : Int, σ = [some (.ref a), some (.int k), some (.int c), none], ?_, ?_⟩
    · refine ⟨.ref a, rfl, a, ns.map V.int, rfl, .inl hS, _, _, rfl, rfl, _, rfl, ite2 (fun e => ?_) (fun e => ?_)⟩
      · have e0 : (0 : Int) < ((ns.map V.int).length : Int) := of_decide_eq_true e
        refine ⟨.ref a, rfl, .int k, rfl, .ref a, rfl, a, ns.map V.int, rfl, .inl hS, k, _, rfl, rfl, e0, ?_⟩
        have h1 := Int.emod_nonneg k (show ((ns.map V.int).length : Int) ≠ 0 by omega)
        have h2 := Int.emod_lt_of_pos k e0
        obtain ⟨j, hj⟩ : ∃ j : Nat, k % ((ns.map V.int).length : Int) = j := ⟨(k % ((ns.map V.int).length : Int)).toNat, by omega⟩
        have hj2 : j < ns.length := by omega
        have g : (ns.map V.int)[j]? = some (.int ns[j]) := by
          rw [List.getElem?_map, List.getElem?_eq_getElem hj2]
          rfl
        have gi : atI (ns.map V.int) (k % ((ns.map V.int).length : Int)) = some (.int ns[j]) := by
          rw [hj]
          exact atI_nat g
        exact ⟨a, _, _, _, rfl, rfl, hS, gi, rfl, _, rfl⟩
      · exact ⟨rfl, 0, rfl⟩
    · rintro σ H' ⟨rfl, c, rfl⟩
      refine ⟨.int k, rfl, .ref a, rfl, a, ns.map V.int, rfl, .inl hS, _, _, rfl, rfl, _, rfl, ite2 (fun e => ?_) (fun e => ?_)⟩
      · refine ⟨.int c, rfl, c, rfl, _, _, rfl, rfl, ⟨by decide, by decide, by decide⟩, _, _, rfl, rfl, _, rfl, ite2 (fun e => ?_) (fun e => ?_)⟩
        · exact ⟨.int c, rfl, c, rfl, _, rfl, _, rfl, _, rfl, by show 4 ≤ sizeLine; decide, fin _ c (abs_if c)⟩
        · exact ⟨_, rfl, _, rfl, _, rfl, by show 4 ≤ sizeLine; decide, fin 0 c (by decide)⟩
      · refine ite2 (fun e2 => by cases e2) (fun _ => ?_)
        exact ⟨_, rfl, _, rfl, _, rfl, by show 4 ≤ sizeLine; decide, fin 0 c (by decide)⟩
def primes : List Int := [2147483629, 2147483587, 2147483579, 2147483563, 2147483549, 2147483543, 2147483497, 2147483489]
theorem primes_at {i : Int} (h0 : 0 ≤ i) (h1 : i < 8) : ∃ p : Int, atI (primes.map V.int) i = some (.int p) ∧ 0 < p ∧ p < 2147483647 := by
  obtain rfl | rfl | rfl | rfl | rfl | rfl | rfl | rfl : i = 0 ∨ i = 1 ∨ i = 2 ∨ i = 3 ∨ i = 4 ∨ i = 5 ∨ i = 6 ∨ i = 7 := by omega
  all_goals exact ⟨_, rfl, by decide, by decide⟩
theorem pow_ok (a : Int) : CPow (a % 2147483647) 5 := by
  have h1 := Int.emod_nonneg a (show (2147483647 : Int) ≠ 0 by decide)
  have h2 := Int.emod_lt_of_pos a (show (0 : Int) < 2147483647 by decide)
  exact ⟨by decide, by decide, by omega⟩
theorem ok_Ltake (T : Top w K mg) : FnOk P w K mg base CX0 1 T.a_Ltake T.fd_Ltake ["_law_pool_here", "_law_wide"] spTake := by
  refine T.F_Ltake.ok sc_Ltake (fun vs H Q E h => ?_) (fun cdv A outer s H vs Q E hr h => ?_)
  · obtain ⟨p, m, rfl, _⟩ := h
    rfl
  · obtain ⟨p, m, rfl, hm, hb, ⟨l, c, k, n, hl, hp⟩, q⟩ := h
    refine ⟨_, (pss_cons (ps_if (pt_cmpR op_gt (pe_ix ix_list (pv 0) pe_int (fun _ _ => rfl)) pe_int (nomark _)) (pss_cons (ps_set (i := 2) sc_Ltake.nd rfl (.inl rfl) (pe_op op_mod (pe_ix ix_list (pv 0) pe_int (fun _ _ => rfl)) (pv 1)))
      (pss_cons (ps_asg (pe_op op_fdivW (pe_ix ix_list (pv 0) pe_int (fun _ _ => rfl)) (pv 1)) (pg_sub (pv 0) pe_int set_list))
      (pss_one (ps_ret (pv 2))))) pss_nil)
      (pss_cons (ps_asg (pe_op op_add (pe_ix ix_list (pv 0) pe_int (fun _ _ => rfl)) pe_int) (pg_sub (pv 0) pe_int set_list))
      (pss_cons (ps_set (i := 3) sc_Ltake.nd rfl (.inl rfl) (pe_lst (pa_cons pe_int (pa_cons pe_int (pa_cons pe_int (pa_cons pe_int (pa_cons pe_int (pa_cons pe_int (pa_cons pe_int (pa_cons pe_int pa_nil))))))))))
      (pss_cons (ps_set (i := 4) sc_Ltake.nd rfl (.inl rfl) (pe_op op_mod (pe_op op_add (pe_op op_add (pe_op op_add (pe_ix ix_list (pv 0) pe_int (fun _ _ => rfl)) (pe_op op_mul pe_int (pe_ix ix_list (pv 0) pe_int (fun _ _ => rfl)))) (pe_op op_mul pe_int (pe_ix ix_list (pv 0) pe_int (fun _ _ => rfl)))) pe_int) pe_int))
      (pss_cons (ps_set (i := 4) sc_Ltake.nd rfl (.inl rfl) (pe_op op_mod (pe_op op_pow (pv 4) pe_int) (pe_ix ix_list (pv 3) (pe_op op_mod (pe_ix ix_list (pv 0) pe_int (fun _ _ => rfl)) pe_int) (fun _ _ => rfl))))
      (pss_cons (ps_set (i := 5) sc_Ltake.nd rfl (.inl rfl) (pe_op op_mod (pe_op op_add (pe_op op_add (pv 4) (pe_op op_mul pe_int (pe_ix ix_list (pv 0) pe_int (fun _ _ => rfl)))) (pe_ix ix_list (pv 0) pe_int (fun _ _ => rfl))) pe_int))
      (pss_one (ps_ret (pe_op op_mod (pe_op op_add (pe_op op_mul (pe_op op_mod (pe_op op_pow (pv 5) pe_int) pe_int) pe_int) (pv 4)) (pv 1)))))))))), ?_⟩
    refine ⟨.ref p, rfl, p, _, 0, .int l, rfl, rfl, .inl (.inl hp), rfl, _, _, rfl, rfl, _, rfl, ite2 (fun e => ?_) (fun e => ?_)⟩
    · refine ⟨.ref p, rfl, p, _, 0, .int l, rfl, rfl, .inl (.inl hp), rfl, .int m, rfl, l, m, rfl, rfl, hm, ?_⟩
      refine ⟨.ref p, rfl, p, _, 0, .int l, rfl, rfl, .inl (.inl hp), rfl, .int m, rfl, l, m, rfl, rfl, wide_div (b := 200) hm (by omega) (by decide) (by decide), ?_⟩
      refine ⟨.ref p, rfl, p, _, 0, 0, rfl, rfl, hp, rfl, ?_⟩
      refine ⟨_, rfl, q _ _ (But.refl p H).upd ⟨l / m, c, k, n, Int.ediv_nonneg hl (by omega), ?_⟩ (Int.emod_nonneg l (by omega)) (Int.emod_lt_of_pos l hm)⟩
      exact upd_same
    · refine ⟨.ref p, rfl, p, _, 3, .int n, rfl, rfl, .inl (.inl hp), rfl, n, 1, rfl, rfl, .ref p, rfl, p, _, 3, 3, rfl, rfl, hp, rfl, ?_⟩
      refine ⟨by show 8 ≤ sizeLine; decide, fun o no => ?_⟩
      have hop : o ≠ p := fun z => by
        rw [z, upd_same] at no
        cases no
      have h3 : (upd (upd H p (.lst [.int l, .int c, .int k, .int (n + 1)])) o (.lst (primes.map V.int))) p = some (.lst [.int l, .int c, .int k, .int (n + 1)]) := by
        rw [upd_ne (Ne.symm hop), upd_same]
      have h4 : (upd (upd H p (.lst [.int l, .int c, .int k, .int (n + 1)])) o (.lst (primes.map V.int))) o = some (.lst (primes.map V.int)) := upd_same
      have bt : But p H (upd (upd H p (.lst [.int l, .int c, .int k, .int (n + 1)])) o (.lst (primes.map V.int))) := fun b u hb h => by
        have nb : b ≠ o := fun z => by
          have : (upd H p (.lst [.int l, .int c, .int k, .int (n + 1)])) b = some u := by
            rw [upd_ne hb]
            exact h
          rw [z] at this
          exact absurd (this.symm.trans no) (by intro z; cases z)
        rw [upd_ne nb, upd_ne hb]
        exact h
      have i8 : 0 ≤ (n + 1) % 8 := Int.emod_nonneg _ (by decide)
      have j8 : (n + 1) % 8 < 8 := Int.emod_lt_of_pos _ (by decide)
      obtain ⟨pr, hpr, pr0, pr1⟩ := primes_at i8 j8
      refine ⟨.ref p, rfl, p, _, 1, .int c, rfl, rfl, .inl (.inl h3), rfl, .ref p, rfl, p, _, 2, .int k, rfl, rfl, .inl (.inl h3), rfl, 7919, k, rfl, rfl, .inl ⟨by decide, by decide⟩, _, _, rfl, rfl, .ref p, rfl, p, _, 3, .int (n + 1), rfl, rfl, .inl (.inl h3), rfl, 104729, n + 1, rfl, rfl, .inl ⟨by decide, by decide⟩, _, _, rfl, rfl, _, _, rfl, rfl, _, _, rfl, rfl, (by show (0 : Int) < 2147483647; decide), ?_⟩
      refine ⟨_, rfl, _, _, rfl, rfl, pow_ok _, .ref o, rfl, .ref p, rfl, p, _, 3, .int (n + 1), rfl, rfl, .inl (.inl h3), rfl, _, _, rfl, rfl, (by show (0 : Int) < 8; decide), o, _, _, .int pr, rfl, rfl, .inl (.inl h4), hpr, _, _, rfl, rfl, pr0, ?_⟩
      refine ⟨_, rfl, .ref p, rfl, p, _, 2, .int k, rfl, rfl, .inl (.inl h3), rfl, 40692, k, rfl, rfl, .inl ⟨by decide, by decide⟩, _, _, rfl, rfl, .ref p, rfl, p, _, 3, .int (n + 1), rfl, rfl, .inl (.inl h3), rfl, _, _, rfl, rfl, _, _, rfl, rfl, (by show (0 : Int) < 2147483647; decide), ?_⟩
      refine ⟨_, rfl, _, _, rfl, rfl, pow_ok _, _, _, rfl, rfl, (by show (0 : Int) < 2147483647; decide), _, _, rfl, rfl, .inr ⟨by decide, by decide⟩, _, rfl, _, _, rfl, rfl, .int m, rfl, _, _, rfl, rfl, hm, ?_⟩
      exact q _ _ bt ⟨l, c, k, n + 1, hl, h3⟩ (Int.emod_nonneg _ (by omega)) (Int.emod_lt_of_pos _ hm)
/-! ### data alike -/
theorem sqt_same {K : PySem.W.Frag} {H H' : Hp} {a : Addr} {xs : List V} (e : Same H H') (h : SqT K H a xs) : SqT K H' a xs := Evl.ex_t (show Evl.Ex H H' from e) h
mutual
theorem dp_same {K : PySem.W.Frag} {H H' : Hp} (e : Same H H') : ∀ (d : PyData) (v : V), Dp K H v d → Dp K H' v d
  | .none, _, h => by cases h; exact .non
  | .bool b, _, h => by cases h; exact .bl b
  | .int i, _, h => by cases h; exact .int i
  | .str x, _, h => by cases h; exact .str x
  | .list ds, _, h => by
    cases h with
    | lst hs ha => exact .lst (e.seq hs) (dpa_same e ds _ ha)
  | .tuple ds, _, h => by
    cases h with
    | tup hs ha => exact .tup (sqt_same e hs) (dpa_same e ds _ ha)
  | .dict _, _, h => by cases h
theorem dpa_same {K : PySem.W.Frag} {H H' : Hp} (e : Same H H') : ∀ (ds : List PyData) (vs : List V), DpAll K H vs ds → DpAll K H' vs ds
  | [], _, h => by cases h; exact .nil
  | d :: ds, _, h => by
    cases h with
    | cons h1 h2 => exact .cons (dp_same e d _ h1) (dpa_same e ds _ h2)
end
theorem dpa_len {K : PySem.W.Frag} {H : Hp} : ∀ (ds : List PyData) (vs : List V), DpAll K H vs ds → vs.length = ds.length
  | [], _, h => by cases h; rfl
  | d :: ds, _, h => by
    cases h with
    | cons h1 h2 =>
      rw [List.length_cons, List.length_cons, dpa_len ds _ h2]
theorem dpa_at {K : PySem.W.Frag} {H : Hp} : ∀ (ds : List PyData) (vs : List V), DpAll K H vs ds → ∀ (i : Nat) (v : V), vs[i]? = some v → ∃ d, ds[i]? = some d ∧ Dp K H v d
  | [], _, h, i, v, e => by cases h; cases e
  | d :: ds, _, h, i, v, e => by
    cases h with
    | cons h1 h2 =>
      cases i with
      | zero =>
        cases e
        exact ⟨d, rfl, h1⟩
      | succ j => exact dpa_at ds _ h2 j v e
theorem ty_tup {K : PySem.W.Frag} {H : Hp} {a : Addr} {xs : List V} (h : SqT K H a xs) : TyX K H (.ref a) (.type "tuple") := by
  rcases h with (h | ⟨o, h⟩) | ⟨o, its, n, lk, hc, _⟩
  · exact .base (.tup h)
  · exact .fTuple h
  · exact .kTuple lk hc
/-- none, truths, whole numbers, texts, and tuples of these, at most n deep -/
def okD : Nat → PyData → Bool
  | _, .none => true
  | _, .bool _ => true
  | _, .int _ => true
  | _, .str _ => true
  | n + 1, .tuple ds => decide (ds.length ≤ 1000) && ds.all fun d => okD n d
  | _, _ => false
theorem walk_zipT {K : PySem.W.Frag} {a b : Addr} {xs ys : List V} {n : Nat} (hn : n = min xs.length ys.length) : Walk (RZ.ItzT K a b) n (fun H => SqT K H a xs ∧ SqT K H b ys) (YPair (fun i => xs[i]?) (fun i => ys[i]?)) where
  goes := fun i H lt ⟨p, q⟩ => ⟨xs, ys, _, _, p, q, List.getElem?_eq_getElem (by omega), List.getElem?_eq_getElem (by omega)⟩
  stops := fun H ⟨p, q⟩ => ⟨xs, ys, p, q, by omega⟩
  yields := fun i H v H' _ ⟨p, q⟩ ⟨T, x, y, e1, e2, e3, e4, e5⟩ => ⟨T, x, y, e1, e2, e3, e4 xs p, e5 ys q⟩
theorem all_true : ∀ n : Nat, (List.replicate n true).all id = true
  | 0 => rfl
  | n + 1 => by rw [List.replicate_succ, List.all_cons, all_true n]; rfl
def spWhole : Sp := fun vs H Q _ => ∃ i : Int, vs = [.int i] ∧ Q (.bl true) H
theorem ok_Lwhole (T : Top w K mg) : FnOk P w K mg base CX0 1 T.a_Lwhole T.fd_Lwhole ["_law_thing"] spWhole := by
  refine T.F_Lwhole.ok sc_Lwhole (fun vs H Q E h => ?_) (fun cdv A outer s H vs Q E hr h => ?_)
  · obtain ⟨i, rfl, _⟩ := h
    rfl
  · obtain ⟨i, rfl, q⟩ := h
    refine ⟨_, (pss_one (ps_ret (pe_and (pe_callB call_isi (by rfl) T.m_isinstance (by decide +kernel) (pa_cons (pv 0) (pa_cons (pe_bltn (v := .ty "int") (by rfl) T.m_int (by decide +kernel) rfl) pa_nil))) (pe_one (pe_not (pe_callB call_isi (by rfl) T.m_isinstance (by decide +kernel) (pa_cons (pv 0) (pa_cons (pe_bltn (v := .ty "bool") (by rfl) T.m_bool (by decide +kernel) rfl) pa_nil)))))))), ?_⟩
    refine ⟨.int i, rfl, _, _, _, _, true, rfl, .ty _, .base (.int i), kit_ty (by decide +kernel), _, rfl, iteT ?_⟩
    exact ⟨.int i, rfl, _, _, _, _, false, rfl, .ty _, .base (.int i), kit_ty (by decide +kernel), _, rfl, q⟩
def spSame (K : PySem.W.Frag) (n : Nat) : Sp := fun vs H Q _ => ∃ (x y : V) (d : PyData), vs = [x, y] ∧ Dp K H x d ∧ Dp K H y d ∧ okD n d = true ∧ ∀ H', Same H H' → Q (.bl true) H'
theorem ok_Lsame0 (T : Top w K mg) : FnOk P w K mg base CX0 2 T.a_Lsame T.fd_Lsame ["_law_found", "_law_due"] (spSame K 0) := by
  have G_Lwhole := ok_Lwhole (P := P) (w := w) (base := base) T
  refine T.F_Lsame.ok sc_Lsame (fun vs H Q E h => ?_) (fun cdv A outer s H vs Q E hr h => ?_)
  · obtain ⟨x, y, d, rfl, _⟩ := h
    rfl
  · obtain ⟨x, y, d, rfl, hx, hy, ok, q⟩ := h
    refine ⟨_, (pss_cons (ps_if (pt_val (pe_callB call_isi (by rfl) T.m_isinstance (by decide +kernel) (pa_cons (pv 1) (pa_cons (pe_bltn (v := .ty "tuple") (by rfl) T.m_tuple (by decide +kernel) rfl) pa_nil)))) pss_never pss_nil)
      (pss_cons (ps_if (pt_cmpR op_isN (pv 1) pe_non (nomark _)) (pss_one (ps_ret (pe_cmpR op_isN (pv 0) pe_non (nomark _)))) pss_nil)
      (pss_cons (ps_if (pt_val (pe_callB call_isi (by rfl) T.m_isinstance (by decide +kernel) (pa_cons (pv 1) (pa_cons (pe_bltn (v := .ty "bool") (by rfl) T.m_bool (by decide +kernel) rfl) pa_nil)))) (pss_one (ps_ret (pe_and (pe_callB call_isi (by rfl) T.m_isinstance (by decide +kernel) (pa_cons (pv 0) (pa_cons (pe_bltn (v := .ty "bool") (by rfl) T.m_bool (by decide +kernel) rfl) pa_nil))) (pe_one (pe_cmpR op_eq (pv 0) (pv 1) (nomark _)))))) pss_nil)
      (pss_cons (ps_if (pt_val (pe_callB call_isi (by rfl) T.m_isinstance (by decide +kernel) (pa_cons (pv 1) (pa_cons (pe_bltn (v := .ty "str") (by rfl) T.m_str (by decide +kernel) rfl) pa_nil)))) (pss_one (ps_ret (pe_and (pe_callB call_isi (by rfl) T.m_isinstance (by decide +kernel) (pa_cons (pv 0) (pa_cons (pe_bltn (v := .ty "str") (by rfl) T.m_str (by decide +kernel) rfl) pa_nil))) (pe_one (pe_cmpR op_eq (pv 0) (pv 1) (nomark _)))))) pss_nil)
      (pss_one (ps_ret (pe_and (pe_call G_Lwhole (hr.mono (by omega)) (by rfl) T.g_Lwhole T.F_Lwhole.kp T.b_Lwhole .nil pass0 (pa_cons (pv 0) pa_nil)) (pe_one (pe_cmpR op_eq (pv 0) (pv 1) (nomark _)))))))))), ?_⟩
    have Q0 := q H (Same.refl H)
    cases d with
    | none =>
      cases hx
      cases hy
      exact ⟨.non, rfl, _, _, _, _, false, rfl, .ty _, .base .non, kit_ty (by decide +kernel), _, rfl, iteF ⟨.non, rfl, rfl, _, rfl, iteT ⟨.non, rfl, rfl, Q0⟩⟩⟩
    | bool b =>
      cases hx
      cases hy
      refine ⟨.bl b, rfl, _, _, _, _, false, rfl, .ty _, .base (.bl b), kit_ty (by decide +kernel), _, rfl, iteF ⟨.bl b, rfl, rfl, _, rfl, iteF ?_⟩⟩
      refine ⟨.bl b, rfl, _, _, _, _, true, rfl, .ty _, .base (.bl b), kit_ty (by decide +kernel), _, rfl, iteT ?_⟩
      refine ⟨.bl b, rfl, _, _, _, _, true, rfl, .ty _, .base (.bl b), kit_ty (by decide +kernel), _, rfl, iteT ⟨.bl b, rfl, .bl b, rfl, rfl, ?_⟩⟩
      rw [decide_eq_true rfl]
      exact Q0
    | int i =>
      cases hx
      cases hy
      refine ⟨.int i, rfl, _, _, _, _, false, rfl, .ty _, .base (.int i), kit_ty (by decide +kernel), _, rfl, iteF ⟨.int i, rfl, rfl, _, rfl, iteF ?_⟩⟩
      refine ⟨.int i, rfl, _, _, _, _, false, rfl, .ty _, .base (.int i), kit_ty (by decide +kernel), _, rfl, iteF ?_⟩
      refine ⟨.int i, rfl, _, _, _, _, false, rfl, .ty _, .base (.int i), kit_ty (by decide +kernel), _, rfl, iteF ?_⟩
      refine ⟨.int i, rfl, i, rfl, _, rfl, iteT ⟨.int i, rfl, .int i, rfl, rfl, ?_⟩⟩
      rw [decide_eq_true rfl]
      exact Q0
    | str z =>
      cases hx
      cases hy
      refine ⟨.str z, rfl, _, _, _, _, false, rfl, .ty _, .base (.str z), kit_ty (by decide +kernel), _, rfl, iteF ⟨.str z, rfl, rfl, _, rfl, iteF ?_⟩⟩
      refine ⟨.str z, rfl, _, _, _, _, false, rfl, .ty _, .base (.str z), kit_ty (by decide +kernel), _, rfl, iteF ?_⟩
      refine ⟨.str z, rfl, _, _, _, _, true, rfl, .ty _, .base (.str z), kit_ty (by decide +kernel), _, rfl, iteT ?_⟩
      refine ⟨.str z, rfl, _, _, _, _, true, rfl, .ty _, .base (.str z), kit_ty (by decide +kernel), _, rfl, iteT ⟨.str z, rfl, .str z, rfl, rfl, ?_⟩⟩
      rw [decide_eq_true rfl]
      exact Q0
    | list ds => cases ok
    | tuple ds => cases ok
    | dict ds => cases ok
theorem ok_LsameS (T : Top w K mg) {n : Nat} (G_Lsame : FnOk P w K mg base CX0 (n + 2) T.a_Lsame T.fd_Lsame ["_law_found", "_law_due"] (spSame K n)) : FnOk P w K mg base CX0 (n + 3) T.a_Lsame T.fd_Lsame ["_law_found", "_law_due"] (spSame K (n + 1)) := by
  have G_Lwhole := ok_Lwhole (P := P) (w := w) (base := base) T
  refine T.F_Lsame.ok sc_Lsame (fun vs H Q E h => ?_) (fun cdv A outer s H vs Q E hr h => ?_)
  · obtain ⟨x, y, d, rfl, _⟩ := h
    rfl
  · obtain ⟨x, y, d, rfl, hx, hy, ok, q⟩ := h
    refine ⟨_, (pss_cons (ps_if (pt_val (pe_callB call_isi (by rfl) T.m_isinstance (by decide +kernel) (pa_cons (pv 1) (pa_cons (pe_bltn (v := .ty "tuple") (by rfl) T.m_tuple (by decide +kernel) rfl) pa_nil)))) (pss_cons (ps_if (PW.pt (pw_or (pt_not (pt_val (pe_callB call_isi (by rfl) T.m_isinstance (by decide +kernel) (pa_cons (pv 0) (pa_cons (pe_bltn (v := .ty "tuple") (by rfl) T.m_tuple (by decide +kernel) rfl) pa_nil))))) (pw_or1 (pt_cmpR op_ne (pe_callB call_len_seq (by rfl) T.m_len (by decide +kernel) (pa_cons (pv 0) pa_nil)) (pe_callB call_len_seq (by rfl) T.m_len (by decide +kernel) (pa_cons (pv 1) pa_nil)) (nomark _))))) (pss_one (ps_ret pe_bl)) pss_nil)
      (pss_one (ps_ret (pe_callB (cr_all rfl) (by rfl) T.m_all (by decide +kernel) (pa_cons (pe_lc (own := [("_law_one", 2), ("_law_other", 3)]) (g := gTup K 2 (gCons (gName 2) (gCons (gName 3) gNil))) (by rfl) sc_Lsame.nd (RZ.pi_zipA (by rfl) T.m_zip (pa_cons (pv 0) (pa_cons (pv 1) pa_nil))) (blkOk_by (own := [("_law_one", 2), ("_law_other", 3)]) (N := ["_law_found", "_law_due", "_law_one", "_law_other"]) (sc := defScope s_Lsame) (by decide +kernel)) (fun _ _ _ _ _ => (pg_tup rfl (pgs_cons (pg_name (i := 2) sc_Lsame.nd rfl (Or.inl rfl)) (pgs_cons (pg_name (i := 3) sc_Lsame.nd rfl (Or.inl rfl)) pgs_nil)))) (fun _ _ _ _ _ => pts_nil) (fun _ _ _ _ _ => (pe_call G_Lsame hr (by rfl) T.g_Lsame T.F_Lsame.kp T.b_Lsame .nil pass0 (pa_cons (pv 2) (pa_cons (pv 3) pa_nil))))) pa_nil))))) pss_nil)
      (pss_cons (ps_if (pt_cmpR op_isN (pv 1) pe_non (nomark _)) (pss_one (ps_ret (pe_cmpR op_isN (pv 0) pe_non (nomark _)))) pss_nil)
      (pss_cons (ps_if (pt_val (pe_callB call_isi (by rfl) T.m_isinstance (by decide +kernel) (pa_cons (pv 1) (pa_cons (pe_bltn (v := .ty "bool") (by rfl) T.m_bool (by decide +kernel) rfl) pa_nil)))) (pss_one (ps_ret (pe_and (pe_callB call_isi (by rfl) T.m_isinstance (by decide +kernel) (pa_cons (pv 0) (pa_cons (pe_bltn (v := .ty "bool") (by rfl) T.m_bool (by decide +kernel) rfl) pa_nil))) (pe_one (pe_cmpR op_eq (pv 0) (pv 1) (nomark _)))))) pss_nil)
      (pss_cons (ps_if (pt_val (pe_callB call_isi (by rfl) T.m_isinstance (by decide +kernel) (pa_cons (pv 1) (pa_cons (pe_bltn (v := .ty "str") (by rfl) T.m_str (by decide +kernel) rfl) pa_nil)))) (pss_one (ps_ret (pe_and (pe_callB call_isi (by rfl) T.m_isinstance (by decide +kernel) (pa_cons (pv 0) (pa_cons (pe_bltn (v := .ty "str") (by rfl) T.m_str (by decide +kernel) rfl) pa_nil))) (pe_one (pe_cmpR op_eq (pv 0) (pv 1) (nomark _)))))) pss_nil)
      (pss_one (ps_ret (pe_and (pe_call G_Lwhole (hr.mono (by omega)) (by rfl) T.g_Lwhole T.F_Lwhole.kp T.b_Lwhole .nil pass0 (pa_cons (pv 0) pa_nil)) (pe_one (pe_cmpR op_eq (pv 0) (pv 1) (nomark _)))))))))), ?_⟩
    have Q0 := q H (Same.refl H)
    cases d with
    | none =>
      cases hx
      cases hy
      exact ⟨.non, rfl, _, _, _, _, false, rfl, .ty _, .base .non, kit_ty (by decide +kernel), _, rfl, iteF ⟨.non, rfl, rfl, _, rfl, iteT ⟨.non, rfl, rfl, Q0⟩⟩⟩
    | bool b =>
      cases hx
      cases hy
      refine ⟨.bl b, rfl, _, _, _, _, false, rfl, .ty _, .base (.bl b), kit_ty (by decide +kernel), _, rfl, iteF ⟨.bl b, rfl, rfl, _, rfl, iteF ?_⟩⟩
      refine ⟨.bl b, rfl, _, _, _, _, true, rfl, .ty _, .base (.bl b), kit_ty (by decide +kernel), _, rfl, iteT ?_⟩
      refine ⟨.bl b, rfl, _, _, _, _, true, rfl, .ty _, .base (.bl b), kit_ty (by decide +kernel), _, rfl, iteT ⟨.bl b, rfl, .bl b, rfl, rfl, ?_⟩⟩
      rw [decide_eq_true rfl]
      exact Q0
    | int i =>
      cases hx
      cases hy
      refine ⟨.int i, rfl, _, _, _, _, false, rfl, .ty _, .base (.int i), kit_ty (by decide +kernel), _, rfl, iteF ⟨.int i, rfl, rfl, _, rfl, iteF ?_⟩⟩
      refine ⟨.int i, rfl, _, _, _, _, false, rfl, .ty _, .base (.int i), kit_ty (by decide +kernel), _, rfl, iteF ?_⟩
      refine ⟨.int i, rfl, _, _, _, _, false, rfl, .ty _, .base (.int i), kit_ty (by decide +kernel), _, rfl, iteF ?_⟩
      refine ⟨.int i, rfl, i, rfl, _, rfl, iteT ⟨.int i, rfl, .int i, rfl, rfl, ?_⟩⟩
      rw [decide_eq_true rfl]
      exact Q0
    | str z =>
      cases hx
      cases hy
      refine ⟨.str z, rfl, _, _, _, _, false, rfl, .ty _, .base (.str z), kit_ty (by decide +kernel), _, rfl, iteF ⟨.str z, rfl, rfl, _, rfl, iteF ?_⟩⟩
      refine ⟨.str z, rfl, _, _, _, _, false, rfl, .ty _, .base (.str z), kit_ty (by decide +kernel), _, rfl, iteF ?_⟩
      refine ⟨.str z, rfl, _, _, _, _, true, rfl, .ty _, .base (.str z), kit_ty (by decide +kernel), _, rfl, iteT ?_⟩
      refine ⟨.str z, rfl, _, _, _, _, true, rfl, .ty _, .base (.str z), kit_ty (by decide +kernel), _, rfl, iteT ⟨.str z, rfl, .str z, rfl, rfl, ?_⟩⟩
      rw [decide_eq_true rfl]
      exact Q0
    | list ds => cases ok
    | dict ds => cases ok
    | tuple ds =>
      cases hx with
      | @tup a xs _ sx ax =>
        cases hy with
        | @tup b ys _ sy ay =>
          have lx := dpa_len ds xs ax
          have ly := dpa_len ds ys ay
          obtain ⟨okL, okA⟩ := Bool.and_eq_true_iff.mp (show (decide (ds.length ≤ 1000) && ds.all fun d => okD n d) = true from ok)
          have okl : ds.length ≤ 1000 := of_decide_eq_true okL
          refine ⟨.ref b, rfl, _, _, _, _, true, rfl, .ty _, ty_tup sy, kit_ty (by decide +kernel), _, rfl, iteT ?_⟩
          refine ⟨.ref a, rfl, _, _, _, _, true, rfl, .ty _, ty_tup sx, kit_ty (by decide +kernel), _, rfl, iteF ?_⟩
          refine ⟨.ref a, rfl, a, xs, rfl, .inr sx, .ref b, rfl, b, ys, rfl, .inr sy, rfl, _, rfl, iteN (by rw [lx, ly]) ?_⟩
          refine ⟨.ref a, rfl, .ref b, rfl, a, b, xs, ys, rfl, .inr ⟨sx, sy, fun D hD => lc_it (walk_zipT (xs := xs) (ys := ys) (n := ds.length) (by omega)) (fun i H' => Same H H' ∧ H' D = some (.lst ((List.replicate i true).map V.bl))) ⟨same_upd hD, upd_same⟩ (fun i H' _ h => ⟨sqt_same h.1 sx, sqt_same h.1 sy⟩) ?_ ?_⟩⟩
          · rintro i v H1 H2 hi ⟨sm, eD⟩ ⟨t, u1, u2, rfl, nt, rfl, e1, e2⟩
            have st : Same H1 (upd H1 t (.tup [u1, u2])) := same_upd nt
            obtain ⟨d1, f1, g1⟩ := dpa_at ds xs ax i u1 e1
            obtain ⟨d2, f2, g2⟩ := dpa_at ds ys ay i u2 e2
            have ed : d2 = d1 := Option.some.inj (f2.symm.trans f1)
            subst ed
            have okd : okD n d2 = true := List.all_eq_true.mp okA d2 (List.mem_of_getElem? f1)
            refine ⟨t, [u1, u2], rfl, .inl (.inl upd_same), rfl, u1, [u2], rfl, u2, [], rfl, rfl, rfl, ?_⟩
            refine ⟨u1, rfl, u2, rfl, u1, u2, d2, rfl, dp_same (sm.trans st) d2 u1 g1, dp_same (sm.trans st) d2 u2 g2, okd, fun H3 s3 => ?_⟩
            refine ⟨_, s3 _ _ (st _ _ eD), ?_, ?_, ?_⟩
            · rw [List.length_map, List.length_replicate]
              exact small1000 (by omega)
            · exact fun b' o e => by
                rw [upd_ne (ne_of_none e hD)]
                exact s3 _ _ (st _ _ (sm _ _ e))
            · rw [upd_same, List.replicate_succ', List.map_append]
              rfl
          · rintro H1 ⟨sm, eD⟩
            refine ⟨_, List.replicate ds.length true, rfl, .inl (.inl eD), ?_⟩
            rw [all_true]
            exact q _ sm
theorem ok_Lsame (T : Top w K mg) : ∀ n : Nat, FnOk P w K mg base CX0 (n + 2) T.a_Lsame T.fd_Lsame ["_law_found", "_law_due"] (spSame K n)
  | 0 => ok_Lsame0 T
  | n + 1 => ok_LsameS T (ok_Lsame T n)
/-! ### mixed -/
def spMix (K : PySem.W.Frag) : Sp := fun vs H Q _ => ∃ (p t : Addr) (xs : List V), vs = [.ref p, .ref t] ∧ Pool H p ∧ t ≠ p ∧ SqL K H t xs ∧ xs.length ≤ 900 ∧
  ∀ H' f ys, But p H H' → H f = none → H' f = some (.lst ys) → ys.length = xs.length → (∀ v ∈ ys, v ∈ xs) → Pool H' p → Q (.ref f) H'
theorem sqt_but {K : PySem.W.Frag} {H H' : Hp} {p a : Addr} {xs : List V} (e : But p H H') (n : a ≠ p) (h : SqT K H a xs) : SqT K H' a xs := by
  rcases h with (h | ⟨o, h⟩) | h
  · exact .inl (.inl (e _ _ n h))
  · exact .inl (.inr ⟨o, e _ _ n h⟩)
  · exact .inr h
theorem ok_Lmix (T : Top w K mg) : FnOk P w K mg base CX0 2 T.a_Lmix T.fd_Lmix ["_law_pool_here", "_law_things"] (spMix K) := by
  have G_Ltake := ok_Ltake (P := P) (w := w) (base := base) T
  refine T.F_Lmix.ok sc_Lmix (fun vs H Q E h => ?_) (fun cdv A outer s H vs Q E hr h => ?_)
  · obtain ⟨p, t, xs, rfl, _⟩ := h
    rfl
  · obtain ⟨p, t, xs, rfl, hp, ht, hS, hl, q⟩ := h
    refine ⟨_, (pss_cons (ps_set (i := 2) sc_Lmix.nd rfl (.inl rfl) (pe_lst pa_nil))
      (pss_cons (ps_for PassesOwn.never rfl (pi_list (pv 1)) (pg_name (i := 3) sc_Lmix.nd rfl (.inl rfl)) (pss_one (ps_expr (pe_bm PySem.F.plainAttrs_list PySem.F.slot_list_insert PySem.F.type_list_insert mt_insert (pv 2) (pa_cons (pe_call G_Ltake hr (by rfl) T.g_Ltake T.F_Ltake.kp T.b_Ltake .nil pass0 (pa_cons (pv 0) (pa_cons (pe_op op_add (pe_callB call_len_seq (by rfl) T.m_len (by decide +kernel) (pa_cons (pv 2) pa_nil)) pe_int) pa_nil))) (pa_cons (pv 3) pa_nil))))))
      (pss_one (ps_ret (pv 2))))), ?_⟩
    refine ⟨Nat.zero_le _, fun f nf => ?_⟩
    have nfp : f ≠ p := hp.ne_new nf
    have b0 : But p H (upd H f (.lst [])) := But.of (same_upd nf)
    refine ⟨.ref t, rfl, t, rfl, ⟨xs, seq_but b0 ht hS⟩, for_it (walk_list (xs := xs)) (fun i σ H' => ∃ y ys, σ = [some (.ref p), some (.ref t), some (.ref f), y] ∧ ys.length = i ∧ (∀ v ∈ ys, v ∈ xs) ∧ H' f = some (.lst ys) ∧ Pool H' p ∧ But p H H')
      ⟨none, [], rfl, rfl, (fun _ h => nomatch h), upd_same, hp.upd nfp, b0⟩ (fun i σ H' _ h => ?_) ?_ ?_⟩
    · obtain ⟨y, ys, _, _, _, _, _, bt⟩ := h
      exact seq_but bt ht hS
    · rintro i x σ H1 H2 hi ⟨y, ys, rfl, hy, hin, ef, hp1, bt⟩ ⟨rfl, hx⟩
      refine ⟨.ref f, rfl, .inl ⟨rfl, _, .inl (.inl ef)⟩, .ref p, rfl, .ref f, rfl, f, ys, rfl, .inl (.inl (.inl ef)), _, _, rfl, rfl, p, _, rfl, by omega, by omega, hp1, fun H3 r b3 hp3 h0 h1 => ?_⟩
      have ef3 : H3 f = some (.lst ys) := b3 _ _ nfp ef
      refine ⟨x, rfl, f, ys, r, x, rfl, rfl, ef3, small1000 (by omega), h0, by omega, ?_⟩
      refine ⟨_, _, rfl, ?_, ?_, upd_same, hp3.upd nfp, fun b o hb h => ?_⟩
      · rw [List.length_append, List.length_append, List.length_take, List.length_drop, List.length_singleton]
        omega
      · intro v hv
        rcases List.mem_append.mp hv with h | h
        · rcases List.mem_append.mp h with h | h
          · exact hin v (List.mem_of_mem_take h)
          · rw [List.mem_singleton.mp h]
            exact List.mem_of_getElem? hx
        · exact hin v (List.mem_of_mem_drop h)
      · rw [upd_ne (ne_of_none h nf)]
        exact b3 _ _ hb (bt _ _ hb h)
    · rintro σ H1 ⟨y, ys, rfl, hy, hin, ef, hp1, bt⟩
      exact ⟨.ref f, rfl, q H1 f ys bt nf ef hy hin hp1⟩
/-! ### letters, steps -/
def cd : Fin 4 → Nat
  | 0 => 110
  | 1 => 101
  | 2 => 115
  | 3 => 119
def Lt (l : Fin 4) : Str := ⟨#[cd l]⟩
abbrev nesw : Str := PySem.Str.ofString "nesw"
theorem lt0 : PySem.Str.ofString "n" = Lt 0 := by decide +kernel
theorem lt1 : PySem.Str.ofString "e" = Lt 1 := by decide +kernel
theorem lt2 : PySem.Str.ofString "s" = Lt 2 := by decide +kernel
theorem lt3 : PySem.Str.ofString "w" = Lt 3 := by decide +kernel
theorem ltd : ∀ l m : Fin 4, decide (V.str (Lt l) = V.str (Lt m)) = decide (l = m) := by decide +kernel
theorem occ : ∀ l : Fin 4, Builtin.Str.occurrences nesw (Lt l) 0 nesw.length 1 = [l.val] := by decide +kernel
theorem nesw_len : nesw.length ≤ sizeLine := by decide +kernel
theorem nesw_at : ∀ (i : Nat) (h : i < 4) (c : Nat), nesw.cps[i]? = some c → (⟨#[c]⟩ : Str) = Lt ⟨i, h⟩
  | 0, _, c, e => by cases e; rfl
  | 1, _, c, e => by cases e; rfl
  | 2, _, c, e => by cases e; rfl
  | 3, _, c, e => by cases e; rfl
/-! ### lots -/
def tr (a : Fin 8) (l : Fin 4) : Fin 4 := if a.val < 4 then ⟨(a.val + l.val) % 4, by omega⟩ else ⟨(a.val + 4 - l.val) % 4, by omega⟩
def un (a : Fin 8) : Fin 8 := if a.val < 4 then ⟨(4 - a.val) % 4, by omega⟩ else a
def bo (a b : Fin 8) : Fin 8 :=
  let q := if a.val < 4 then (a.val + b.val) % 4 else (a.val + 8 - b.val) % 4
  if (decide (a.val < 4)) = (decide (b.val < 4)) then ⟨q % 4, by omega⟩ else ⟨q % 4 + 4, by omega⟩
theorem at_mir : ∀ (a : Fin 8) (l : Fin 4), (4 : Int) ≤ a.val → atI nesw.cps.toList (((a.val : Int) - (l.val : Int)) % 4) = some (cd (tr a l)) := by decide +kernel
theorem at_tur : ∀ (a : Fin 8) (l : Fin 4), ¬ (4 : Int) ≤ a.val → atI nesw.cps.toList (((a.val : Int) + (l.val : Int)) % 4) = some (cd (tr a l)) := by decide +kernel
theorem un_mir : ∀ a : Fin 8, (4 : Int) ≤ a.val → ((un a).val : Int) = a.val := by decide +kernel
theorem un_tur : ∀ a : Fin 8, ¬ (4 : Int) ≤ a.val → ((un a).val : Int) = (-(a.val : Int)) % 4 := by decide +kernel
theorem bo_1 : ∀ a b : Fin 8, (4 : Int) ≤ a.val → (4 : Int) ≤ b.val → ((bo a b).val : Int) = ((a.val : Int) - b.val) % 4 := by decide +kernel
theorem bo_2 : ∀ a b : Fin 8, (4 : Int) ≤ a.val → ¬ (4 : Int) ≤ b.val → ((bo a b).val : Int) = ((a.val : Int) - b.val) % 4 + 4 := by decide +kernel
theorem bo_3 : ∀ a b : Fin 8, ¬ (4 : Int) ≤ a.val → (4 : Int) ≤ b.val → ((bo a b).val : Int) = ((a.val : Int) + b.val) % 4 + 4 := by decide +kernel
theorem bo_4 : ∀ a b : Fin 8, ¬ (4 : Int) ≤ a.val → ¬ (4 : Int) ≤ b.val → ((bo a b).val : Int) = ((a.val : Int) + b.val) % 4 := by decide +kernel
def spIsLot : Sp := fun vs H Q _ => ∃ i : Int, vs = [.int i] ∧ 0 ≤ i ∧ i ≤ 7 ∧ Q (.bl true) H
def spRefuse : Sp := fun vs H Q _ => ∃ i : Int, vs = [.int i] ∧ 0 ≤ i ∧ i ≤ 7 ∧ Q .non H
def spMirrors : Sp := fun vs H Q _ => ∃ i : Int, vs = [.int i] ∧ Q (.bl (decide (4 ≤ i))) H
def spTrue : Sp := fun vs H Q _ => ∃ (a : Fin 8) (l : Fin 4), vs = [.int a.val, .str (Lt l)] ∧ Q (.str (Lt (tr a l))) H
def spShown : Sp := fun vs H Q _ => ∃ (a : Fin 8) (l : Fin 4), vs = [.int a.val, .str (Lt l)] ∧ Q (.str (Lt (tr (un a) l))) H
def spUndone : Sp := fun vs H Q _ => ∃ (a : Fin 8), vs = [.int a.val] ∧ Q (.int (un a).val) H
def spBoth : Sp := fun vs H Q _ => ∃ (a b : Fin 8), vs = [.int a.val, .int b.val] ∧ Q (.int (bo a b).val) H
theorem f8 (a : Fin 8) : (0 : Int) ≤ a.val ∧ (a.val : Int) ≤ 7 := by omega
theorem ok_is_whole (T : Top w K mg) : FnOk P w K mg base CX0 1 T.a_is_whole T.fd_is_whole ["thing"] spWhole := by
  refine T.F_is_whole.ok sc_is_whole (fun vs H Q E h => ?_) (fun cdv A outer s H vs Q E hr h => ?_)
  · obtain ⟨i, rfl, _⟩ := h
    rfl
  · obtain ⟨i, rfl, q⟩ := h
    refine ⟨_, (pss_one (ps_ret (pe_and (pe_callB call_isi (by rfl) T.m_isinstance (by decide +kernel) (pa_cons (pv 0) (pa_cons (pe_bltn (v := .ty "int") (by rfl) T.m_int (by decide +kernel) rfl) pa_nil))) (pe_one (pe_not (pe_callB call_isi (by rfl) T.m_isinstance (by decide +kernel) (pa_cons (pv 0) (pa_cons (pe_bltn (v := .ty "bool") (by rfl) T.m_bool (by decide +kernel) rfl) pa_nil)))))))), ?_⟩
    refine ⟨.int i, rfl, _, _, _, _, true, rfl, .ty _, .base (.int i), kit_ty (by decide +kernel), _, rfl, iteT ?_⟩
    exact ⟨.int i, rfl, _, _, _, _, false, rfl, .ty _, .base (.int i), kit_ty (by decide +kernel), _, rfl, q⟩
theorem ok_is_lot (T : Top w K mg) : FnOk P w K mg base CX0 2 T.a_is_lot T.fd_is_lot ["thing"] spIsLot := by
  have G_is_whole := ok_is_whole (P := P) (w := w) (base := base) T
  refine T.F_is_lot.ok sc_is_lot (fun vs H Q E h => ?_) (fun cdv A outer s H vs Q E hr h => ?_)
  · obtain ⟨i, rfl, _⟩ := h
    rfl
  · obtain ⟨i, rfl, h0, h7, q⟩ := h
    refine ⟨_, (pss_one (ps_ret (pe_and (pe_call G_is_whole hr (by rfl) T.g_is_whole T.F_is_whole.kp T.b_is_whole .nil pass0 (pa_cons (pv 0) pa_nil)) (pe_one (pe_chain op_le op_le pe_int (pv 0) pe_int))))), ?_⟩
    refine ⟨.int i, rfl, i, rfl, _, rfl, iteT ?_⟩
    refine ⟨.int i, rfl, _, _, rfl, rfl, _, rfl, ite2 (fun e => ?_) (fun e => absurd (decide_eq_true h0) e)⟩
    refine ⟨_, _, rfl, rfl, ?_⟩
    show Q (.bl (decide (i ≤ 7))) H
    rw [decide_eq_true h7]
    exact q
theorem ok_refuse_unless_lot (T : Top w K mg) : FnOk P w K mg base CX0 3 T.a_refuse_unless_lot T.fd_refuse_unless_lot ["thing"] spRefuse := by
  have G_is_lot := ok_is_lot (P := P) (w := w) (base := base) T
  refine T.F_refuse_unless_lot.ok sc_refuse_unless_lot (fun vs H Q E h => ?_) (fun cdv A outer s H vs Q E hr h => ?_)
  · obtain ⟨i, rfl, _⟩ := h
    rfl
  · obtain ⟨i, rfl, h0, h7, q⟩ := h
    refine ⟨_, (pss_one (ps_if (pt_not (pt_val (pe_call G_is_lot hr (by rfl) T.g_is_lot T.F_is_lot.kp T.b_is_lot .nil pass0 (pa_cons (pv 0) pa_nil)))) (pss_one ps_never) pss_nil)), ?_⟩
    exact ⟨.int i, rfl, i, rfl, h0, h7, _, rfl, iteF q⟩
theorem ok_mirrors (T : Top w K mg) : FnOk P w K mg base CX0 1 T.a_mirrors T.fd_mirrors ["lot"] spMirrors := by
  refine T.F_mirrors.ok sc_mirrors (fun vs H Q E h => ?_) (fun cdv A outer s H vs Q E hr h => ?_)
  · obtain ⟨i, rfl, _⟩ := h
    rfl
  · obtain ⟨i, rfl, q⟩ := h
    exact ⟨_, (pss_one (ps_ret (pe_cmpR op_ge (pv 0) pe_int (nomark _)))), .int i, rfl, _, _, rfl, rfl, q⟩
theorem ok_true (T : Top w K mg) : FnOk P w K mg base CX0 4 T.a_true T.fd_true ["lot", "letter"] spTrue := by
  have G_refuse_unless_lot := ok_refuse_unless_lot (P := P) (w := w) (base := base) T
  have G_mirrors := ok_mirrors (P := P) (w := w) (base := base) T
  refine T.F_true.ok sc_true (fun vs H Q E h => ?_) (fun cdv A outer s H vs Q E hr h => ?_)
  · obtain ⟨a, l, rfl, _⟩ := h
    rfl
  · obtain ⟨a, l, rfl, q⟩ := h
    refine ⟨_, (pss_cons (ps_expr (pe_call G_refuse_unless_lot hr (by rfl) T.g_refuse_unless_lot T.F_refuse_unless_lot.kp T.b_refuse_unless_lot .nil pass0 (pa_cons (pv 0) pa_nil)))
      (pss_cons (ps_set (i := 2) sc_true.nd rfl (.inl rfl) (pe_bm PySem.F.plainAttrs_str PySem.F.slot_str_index PySem.F.type_str_index mt_sindex (pe_glob (v := .str "nesw") (by rfl) T.g_LETTERS.choose_spec ⟨_, rfl⟩) (pa_cons (pv 1) pa_nil)))
      (pss_cons (ps_if (pt_val (pe_call G_mirrors (hr.mono (by decide)) (by rfl) T.g_mirrors T.F_mirrors.kp T.b_mirrors .nil pass0 (pa_cons (pv 0) pa_nil))) (pss_one (ps_ret (pe_ix ix_str (pe_glob (v := .str "nesw") (by rfl) T.g_LETTERS.choose_spec ⟨_, rfl⟩) (pe_op op_mod (pe_op op_sub (pv 0) (pv 2)) pe_int) (fun _ _ => rfl)))) pss_nil)
      (pss_one (ps_ret (pe_ix ix_str (pe_glob (v := .str "nesw") (by rfl) T.g_LETTERS.choose_spec ⟨_, rfl⟩) (pe_op op_mod (pe_op op_add (pv 0) (pv 2)) pe_int) (fun _ _ => rfl))))))), ?_⟩
    refine ⟨.int a.val, rfl, a.val, rfl, (f8 a).1, (f8 a).2, ?_⟩
    refine ⟨rfl, _, rfl, _, _, l.val, [], rfl, rfl, occ l, ?_⟩
    refine ⟨.int a.val, rfl, a.val, rfl, _, rfl, ite2 (fun e => ?_) (fun e => ?_)⟩
    · have e1 : (4 : Int) ≤ a.val := of_decide_eq_true e
      exact ⟨.int a.val, rfl, _, rfl, _, _, rfl, rfl, _, _, rfl, rfl, by show (0 : Int) < 4; decide, _, _, _, rfl, rfl, nesw_len, at_mir a l e1, q⟩
    · have e1 : ¬ (4 : Int) ≤ a.val := fun z => e (decide_eq_true z)
      exact ⟨.int a.val, rfl, _, rfl, _, _, rfl, rfl, _, _, rfl, rfl, by show (0 : Int) < 4; decide, _, _, _, rfl, rfl, nesw_len, at_tur a l e1, q⟩
theorem ok_undone (T : Top w K mg) : FnOk P w K mg base CX0 4 T.a_undone T.fd_undone ["lot"] spUndone := by
  have G_refuse_unless_lot := ok_refuse_unless_lot (P := P) (w := w) (base := base) T
  have G_mirrors := ok_mirrors (P := P) (w := w) (base := base) T
  refine T.F_undone.ok sc_undone (fun vs H Q E h => ?_) (fun cdv A outer s H vs Q E hr h => ?_)
  · obtain ⟨a, rfl, _⟩ := h
    rfl
  · obtain ⟨a, rfl, q⟩ := h
    refine ⟨_, (pss_cons (ps_expr (pe_call G_refuse_unless_lot hr (by rfl) T.g_refuse_unless_lot T.F_refuse_unless_lot.kp T.b_refuse_unless_lot .nil pass0 (pa_cons (pv 0) pa_nil)))
      (pss_cons (ps_if (pt_val (pe_call G_mirrors (hr.mono (by decide)) (by rfl) T.g_mirrors T.F_mirrors.kp T.b_mirrors .nil pass0 (pa_cons (pv 0) pa_nil))) (pss_one (ps_ret (pv 0))) pss_nil)
      (pss_one (ps_ret (pe_op op_mod (pe_un un_neg (pv 0)) pe_int))))), ?_⟩
    refine ⟨.int a.val, rfl, a.val, rfl, (f8 a).1, (f8 a).2, ?_⟩
    refine ⟨.int a.val, rfl, a.val, rfl, _, rfl, ite2 (fun e => ?_) (fun e => ?_)⟩
    · rw [un_mir a (of_decide_eq_true e)] at q
      exact ⟨_, rfl, q⟩
    · rw [un_tur a (fun z => e (decide_eq_true z))] at q
      exact ⟨.int a.val, rfl, _, rfl, _, _, rfl, rfl, by show (0 : Int) < 4; decide, q⟩
theorem ok_shown (T : Top w K mg) : FnOk P w K mg base CX0 5 T.a_shown T.fd_shown ["lot", "letter"] spShown := by
  have G_true := ok_true (P := P) (w := w) (base := base) T
  have G_undone := ok_undone (P := P) (w := w) (base := base) T
  refine T.F_shown.ok sc_shown (fun vs H Q E h => ?_) (fun cdv A outer s H vs Q E hr h => ?_)
  · obtain ⟨a, l, rfl, _⟩ := h
    rfl
  · obtain ⟨a, l, rfl, q⟩ := h
    exact ⟨_, (pss_one (ps_ret (pe_call G_true hr (by rfl) T.g_true T.F_true.kp T.b_true .nil pass0 (pa_cons (pe_call G_undone hr (by rfl) T.g_undone T.F_undone.kp T.b_undone .nil pass0 (pa_cons (pv 0) pa_nil)) (pa_cons (pv 1) pa_nil))))), .int a.val, rfl, a, rfl, _, rfl, un a, l, rfl, q⟩
/-! ### the law -/
def spLtrue : Sp := fun vs H Q _ => ∃ (a : Fin 8) (l : Fin 4), vs = [.int a.val, .str (Lt l)] ∧ Q (.str (Lt (tr a l))) H
theorem at_tur2 : ∀ (a : Fin 8) (l : Fin 4), (a.val : Int) < 4 → atI nesw.cps.toList (((l.val : Int) + (a.val : Int)) % 4) = some (cd (tr a l)) := by decide +kernel
theorem at_mir2 : ∀ (a : Fin 8) (l : Fin 4), ¬ (a.val : Int) < 4 → atI nesw.cps.toList (((a.val : Int) - (l.val : Int)) % 4) = some (cd (tr a l)) := by decide +kernel
theorem ok_Ltrue (T : Top w K mg) : FnOk P w K mg base CX0 1 T.a_Ltrue T.fd_Ltrue ["_law_lot", "_law_letter"] spLtrue := by
  refine T.F_Ltrue.ok sc_Ltrue (fun vs H Q E h => ?_) (fun cdv A outer s H vs Q E hr h => ?_)
  · obtain ⟨a, l, rfl, _⟩ := h
    rfl
  · obtain ⟨a, l, rfl, q⟩ := h
    refine ⟨_, (pss_cons (ps_set (i := 2) sc_Ltrue.nd rfl (.inl rfl) (pe_bm PySem.F.plainAttrs_str PySem.F.slot_str_index PySem.F.type_str_index mt_sindex pe_str (pa_cons (pv 1) pa_nil)))
      (pss_one (ps_ret (pe_ix ix_str pe_str (pe_ifExp (pt_cmpR op_lt (pv 0) pe_int (nomark _)) (pe_op op_mod (pe_op op_add (pv 2) (pv 0)) pe_int) (pe_op op_mod (pe_op op_sub (pv 0) (pv 2)) pe_int)) (fun _ _ => rfl))))), ?_⟩
    refine ⟨rfl, _, rfl, _, _, l.val, [], rfl, rfl, occ l, ?_⟩
    refine ⟨.int a.val, rfl, _, _, rfl, rfl, _, rfl, ite2 (fun e => ?_) (fun e => ?_)⟩
    · have e1 : (a.val : Int) < 4 := of_decide_eq_true e
      exact ⟨_, rfl, .int a.val, rfl, _, _, rfl, rfl, _, _, rfl, rfl, by show (0 : Int) < 4; decide, _, _, _, rfl, rfl, nesw_len, at_tur2 a l e1, q⟩
    · have e1 : ¬ (a.val : Int) < 4 := fun z => e (decide_eq_true z)
      exact ⟨.int a.val, rfl, _, rfl, _, _, rfl, rfl, _, _, rfl, rfl, by show (0 : Int) < 4; decide, _, _, _, rfl, rfl, nesw_len, at_mir2 a l e1, q⟩
theorem g_back : ∀ (a : Fin 8) (l : Fin 4), tr (un a) (tr a l) = l := by decide +kernel
theorem of8 {r : Int} (h0 : 0 ≤ r) (h1 : r < 8) : ∃ a : Fin 8, r = (a.val : Int) := ⟨⟨r.toNat, by omega⟩, by show r = ((r.toNat : Nat) : Int); omega⟩
/-- a pair of a lot and a letter, not at p -/
def Pr (p : Addr) (H : Hp) (v : V) : Prop := ∃ (t : Addr) (a : Fin 8) (l : Fin 4), v = .ref t ∧ H t = some (.tup [.int a.val, .str (Lt l)])
theorem Pr.but {p : Addr} {H H' : Hp} {v : V} (hp : Pool H p) (e : But p H H') (h : Pr p H v) : Pr p H' v := by
  obtain ⟨t, a, l, rfl, h⟩ := h
  exact ⟨t, a, l, rfl, e _ _ (hp.ne_tup h) h⟩
theorem Pr.same {p : Addr} {H H' : Hp} {v : V} (e : Same H H') (h : Pr p H v) : Pr p H' v := by
  obtain ⟨t, a, l, rfl, h⟩ := h
  exact ⟨t, a, l, rfl, e _ _ h⟩
theorem Pr.upd {p q : Addr} {H : Hp} {v : V} {xs : List V} {o : HO} (hq : H q = some (.lst xs)) (h : Pr p H v) : Pr p (L2.upd H q o) v := by
  obtain ⟨t, a, l, rfl, h⟩ := h
  refine ⟨t, a, l, rfl, ?_⟩
  rw [upd_ne (ne_of h hq (by intro z; cases z))]
  exact h
theorem cut_mem {v : V} (xs : List V) {lo hi : Option Int} (h : v ∈ cutV xs lo hi) : v ∈ xs := List.mem_of_mem_drop (List.mem_of_mem_take h)
def spLaw (K : PySem.W.Frag) : Sp := fun vs H Q _ => ∃ (a : Addr) (ns : List Int), vs = [.ref a] ∧ SqL K H a (ns.map V.int) ∧ ns.length ≤ 63 ∧ ∀ H', Q (.bl true) H'
theorem ok_law (T : Top w K mg) : FnOk P w K mg base CX0 6 T.a_law T.fd_law ["_law_script"] (spLaw K) := by
  have G_Lpool := ok_Lpool (P := P) (w := w) (base := base) T
  have G_Lmix := ok_Lmix (P := P) (w := w) (base := base) T
  have G_Lsame := ok_Lsame (P := P) (w := w) (base := base) T 0
  have G_Ltrue := ok_Ltrue (P := P) (w := w) (base := base) T
  have G_true := ok_true (P := P) (w := w) (base := base) T
  have G_shown := ok_shown (P := P) (w := w) (base := base) T
  refine T.F_law.ok sc_law (fun vs H Q E h => ?_) (fun cdv A outer s H vs Q E hr h => ?_)
  · obtain ⟨a, ns, rfl, _⟩ := h
    rfl
  · obtain ⟨a, ns, rfl, hS, hlen, q⟩ := h
    refine ⟨_, (pss_cons (ps_set (i := 1) sc_law.nd rfl (.inl rfl) (pe_call G_Lpool (hr.mono (by decide)) (by rfl) T.g_Lpool T.F_Lpool.kp T.b_Lpool .nil pass0 (pa_cons (pv 0) (pa_cons pe_int pa_nil))))
      (pss_cons (ps_set (i := 2) sc_law.nd rfl (.inl rfl) (pe_lst pa_nil))
      (pss_cons (ps_for PassesOwn.never rfl (pi_range1 (by rfl) T.m_range (pa_cons pe_int pa_nil)) (pg_name (i := 3) sc_law.nd rfl (.inr rfl)) (pss_one (ps_expr (pe_bm PySem.F.plainAttrs_list PySem.F.slot_list_extend PySem.F.type_list_extend mt_extend (pv 2) (pa_cons (pe_lc (own := [("_law_letter", 4)]) (g := gName 4) (by rfl) sc_law.nd (pi_str pe_str) (blkOk_by (own := [("_law_letter", 4)]) (N := ["_law_script", "_law_pool_here", "_law_pairs", "_law_lot", "_law_letter", "_law_due"]) (sc := defScope s_law) (by decide +kernel)) (fun _ _ _ _ _ => (pg_name (i := 4) sc_law.nd rfl (Or.inl rfl))) (fun _ _ _ _ _ => pts_nil) (fun _ _ _ _ _ => (pe_tup (pa_cons (pv 3) (pa_cons (pv 4) pa_nil))))) pa_nil)))))
      (pss_cons (ps_set (i := 2) sc_law.nd rfl (.inl rfl) (pe_call G_Lmix (hr.mono (by decide)) (by rfl) T.g_Lmix T.F_Lmix.kp T.b_Lmix .nil pass0 (pa_cons (pv 1) (pa_cons (pv 2) pa_nil))))
      (pss_cons (ps_for PassesOwn.never rfl (pi_list (pe_op op_cat (pv 2) (pe_slice sl_list (pv 2) po_none (po_some pe_int)))) (pg_tup rfl (pgs_cons (pg_name (i := 3) sc_law.nd rfl (.inr rfl)) (pgs_cons (pg_name (i := 4) sc_law.nd rfl (.inl rfl)) pgs_nil))) (pss_cons (ps_set (i := 5) sc_law.nd rfl (.inl rfl) (pe_call G_Ltrue (hr.mono (by decide)) (by rfl) T.g_Ltrue T.F_Ltrue.kp T.b_Ltrue .nil pass0 (pa_cons (pv 3) (pa_cons (pv 4) pa_nil))))
      (pss_one (ps_if (PW.pt (pw_or (pt_not (pt_val (pe_call G_Lsame (hr.mono (by decide)) (by rfl) T.g_Lsame T.F_Lsame.kp T.b_Lsame .nil pass0 (pa_cons (pe_call G_true (hr.mono (by decide)) (by rfl) T.g_true T.F_true.kp T.b_true .nil pass0 (pa_cons (pv 3) (pa_cons (pv 4) pa_nil))) (pa_cons (pv 5) pa_nil))))) (pw_or1 (pt_not (pt_val (pe_call G_Lsame (hr.mono (by decide)) (by rfl) T.g_Lsame T.F_Lsame.kp T.b_Lsame .nil pass0 (pa_cons (pe_call G_shown hr (by rfl) T.g_shown T.F_shown.kp T.b_shown .nil pass0 (pa_cons (pv 3) (pa_cons (pv 5) pa_nil))) (pa_cons (pv 4) pa_nil)))))))) (pss_one (ps_ret pe_bl)) pss_nil))))
      (pss_one (ps_ret pe_bl))))))), ?_⟩
    refine ⟨.ref a, rfl, a, ns, 0, rfl, hS, hlen, by decide, fun H1 p sm np hp => ?_⟩
    -- the pairs
    refine ⟨Nat.zero_le _, fun l nl => ?_⟩
    have nlp : l ≠ p := hp.ne_new nl
    refine ⟨8, rfl, by decide, by decide, for_range (n := 8) (fun i σ H' => ∃ y3 y4 ps, σ = [some (.ref a), some (.ref p), some (.ref l), y3, y4, none] ∧ Pool H' p ∧ H' l = some (.lst ps) ∧ ps.length = 4 * i ∧ ∀ v ∈ ps, Pr p H' v) ⟨none, none, [], rfl, hp.upd nlp, upd_same, rfl, (fun _ h => nomatch h)⟩ ?_ ?_⟩
    · rintro i σ H2 hi ⟨y3, y4, ps, rfl, hp2, el, hl, hps⟩
      obtain ⟨x, hx⟩ := of8 (r := 0 + (i : Int)) (by omega) (by omega)
      rw [hx]
      refine ⟨.ref l, rfl, .inl ⟨rfl, _, .inl (.inl el)⟩, nesw, rfl, fun D hD => lc_it walk_str (fun j H' => ∃ ys, Pool H' p ∧ H' l = some (.lst ps) ∧ (∀ v ∈ ps, Pr p H' v) ∧ H' D = some (.lst ys) ∧ ys.length = j ∧ ∀ v ∈ ys, Pr p H' v) ⟨[], hp2.upd (hp2.ne_new hD), ?_, ?_, upd_same, rfl, (fun _ h => nomatch h)⟩ (fun _ _ _ _ => trivial) ?_ ?_⟩
      · rw [upd_ne (ne_of_none el hD)]
        exact el
      · exact fun v hv => (hps v hv).same (same_upd hD)
      · rintro j v H3 H4 hj ⟨ys, hp3, el3, hps3, eD3, hy, hys⟩ ⟨rfl, d, hd, rfl⟩
        rw [nesw_at j hj d hd]
        refine ⟨rfl, ?_⟩
        refine ⟨.int x.val, rfl, _, rfl, by show 2 ≤ sizeLine; decide, fun t nt => ?_⟩
        have st : Same H4 (upd H4 t (.tup [.int x.val, .str (Lt ⟨j, hj⟩)])) := same_upd nt
        have eD4 := st _ _ eD3
        have nDl : l ≠ D := ne_of_none el hD
        refine ⟨ys, eD4, ?_, ys ++ [.ref t], (hp3.same st).upd (hp2.ne_new hD), ?_, ?_, upd_same, ?_, ?_⟩
        · have : nesw.cps.size = 4 := rfl
          exact small1000 (by omega)
        · rw [upd_ne nDl]
          exact st _ _ el3
        · exact fun v hv => ((hps3 v hv).same st).upd eD4
        · rw [List.length_append, hy]
          rfl
        · intro v hv
          rcases List.mem_append.mp hv with h | h
          · exact ((hys v h).same st).upd eD4
          · rw [List.mem_singleton.mp h]
            exact Pr.upd eD4 ⟨t, x, ⟨j, hj⟩, rfl, upd_same⟩
      · rintro H3 ⟨ys, hp3, el3, hps3, eD3, hy, hys⟩
        have hy4 : ys.length = 4 := hy
        refine ⟨l, D, ps, ys, rfl, rfl, el3, eD3, Nat.le_of_lt (small1000 (by omega)), ?_⟩
        refine ⟨_, _, _, rfl, hp3.upd nlp, upd_same, ?_, ?_⟩
        · rw [List.length_append]
          omega
        · intro v hv
          rcases List.mem_append.mp hv with h | h
          · exact (hps3 v h).upd el3
          · exact (hys v h).upd el3
    · rintro σ H2 ⟨y3, y4, ps, rfl, hp2, el, hl, hps⟩
      -- mixed
      refine ⟨.ref p, rfl, .ref l, rfl, p, l, ps, rfl, hp2, nlp, .inl (.inl el), by omega, fun H3 f ys bt nf ef hy hin hp3 => ?_⟩
      have hys : ∀ v ∈ ys, Pr p H3 v := fun v hv => (hps v (hin v hv)).but hp2 bt
      -- the list and its first eight once more
      refine ⟨.ref f, rfl, .ref f, rfl, 8, rfl, f, ys, rfl, .inl (.inl ef), fun c nc => ?_⟩
      have sc : Same H3 (upd H3 c (.lst (cutV ys none (some 8)))) := same_upd nc
      have hcut : ∀ v ∈ cutV ys none (some 8), v ∈ ys := fun _ h => cut_mem ys h
      refine ⟨f, c, ys, _, rfl, rfl, sc _ _ ef, upd_same, ?_, fun g ng => ?_⟩
      · have := cutV_length ys none (some 8)
        exact Nat.le_of_lt (small1000 (by omega))
      have sg := same_upd (o := .lst (ys ++ cutV ys none (some 8))) ng
      have hall : ∀ v ∈ ys ++ cutV ys none (some 8), Pr p H3 v := fun v hv => by
        rcases List.mem_append.mp hv with h | h
        · exact hys v h
        · exact hys v (hcut v h)
      refine ⟨g, rfl, ⟨_, .inl (.inl upd_same)⟩, for_it (walk_list (xs := ys ++ cutV ys none (some 8))) (fun i σ H' => ∃ y3 y4 y5, σ = [some (.ref a), some (.ref p), some (.ref f), y3, y4, y5] ∧ Same H3 H' ∧ H' g = some (.lst (ys ++ cutV ys none (some 8)))) ⟨_, _, _, rfl, sc.trans sg, upd_same⟩ (fun i σ H' _ h => ?_) ?_ (fun σ H' _ => q H')⟩
      · obtain ⟨_, _, _, _, _, h⟩ := h
        exact .inl (.inl h)
      · rintro i v σ H4 H5 hi ⟨y3, y4, y5, rfl, s4, eg⟩ ⟨rfl, hv⟩
        obtain ⟨t, x, m, rfl, ht⟩ := hall v (List.mem_of_getElem? hv)
        refine ⟨t, _, rfl, .inl (.inl (s4 _ _ ht)), rfl, _, _, rfl, _, _, rfl, rfl, ?_⟩
        refine ⟨.int x.val, rfl, _, rfl, x, m, rfl, ?_⟩
        refine ⟨.int x.val, rfl, _, rfl, x, m, rfl, _, rfl, _, _, _, rfl, .str _, .str _, rfl, fun H6 s6 => ⟨_, rfl, iteF ?_⟩⟩
        refine ⟨.int x.val, rfl, _, rfl, x, tr x m, rfl, ?_⟩
        rw [g_back]
        exact ⟨_, rfl, _, _, _, rfl, .str _, .str _, rfl, fun H7 s7 => ⟨_, rfl, iteF ⟨_, _, _, rfl, (s4.trans s6).trans s7, s7 _ _ (s6 _ _ eg)⟩⟩⟩
end
theorem all_mk {l : PySem.W.OpenLaw} {w : World} {K : PySem.W.Frag} {h : Heap} {mg : Str → Option Value} {fa : Addr} (X : K.In h) (G : h.Ns mainGlobals mg) (hfa : mg "law" = some (.ref fa))
    {f_is_whole : Addr} {od_is_whole an_is_whole : Option Addr} {sl_is_whole : Array (Option Value)} {oc_is_whole kV_is_whole dc_is_whole pm_is_whole cd_is_whole ct_is_whole : Value}
    {f_is_lot : Addr} {od_is_lot an_is_lot : Option Addr} {sl_is_lot : Array (Option Value)} {oc_is_lot kV_is_lot dc_is_lot pm_is_lot cd_is_lot ct_is_lot : Value}
    {f_refuse_unless_lot : Addr} {od_refuse_unless_lot an_refuse_unless_lot : Option Addr} {sl_refuse_unless_lot : Array (Option Value)} {oc_refuse_unless_lot kV_refuse_unless_lot dc_refuse_unless_lot pm_refuse_unless_lot cd_refuse_unless_lot ct_refuse_unless_lot : Value}
    {f_mirrors : Addr} {od_mirrors an_mirrors : Option Addr} {sl_mirrors : Array (Option Value)} {oc_mirrors kV_mirrors dc_mirrors pm_mirrors cd_mirrors ct_mirrors : Value}
    {f_true : Addr} {od_true an_true : Option Addr} {sl_true : Array (Option Value)} {oc_true kV_true dc_true pm_true cd_true ct_true : Value}
    {f_shown : Addr} {od_shown an_shown : Option Addr} {sl_shown : Array (Option Value)} {oc_shown kV_shown dc_shown pm_shown cd_shown ct_shown : Value}
    {f_undone : Addr} {od_undone an_undone : Option Addr} {sl_undone : Array (Option Value)} {oc_undone kV_undone dc_undone pm_undone cd_undone ct_undone : Value}
    {f_Lpool : Addr} {od_Lpool an_Lpool : Option Addr} {sl_Lpool : Array (Option Value)} {oc_Lpool kV_Lpool dc_Lpool pm_Lpool cd_Lpool ct_Lpool : Value}
    {f_Ltake : Addr} {od_Ltake an_Ltake : Option Addr} {sl_Ltake : Array (Option Value)} {oc_Ltake kV_Ltake dc_Ltake pm_Ltake cd_Ltake ct_Ltake : Value}
    {f_Lmix : Addr} {od_Lmix an_Lmix : Option Addr} {sl_Lmix : Array (Option Value)} {oc_Lmix kV_Lmix dc_Lmix pm_Lmix cd_Lmix ct_Lmix : Value}
    {f_Lwhole : Addr} {od_Lwhole an_Lwhole : Option Addr} {sl_Lwhole : Array (Option Value)} {oc_Lwhole kV_Lwhole dc_Lwhole pm_Lwhole cd_Lwhole ct_Lwhole : Value}
    {f_Lsame : Addr} {od_Lsame an_Lsame : Option Addr} {sl_Lsame : Array (Option Value)} {oc_Lsame kV_Lsame dc_Lsame pm_Lsame cd_Lsame ct_Lsame : Value}
    {f_Ltrue : Addr} {od_Ltrue an_Ltrue : Option Addr} {sl_Ltrue : Array (Option Value)} {oc_Ltrue kV_Ltrue dc_Ltrue pm_Ltrue cd_Ltrue ct_Ltrue : Value}
    {f_law : Addr} {od_law an_law : Option Addr} {sl_law : Array (Option Value)} {oc_law kV_law dc_law pm_law cd_law ct_law : Value}
    {t_LETTERS : Tok}
    (A_is_whole : PySem.W.nsIn K mainGlobals "is_whole" = some (some (.ref f_is_whole))) (L_is_whole : K.lookup f_is_whole = some ⟨oc_is_whole, od_is_whole, .func (PySem.W.fnOf "is_whole" "is_whole" (defArgs s_is_whole) (defBody s_is_whole) (defScope s_is_whole) .none kV_is_whole dc_is_whole pm_is_whole an_is_whole cd_is_whole ct_is_whole), sl_is_whole⟩) (C_is_whole : PySem.W.codeIn K cd_is_whole "is_whole" = true) (K_is_whole : PySem.W.keepIn K (.ref f_is_whole) = true)
    (A_is_lot : PySem.W.nsIn K mainGlobals "is_lot" = some (some (.ref f_is_lot))) (L_is_lot : K.lookup f_is_lot = some ⟨oc_is_lot, od_is_lot, .func (PySem.W.fnOf "is_lot" "is_lot" (defArgs s_is_lot) (defBody s_is_lot) (defScope s_is_lot) .none kV_is_lot dc_is_lot pm_is_lot an_is_lot cd_is_lot ct_is_lot), sl_is_lot⟩) (C_is_lot : PySem.W.codeIn K cd_is_lot "is_lot" = true) (K_is_lot : PySem.W.keepIn K (.ref f_is_lot) = true)
    (A_refuse_unless_lot : PySem.W.nsIn K mainGlobals "refuse_unless_lot" = some (some (.ref f_refuse_unless_lot))) (L_refuse_unless_lot : K.lookup f_refuse_unless_lot = some ⟨oc_refuse_unless_lot, od_refuse_unless_lot, .func (PySem.W.fnOf "refuse_unless_lot" "refuse_unless_lot" (defArgs s_refuse_unless_lot) (defBody s_refuse_unless_lot) (defScope s_refuse_unless_lot) .none kV_refuse_unless_lot dc_refuse_unless_lot pm_refuse_unless_lot an_refuse_unless_lot cd_refuse_unless_lot ct_refuse_unless_lot), sl_refuse_unless_lot⟩) (C_refuse_unless_lot : PySem.W.codeIn K cd_refuse_unless_lot "refuse_unless_lot" = true) (K_refuse_unless_lot : PySem.W.keepIn K (.ref f_refuse_unless_lot) = true)
    (A_mirrors : PySem.W.nsIn K mainGlobals "mirrors" = some (some (.ref f_mirrors))) (L_mirrors : K.lookup f_mirrors = some ⟨oc_mirrors, od_mirrors, .func (PySem.W.fnOf "mirrors" "mirrors" (defArgs s_mirrors) (defBody s_mirrors) (defScope s_mirrors) .none kV_mirrors dc_mirrors pm_mirrors an_mirrors cd_mirrors ct_mirrors), sl_mirrors⟩) (C_mirrors : PySem.W.codeIn K cd_mirrors "mirrors" = true) (K_mirrors : PySem.W.keepIn K (.ref f_mirrors) = true)
    (A_true : PySem.W.nsIn K mainGlobals "true" = some (some (.ref f_true))) (L_true : K.lookup f_true = some ⟨oc_true, od_true, .func (PySem.W.fnOf "true" "true" (defArgs s_true) (defBody s_true) (defScope s_true) .none kV_true dc_true pm_true an_true cd_true ct_true), sl_true⟩) (C_true : PySem.W.codeIn K cd_true "true" = true) (K_true : PySem.W.keepIn K (.ref f_true) = true)
    (A_shown : PySem.W.nsIn K mainGlobals "shown" = some (some (.ref f_shown))) (L_shown : K.lookup f_shown = some ⟨oc_shown, od_shown, .func (PySem.W.fnOf "shown" "shown" (defArgs s_shown) (defBody s_shown) (defScope s_shown) .none kV_shown dc_shown pm_shown an_shown cd_shown ct_shown), sl_shown⟩) (C_shown : PySem.W.codeIn K cd_shown "shown" = true) (K_shown : PySem.W.keepIn K (.ref f_shown) = true)
    (A_undone : PySem.W.nsIn K mainGlobals "undone" = some (some (.ref f_undone))) (L_undone : K.lookup f_undone = some ⟨oc_undone, od_undone, .func (PySem.W.fnOf "undone" "undone" (defArgs s_undone) (defBody s_undone) (defScope s_undone) .none kV_undone dc_undone pm_undone an_undone cd_undone ct_undone), sl_undone⟩) (C_undone : PySem.W.codeIn K cd_undone "undone" = true) (K_undone : PySem.W.keepIn K (.ref f_undone) = true)
    (A_Lpool : PySem.W.nsIn K mainGlobals "_law_pool" = some (some (.ref f_Lpool))) (L_Lpool : K.lookup f_Lpool = some ⟨oc_Lpool, od_Lpool, .func (PySem.W.fnOf "_law_pool" "_law_pool" (defArgs s_Lpool) (defBody s_Lpool) (defScope s_Lpool) .none kV_Lpool dc_Lpool pm_Lpool an_Lpool cd_Lpool ct_Lpool), sl_Lpool⟩) (C_Lpool : PySem.W.codeIn K cd_Lpool "_law_pool" = true) (K_Lpool : PySem.W.keepIn K (.ref f_Lpool) = true)
    (A_Ltake : PySem.W.nsIn K mainGlobals "_law_take" = some (some (.ref f_Ltake))) (L_Ltake : K.lookup f_Ltake = some ⟨oc_Ltake, od_Ltake, .func (PySem.W.fnOf "_law_take" "_law_take" (defArgs s_Ltake) (defBody s_Ltake) (defScope s_Ltake) .none kV_Ltake dc_Ltake pm_Ltake an_Ltake cd_Ltake ct_Ltake), sl_Ltake⟩) (C_Ltake : PySem.W.codeIn K cd_Ltake "_law_take" = true) (K_Ltake : PySem.W.keepIn K (.ref f_Ltake) = true)
    (A_Lmix : PySem.W.nsIn K mainGlobals "_law_mix" = some (some (.ref f_Lmix))) (L_Lmix : K.lookup f_Lmix = some ⟨oc_Lmix, od_Lmix, .func (PySem.W.fnOf "_law_mix" "_law_mix" (defArgs s_Lmix) (defBody s_Lmix) (defScope s_Lmix) .none kV_Lmix dc_Lmix pm_Lmix an_Lmix cd_Lmix ct_Lmix), sl_Lmix⟩) (C_Lmix : PySem.W.codeIn K cd_Lmix "_law_mix" = true) (K_Lmix : PySem.W.keepIn K (.ref f_Lmix) = true)
    (A_Lwhole : PySem.W.nsIn K mainGlobals "_law_whole" = some (some (.ref f_Lwhole))) (L_Lwhole : K.lookup f_Lwhole = some ⟨oc_Lwhole, od_Lwhole, .func (PySem.W.fnOf "_law_whole" "_law_whole" (defArgs s_Lwhole) (defBody s_Lwhole) (defScope s_Lwhole) .none kV_Lwhole dc_Lwhole pm_Lwhole an_Lwhole cd_Lwhole ct_Lwhole), sl_Lwhole⟩) (C_Lwhole : PySem.W.codeIn K cd_Lwhole "_law_whole" = true) (K_Lwhole : PySem.W.keepIn K (.ref f_Lwhole) = true)
    (A_Lsame : PySem.W.nsIn K mainGlobals "_law_same" = some (some (.ref f_Lsame))) (L_Lsame : K.lookup f_Lsame = some ⟨oc_Lsame, od_Lsame, .func (PySem.W.fnOf "_law_same" "_law_same" (defArgs s_Lsame) (defBody s_Lsame) (defScope s_Lsame) .none kV_Lsame dc_Lsame pm_Lsame an_Lsame cd_Lsame ct_Lsame), sl_Lsame⟩) (C_Lsame : PySem.W.codeIn K cd_Lsame "_law_same" = true) (K_Lsame : PySem.W.keepIn K (.ref f_Lsame) = true)
    (A_Ltrue : PySem.W.nsIn K mainGlobals "_law_true" = some (some (.ref f_Ltrue))) (L_Ltrue : K.lookup f_Ltrue = some ⟨oc_Ltrue, od_Ltrue, .func (PySem.W.fnOf "_law_true" "_law_true" (defArgs s_Ltrue) (defBody s_Ltrue) (defScope s_Ltrue) .none kV_Ltrue dc_Ltrue pm_Ltrue an_Ltrue cd_Ltrue ct_Ltrue), sl_Ltrue⟩) (C_Ltrue : PySem.W.codeIn K cd_Ltrue "_law_true" = true) (K_Ltrue : PySem.W.keepIn K (.ref f_Ltrue) = true)
    (A_law : PySem.W.nsIn K mainGlobals "law" = some (some (.ref f_law))) (L_law : K.lookup f_law = some ⟨oc_law, od_law, .func (PySem.W.fnOf "law" "law" (defArgs s_law) (defBody s_law) (defScope s_law) .none kV_law dc_law pm_law an_law cd_law ct_law), sl_law⟩) (C_law : PySem.W.codeIn K cd_law "law" = true) (K_law : PySem.W.keepIn K (.ref f_law) = true)
    (A_LETTERS : PySem.W.nsIn K mainGlobals "LETTERS" = some (some (.str "nesw" t_LETTERS)))
    (Z_abs : PySem.W.nsIn K mainGlobals "abs" = some none)
    (Z_all : PySem.W.nsIn K mainGlobals "all" = some none)
    (Z_bool : PySem.W.nsIn K mainGlobals "bool" = some none)
    (Z_int : PySem.W.nsIn K mainGlobals "int" = some none)
    (Z_isinstance : PySem.W.nsIn K mainGlobals "isinstance" = some none)
    (Z_len : PySem.W.nsIn K mainGlobals "len" = some none)
    (Z_list : PySem.W.nsIn K mainGlobals "list" = some none)
    (Z_range : PySem.W.nsIn K mainGlobals "range" = some none)
    (Z_str : PySem.W.nsIn K mainGlobals "str" = some none)
    (Z_tuple : PySem.W.nsIn K mainGlobals "tuple" = some none)
    (Z_zip : PySem.W.nsIn K mainGlobals "zip" = some none) :
    ∃ fd : FuncData, (∀ (s : Shared) (v : Value), BindsTo s fd ⟨[v], []⟩ [("_law_script", v)]) ∧ ∀ base : Heap, K.In base → base.Ns mainGlobals mg → FnOk l.prog w K mg base CX0 6 fa fd ["_law_script"] (spLaw K) := by
  have e := hfa.symm.trans (PySem.W.mg_of X G A_law)
  cases e
  let T : Top w K mg := {
    a_is_whole := f_is_whole, fd_is_whole := _, F_is_whole := fun_mk (st := s_is_whole) L_is_whole C_is_whole K_is_whole,
    b_is_whole := (fun_mk (st := s_is_whole) L_is_whole C_is_whole K_is_whole).binds (ps := ["thing"]) fun _ _ _ _ _ _ us hl => match us, hl with | [_], _ => rfl,
    g_is_whole := PySem.W.mg_of X G A_is_whole,
    a_is_lot := f_is_lot, fd_is_lot := _, F_is_lot := fun_mk (st := s_is_lot) L_is_lot C_is_lot K_is_lot,
    b_is_lot := (fun_mk (st := s_is_lot) L_is_lot C_is_lot K_is_lot).binds (ps := ["thing"]) fun _ _ _ _ _ _ us hl => match us, hl with | [_], _ => rfl,
    g_is_lot := PySem.W.mg_of X G A_is_lot,
    a_refuse_unless_lot := f_refuse_unless_lot, fd_refuse_unless_lot := _, F_refuse_unless_lot := fun_mk (st := s_refuse_unless_lot) L_refuse_unless_lot C_refuse_unless_lot K_refuse_unless_lot,
    b_refuse_unless_lot := (fun_mk (st := s_refuse_unless_lot) L_refuse_unless_lot C_refuse_unless_lot K_refuse_unless_lot).binds (ps := ["thing"]) fun _ _ _ _ _ _ us hl => match us, hl with | [_], _ => rfl,
    g_refuse_unless_lot := PySem.W.mg_of X G A_refuse_unless_lot,
    a_mirrors := f_mirrors, fd_mirrors := _, F_mirrors := fun_mk (st := s_mirrors) L_mirrors C_mirrors K_mirrors,
    b_mirrors := (fun_mk (st := s_mirrors) L_mirrors C_mirrors K_mirrors).binds (ps := ["lot"]) fun _ _ _ _ _ _ us hl => match us, hl with | [_], _ => rfl,
    g_mirrors := PySem.W.mg_of X G A_mirrors,
    a_true := f_true, fd_true := _, F_true := fun_mk (st := s_true) L_true C_true K_true,
    b_true := (fun_mk (st := s_true) L_true C_true K_true).binds (ps := ["lot", "letter"]) fun _ _ _ _ _ _ us hl => match us, hl with | [_, _], _ => rfl,
    g_true := PySem.W.mg_of X G A_true,
    a_shown := f_shown, fd_shown := _, F_shown := fun_mk (st := s_shown) L_shown C_shown K_shown,
    b_shown := (fun_mk (st := s_shown) L_shown C_shown K_shown).binds (ps := ["lot", "letter"]) fun _ _ _ _ _ _ us hl => match us, hl with | [_, _], _ => rfl,
    g_shown := PySem.W.mg_of X G A_shown,
    a_undone := f_undone, fd_undone := _, F_undone := fun_mk (st := s_undone) L_undone C_undone K_undone,
    b_undone := (fun_mk (st := s_undone) L_undone C_undone K_undone).binds (ps := ["lot"]) fun _ _ _ _ _ _ us hl => match us, hl with | [_], _ => rfl,
    g_undone := PySem.W.mg_of X G A_undone,
    a_Lpool := f_Lpool, fd_Lpool := _, F_Lpool := fun_mk (st := s_Lpool) L_Lpool C_Lpool K_Lpool,
    b_Lpool := (fun_mk (st := s_Lpool) L_Lpool C_Lpool K_Lpool).binds (ps := ["_law_script", "_law_k"]) fun _ _ _ _ _ _ us hl => match us, hl with | [_, _], _ => rfl,
    g_Lpool := PySem.W.mg_of X G A_Lpool,
    a_Ltake := f_Ltake, fd_Ltake := _, F_Ltake := fun_mk (st := s_Ltake) L_Ltake C_Ltake K_Ltake,
    b_Ltake := (fun_mk (st := s_Ltake) L_Ltake C_Ltake K_Ltake).binds (ps := ["_law_pool_here", "_law_wide"]) fun _ _ _ _ _ _ us hl => match us, hl with | [_, _], _ => rfl,
    g_Ltake := PySem.W.mg_of X G A_Ltake,
    a_Lmix := f_Lmix, fd_Lmix := _, F_Lmix := fun_mk (st := s_Lmix) L_Lmix C_Lmix K_Lmix,
    b_Lmix := (fun_mk (st := s_Lmix) L_Lmix C_Lmix K_Lmix).binds (ps := ["_law_pool_here", "_law_things"]) fun _ _ _ _ _ _ us hl => match us, hl with | [_, _], _ => rfl,
    g_Lmix := PySem.W.mg_of X G A_Lmix,
    a_Lwhole := f_Lwhole, fd_Lwhole := _, F_Lwhole := fun_mk (st := s_Lwhole) L_Lwhole C_Lwhole K_Lwhole,
    b_Lwhole := (fun_mk (st := s_Lwhole) L_Lwhole C_Lwhole K_Lwhole).binds (ps := ["_law_thing"]) fun _ _ _ _ _ _ us hl => match us, hl with | [_], _ => rfl,
    g_Lwhole := PySem.W.mg_of X G A_Lwhole,
    a_Lsame := f_Lsame, fd_Lsame := _, F_Lsame := fun_mk (st := s_Lsame) L_Lsame C_Lsame K_Lsame,
    b_Lsame := (fun_mk (st := s_Lsame) L_Lsame C_Lsame K_Lsame).binds (ps := ["_law_found", "_law_due"]) fun _ _ _ _ _ _ us hl => match us, hl with | [_, _], _ => rfl,
    g_Lsame := PySem.W.mg_of X G A_Lsame,
    a_Ltrue := f_Ltrue, fd_Ltrue := _, F_Ltrue := fun_mk (st := s_Ltrue) L_Ltrue C_Ltrue K_Ltrue,
    b_Ltrue := (fun_mk (st := s_Ltrue) L_Ltrue C_Ltrue K_Ltrue).binds (ps := ["_law_lot", "_law_letter"]) fun _ _ _ _ _ _ us hl => match us, hl with | [_, _], _ => rfl,
    g_Ltrue := PySem.W.mg_of X G A_Ltrue,
    a_law := fa, fd_law := _, F_law := fun_mk (st := s_law) L_law C_law K_law,
    b_law := (fun_mk (st := s_law) L_law C_law K_law).binds (ps := ["_law_script"]) fun _ _ _ _ _ _ us hl => match us, hl with | [_], _ => rfl,
    g_law := PySem.W.mg_of X G A_law,
    g_LETTERS := ⟨_, PySem.W.mg_of X G A_LETTERS⟩,
    m_abs := PySem.W.mg_none_of X G Z_abs, m_all := PySem.W.mg_none_of X G Z_all, m_bool := PySem.W.mg_none_of X G Z_bool, m_int := PySem.W.mg_none_of X G Z_int, m_isinstance := PySem.W.mg_none_of X G Z_isinstance, m_len := PySem.W.mg_none_of X G Z_len, m_list := PySem.W.mg_none_of X G Z_list, m_range := PySem.W.mg_none_of X G Z_range, m_str := PySem.W.mg_none_of X G Z_str, m_tuple := PySem.W.mg_none_of X G Z_tuple, m_zip := PySem.W.mg_none_of X G Z_zip }
  exact ⟨T.fd_law, fun s v => .of_eq rfl, fun base _ _ => ok_law T⟩
end M
open PySem PySem.W PyProof.Rows
set_option maxHeartbeats 0 in
theorem PySem.Challenge.cw_wayneedle_k02_lots_truly_holds : PySem.Challenge.rw_wayneedle_k02_lots_truly.Holds := by
  w_on; o_law; k_head; (case hw => w_witness2)
  k_fill
  refine L2.walk_of (l := PySem.Challenge.rw_wayneedle_k02_lots_truly) (n := 63) (k := 6) (x := "_law_script") (CX := fun _ => L2.CX0) (sp := fun w => M.spLaw _) rfl (by decide) rfl ⟨rfl, by decide, by decide⟩ (fun w h Y => PySem.W.kIn_of Y) ?F (fun _ _ a ns hl _ hS => ⟨a, ns, rfl, hS, hl, fun _ => rfl⟩) (fun _ _ _ _ _ h => h)
  case F =>
    intro w mg fa h KX G hmg
    refine' M.all_mk KX G hmg ?A_is_whole ?L_is_whole ?C_is_whole ?K_is_whole ?A_is_lot ?L_is_lot ?C_is_lot ?K_is_lot ?A_refuse_unless_lot ?L_refuse_unless_lot ?C_refuse_unless_lot ?K_refuse_unless_lot ?A_mirrors ?L_mirrors ?C_mirrors ?K_mirrors ?A_true ?L_true ?C_true ?K_true ?A_shown ?L_shown ?C_shown ?K_shown ?A_undone ?L_undone ?C_undone ?K_undone ?A_Lpool ?L_Lpool ?C_Lpool ?K_Lpool ?A_Ltake ?L_Ltake ?C_Ltake ?K_Ltake ?A_Lmix ?L_Lmix ?C_Lmix ?K_Lmix ?A_Lwhole ?L_Lwhole ?C_Lwhole ?K_Lwhole ?A_Lsame ?L_Lsame ?C_Lsame ?K_Lsame ?A_Ltrue ?L_Ltrue ?C_Ltrue ?K_Ltrue ?A_law ?L_law ?C_law ?K_law ?A_LETTERS ?Z_abs ?Z_all ?Z_bool ?Z_int ?Z_isinstance ?Z_len ?Z_list ?Z_range ?Z_str ?Z_tuple ?Z_zip
    (case A_is_whole => k_is); (case L_is_whole => k_is); (case C_is_whole => k_is); (case K_is_whole => k_is); (case A_is_lot => k_is); (case L_is_lot => k_is); (case C_is_lot => k_is); (case K_is_lot => k_is); (case A_refuse_unless_lot => k_is); (case L_refuse_unless_lot => k_is); (case C_refuse_unless_lot => k_is); (case K_refuse_unless_lot => k_is); (case A_mirrors => k_is); (case L_mirrors => k_is); (case C_mirrors => k_is); (case K_mirrors => k_is); (case A_true => k_is); (case L_true => k_is); (case C_true => k_is); (case K_true => k_is); (case A_shown => k_is); (case L_shown => k_is); (case C_shown => k_is); (case K_shown => k_is); (case A_undone => k_is); (case L_undone => k_is); (case C_undone => k_is); (case K_undone => k_is); (case A_Lpool => k_is); (case L_Lpool => k_is); (case C_Lpool => k_is); (case K_Lpool => k_is); (case A_Ltake => k_is); (case L_Ltake => k_is); (case C_Ltake => k_is); (case K_Ltake => k_is); (case A_Lmix => k_is); (case L_Lmix => k_is); (case C_Lmix => k_is); (case K_Lmix => k_is); (case A_Lwhole => k_is); (case L_Lwhole => k_is); (case C_Lwhole => k_is); (case K_Lwhole => k_is); (case A_Lsame => k_is); (case L_Lsame => k_is); (case C_Lsame => k_is); (case K_Lsame => k_is); (case A_Ltrue => k_is); (case L_Ltrue => k_is); (case C_Ltrue => k_is); (case K_Ltrue => k_is); (case A_law => k_is); (case L_law => k_is); (case C_law => k_is); (case K_law => k_is); (case A_LETTERS => k_is); (case Z_abs => k_is); (case Z_all => k_is); (case Z_bool => k_is); (case Z_int => k_is); (case Z_isinstance => k_is); (case Z_len => k_is); (case Z_list => k_is); (case Z_range => k_is); (case Z_str => k_is); (case Z_tuple => k_is); (case Z_zip => k_is)
