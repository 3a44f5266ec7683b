import PyProof.Rows.All
import Wide.All
import OpenK.AllK
import Wide.FinOn
import HandS.ForMost
import HandS.ForExc
import HandS.HotCalls
import HandS.ExcIs
import HandS.ExcInit
import HandS.ExcField
import HandS.Defaults
import HandS.CallSlots
import HandS.Deep
import KE.GoesEnum
import KE.GoesNew
import HandS.IsInst
import HandS.Replace
import HandS.Wide
import HandS.NoneIn
import HandS.Walk
import HandS.Evl
import HandS.More
import HandS.Zip
import HandS.Conv
import KE.KxIndex
import PySem.Challenge.RW_wayneedle_k14_whole_facts_of_a_land
import HandS.TupMul
import HandS.Star
import HandS.TupAny
import HandS.Flow
import HandS.RaiseMore
import HandS.SortRule
import HandS.Strs
import KE.GoesEnumKw
import HandS.Iter
import HandS.OwnEq
import HandS.FStr
import KE.DataCmp
import HandS.SuiteRaise
import HandS.RaiseFrom
import HandS.ExcInitHot
import PyProof.ListStr
set_option Elab.async false
set_option linter.all false
set_option maxRecDepth 100000
set_option maxHeartbeats 4000000

namespace Rep01
open PySem PySem.Spec PyProof.Rows L2
/-! ### a tuple of something, taken once or not at all -/
abbrev tupO (its : Array Value) (n : Nat) (dd : Option Addr) (sl : Array (Option Value)) : Obj := { cls := .type "tuple", dict := dd, data := .seq its n, slots := sl }
theorem once {l : Addr} {its : Array Value} {n : Nat} {dd : Option Addr} {sl : Array (Option Value)} {u : Tok} :
    Meets (Builtin.«tuple.__mul__» ⟨[.ref l, .int 1 u], []⟩) (fun _ R s => s.heap.get? l = some (tupO its n dd sl) ∧ R (.ok (.ret (.ref l))) s) :=
  .of_wp fun prog w A R s h => by
    obtain ⟨hl, h⟩ := h
    obtain ⟨hp, g, d, tk, os⟩ := s
    have ix := AutoSeq1.idx_int
    have cy : (its.isEmpty || (1 : Int) == 1) = true := by rw [show ((1 : Int) == 1) = true from rfl, Bool.or_true]
    wp_walk using wpAny_loadPart' hl
    exact ⟨_, rfl, h⟩
theorem never {l : Addr} {its : Array Value} {n : Nat} {dd : Option Addr} {sl : Array (Option Value)} {u : Tok} (he : its.isEmpty = false) :
    Meets (Builtin.«tuple.__mul__» ⟨[.ref l, .int 0 u], []⟩) (fun _ R s => s.heap.get? l = some (tupO its n dd sl) ∧ R (.ok (.ret (.ref s.heap.objs.size))) { s with heap := s.heap.push { cls := .type "tuple", data := .seq #[] }, toks := s.toks }) :=
  .of_wp fun prog w A R s h => by
    obtain ⟨hl, h⟩ := h
    obtain ⟨hp, g, d, tk, os⟩ := s
    have ix := AutoSeq1.idx_int
    wp_walk using wpAny_loadPart' hl
    exact ⟨_, rfl, h⟩
def rTwo (K : PySem.W.Frag) : R2 := fun x y H Q => ∃ (l : Addr) (v : V) (k : Int), x = .ref l ∧ y = .int k ∧ SqT K H l [v] ∧ (k = 1 ∨ k = 0) ∧ (k = 1 → Q (.ref l) H) ∧ (k = 0 → ∀ p, H p = none → Q (.ref p) (upd H p (.tup [])))
theorem op_two {X : Cx} : OpR X (binaryOp .Mult) (rTwo X.K) := by
  intro pins s σ H x y v u Q I rx ry h
  obtain ⟨l, v1, k, rfl, rfl, hT, hk, q1, q0⟩ := h
  cases rx
  obtain ⟨t, rfl⟩ := ry
  obtain ⟨its, r, ⟨⟨cls, dd, data, sl⟩, ho, hc, n, hd⟩, _⟩ := I.tuple hT
  simp only at hc hd
  subst hc hd
  have he : its.toArray.isEmpty = false := by
    cases r with
    | cons _ _ => rfl
  refine wpAny_binaryOp_repeat_ref (T := "tuple") (by decide) ⟨_, ho, rfl⟩ (U := "int") (typeIs_int · k t) noFill_tuple_mul F.fills_int_mul F.slot_int_rmul repeat_tuple F.slot_int_index.lookup ?_
  refine call_meets F.slot_int_rmul (typeIs_int s k t) F.entry_int_rmul (F.args_int_rmul_2 _ _) (int_rmul_tuple k t l _ n dd sl) ⟨ho, rfl, ⟨_, ho, rfl⟩, ?_⟩
  rcases hk with rfl | rfl
  · exact call_meets F.slot_tuple_mul ⟨_, ho, rfl⟩ F.entry_tuple_mul (F.args_tuple_mul_2 _ _) once ⟨ho, .ref l, H, I, rfl, q1 rfl⟩
  · exact call_meets F.slot_tuple_mul ⟨_, ho, rfl⟩ F.entry_tuple_mul (F.args_tuple_mul_2 _ _) (never he) ⟨ho, .ref s.heap.objs.size, _, I.laid (t' := s.toks) (o := .tup []) (fun b ob q => Heap.get?_push_of_some _ q) (Nat.le_refl _) ⟨Nat.zero_le _, _, .nil, IsTup.new _ _⟩, rfl, q0 rfl _ (I.hok.fresh (Nat.le_refl _))⟩
end Rep01
namespace RepN
open PySem PySem.Spec PyProof.Rows L2
/-! ### a tuple of one thing, taken any number of times -/
def rRepN (K : PySem.W.Frag) : R2 := fun x y H Q => ∃ (l : Addr) (v : V) (k : Nat), x = .ref l ∧ y = .int (k : Nat) ∧ SqT K H l [v] ∧ k ≤ 1000 ∧ ∀ p H', Same H H' → SqT K H' p (List.replicate k v) → Q (.ref p) H'
theorem op_repN {X : Cx} : OpR X (binaryOp .Mult) (rRepN X.K) := fun pins s σ H x y v u Q I rx ry ⟨l, a, k, e1, e2, hl, small, q⟩ => by
  have new : ∀ {p : Addr} {xs : List V}, H p = none → xs = List.replicate k a → Q (.ref p) (L2.upd H p (.tup xs)) := fun {p xs} n e => by
    refine q p _ (fun b o z => ?_) (e ▸ .inl (.inl upd_same))
    rw [upd_ne (ne_of_none z n)]; exact z
  by_cases two : 2 ≤ k
  · refine op_repT pins s σ H x y v u Q I rx ry ⟨l, k, [a], e1, e2, hl, by simp, by omega, by omega, by simp, fun p n => new n ?_⟩
    rw [Int.toNat_natCast]
    clear small two e2 new q
    induction k with
    | zero => rfl
    | succ k ih => rw [List.replicate_succ, List.flatten_cons, ih]; rfl
  · refine Rep01.op_two pins s σ H x y v u Q I rx ry ⟨l, a, k, e1, e2, hl, by omega, fun one => ?_, fun none p n => ?_⟩
    · have : k = 1 := by omega
      subst this
      exact q l H (Same.refl H) hl
    · have : k = 0 := by omega
      subst this
      exact new n rfl
end RepN
/-! ### iterators that hand out pairs (enumerate, zip), over what is a list or a tuple: one turn for all of them, by GoesN -/
namespace PairW
open PySem PySem.Spec PyProof.Rows L2
/-- a sequence and an iterator over it: a tuple (true) or a list (false) -/
def SqB (t : Bool) (h : Heap) (l : Addr) (xs : Array Value) : Prop := match t with
  | true => h.IsTuple l xs
  | false => h.IsList l xs
def ItB (t : Bool) (h : Heap) (it l : Addr) (k : Nat) : Prop := match t with
  | true => h.IsTupleIter it l k
  | false => h.IsListIter it l k
def SqV (t : Bool) (K : PySem.W.Frag) (H : Hp) (a : Addr) (xs : List V) : Prop := match t with
  | true => SqT K H a xs
  | false => SqL K H a xs
def itO (t : Bool) (l : Addr) : Obj := match t with
  | true => { cls := .type "tuple_iterator", data := .fields #[.ref l, .int 0 0] }
  | false => { cls := .type "list_iterator", data := .fields #[.ref l, .int 0 0] }
theorem SqB.lt {t : Bool} {h : Heap} {a : Addr} {xs : Array Value} (q : SqB t h a xs) : a < h.objs.size := by
  cases t <;> (obtain ⟨o, e, _⟩ := q; exact Heap.lt_size e)
theorem ItB.at {t : Bool} {h h' : Heap} {a l : Addr} {k : Nat} (x : ItB t h a l k) (e : ∀ o, h.get? a = some o → h'.get? a = some o) : ItB t h' a l k := by
  cases t
  · exact Heap.IsListIter.at x e
  · exact Heap.IsTupleIter.at x e
theorem ItB.obj {t : Bool} {h : Heap} {a l : Addr} {k : Nat} (x : ItB t h a l k) : ∃ o, h.get? a = some o ∧ ∀ v, o.data ≠ .cell v := by
  cases t <;> (obtain ⟨o, e, _, d⟩ := x; exact ⟨o, e, fun v q => by rw [d] at q; cases q⟩)
theorem itO_is {t : Bool} {h : Heap} {a l : Addr} (e : h.get? a = some (itO t l)) : ItB t h a l 0 := by
  cases t <;> exact ⟨_, e, rfl, rfl⟩
theorem sqv_get {X : Cx} {pins : List (Addr × Obj)} {σ : L2.St} {H : Hp} {s : Shared} {t : Bool} {a : Addr} {xs : List V} (I : Inv X pins σ H s) (h : SqV t X.K H a xs) : ∃ its, Vals xs its ∧ SqB t s.heap a its.toArray := by
  cases t
  · obtain ⟨its, rv, there, _⟩ := I.list h
    exact ⟨its, rv, there.isList⟩
  · obtain ⟨its, rv, there, _⟩ := I.tuple h
    exact ⟨its, rv, there⟩
theorem sqv_inj {X : Cx} {pins : List (Addr × Obj)} {σ : L2.St} {H : Hp} {s : Shared} {t : Bool} {a : Addr} {xs ys : List V} (I : Inv X pins σ H s) (h : SqV t X.K H a xs) (h' : SqV t X.K H a ys) : xs = ys := by
  cases t
  · exact I.list_inj h h'
  · exact I.tuple_inj h h'
theorem draws {prog : Program} {w : World} {A : Around} (hh : A.handled = none) (t : Bool) {it l : Addr} (ne : l ≠ it) (items : Array Value) :
    Draws prog w A it [it, l] items.size (fun i v => items[i]? = some v) (fun i h => ItB t h it l i ∧ SqB t h l items) := by
  cases t
  · exact Draws.list hh it l ne items
  · exact Draws.tuple hh it l ne items
theorem begins (t : Bool) (l : Addr) (items : Array Value) : Begins (.ref l) (itO t l) (fun h => SqB t h l items) := by
  cases t
  · exact begins_list l items
  · exact begins_tuple l items
/-- an iterator stands, made of new cells alone -/
theorem begun {X : Cx} {pins : List (Addr × Obj)} {σ : L2.St} {H : Hp} {s : Shared} {tg : Expr} {J : It} {fp : List Addr} {it : Addr} {tn : Nat → Heap → Prop} {R : It → Hp → Prop} {h' : Heap} (I : Inv X pins σ H s)
    (old : ∀ b o, s.heap.get? b = some o → h'.get? b = some o) (T : Turn X.prog X.w X.K tg J fp it tn) (st : tn 0 h') (new : ∀ b ∈ fp, s.heap.objs.size ≤ b) (q : R J H) : PIE X pins σ tg R (.ref it) { s with heap := h' } :=
  ⟨it, fp, tn, J, H, rfl, I.kept (t' := s.toks) old, T, st, fun b m => I.fpOk (new b m) (I.hok.fresh (new b m)), q⟩
/-- pairs: when there is one, of what it is, when there is none any more -/
structure Prs where
  go : Nat → Hp → Prop
  are : Nat → Hp → V → V → Prop
  stop : Nat → Hp → Prop
def Prs.it (p : Prs) : It where
  go := p.go
  yld := fun i H v H' => ∃ T x y, v = .ref T ∧ H T = none ∧ H' = upd H T (.tup [x, y]) ∧ p.are i H x y
  stop := p.stop
/-- what the iterator that stands at i over the sequences as they are now does: the library's GoesN, with what its pairs are -/
def Does (P : Program) (w : World) (X : Cx) (tg : Expr) (p : Prs) (it : Addr) (wr : List Addr) (tn : Nat → Heap → Prop) (i : Nat) (H : Hp) (s : Shared) : Prop :=
  ∃ (n : Nat) (fp : List Addr) (Y : Nat → Heap → Value → Heap → Prop) (St : Nat → Heap → Prop), GoesN P w X.A tg it fp wr n Y St ∧ St i s.heap ∧ (∀ h, St (i + 1) h → tn (i + 1) h) ∧ (p.stop i H → i = n) ∧
    (p.go i H → i < n ∧ ∀ h0 v h, Y i h0 v h → ∃ T a b x y, v = .ref T ∧ h0.objs.size ≤ T ∧ h.IsTuple T #[a, b] ∧ RelV x a ∧ RelV y b ∧ p.are i H x y)
theorem turn_prs {P : Program} {w : World} {K : PySem.W.Frag} {tg : Expr} {it : Addr} {fp wr : List Addr} {tn : Nat → Heap → Prop} (p : Prs) (mine : it ∈ fp) (hwr : ∀ b ∈ wr, b ∈ fp)
    (obj : ∀ i h, tn i h → ∀ b ∈ fp, ∃ o, h.get? b = some o ∧ ∀ v, o.data ≠ .cell v) (keep : ∀ i h h', tn i h → (∀ b ∈ fp, ∀ o, h.get? b = some o → h'.get? b = some o) → tn i h')
    (self : ∀ (A : Around) (i : Nat) (s : Shared) (Q : Value → Shared → Prop) (E : Value → Shared → Prop), tn i s.heap → Q (.ref it) s → wpAny (model P w) A (pyIter (.ref it)) Q E s)
    (does : ∀ (X : Cx), X.prog = P → X.w = w → X.K = K → X.calm = true → ∀ i pins s σ H, Inv X pins σ H s → tn i s.heap → (p.go i H ∨ p.stop i H) → Does P w X tg p it wr tn i H s) : Turn P w K tg p.it fp it tn where
  mem := mine
  obj := obj
  keep := keep
  self := self
  item := fun X e1 e2 e3 calm i pins s σ H E I free st more => by
    obtain ⟨n, fp', Y, St, W, here, next, _, far⟩ := does X e1 e2 e3 calm i pins s σ H I st (.inl more)
    obtain ⟨lt, pair⟩ := far more
    refine W.goes i s (fun u s2 => ∃ x H', Inv X pins σ H' s2 ∧ RelV x u ∧ p.it.yld i H x H' ∧ tn (i + 1) s2.heap ∧ ∀ b ∈ fp, H' b = none) E lt here fun v h' tk told st' old _ => ?_
    obtain ⟨T, a, b, x, y, rfl, new, tup, ra, rb, are⟩ := pair _ _ _ told
    refine ⟨.ref T, upd H T (.tup [x, y]), I.turnedNew (ch := wr) old (fun c m => free c (hwr c m)) new ⟨by show 2 ≤ sizeLine; decide, [a, b], .cons ra (.cons rb .nil), tup⟩, rfl, ⟨T, x, y, rfl, I.hok.fresh new, rfl, are⟩, next _ st', fun c m => ?_⟩
    obtain ⟨o, ho, _⟩ := obj i _ st c m
    exact (upd_ne (Nat.ne_of_lt (Nat.lt_of_lt_of_le (Heap.lt_size ho) new))).trans (free c m).1
  done := fun X e1 e2 e3 calm i pins s σ H E I free st none => by
    obtain ⟨n, fp', Y, St, W, here, _, last, _⟩ := does X e1 e2 e3 calm i pins s σ H I st (.inr none)
    rw [last none] at here
    exact W.stops s (fun s1 => Inv X pins σ H s1) E here fun h' tk old _ => I.turnedL (ch := wr) old fun c m => free c (hwr c m)
/-! enumerate, from k0 on -/
def PrE (t : Bool) (k0 : Int) (K : PySem.W.Frag) (a : Addr) : Prs where
  go := fun i H => ∃ xs : List V, SqV t K H a xs ∧ i < xs.length
  are := fun i H x y => x = .int (k0 + (i : Nat)) ∧ ∀ xs, SqV t K H a xs → xs[i]? = some y
  stop := fun i H => ∃ xs : List V, SqV t K H a xs ∧ i = xs.length
def TnE (t : Bool) (k0 : Int) (a e it : Addr) (i : Nat) (h : Heap) : Prop := (∃ old, IsEnum h e it (k0 + (i : Int)) old) ∧ ItB t h it a i
theorem turn_e {P : Program} {w : World} {K : PySem.W.Frag} {elts : List Expr} {kk : Nat} {tpos : Pos} {t : Bool} {k0 : Int} {a e it : Addr} (hai : a ≠ it) (hae : a ≠ e) (hei : e ≠ it) :
    Turn P w K (.Tuple elts kk tpos) (PrE t k0 K a).it [e, it] e (TnE t k0 a e it) := by
  refine turn_prs (wr := [e, it]) _ (by simp) (fun _ m => m) (fun i h st b m => ?_) (fun i h h' st k => ?_) (fun A i s Q E st q => ?_) fun X e1 e2 e3 calm i pins s σ H I st told => ?_
  · obtain ⟨⟨_, he⟩, hi⟩ := st
    rcases List.mem_cons.mp m with z | m
    · exact z ▸ ⟨_, he, fun _ q => nomatch q⟩
    · exact List.mem_singleton.mp m ▸ hi.obj
  · obtain ⟨⟨old, he⟩, hi⟩ := st
    exact ⟨⟨old, k e (by simp) _ he⟩, hi.at fun o => k it (by simp) o⟩
  · exact wpAny_pyIter_enum st.1.choose_spec q
  · subst e1 e2 e3
    obtain ⟨xs, hq⟩ : ∃ xs : List V, SqV t X.K H a xs := told.elim (fun ⟨xs, q, _⟩ => ⟨xs, q⟩) fun ⟨xs, q, _⟩ => ⟨xs, q⟩
    obtain ⟨its, rv, there⟩ := sqv_get I hq
    have many : xs.length = its.toArray.size := by rw [List.size_toArray]; exact rv.length
    have D := draws (prog := X.prog) (w := X.w) (A := X.A.in1) (I.ok.hd calm) t hai its.toArray
    refine ⟨_, _, _, _, GoesN.enumFrom k0 D e hei (by simp; exact ⟨hei, Ne.symm hae⟩) (by simp), ⟨st.1, st.2, there⟩, fun h q => ⟨q.1, q.2.1⟩, fun ⟨ys, q, n⟩ => by rw [n, sqv_inj I q hq, many], fun ⟨ys, q, n⟩ => ⟨?_, ?_⟩⟩
    · rw [sqv_inj I q hq, many] at n; exact n
    · rintro h0 v h ⟨T, tk, u, rfl, new, hu, tup⟩
      have ix : i < xs.length := by rw [← sqv_inj I q hq]; exact n
      obtain ⟨u', hu', ru⟩ := rv.get (List.getElem?_eq_getElem ix)
      have same : u' = u := Option.some.inj (hu'.symm.trans (by simpa using hu))
      exact ⟨T, _, u, .int (k0 + (i : Nat)), xs[i], rfl, new, tup, ⟨tk, rfl⟩, same ▸ ru, rfl, fun zs hz => by rw [sqv_inj I hz hq]; exact List.getElem?_eq_getElem ix⟩
theorem walk_e {t : Bool} {k0 : Int} {K : PySem.W.Frag} {a : Addr} {xs : List V} : Walk (PrE t k0 K a).it xs.length (fun H => SqV t K H a xs) (YPair (fun i => some (.int (k0 + (i : Nat)))) (fun i => xs[i]?)) where
  goes := fun i H lt q => ⟨xs, q, lt⟩
  stops := fun H q => ⟨xs, q, rfl⟩
  yields := fun i H v H' _ q ⟨T, x, y, e1, e2, e3, e4, e5⟩ => ⟨T, x, y, e1, e2, e3, by rw [e4], e5 xs q⟩
/-- the two cells of an enumerate that was made just now -/
theorem pie_e {X : Cx} {pins : List (Addr × Obj)} {σ : L2.St} {H : Hp} {s : Shared} {elts : List Expr} {kk : Nat} {tpos : Pos} {t : Bool} {k0 : Int} {a : Addr} {xs : List V} {R : It → Hp → Prop} {h' : Heap} (I : Inv X pins σ H s) (hq : SqV t X.K H a xs)
    (he : IsEnum h' (s.heap.objs.size + 1) s.heap.objs.size k0 .none) (hi : h'.get? s.heap.objs.size = some (itO t a)) (old : ∀ b o, s.heap.get? b = some o → h'.get? b = some o) (q : R (PrE t k0 X.K a).it H) :
    wpAny (model X.prog X.w) X.A (pyIter (.ref (s.heap.objs.size + 1))) (PIE X pins σ (.Tuple elts kk tpos) R) X.xe { s with heap := h' } := by
  obtain ⟨its, _, there⟩ := sqv_get I hq
  have lt := there.lt
  refine wpAny_pyIter_enum he (begun I old (turn_e (t := t) (k0 := k0) (Nat.ne_of_lt lt) (Nat.ne_of_lt (Nat.lt_succ_of_lt lt)) (Nat.succ_ne_self _)) ⟨⟨.none, ?_⟩, itO_is hi⟩ (fun b m => ?_) q)
  · show IsEnum h' _ _ (k0 + 0) _
    rw [Int.add_zero]; exact he
  · rcases List.mem_cons.mp m with z | m
    · exact z ▸ Nat.le_succ _
    · exact Nat.le_of_eq (List.mem_singleton.mp m).symm
/-- enumerate of one thing, whatever its iterator is -/
theorem made_one {v : Value} {o : Obj} {G : Heap → Prop} (B : Begins v o G) : Meets (Builtin.«enumerate.__new__» ⟨[.type "enumerate", v], []⟩) (fun _ R s => G s.heap ∧
    R (.ok (.ret (.ref (s.heap.push o).objs.size))) { s with heap := (s.heap.push o).push { cls := .type "enumerate", data := .fields #[.none, .bool false, .ref s.heap.objs.size, rawInt 0, .none, .none] } }) := .of_wp fun prog w A R ⟨hp, g, dr, tk, os⟩ ⟨stands, ends⟩ => by
  have known := sub_enumerate
  have first : ∀ {A' : Around} {E Q : Value → Shared → Prop}, Q (.ref hp.objs.size) ⟨hp.push o, g, dr, tk, os⟩ → wpAny (model prog w) A' (pyIter v) Q E ⟨hp, g, dr, tk, os⟩ := fun q => B.iter prog w _ _ ⟨hp, g, dr, tk, os⟩ _ stands q
  wp_walk using first
  refine wpAny_stack_any (fun _ => wpAny_pure ?_)
  split
  next c _ _ _ _ _ => cases (c == Value.type "enumerate") <;> (wp_walk using first; exact ⟨_, rfl, ends⟩)
  next => wp_walk using first; exact ⟨_, rfl, ends⟩
theorem call_one {prog : Program} {w : World} {A : Around} {E : Value → Shared → Prop} {s : Shared} {v : Value} {o : Obj} {G : Heap → Prop} {Q : Value → Shared → Prop} (B : Begins v o G) (stands : G s.heap)
    (then_ : ∀ h', IsEnum h' (s.heap.objs.size + 1) s.heap.objs.size 0 .none → h'.get? s.heap.objs.size = some o → (∀ b o, s.heap.get? b = some o → h'.get? b = some o) → Q (.ref (s.heap.objs.size + 1)) { s with heap := h' }) :
    wpAny (model prog w) A (call (.type "enumerate") [v]) Q E s := by
  refine callType_new F.called_enumerate (by decide) (F.typeCall_enumerate_1 _) (F.newCall_enumerate_1 _) (fun obj => F.args_object_init_2 obj _) F.entry_enumerate_new (made_one B) ⟨stands, ?_⟩
  have n1 := Heap.size_push s.heap o
  have last : IsEnum ((s.heap.push o).push { cls := .type "enumerate", data := .fields #[.none, .bool false, .ref s.heap.objs.size, rawInt 0, .none, .none] }) (s.heap.objs.size + 1) s.heap.objs.size 0 .none := n1 ▸ Heap.get?_push_size (s.heap.push o) rfl
  refine n1.symm ▸ ⟨⟨_, last, rfl⟩, then_ _ last ?_ fun b u z => ?_⟩
  · exact Heap.get?_push_of_some _ (Heap.get?_push_size _ B.free)
  · exact Heap.get?_push_of_some _ (Heap.get?_push_of_some _ z)
end PairW
namespace EnumT
open PySem PySem.Spec PyProof.Rows L2 PairW
theorem walk_enumT {K : PySem.W.Frag} {a : Addr} {xs : List V} : Walk (PrE true 0 K a).it xs.length (fun H => SqT K H a xs) (YPair (fun i => some (.int (i : Nat))) (fun i => xs[i]?)) := by
  have w := walk_e (t := true) (k0 := 0) (K := K) (a := a) (xs := xs)
  simp only [Int.zero_add] at w
  exact w
def iEnumT (K : PySem.W.Frag) (ta : TA) : TI := fun σ H R => ta σ H fun vs H1 => ∃ a xs, vs = [.ref a] ∧ SqT K H1 a xs ∧ R (PrE true 0 K a).it H1
theorem pi_enumT {X : Cx} {e : Expr} {ta : TA} {p pos tpos : Pos} {elts : List Expr} {kk : Nat} (hg : Gl X "enumerate") (hm : X.mg "enumerate" = none) (ha : PA X [e] ta)
    (hs : starEach [e] X.env = [(false, eval e X.env)] := by rfl) : PI X (.Tuple elts kk tpos) (.Call (.Name "enumerate" p) [e] [] pos) (iEnumT X.K ta) where
  run := fun pins s σ H R I h => Call_ (ld_blt I hg hm boot_enumerate (PyProof.Rows.callWith_type1 (thn (ha.run pos pins s σ H _ I h) fun us s1 ⟨vs, H1, I1, rv, a, xs, e, hq, q⟩ => by
    subst e
    obtain ⟨_, rfl, rfl⟩ := vals1 rv
    obtain ⟨its, _, there⟩ := sqv_get (t := true) I1 hq
    exact call_one (begins true a its.toArray) there fun h' he hi old => pie_e (t := true) (xs := xs) I1 hq he hi old q) hs rfl))
end EnumT
/-! ### walks over what is a list or a tuple -/
namespace SeqW
open PySem PySem.Spec PySem.Calls PyProof.Rows L2
/-- what stands at a is as it was -/
def Keeps (a : Addr) (H H' : Hp) : Prop := ∀ o, H a = some o → H' a = some o
theorem keeps_v {t : Bool} {K : PySem.W.Frag} {H H' : Hp} {a : Addr} {xs : List V} (k : Keeps a H H') (h : PairW.SqV t K H a xs) : PairW.SqV t K H' a xs := by
  cases t <;> exact h.elim (fun h => .inl (h.elim (fun h => .inl (k _ h)) fun ⟨o, h⟩ => .inr ⟨o, k _ h⟩)) .inr
theorem keeps_l {K : PySem.W.Frag} {H H' : Hp} {a : Addr} {xs : List V} (k : Keeps a H H') (h : SqL K H a xs) : SqL K H' a xs := keeps_v (t := false) k h
theorem keeps_t {K : PySem.W.Frag} {H H' : Hp} {a : Addr} {xs : List V} (k : Keeps a H H') (h : SqT K H a xs) : SqT K H' a xs := keeps_v (t := true) k h
theorem keeps_same {a : Addr} {H H' : Hp} (s : Same H H') : Keeps a H H' := fun o h => s a o h
theorem ix_seqK {X : Cx} {K : PySem.W.Frag} (h : X.K = K) : IxR X (rIx K) := by
  subst h
  exact ix_seq
def iSeq (K : PySem.W.Frag) (tl : TE) : TI := fun σ H R => tl σ H fun x H1 => ∃ a xs, x = .ref a ∧ ∃ Kp : Hp → Prop, ((∀ H', Kp H' → SqL K H' a xs) ∨ (∀ H', Kp H' → SqT K H' a xs)) ∧ Kp H1 ∧ ∀ (J : It) (G : Hp → Prop), Walk J xs.length G (YAt xs) → (∀ H', Kp H' → G H') → R J H1
theorem pi_seq {X : Cx} {tg l : Expr} {tl : TE} (hl : PE X l tl) : PI X tg l (iSeq X.K tl) where
  run := fun pins s σ H R I h => thn (hl.run pins s σ H _ I h) fun v s1 ⟨x, H1, I1, rv, a, xs, e, Kp, side, kp, q⟩ => by
    subst e
    cases rv
    have new : ∀ b ∈ [s1.heap.objs.size], s1.heap.objs.size ≤ b := fun b m => Nat.le_of_eq (List.mem_singleton.mp m).symm
    rcases side with is | is
    · obtain ⟨its, _, there, _⟩ := I1.list (is _ kp)
      exact wpAny_pyIter_list there.isList (PairW.begun I1 (fun _ _ => Heap.get?_push_of_some _) (turn_list a _) ⟨_, Heap.get?_push_size _ rfl, rfl, rfl⟩ new (q _ _ walk_list is))
    · obtain ⟨its, _, there, _⟩ := I1.tuple (is _ kp)
      exact wpAny_pyIter_tuple (show s1.heap.IsTuple a its.toArray from there) (PairW.begun I1 (fun _ _ => Heap.get?_push_of_some _) (turn_tuple a _) ⟨_, Heap.get?_push_size _ rfl, rfl, rfl⟩ new (q _ _ walk_tup is))
def iEnumA (K : PySem.W.Frag) (ta : TA) : TI := fun σ H R => ta σ H fun vs H1 => ∃ a xs, vs = [.ref a] ∧ ∃ Kp : Hp → Prop, ((∀ H', Kp H' → SqL K H' a xs) ∨ (∀ H', Kp H' → SqT K H' a xs)) ∧ Kp H1 ∧ ∀ (J : It) (G : Hp → Prop), Walk J xs.length G (YPair (fun i => some (.int (i : Nat))) (fun i => xs[i]?)) → (∀ H', Kp H' → G H') → R J H1
theorem pi_enumA {X : Cx} {e : Expr} {ta : TA} {p pos tpos : Pos} {elts : List Expr} {kk : Nat} (hg : Gl X "enumerate") (hm : X.mg "enumerate" = none) (ha : PA X [e] ta)
    (hs : starEach [e] X.env = [(false, eval e X.env)] := by rfl) : PI X (.Tuple elts kk tpos) (.Call (.Name "enumerate" p) [e] [] pos) (iEnumA X.K ta) where
  run := fun pins s σ H R I h => Call_ (ld_blt I hg hm boot_enumerate (PyProof.Rows.callWith_type1 (thn (ha.run pos pins s σ H _ I h) fun us s1 ⟨vs, H1, I1, rv, a, xs, e, Kp, side, kp, q⟩ => by
    subst e
    obtain ⟨_, rfl, rfl⟩ := vals1 rv
    have go : ∀ t : Bool, (∀ H', Kp H' → PairW.SqV t X.K H' a xs) → wpAny (model X.prog X.w) X.A (call (.type "enumerate") [.ref a]) (fun v s2 => wpAny (model X.prog X.w) X.A (pyIter v) (PIE X pins σ (.Tuple elts kk tpos) R) X.xe s2) X.xe s1 := fun t is => by
      obtain ⟨its, _, there⟩ := PairW.sqv_get I1 (is _ kp)
      have w := PairW.walk_e (t := t) (k0 := 0) (K := X.K) (a := a) (xs := xs)
      simp only [Int.zero_add] at w
      exact PairW.call_one (PairW.begins t a its.toArray) there fun h' he hi old => PairW.pie_e (xs := xs) I1 (is _ kp) he hi old (q _ _ w is)
    exact side.elim (go false) (go true)) hs rfl))
end SeqW
/-! ### names unpacked from a list or a tuple; comprehensions with two fors -/
namespace SeqW
open PySem PySem.Spec PySem.Calls PyProof.Rows L2
def gAny (K : PySem.W.Frag) (n : Nat) (t : TGs) : TG := fun v σ H Q => ∃ a xs, v = .ref a ∧ (SqL K H a xs ∨ SqT K H a xs) ∧ xs.length = n ∧ t xs σ H Q
theorem pg_any {X : Cx} {pos : Pos} {es : List Expr} {k : Nat} {t : TGs} {n : Nat} (hc : X.calm = true) (h : PGs X es t)
    (hn : (assignEach es X.env).length = n := by rfl) (hst : (assignEach es X.env).findIdx? (·.1) = none := by rfl) : PG X (.Tuple es k pos) (gAny X.K n t) := by
  refine ⟨fun pins s σ H v u Q I r hw => ?_⟩
  obtain ⟨a, xs, e1, hq, hl, hw⟩ := hw
  rcases hq with hq | hq
  · exact (pg_unl hc h hn hst).run pins s σ H v u Q I r ⟨a, xs, e1, hq, hl, hw⟩
  · exact (pg_tup hc h hn hst).run pins s σ H v u Q I r ⟨a, xs, e1, hq, hl, hw⟩
section
variable {J J1 : It} {n n1 : Nat} {G G1 : Hp → Prop} {Y Y1 : Nat → Hp → V → Hp → Prop} {g g1 : TG} {tt tt1 : TT} {te : TE} {wi1 : TI} {vs vs1 : List Nat} {σ σ2 : L2.St} {H1 H4 : Hp} {D : Addr} {Qd : Hp → Prop}
theorem lc2_it (w : Walk J n G Y) (Pv : Nat → Hp → Prop) (h0 : Pv 0 (upd H1 D (.lst []))) (hG : ∀ i H, i ≤ n → Pv i H → G H)
    (hs : ∀ i x H H', i < n → Pv i H → Y i H x H' → g x (wipe σ vs) H' fun σ2 H2 => wipe σ2 vs = wipe σ vs ∧ tt σ2 H2 fun b H3 =>
      if b = true then wi1 σ2 H3 fun J1 H4 => ∃ W1 : Nat → Nat → Hp → Prop, (∃ m, W1 0 m H4) ∧ ∀ j k H, W1 j k H →
      (J1.stop j H ∧ Pv (i + 1) H) ∨ (J1.go j H ∧ ∃ Nx1 : Hp → Prop, (∀ H', Nx1 H' → ∃ k', k' < k ∧ W1 (j + 1) k' H') ∧ ∀ x H', J1.yld j H x H' → g1 x (wipe σ2 vs1) H' fun σ3 H5 => wipe σ3 vs1 = wipe σ2 vs1 ∧ tt1 σ3 H5 fun b H6 =>
        if b = true then te σ3 H6 fun y H7 => ∃ acc, H7 D = some (.lst acc) ∧ acc.length < sizeLine ∧ Nx1 (upd H7 D (.lst (acc ++ [y]))) else Nx1 H6)
      else Pv (i + 1) H3) (hd : ∀ H, Pv n H → Qd H) :
    ∃ W : Nat → Nat → Hp → Prop, (∃ m, W 0 m (upd H1 D (.lst []))) ∧ ∀ i m H, W i m H →
  (J.stop i H ∧ Qd H) ∨ (J.go i H ∧ ∃ Nx : Hp → Prop, (∀ H', Nx H' → ∃ m', m' < m ∧ W (i + 1) m' H') ∧ ∀ x H', J.yld i H x H' → g x (wipe σ vs) H' fun σ2 H2 => wipe σ2 vs = wipe σ vs ∧ tt σ2 H2 fun b H3 =>
    if b = true then wi1 σ2 H3 fun J1 H4 => ∃ W1 : Nat → Nat → Hp → Prop, (∃ m, W1 0 m H4) ∧ ∀ j k H, W1 j k H →
      (J1.stop j H ∧ Nx H) ∨ (J1.go j H ∧ ∃ Nx1 : Hp → Prop, (∀ H', Nx1 H' → ∃ k', k' < k ∧ W1 (j + 1) k' H') ∧ ∀ x H', J1.yld j H x H' → g1 x (wipe σ2 vs1) H' fun σ3 H5 => wipe σ3 vs1 = wipe σ2 vs1 ∧ tt1 σ3 H5 fun b H6 =>
        if b = true then te σ3 H6 fun y H7 => ∃ acc, H7 D = some (.lst acc) ∧ acc.length < sizeLine ∧ Nx1 (upd H7 D (.lst (acc ++ [y]))) else Nx1 H6)
    else Nx H3) := by
  refine ⟨fun i m H => m = n - i ∧ i ≤ n ∧ Pv i H, ⟨n, by simp, Nat.zero_le _, h0⟩, ?_⟩
  rintro i m H ⟨rfl, hi, p⟩
  have q := hG i H hi p
  by_cases hlt : i < n
  · exact .inr ⟨w.goes i H hlt q, Pv (i + 1), fun H' p' => ⟨n - (i + 1), by omega, rfl, hlt, p'⟩, fun x H' y => hs i x H H' hlt p (w.yields i H x H' hlt q y)⟩
  · have e : i = n := by omega
    subst e
    exact .inl ⟨w.stops H q, hd H p⟩
theorem lc2_in (w : Walk J1 n1 G1 Y1) (Pv : Nat → Hp → Prop) (h0 : Pv 0 H4) (hG : ∀ i H, i ≤ n1 → Pv i H → G1 H)
    (hs : ∀ j x H H', j < n1 → Pv j H → Y1 j H x H' → g1 x (wipe σ2 vs1) H' fun σ3 H5 => wipe σ3 vs1 = wipe σ2 vs1 ∧ tt1 σ3 H5 fun b H6 =>
        if b = true then te σ3 H6 fun y H7 => ∃ acc, H7 D = some (.lst acc) ∧ acc.length < sizeLine ∧ Pv (j + 1) (upd H7 D (.lst (acc ++ [y]))) else Pv (j + 1) H6) (hd : ∀ H, Pv n1 H → Qd H) :
    ∃ W1 : Nat → Nat → Hp → Prop, (∃ m, W1 0 m H4) ∧ ∀ j k H, W1 j k H →
      (J1.stop j H ∧ Qd H) ∨ (J1.go j H ∧ ∃ Nx1 : Hp → Prop, (∀ H', Nx1 H' → ∃ k', k' < k ∧ W1 (j + 1) k' H') ∧ ∀ x H', J1.yld j H x H' → g1 x (wipe σ2 vs1) H' fun σ3 H5 => wipe σ3 vs1 = wipe σ2 vs1 ∧ tt1 σ3 H5 fun b H6 =>
        if b = true then te σ3 H6 fun y H7 => ∃ acc, H7 D = some (.lst acc) ∧ acc.length < sizeLine ∧ Nx1 (upd H7 D (.lst (acc ++ [y]))) else Nx1 H6) := by
  refine ⟨fun i m H => m = n1 - i ∧ i ≤ n1 ∧ Pv i H, ⟨n1, by simp, Nat.zero_le _, h0⟩, ?_⟩
  rintro i m H ⟨rfl, hi, p⟩
  have q := hG i H hi p
  by_cases hlt : i < n1
  · exact .inr ⟨w.goes i H hlt q, Pv (i + 1), fun H' p' => ⟨n1 - (i + 1), by omega, rfl, hlt, p'⟩, fun x H' y => hs i x H H' hlt p (w.yields i H x H' hlt q y)⟩
  · have e : i = n1 := by omega
    subst e
    exact .inl ⟨w.stops H q, hd H p⟩
end
end SeqW
namespace SeqW
open PySem PySem.Spec PySem.Calls PyProof.Rows L2
/-- xs[i], as xs[i] += e reads it -/
theorem get_list {X : Cx} : PGet X (fun x y H Q => ∃ p xs i v, x = .ref p ∧ y = .int (i : Nat) ∧ SqL X.K H p xs ∧ xs[i]? = some v ∧ Q v H) := by
  intro pins s σ H x y v u Q I rx ry h
  obtain ⟨p, xs, i, z, rfl, rfl, hq, he, q⟩ := h
  cases rx
  obtain ⟨t, rfl⟩ := ry
  obtain ⟨its, r, pl, hz⟩ := I.list hq
  obtain ⟨w, ew, rw'⟩ := r.get he
  have hl := r.length
  have hn := line63
  have hi := (List.getElem?_eq_some_iff.mp he).1
  exact wpAny_getItem_list pl.isList (Int.natCast_nonneg i) (by omega) (by rw [Int.toNat_natCast]; simpa using ew) ⟨z, H, I, rw', q⟩
end SeqW
namespace SeqW
open PySem PySem.Spec PySem.Calls PyProof.Rows L2
theorem notIn_K {X : Cx} {K : PySem.W.Frag} (h : X.K = K) : OpR X (compareOp .NotIn) (rIn K true) := by
  subst h
  exact op_notIn_seq
theorem in_K {X : Cx} {K : PySem.W.Frag} (h : X.K = K) : OpR X (compareOp .In) (rIn K false) := by
  subst h
  exact op_in_seq
end SeqW
namespace M
open PySem PySem.Spec PyProof.Rows L2
def topS (i : Nat) : Stmt := PySem.Challenge.pw_wayneedle_k14_whole_facts_of_a_land.main.body.getD i (.Pass ⟨0, 0, 0, 0⟩)
abbrev s_is_whole : Stmt := topS 1
theorem sc_is_whole : FnScope ["thing"] ["thing"] (defScope s_is_whole) := ⟨rfl, rfl, rfl, by decide +kernel, rfl, by decide +kernel, by decide +kernel⟩
abbrev s_step : Stmt := topS 12
theorem sc_step : FnScope ["letter"] ["letter"] (defScope s_step) := ⟨rfl, rfl, rfl, by decide +kernel, rfl, by decide +kernel, by decide +kernel⟩
abbrev s_way_of : Stmt := topS 13
theorem sc_way_of : FnScope ["place", "letter", "east", "north"] ["place", "letter"] (defScope s_way_of) := ⟨rfl, rfl, rfl, by decide +kernel, rfl, by decide +kernel, by decide +kernel⟩
abbrev s_is_lot : Stmt := topS 14
theorem sc_is_lot : FnScope ["thing"] ["thing"] (defScope s_is_lot) := ⟨rfl, rfl, rfl, by decide +kernel, rfl, by decide +kernel, by decide +kernel⟩
abbrev s_refuse_unless_lot : Stmt := topS 15
theorem sc_refuse_unless_lot : FnScope ["thing"] ["thing"] (defScope s_refuse_unless_lot) := ⟨rfl, rfl, rfl, by decide +kernel, rfl, by decide +kernel, by decide +kernel⟩
abbrev s_mirrors : Stmt := topS 16
theorem sc_mirrors : FnScope ["lot"] ["lot"] (defScope s_mirrors) := ⟨rfl, rfl, rfl, by decide +kernel, rfl, by decide +kernel, by decide +kernel⟩
abbrev s_true : Stmt := topS 17
theorem sc_true : FnScope ["lot", "letter", "at"] ["lot", "letter"] (defScope s_true) := ⟨rfl, rfl, rfl, by decide +kernel, rfl, by decide +kernel, by decide +kernel⟩
abbrev s_legs_in : Stmt := topS 19
theorem sc_legs_in : FnScope ["log", "entry"] ["log"] (defScope s_legs_in) := ⟨rfl, rfl, rfl, by decide +kernel, rfl, by decide +kernel, by decide +kernel⟩
abbrev s_refuse_unless_lots : Stmt := topS 23
theorem sc_refuse_unless_lots : FnScope ["log", "lots", "legs", "at", "thing"] ["log", "lots"] (defScope s_refuse_unless_lots) := ⟨rfl, rfl, rfl, by decide +kernel, rfl, by decide +kernel, by decide +kernel⟩
abbrev s_gone : Stmt := topS 24
theorem sc_gone : FnScope ["place", "letter", "many", "east", "north"] ["place", "letter", "many"] (defScope s_gone) := ⟨rfl, rfl, rfl, by decide +kernel, rfl, by decide +kernel, by decide +kernel⟩
abbrev s_look_behind : Stmt := topS 25
theorem sc_look_behind : FnScope ["entry", "lot", "look", "word"] ["entry", "lot", "look"] (defScope s_look_behind) := ⟨rfl, rfl, rfl, by decide +kernel, rfl, by decide +kernel, by decide +kernel⟩
abbrev s_track : Stmt := topS 26
theorem sc_track : FnScope ["log", "lots", "place", "look", "leg", "stands", "entry"] ["log", "lots"] (defScope s_track) := ⟨rfl, rfl, rfl, by decide +kernel, rfl, by decide +kernel, by decide +kernel⟩
abbrev s_way_fact : Stmt := topS 27
theorem sc_way_fact : FnScope ["at", "word", "place", "look", "east", "north", "side"] ["at", "word", "place", "look"] (defScope s_way_fact) := ⟨rfl, rfl, rfl, by decide +kernel, rfl, by decide +kernel, by decide +kernel⟩
abbrev s_facts_of_entry : Stmt := topS 28
theorem sc_facts_of_entry : FnScope ["at", "entry", "place", "look", "word", "done"] ["at", "entry", "place", "look"] (defScope s_facts_of_entry) := ⟨rfl, rfl, rfl, by decide +kernel, rfl, by decide +kernel, by decide +kernel⟩
abbrev s_facts : Stmt := topS 29
theorem sc_facts : FnScope ["log", "lots", "behind", "ahead", "found", "at", "entry", "place", "look"] ["log", "lots"] (defScope s_facts) := ⟨rfl, rfl, rfl, by decide +kernel, rfl, by decide +kernel, by decide +kernel⟩
abbrev s_Llots : Stmt := topS 31
theorem sc_Llots : FnScope ["_law_pool_here", "_law_many", "_law_k"] ["_law_pool_here", "_law_many"] (defScope s_Llots) := ⟨rfl, rfl, rfl, by decide +kernel, rfl, by decide +kernel, by decide +kernel⟩
abbrev s_Lpool : Stmt := topS 32
theorem sc_Lpool : FnScope ["_law_script", "_law_k", "_law_cell", "_law_left"] ["_law_script", "_law_k"] (defScope s_Lpool) := ⟨rfl, rfl, rfl, by decide +kernel, rfl, by decide +kernel, by decide +kernel⟩
abbrev s_Ltake : Stmt := topS 33
theorem sc_Ltake : FnScope ["_law_pool_here", "_law_wide", "_law_found", "_law_primes", "_law_one", "_law_two"] ["_law_pool_here", "_law_wide"] (defScope s_Ltake) := ⟨rfl, rfl, rfl, by decide +kernel, rfl, by decide +kernel, by decide +kernel⟩
abbrev s_Lwhole : Stmt := topS 34
theorem sc_Lwhole : FnScope ["_law_thing"] ["_law_thing"] (defScope s_Lwhole) := ⟨rfl, rfl, rfl, by decide +kernel, rfl, by decide +kernel, by decide +kernel⟩
abbrev s_Lsame : Stmt := topS 35
theorem sc_Lsame : FnScope ["_law_found", "_law_due", "_law_one", "_law_other"] ["_law_found", "_law_due"] (defScope s_Lsame) := ⟨rfl, rfl, rfl, by decide +kernel, rfl, by decide +kernel, by decide +kernel⟩
abbrev s_Ltrue : Stmt := topS 36
theorem sc_Ltrue : FnScope ["_law_lot", "_law_letter", "_law_at"] ["_law_lot", "_law_letter"] (defScope s_Ltrue) := ⟨rfl, rfl, rfl, by decide +kernel, rfl, by decide +kernel, by decide +kernel⟩
abbrev s_Loff : Stmt := topS 37
theorem sc_Loff : FnScope ["_law_place", "_law_letter", "_law_many", "_law_east", "_law_north"] ["_law_place", "_law_letter", "_law_many"] (defScope s_Loff) := ⟨rfl, rfl, rfl, by decide +kernel, rfl, by decide +kernel, by decide +kernel⟩
abbrev s_Lside : Stmt := topS 38
theorem sc_Lside : FnScope ["_law_place", "_law_letter"] ["_law_place", "_law_letter"] (defScope s_Lside) := ⟨rfl, rfl, rfl, by decide +kernel, rfl, by decide +kernel, by decide +kernel⟩
abbrev s_Lname : Stmt := topS 39
theorem sc_Lname : FnScope ["_law_pool_here", "_law_letters", "_law_k"] ["_law_pool_here"] (defScope s_Lname) := ⟨rfl, rfl, rfl, by decide +kernel, rfl, by decide +kernel, by decide +kernel⟩
abbrev s_Lnames : Stmt := topS 40
theorem sc_Lnames : FnScope ["_law_pool_here", "_law_many", "_law_found", "_law_k", "_law_name_here", "_law_letter"] ["_law_pool_here", "_law_many"] (defScope s_Lnames) := ⟨rfl, rfl, rfl, by decide +kernel, rfl, by decide +kernel, by decide +kernel⟩
abbrev s_Lwalk : Stmt := topS 41
theorem sc_Lwalk : FnScope ["_law_log", "_law_lots_here", "_law_rows", "_law_leg", "_law_place", "_law_look", "_law_entry_here", "_law_here"] ["_law_log", "_law_lots_here"] (defScope s_Lwalk) := ⟨rfl, rfl, rfl, by decide +kernel, rfl, by decide +kernel, by decide +kernel⟩
abbrev s_Lland : Stmt := topS 42
theorem sc_Lland : FnScope ["_law_pool_here", "_law_many", "_law_signs", "_law_name_here", "_law_place", "_law_k", "_law_shuts"] ["_law_pool_here", "_law_many"] (defScope s_Lland) := ⟨rfl, rfl, rfl, by decide +kernel, rfl, by decide +kernel, by decide +kernel⟩
abbrev s_Lentry : Stmt := topS 43
theorem sc_Lentry : FnScope ["_law_pool_here", "_law_land_here", "_law_pick", "_law_place", "_law_look", "_law_signs", "_law_shuts", "_law_word", "_law_goal", "_law_many", "_law_far"] ["_law_pool_here", "_law_land_here", "_law_pick", "_law_place", "_law_look"] (defScope s_Lentry) := ⟨rfl, rfl, rfl, by decide +kernel, rfl, by decide +kernel, by decide +kernel⟩
abbrev s_Lwritten : Stmt := topS 44
theorem sc_Lwritten : FnScope ["_law_pool_here", "_law_land_here", "_law_many", "_law_lots_here", "_law_place", "_law_log", "_law_look", "_law_leg", "_law_k", "_law_pick", "_law_entry_here"] ["_law_pool_here", "_law_land_here", "_law_many", "_law_lots_here", "_law_place"] (defScope s_Lwritten) := ⟨rfl, rfl, rfl, by decide +kernel, rfl, by decide +kernel, by decide +kernel⟩
abbrev s_Lso : Stmt := topS 45
theorem sc_Lso : FnScope ["_law_land_here", "_law_fact", "_law_start", "_law_signs", "_law_shuts", "_law_at", "_law_word", "_law_place", "_law_what"] ["_law_land_here", "_law_fact", "_law_start"] (defScope s_Lso) := ⟨rfl, rfl, rfl, by decide +kernel, rfl, by decide +kernel, by decide +kernel⟩
abbrev s_law : Stmt := topS 46
theorem sc_law : FnScope ["_law_script", "_law_k", "_law_pool_here", "_law_land_here", "_law_lots_here", "_law_start", "_law_log", "_law_fact", "_law_leg", "_law_here", "_law_behind"] ["_law_script"] (defScope s_law) := ⟨rfl, rfl, rfl, by decide +kernel, rfl, by decide +kernel, by decide +kernel⟩
/-- what the top has left -/
structure Top (w : World) (K : PySem.W.Frag) (mg : Str → Option Value) where
  a_is_whole : Addr
  fd_is_whole : FuncData
  F_is_whole : Fun K "is_whole" "is_whole" s_is_whole a_is_whole fd_is_whole
  b_is_whole : Binds K fd_is_whole ["thing"] []
  g_is_whole : mg "is_whole" = some (.ref a_is_whole)
  a_step : Addr
  fd_step : FuncData
  F_step : Fun K "step" "step" s_step a_step fd_step
  b_step : Binds K fd_step ["letter"] []
  g_step : mg "step" = some (.ref a_step)
  a_way_of : Addr
  fd_way_of : FuncData
  F_way_of : Fun K "way_of" "way_of" s_way_of a_way_of fd_way_of
  b_way_of : Binds K fd_way_of ["place", "letter"] []
  g_way_of : mg "way_of" = some (.ref a_way_of)
  a_is_lot : Addr
  fd_is_lot : FuncData
  F_is_lot : Fun K "is_lot" "is_lot" s_is_lot a_is_lot fd_is_lot
  b_is_lot : Binds K fd_is_lot ["thing"] []
  g_is_lot : mg "is_lot" = some (.ref a_is_lot)
  a_refuse_unless_lot : Addr
  fd_refuse_unless_lot : FuncData
  F_refuse_unless_lot : Fun K "refuse_unless_lot" "refuse_unless_lot" s_refuse_unless_lot a_refuse_unless_lot fd_refuse_unless_lot
  b_refuse_unless_lot : Binds K fd_refuse_unless_lot ["thing"] []
  g_refuse_unless_lot : mg "refuse_unless_lot" = some (.ref a_refuse_unless_lot)
  a_mirrors : Addr
  fd_mirrors : FuncData
  F_mirrors : Fun K "mirrors" "mirrors" s_mirrors a_mirrors fd_mirrors
  b_mirrors : Binds K fd_mirrors ["lot"] []
  g_mirrors : mg "mirrors" = some (.ref a_mirrors)
  a_true : Addr
  fd_true : FuncData
  F_true : Fun K "true" "true" s_true a_true fd_true
  b_true : Binds K fd_true ["lot", "letter"] []
  g_true : mg "true" = some (.ref a_true)
  a_legs_in : Addr
  fd_legs_in : FuncData
  F_legs_in : Fun K "legs_in" "legs_in" s_legs_in a_legs_in fd_legs_in
  b_legs_in : Binds K fd_legs_in ["log"] []
  g_legs_in : mg "legs_in" = some (.ref a_legs_in)
  a_refuse_unless_lots : Addr
  fd_refuse_unless_lots : FuncData
  F_refuse_unless_lots : Fun K "refuse_unless_lots" "refuse_unless_lots" s_refuse_unless_lots a_refuse_unless_lots fd_refuse_unless_lots
  b_refuse_unless_lots : Binds K fd_refuse_unless_lots ["log", "lots"] []
  g_refuse_unless_lots : mg "refuse_unless_lots" = some (.ref a_refuse_unless_lots)
  a_gone : Addr
  fd_gone : FuncData
  F_gone : Fun K "gone" "gone" s_gone a_gone fd_gone
  b_gone : Binds K fd_gone ["place", "letter", "many"] []
  g_gone : mg "gone" = some (.ref a_gone)
  a_look_behind : Addr
  fd_look_behind : FuncData
  F_look_behind : Fun K "look_behind" "look_behind" s_look_behind a_look_behind fd_look_behind
  b_look_behind : Binds K fd_look_behind ["entry", "lot", "look"] []
  g_look_behind : mg "look_behind" = some (.ref a_look_behind)
  a_track : Addr
  fd_track : FuncData
  F_track : Fun K "track" "track" s_track a_track fd_track
  b_track : Binds K fd_track ["log", "lots"] []
  g_track : mg "track" = some (.ref a_track)
  a_way_fact : Addr
  fd_way_fact : FuncData
  F_way_fact : Fun K "way_fact" "way_fact" s_way_fact a_way_fact fd_way_fact
  b_way_fact : Binds K fd_way_fact ["at", "word", "place", "look"] []
  g_way_fact : mg "way_fact" = some (.ref a_way_fact)
  a_facts_of_entry : Addr
  fd_facts_of_entry : FuncData
  F_facts_of_entry : Fun K "facts_of_entry" "facts_of_entry" s_facts_of_entry a_facts_of_entry fd_facts_of_entry
  b_facts_of_entry : Binds K fd_facts_of_entry ["at", "entry", "place", "look"] []
  g_facts_of_entry : mg "facts_of_entry" = some (.ref a_facts_of_entry)
  a_facts : Addr
  fd_facts : FuncData
  F_facts : Fun K "facts" "facts" s_facts a_facts fd_facts
  b_facts : Binds K fd_facts ["log", "lots"] []
  g_facts : mg "facts" = some (.ref a_facts)
  a_Llots : Addr
  fd_Llots : FuncData
  F_Llots : Fun K "_law_lots" "_law_lots" s_Llots a_Llots fd_Llots
  b_Llots : Binds K fd_Llots ["_law_pool_here", "_law_many"] []
  g_Llots : mg "_law_lots" = some (.ref a_Llots)
  a_Lpool : Addr
  fd_Lpool : FuncData
  F_Lpool : Fun K "_law_pool" "_law_pool" s_Lpool a_Lpool fd_Lpool
  b_Lpool : Binds K fd_Lpool ["_law_script", "_law_k"] []
  g_Lpool : mg "_law_pool" = some (.ref a_Lpool)
  a_Ltake : Addr
  fd_Ltake : FuncData
  F_Ltake : Fun K "_law_take" "_law_take" s_Ltake a_Ltake fd_Ltake
  b_Ltake : Binds K fd_Ltake ["_law_pool_here", "_law_wide"] []
  g_Ltake : mg "_law_take" = some (.ref a_Ltake)
  a_Lwhole : Addr
  fd_Lwhole : FuncData
  F_Lwhole : Fun K "_law_whole" "_law_whole" s_Lwhole a_Lwhole fd_Lwhole
  b_Lwhole : Binds K fd_Lwhole ["_law_thing"] []
  g_Lwhole : mg "_law_whole" = some (.ref a_Lwhole)
  a_Lsame : Addr
  fd_Lsame : FuncData
  F_Lsame : Fun K "_law_same" "_law_same" s_Lsame a_Lsame fd_Lsame
  b_Lsame : Binds K fd_Lsame ["_law_found", "_law_due"] []
  g_Lsame : mg "_law_same" = some (.ref a_Lsame)
  a_Ltrue : Addr
  fd_Ltrue : FuncData
  F_Ltrue : Fun K "_law_true" "_law_true" s_Ltrue a_Ltrue fd_Ltrue
  b_Ltrue : Binds K fd_Ltrue ["_law_lot", "_law_letter"] []
  g_Ltrue : mg "_law_true" = some (.ref a_Ltrue)
  a_Loff : Addr
  fd_Loff : FuncData
  F_Loff : Fun K "_law_off" "_law_off" s_Loff a_Loff fd_Loff
  b_Loff : Binds K fd_Loff ["_law_place", "_law_letter", "_law_many"] []
  g_Loff : mg "_law_off" = some (.ref a_Loff)
  a_Lside : Addr
  fd_Lside : FuncData
  F_Lside : Fun K "_law_side" "_law_side" s_Lside a_Lside fd_Lside
  b_Lside : Binds K fd_Lside ["_law_place", "_law_letter"] []
  g_Lside : mg "_law_side" = some (.ref a_Lside)
  a_Lname : Addr
  fd_Lname : FuncData
  F_Lname : Fun K "_law_name" "_law_name" s_Lname a_Lname fd_Lname
  b_Lname : Binds K fd_Lname ["_law_pool_here"] []
  g_Lname : mg "_law_name" = some (.ref a_Lname)
  a_Lnames : Addr
  fd_Lnames : FuncData
  F_Lnames : Fun K "_law_names" "_law_names" s_Lnames a_Lnames fd_Lnames
  b_Lnames : Binds K fd_Lnames ["_law_pool_here", "_law_many"] []
  g_Lnames : mg "_law_names" = some (.ref a_Lnames)
  a_Lwalk : Addr
  fd_Lwalk : FuncData
  F_Lwalk : Fun K "_law_walk" "_law_walk" s_Lwalk a_Lwalk fd_Lwalk
  b_Lwalk : Binds K fd_Lwalk ["_law_log", "_law_lots_here"] []
  g_Lwalk : mg "_law_walk" = some (.ref a_Lwalk)
  a_Lland : Addr
  fd_Lland : FuncData
  F_Lland : Fun K "_law_land" "_law_land" s_Lland a_Lland fd_Lland
  b_Lland : Binds K fd_Lland ["_law_pool_here", "_law_many"] []
  g_Lland : mg "_law_land" = some (.ref a_Lland)
  a_Lentry : Addr
  fd_Lentry : FuncData
  F_Lentry : Fun K "_law_entry" "_law_entry" s_Lentry a_Lentry fd_Lentry
  b_Lentry : Binds K fd_Lentry ["_law_pool_here", "_law_land_here", "_law_pick", "_law_place", "_law_look"] []
  g_Lentry : mg "_law_entry" = some (.ref a_Lentry)
  a_Lwritten : Addr
  fd_Lwritten : FuncData
  F_Lwritten : Fun K "_law_written" "_law_written" s_Lwritten a_Lwritten fd_Lwritten
  b_Lwritten : Binds K fd_Lwritten ["_law_pool_here", "_law_land_here", "_law_many", "_law_lots_here", "_law_place"] []
  g_Lwritten : mg "_law_written" = some (.ref a_Lwritten)
  a_Lso : Addr
  fd_Lso : FuncData
  F_Lso : Fun K "_law_so" "_law_so" s_Lso a_Lso fd_Lso
  b_Lso : Binds K fd_Lso ["_law_land_here", "_law_fact", "_law_start"] []
  g_Lso : mg "_law_so" = some (.ref a_Lso)
  a_law : Addr
  fd_law : FuncData
  F_law : Fun K "law" "law" s_law a_law fd_law
  b_law : Binds K fd_law ["_law_script"] []
  g_law : mg "law" = some (.ref a_law)
  g_LETTERS : ∃ t, mg "LETTERS" = some (.str "nesw" t)
  a_STEPS : Addr
  g_STEPS : mg "STEPS" = some (.ref a_STEPS)
  v_STEPS_0 : ∃ q, KDct K w a_STEPS "n" (.ref q) ∧ ∀ H, SqT K H q [.int (0), .int (1)]
  v_STEPS_1 : ∃ q, KDct K w a_STEPS "e" (.ref q) ∧ ∀ H, SqT K H q [.int (1), .int (0)]
  v_STEPS_2 : ∃ q, KDct K w a_STEPS "s" (.ref q) ∧ ∀ H, SqT K H q [.int (0), .int (-1)]
  v_STEPS_3 : ∃ q, KDct K w a_STEPS "w" (.ref q) ∧ ∀ H, SqT K H q [.int (-1), .int (0)]
  a_QUARTERS : Addr
  g_QUARTERS : mg "QUARTERS" = some (.ref a_QUARTERS)
  es_QUARTERS : Array DictEntry
  n_QUARTERS : Nat
  kd_QUARTERS : KDict K w a_QUARTERS es_QUARTERS n_QUARTERS
  ns_QUARTERS : ∀ z : Str, ∃ r, PySem.W.nsIn K a_QUARTERS z = some r ∧ r.isSome = ((["right", "back", "left"] : List Str).any fun s => s == z)
  v_QUARTERS_0 : KDct K w a_QUARTERS "right" (.int 1)
  v_QUARTERS_1 : KDct K w a_QUARTERS "back" (.int 2)
  v_QUARTERS_2 : KDct K w a_QUARTERS "left" (.int 3)
  a_START : Addr
  g_START : mg "START" = some (.ref a_START)
  v_START : ∃ q0, (∀ H, SqT K H a_START [.ref q0, .str ""]) ∧ (∀ H, SqT K H q0 [.int (0), .int (0)])
  m_abs : mg "abs" = none
  m_all : mg "all" = none
  m_bool : mg "bool" = none
  m_enumerate : mg "enumerate" = none
  m_int : mg "int" = none
  m_isinstance : mg "isinstance" = none
  m_len : mg "len" = none
  m_range : mg "range" = none
  m_str : mg "str" = none
  m_tuple : mg "tuple" = none
  m_zip : mg "zip" = none
/-! ### heaps, pools -/
/-- all but what stands at p is as it was -/
def But (p : Addr) (H H' : Hp) : Prop := ∀ b o, b ≠ p → H b = some o → H' b = some o
theorem But.refl (p : Addr) (H : Hp) : But p H H := fun _ _ _ h => h
theorem But.trans {p : Addr} {H H1 H2 : Hp} (a : But p H H1) (b : But p H1 H2) : But p H H2 := fun c o hc h => b c o hc (a c o hc h)
theorem But.of {p : Addr} {H H' : Hp} (a : Same H H') : But p H H' := fun b o _ h => a b o h
theorem But.upd {p : Addr} {H H' : Hp} {o : HO} (a : But p H H') : But p H (upd H' p o) := fun b u hb h => by
  rw [upd_ne hb]
  exact a b u hb h
theorem same_upd {H : Hp} {p : Addr} {o : HO} (h : H p = none) : Same H (upd H p o) := fun b x e => by
  rw [upd_ne (ne_of_none e h)]
  exact e
/-- changed at a new place alone -/
theorem But.same {p : Addr} {H H1 H2 : Hp} (n : H p = none) (a : Same H H1) (b : But p H1 H2) : Same H H2 := fun c o h => b c o (ne_of_none h n) (a c o h)
theorem But.free {p l : Addr} {H H1 : Hp} (a : But p H H1) (n : l ≠ p) (h : H1 l = none) : H l = none := by
  cases e : H l with
  | none => rfl
  | some o =>
    rw [a l o n e] at h
    cases h
/-- a change at a place that H doesn't know -/
theorem But.mut {p l : Addr} {H H1 : Hp} {o : HO} (a : But p H H1) (n : H l = none) : But p H (L2.upd H1 l o) := fun b u hb h => by
  rw [upd_ne (ne_of_none h n)]
  exact a b u hb h
/-- the spring of draws: four whole numbers, the first not below nought -/
def Pool (H : Hp) (p : Addr) : Prop := ∃ l c k n : Int, 0 ≤ l ∧ H p = some (.lst [.int l, .int c, .int k, .int n])
theorem Pool.same {H H' : Hp} {p : Addr} (h : Pool H p) (e : Same H H') : Pool H' p := by
  obtain ⟨l, c, k, n, h0, h1⟩ := h
  exact ⟨l, c, k, n, h0, e _ _ h1⟩
theorem Pool.ne_tup {H : Hp} {p q : Addr} {xs : List V} (h : Pool H p) (e : H q = some (.tup xs)) : q ≠ p := by
  obtain ⟨l, c, k, n, h0, h1⟩ := h
  exact ne_of e h1 (by intro z; cases z)
theorem Pool.ne_new {H : Hp} {p q : Addr} (h : Pool H p) (e : H q = none) : q ≠ p := by
  obtain ⟨l, c, k, n, h0, h1⟩ := h
  intro z
  rw [z, h1] at e
  cases e
theorem Pool.upd {H : Hp} {p q : Addr} {o : HO} (h : Pool H p) (e : q ≠ p) : Pool (L2.upd H q o) p := by
  obtain ⟨l, c, k, n, h0, h1⟩ := h
  refine ⟨l, c, k, n, h0, ?_⟩
  rw [upd_ne (Ne.symm e)]
  exact h1
theorem seq_but {K : PySem.W.Frag} {H H' : Hp} {p a : Addr} {xs : List V} (e : But p H H') (n : a ≠ p) (h : SqL K H a xs) : SqL K H' a xs := by
  rcases h with (h | ⟨o, h⟩) | h
  · exact .inl (.inl (e _ _ n h))
  · exact .inl (.inr ⟨o, e _ _ n h⟩)
  · exact .inr h
theorem abs_if (n : Int) : 0 ≤ (if n < 0 then -n else n) := by
  split <;> omega
local macro_rules | `(tactic| walk_at "go") => `(tactic| repeat (first
  | (with_reducible exact rfl)
  | (refine ⟨_, _, rfl, rfl, ?_⟩)
  | (refine ⟨_, rfl, ?_⟩)
  | (refine ⟨rfl, ?_⟩)))
def spPool (K : PySem.W.Frag) : Sp := fun vs H Q _ => ∃ (a : Addr) (ns : List Int) (k : Int), vs = [.ref a, .int k] ∧ SqL K H a (ns.map V.int) ∧ ns.length ≤ 63 ∧ 0 ≤ k ∧ ∀ H' p, Same H H' → H p = none → Pool H' p → Q (.ref p) H'
def spTake : Sp := fun vs H Q _ => ∃ (p : Addr) (m : Int), vs = [.ref p, .int m] ∧ 0 < m ∧ m < 2 ^ 200 ∧ Pool H p ∧ ∀ H' (r : Int), But p H H' → Pool H' p → 0 ≤ r → r < m → Q (.int r) H'
theorem iteY {c A B : Prop} [Decidable c] (hc : c) (h : A) : if decide c = true then A else B := by
  rw [if_pos (decide_eq_true hc)]
  exact h
theorem iteYn {c A B : Prop} [Decidable c] (hc : c) (h : B) : if (!decide c) = true then A else B := by
  rw [decide_eq_true hc]
  exact h
theorem iteDN {b : Bool} {A B : Prop} (hb : b = false) (h : B) : if b = true then A else B := by
  rw [hb]
  exact h
theorem iteDY {b : Bool} {A B : Prop} (hb : b = true) (h : A) : if b = true then A else B := by
  rw [hb]
  exact h
theorem iteNE {d e : PyData} {A B : Prop} (h : d = e) (hs : SeqAt.shaped d = true) (hB : B) : if (!PyData.eqv d e) = true then A else B := by
  subst h
  rw [SeqAt.eqv_refl d (SeqAt.canLay_of_shaped hs)]
  exact hB
theorem ne_no {x y : V} (e : x = y) : (!decide (x = y)) = false := by
  rw [decide_eq_true e]
  rfl
theorem iteN {x y : V} {A B : Prop} (e : x = y) (h : B) : if (!decide (x = y)) = true then A else B := by
  rw [ne_no e, if_neg Bool.false_ne_true]
  exact h
section
variable {P : Program} {w : World} {K : PySem.W.Frag} {mg : Str → Option Value} {base : Heap}
theorem ok_Lpool (T : Top w K mg) : FnOk P w K mg base CX0 1 T.a_Lpool T.fd_Lpool ["_law_script", "_law_k"] (spPool K) := by
  refine T.F_Lpool.ok sc_Lpool (fun vs H Q E h => ?_) (fun cdv A outer s H vs Q E hr h => ?_)
  · obtain ⟨a, ns, k, rfl, _⟩ := h
    rfl
  · obtain ⟨a, ns, k, rfl, hS, hlen, hk, q⟩ := h
    refine ⟨_, (pss_cons (ps_set (i := 2) sc_Lpool.nd rfl (.inl rfl) pe_int)
      (Evl.pss_cut (ps_if (pt_cmpR op_gt (pe_callB call_len_seq (by rfl) T.m_len (by decide +kernel) (pa_cons (pv 0) pa_nil)) pe_int (nomark _)) (pss_one (ps_set (i := 2) sc_Lpool.nd rfl (.inl rfl) (pe_ix ix_list (pv 0) (pe_op op_mod (pv 1) (pe_callB call_len_seq (by rfl) T.m_len (by decide +kernel) (pa_cons (pv 0) pa_nil))) (fun _ _ => rfl)))) pss_nil)
      (pss_cons (ps_set (i := 3) sc_Lpool.nd rfl (.inl rfl) pe_int)
      (pss_cons (ps_if (PW.pt (pw_and (pt_cmpR op_lt (pv 1) (pe_callB call_len_seq (by rfl) T.m_len (by decide +kernel) (pa_cons (pv 0) pa_nil)) (nomark _)) (pw_and1 (pt_cmpR op_ge (pe_callB call_abs (by rfl) T.m_abs (by decide +kernel) (pa_cons (pv 2) pa_nil)) (pe_op op_pow pe_int pe_int) (nomark _))))) (pss_one (ps_set (i := 3) sc_Lpool.nd rfl (.inl rfl) (pe_callB call_abs (by rfl) T.m_abs (by decide +kernel) (pa_cons (pv 2) pa_nil)))) pss_nil)
      (pss_one (ps_ret (pe_lst (pa_cons (pv 3) (pa_cons (pv 2) (pa_cons (pv 1) (pa_cons pe_int pa_nil))))))))))), ?_⟩
    have hL : ((ns.map V.int).length : Int) = ns.length := by rw [List.length_map]
    have fin : ∀ (l c : Int), 0 ≤ l → ∀ p, H p = none → Q (.ref p) (upd H p (.lst [.int l, .int c, .int k, .int 0])) := fun l c hl p hp =>
      q _ p (same_upd hp) hp ⟨l, c, k, 0, hl, upd_same⟩
    refine ⟨fun σ H' => H' = H ∧ ∃ c : Int, σ = [some (.ref a), some (.int k), some (.int c), none], ?_, ?_⟩
    · refine ⟨.ref a, rfl, a, ns.map V.int, rfl, .inl hS, _, _, rfl, rfl, _, rfl, ite2 (fun e => ?_) (fun e => ?_)⟩
      · have e0 : (0 : Int) < ((ns.map V.int).length : Int) := of_decide_eq_true e
        refine ⟨.ref a, rfl, .int k, rfl, .ref a, rfl, a, ns.map V.int, rfl, .inl hS, k, _, rfl, rfl, e0, ?_⟩
        have h1 := Int.emod_nonneg k (show ((ns.map V.int).length : Int) ≠ 0 by omega)
        have h2 := Int.emod_lt_of_pos k e0
        obtain ⟨j, hj⟩ : ∃ j : Nat, k % ((ns.map V.int).length : Int) = j := ⟨(k % ((ns.map V.int).length : Int)).toNat, by omega⟩
        have hj2 : j < ns.length := by omega
        have g : (ns.map V.int)[j]? = some (.int ns[j]) := by
          rw [List.getElem?_map, List.getElem?_eq_getElem hj2]
          rfl
        have gi : atI (ns.map V.int) (k % ((ns.map V.int).length : Int)) = some (.int ns[j]) := by
          rw [hj]
          exact atI_nat g
        exact ⟨a, _, _, _, rfl, rfl, hS, gi, rfl, _, rfl⟩
      · exact ⟨rfl, 0, rfl⟩
    · rintro σ H' ⟨rfl, c, rfl⟩
      refine ⟨.int k, rfl, .ref a, rfl, a, ns.map V.int, rfl, .inl hS, _, _, rfl, rfl, _, rfl, ite2 (fun e => ?_) (fun e => ?_)⟩
      · refine ⟨.int c, rfl, c, rfl, _, _, rfl, rfl, ⟨by decide, by decide, by decide⟩, _, _, rfl, rfl, _, rfl, ite2 (fun e => ?_) (fun e => ?_)⟩
        · exact ⟨.int c, rfl, c, rfl, _, rfl, _, rfl, _, rfl, by show 4 ≤ sizeLine; decide, fin _ c (abs_if c)⟩
        · exact ⟨_, rfl, _, rfl, _, rfl, by show 4 ≤ sizeLine; decide, fin 0 c (by decide)⟩
      · refine ite2 (fun e2 => by cases e2) (fun _ => ?_)
        exact ⟨_, rfl, _, rfl, _, rfl, by show 4 ≤ sizeLine; decide, fin 0 c (by decide)⟩
def primes : List Int := [2147483629, 2147483587, 2147483579, 2147483563, 2147483549, 2147483543, 2147483497, 2147483489]
theorem primes_at {i : Int} (h0 : 0 ≤ i) (h1 : i < 8) : ∃ p : Int, atI (primes.map V.int) i = some (.int p) ∧ 0 < p ∧ p < 2147483647 := by
  obtain rfl | rfl | rfl | rfl | rfl | rfl | rfl | rfl : i = 0 ∨ i = 1 ∨ i = 2 ∨ i = 3 ∨ i = 4 ∨ i = 5 ∨ i = 6 ∨ i = 7 := by omega
  all_goals exact ⟨_, rfl, by decide, by decide⟩
theorem pow_ok (a : Int) : CPow (a % 2147483647) 5 := by
  have h1 := Int.emod_nonneg a (show (2147483647 : Int) ≠ 0 by decide)
  have h2 := Int.emod_lt_of_pos a (show (0 : Int) < 2147483647 by decide)
  exact ⟨by decide, by decide, by omega⟩
theorem ok_Ltake (T : Top w K mg) : FnOk P w K mg base CX0 1 T.a_Ltake T.fd_Ltake ["_law_pool_here", "_law_wide"] spTake := by
  refine T.F_Ltake.ok sc_Ltake (fun vs H Q E h => ?_) (fun cdv A outer s H vs Q E hr h => ?_)
  · obtain ⟨p, m, rfl, _⟩ := h
    rfl
  · obtain ⟨p, m, rfl, hm, hb, ⟨l, c, k, n, hl, hp⟩, q⟩ := h
    refine ⟨_, (pss_cons (ps_if (pt_cmpR op_gt (pe_ix ix_list (pv 0) pe_int (fun _ _ => rfl)) pe_int (nomark _)) (pss_cons (ps_set (i := 2) sc_Ltake.nd rfl (.inl rfl) (pe_op op_mod (pe_ix ix_list (pv 0) pe_int (fun _ _ => rfl)) (pv 1)))
      (pss_cons (ps_asg (pe_op op_fdivW (pe_ix ix_list (pv 0) pe_int (fun _ _ => rfl)) (pv 1)) (pg_sub (pv 0) pe_int set_list))
      (pss_one (ps_ret (pv 2))))) pss_nil)
      (pss_cons (ps_asg (pe_op op_add (pe_ix ix_list (pv 0) pe_int (fun _ _ => rfl)) pe_int) (pg_sub (pv 0) pe_int set_list))
      (pss_cons (ps_set (i := 3) sc_Ltake.nd rfl (.inl rfl) (pe_lst (pa_cons pe_int (pa_cons pe_int (pa_cons pe_int (pa_cons pe_int (pa_cons pe_int (pa_cons pe_int (pa_cons pe_int (pa_cons pe_int pa_nil))))))))))
      (pss_cons (ps_set (i := 4) sc_Ltake.nd rfl (.inl rfl) (pe_op op_mod (pe_op op_add (pe_op op_add (pe_op op_add (pe_ix ix_list (pv 0) pe_int (fun _ _ => rfl)) (pe_op op_mul pe_int (pe_ix ix_list (pv 0) pe_int (fun _ _ => rfl)))) (pe_op op_mul pe_int (pe_ix ix_list (pv 0) pe_int (fun _ _ => rfl)))) pe_int) pe_int))
      (pss_cons (ps_set (i := 4) sc_Ltake.nd rfl (.inl rfl) (pe_op op_mod (pe_op op_pow (pv 4) pe_int) (pe_ix ix_list (pv 3) (pe_op op_mod (pe_ix ix_list (pv 0) pe_int (fun _ _ => rfl)) pe_int) (fun _ _ => rfl))))
      (pss_cons (ps_set (i := 5) sc_Ltake.nd rfl (.inl rfl) (pe_op op_mod (pe_op op_add (pe_op op_add (pv 4) (pe_op op_mul pe_int (pe_ix ix_list (pv 0) pe_int (fun _ _ => rfl)))) (pe_ix ix_list (pv 0) pe_int (fun _ _ => rfl))) pe_int))
      (pss_one (ps_ret (pe_op op_mod (pe_op op_add (pe_op op_mul (pe_op op_mod (pe_op op_pow (pv 5) pe_int) pe_int) pe_int) (pv 4)) (pv 1)))))))))), ?_⟩
    refine ⟨.ref p, rfl, p, _, 0, .int l, rfl, rfl, .inl (.inl hp), rfl, _, _, rfl, rfl, _, rfl, ite2 (fun e => ?_) (fun e => ?_)⟩
    · refine ⟨.ref p, rfl, p, _, 0, .int l, rfl, rfl, .inl (.inl hp), rfl, .int m, rfl, l, m, rfl, rfl, hm, ?_⟩
      refine ⟨.ref p, rfl, p, _, 0, .int l, rfl, rfl, .inl (.inl hp), rfl, .int m, rfl, l, m, rfl, rfl, wide_div (b := 200) hm (by omega) (by decide) (by decide), ?_⟩
      refine ⟨.ref p, rfl, p, _, 0, 0, rfl, rfl, hp, rfl, ?_⟩
      refine ⟨_, rfl, q _ _ (But.refl p H).upd ⟨l / m, c, k, n, Int.ediv_nonneg hl (by omega), ?_⟩ (Int.emod_nonneg l (by omega)) (Int.emod_lt_of_pos l hm)⟩
      exact upd_same
    · refine ⟨.ref p, rfl, p, _, 3, .int n, rfl, rfl, .inl (.inl hp), rfl, n, 1, rfl, rfl, .ref p, rfl, p, _, 3, 3, rfl, rfl, hp, rfl, ?_⟩
      refine ⟨by show 8 ≤ sizeLine; decide, fun o no => ?_⟩
      have hop : o ≠ p := fun z => by
        rw [z, upd_same] at no
        cases no
      have h3 : (upd (upd H p (.lst [.int l, .int c, .int k, .int (n + 1)])) o (.lst (primes.map V.int))) p = some (.lst [.int l, .int c, .int k, .int (n + 1)]) := by
        rw [upd_ne (Ne.symm hop), upd_same]
      have h4 : (upd (upd H p (.lst [.int l, .int c, .int k, .int (n + 1)])) o (.lst (primes.map V.int))) o = some (.lst (primes.map V.int)) := upd_same
      have bt : But p H (upd (upd H p (.lst [.int l, .int c, .int k, .int (n + 1)])) o (.lst (primes.map V.int))) := fun b u hb h => by
        have nb : b ≠ o := fun z => by
          have : (upd H p (.lst [.int l, .int c, .int k, .int (n + 1)])) b = some u := by
            rw [upd_ne hb]
            exact h
          rw [z] at this
          exact absurd (this.symm.trans no) (by intro z; cases z)
        rw [upd_ne nb, upd_ne hb]
        exact h
      have i8 : 0 ≤ (n + 1) % 8 := Int.emod_nonneg _ (by decide)
      have j8 : (n + 1) % 8 < 8 := Int.emod_lt_of_pos _ (by decide)
      obtain ⟨pr, hpr, pr0, pr1⟩ := primes_at i8 j8
      refine ⟨.ref p, rfl, p, _, 1, .int c, rfl, rfl, .inl (.inl h3), rfl, .ref p, rfl, p, _, 2, .int k, rfl, rfl, .inl (.inl h3), rfl, 7919, k, rfl, rfl, .inl ⟨by decide, by decide⟩, _, _, rfl, rfl, .ref p, rfl, p, _, 3, .int (n + 1), rfl, rfl, .inl (.inl h3), rfl, 104729, n + 1, rfl, rfl, .inl ⟨by decide, by decide⟩, _, _, rfl, rfl, _, _, rfl, rfl, _, _, rfl, rfl, (by show (0 : Int) < 2147483647; decide), ?_⟩
      refine ⟨_, rfl, _, _, rfl, rfl, pow_ok _, .ref o, rfl, .ref p, rfl, p, _, 3, .int (n + 1), rfl, rfl, .inl (.inl h3), rfl, _, _, rfl, rfl, (by show (0 : Int) < 8; decide), o, _, _, .int pr, rfl, rfl, .inl (.inl h4), hpr, _, _, rfl, rfl, pr0, ?_⟩
      refine ⟨_, rfl, .ref p, rfl, p, _, 2, .int k, rfl, rfl, .inl (.inl h3), rfl, 40692, k, rfl, rfl, .inl ⟨by decide, by decide⟩, _, _, rfl, rfl, .ref p, rfl, p, _, 3, .int (n + 1), rfl, rfl, .inl (.inl h3), rfl, _, _, rfl, rfl, _, _, rfl, rfl, (by show (0 : Int) < 2147483647; decide), ?_⟩
      refine ⟨_, rfl, _, _, rfl, rfl, pow_ok _, _, _, rfl, rfl, (by show (0 : Int) < 2147483647; decide), _, _, rfl, rfl, .inr ⟨by decide, by decide⟩, _, rfl, _, _, rfl, rfl, .int m, rfl, _, _, rfl, rfl, hm, ?_⟩
      exact q _ _ bt ⟨l, c, k, n + 1, hl, h3⟩ (Int.emod_nonneg _ (by omega)) (Int.emod_lt_of_pos _ hm)
/-! ### data alike -/
theorem sqt_same {K : PySem.W.Frag} {H H' : Hp} {a : Addr} {xs : List V} (e : Same H H') (h : SqT K H a xs) : SqT K H' a xs := Evl.ex_t (show Evl.Ex H H' from e) h
mutual
theorem dp_same {K : PySem.W.Frag} {H H' : Hp} (e : Same H H') : ∀ (d : PyData) (v : V), Dp K H v d → Dp K H' v d
  | .none, _, h => by cases h; exact .non
  | .bool b, _, h => by cases h; exact .bl b
  | .int i, _, h => by cases h; exact .int i
  | .str x, _, h => by cases h; exact .str x
  | .list ds, _, h => by
    cases h with
    | lst hs ha => exact .lst (e.seq hs) (dpa_same e ds _ ha)
  | .tuple ds, _, h => by
    cases h with
    | tup hs ha => exact .tup (sqt_same e hs) (dpa_same e ds _ ha)
  | .dict _, _, h => by cases h
theorem dpa_same {K : PySem.W.Frag} {H H' : Hp} (e : Same H H') : ∀ (ds : List PyData) (vs : List V), DpAll K H vs ds → DpAll K H' vs ds
  | [], _, h => by cases h; exact .nil
  | d :: ds, _, h => by
    cases h with
    | cons h1 h2 => exact .cons (dp_same e d _ h1) (dpa_same e ds _ h2)
end
theorem dpa_len {K : PySem.W.Frag} {H : Hp} : ∀ (ds : List PyData) (vs : List V), DpAll K H vs ds → vs.length = ds.length
  | [], _, h => by cases h; rfl
  | d :: ds, _, h => by
    cases h with
    | cons h1 h2 =>
      rw [List.length_cons, List.length_cons, dpa_len ds _ h2]
theorem dpa_at {K : PySem.W.Frag} {H : Hp} : ∀ (ds : List PyData) (vs : List V), DpAll K H vs ds → ∀ (i : Nat) (v : V), vs[i]? = some v → ∃ d, ds[i]? = some d ∧ Dp K H v d
  | [], _, h, i, v, e => by cases h; cases e
  | d :: ds, _, h, i, v, e => by
    cases h with
    | cons h1 h2 =>
      cases i with
      | zero =>
        cases e
        exact ⟨d, rfl, h1⟩
      | succ j => exact dpa_at ds _ h2 j v e
theorem ty_tup {K : PySem.W.Frag} {H : Hp} {a : Addr} {xs : List V} (h : SqT K H a xs) : TyX K H (.ref a) (.type "tuple") := by
  rcases h with (h | ⟨o, h⟩) | ⟨o, its, n, lk, hc, _⟩
  · exact .base (.tup h)
  · exact .fTuple h
  · exact .kTuple lk hc
/-- none, truths, whole numbers, texts, and tuples of these, at most n deep -/
def okD : Nat → PyData → Bool
  | _, .none => true
  | _, .bool _ => true
  | _, .int _ => true
  | _, .str _ => true
  | n + 1, .tuple ds => decide (ds.length ≤ 1000) && ds.all fun d => okD n d
  | _, _ => false
theorem walk_zipT {K : PySem.W.Frag} {a b : Addr} {xs ys : List V} {n : Nat} (hn : n = min xs.length ys.length) : Walk (RZ.ItzT K a b) n (fun H => SqT K H a xs ∧ SqT K H b ys) (YPair (fun i => xs[i]?) (fun i => ys[i]?)) where
  goes := fun i H lt ⟨p, q⟩ => ⟨xs, ys, _, _, p, q, List.getElem?_eq_getElem (by omega), List.getElem?_eq_getElem (by omega)⟩
  stops := fun H ⟨p, q⟩ => ⟨xs, ys, p, q, by omega⟩
  yields := fun i H v H' _ ⟨p, q⟩ ⟨T, x, y, e1, e2, e3, e4, e5⟩ => ⟨T, x, y, e1, e2, e3, e4 xs p, e5 ys q⟩
theorem all_true : ∀ n : Nat, (List.replicate n true).all id = true
  | 0 => rfl
  | n + 1 => by rw [List.replicate_succ, List.all_cons, all_true n]; rfl
def spWhole : Sp := fun vs H Q _ => ∃ i : Int, vs = [.int i] ∧ Q (.bl true) H
theorem ok_Lwhole (T : Top w K mg) : FnOk P w K mg base CX0 1 T.a_Lwhole T.fd_Lwhole ["_law_thing"] spWhole := by
  refine T.F_Lwhole.ok sc_Lwhole (fun vs H Q E h => ?_) (fun cdv A outer s H vs Q E hr h => ?_)
  · obtain ⟨i, rfl, _⟩ := h
    rfl
  · obtain ⟨i, rfl, q⟩ := h
    refine ⟨_, (pss_one (ps_ret (pe_and (pe_callB call_isi (by rfl) T.m_isinstance (by decide +kernel) (pa_cons (pv 0) (pa_cons (pe_bltn (v := .ty "int") (by rfl) T.m_int (by decide +kernel) rfl) pa_nil))) (pe_one (pe_not (pe_callB call_isi (by rfl) T.m_isinstance (by decide +kernel) (pa_cons (pv 0) (pa_cons (pe_bltn (v := .ty "bool") (by rfl) T.m_bool (by decide +kernel) rfl) pa_nil)))))))), ?_⟩
    refine ⟨.int i, rfl, _, _, _, _, true, rfl, .ty _, .base (.int i), kit_ty (by decide +kernel), _, rfl, iteT ?_⟩
    exact ⟨.int i, rfl, _, _, _, _, false, rfl, .ty _, .base (.int i), kit_ty (by decide +kernel), _, rfl, q⟩
def spSame (K : PySem.W.Frag) (n : Nat) : Sp := fun vs H Q _ => ∃ (x y : V) (d : PyData), vs = [x, y] ∧ Dp K H x d ∧ Dp K H y d ∧ okD n d = true ∧ ∀ H', Same H H' → Q (.bl true) H'
theorem ok_Lsame0 (T : Top w K mg) : FnOk P w K mg base CX0 2 T.a_Lsame T.fd_Lsame ["_law_found", "_law_due"] (spSame K 0) := by
  have G_Lwhole := ok_Lwhole (P := P) (w := w) (base := base) T
  refine T.F_Lsame.ok sc_Lsame (fun vs H Q E h => ?_) (fun cdv A outer s H vs Q E hr h => ?_)
  · obtain ⟨x, y, d, rfl, _⟩ := h
    rfl
  · obtain ⟨x, y, d, rfl, hx, hy, ok, q⟩ := h
    refine ⟨_, (pss_cons (ps_if (pt_val (pe_callB call_isi (by rfl) T.m_isinstance (by decide +kernel) (pa_cons (pv 1) (pa_cons (pe_bltn (v := .ty "tuple") (by rfl) T.m_tuple (by decide +kernel) rfl) pa_nil)))) pss_never pss_nil)
      (pss_cons (ps_if (pt_cmpR op_isN (pv 1) pe_non (nomark _)) (pss_one (ps_ret (pe_cmpR op_isN (pv 0) pe_non (nomark _)))) pss_nil)
      (pss_cons (ps_if (pt_val (pe_callB call_isi (by rfl) T.m_isinstance (by decide +kernel) (pa_cons (pv 1) (pa_cons (pe_bltn (v := .ty "bool") (by rfl) T.m_bool (by decide +kernel) rfl) pa_nil)))) (pss_one (ps_ret (pe_and (pe_callB call_isi (by rfl) T.m_isinstance (by decide +kernel) (pa_cons (pv 0) (pa_cons (pe_bltn (v := .ty "bool") (by rfl) T.m_bool (by decide +kernel) rfl) pa_nil))) (pe_one (pe_cmpR op_eq (pv 0) (pv 1) (nomark _)))))) pss_nil)
      (pss_cons (ps_if (pt_val (pe_callB call_isi (by rfl) T.m_isinstance (by decide +kernel) (pa_cons (pv 1) (pa_cons (pe_bltn (v := .ty "str") (by rfl) T.m_str (by decide +kernel) rfl) pa_nil)))) (pss_one (ps_ret (pe_and (pe_callB call_isi (by rfl) T.m_isinstance (by decide +kernel) (pa_cons (pv 0) (pa_cons (pe_bltn (v := .ty "str") (by rfl) T.m_str (by decide +kernel) rfl) pa_nil))) (pe_one (pe_cmpR op_eq (pv 0) (pv 1) (nomark _)))))) pss_nil)
      (pss_one (ps_ret (pe_and (pe_call G_Lwhole (hr.mono (by omega)) (by rfl) T.g_Lwhole T.F_Lwhole.kp T.b_Lwhole .nil pass0 (pa_cons (pv 0) pa_nil)) (pe_one (pe_cmpR op_eq (pv 0) (pv 1) (nomark _)))))))))), ?_⟩
    have Q0 := q H (Same.refl H)
    cases d with
    | none =>
      cases hx
      cases hy
      exact ⟨.non, rfl, _, _, _, _, false, rfl, .ty _, .base .non, kit_ty (by decide +kernel), _, rfl, iteF ⟨.non, rfl, rfl, _, rfl, iteT ⟨.non, rfl, rfl, Q0⟩⟩⟩
    | bool b =>
      cases hx
      cases hy
      refine ⟨.bl b, rfl, _, _, _, _, false, rfl, .ty _, .base (.bl b), kit_ty (by decide +kernel), _, rfl, iteF ⟨.bl b, rfl, rfl, _, rfl, iteF ?_⟩⟩
      refine ⟨.bl b, rfl, _, _, _, _, true, rfl, .ty _, .base (.bl b), kit_ty (by decide +kernel), _, rfl, iteT ?_⟩
      refine ⟨.bl b, rfl, _, _, _, _, true, rfl, .ty _, .base (.bl b), kit_ty (by decide +kernel), _, rfl, iteT ⟨.bl b, rfl, .bl b, rfl, rfl, ?_⟩⟩
      rw [decide_eq_true rfl]
      exact Q0
    | int i =>
      cases hx
      cases hy
      refine ⟨.int i, rfl, _, _, _, _, false, rfl, .ty _, .base (.int i), kit_ty (by decide +kernel), _, rfl, iteF ⟨.int i, rfl, rfl, _, rfl, iteF ?_⟩⟩
      refine ⟨.int i, rfl, _, _, _, _, false, rfl, .ty _, .base (.int i), kit_ty (by decide +kernel), _, rfl, iteF ?_⟩
      refine ⟨.int i, rfl, _, _, _, _, false, rfl, .ty _, .base (.int i), kit_ty (by decide +kernel), _, rfl, iteF ?_⟩
      refine ⟨.int i, rfl, i, rfl, _, rfl, iteT ⟨.int i, rfl, .int i, rfl, rfl, ?_⟩⟩
      rw [decide_eq_true rfl]
      exact Q0
    | str z =>
      cases hx
      cases hy
      refine ⟨.str z, rfl, _, _, _, _, false, rfl, .ty _, .base (.str z), kit_ty (by decide +kernel), _, rfl, iteF ⟨.str z, rfl, rfl, _, rfl, iteF ?_⟩⟩
      refine ⟨.str z, rfl, _, _, _, _, false, rfl, .ty _, .base (.str z), kit_ty (by decide +kernel), _, rfl, iteF ?_⟩
      refine ⟨.str z, rfl, _, _, _, _, true, rfl, .ty _, .base (.str z), kit_ty (by decide +kernel), _, rfl, iteT ?_⟩
      refine ⟨.str z, rfl, _, _, _, _, true, rfl, .ty _, .base (.str z), kit_ty (by decide +kernel), _, rfl, iteT ⟨.str z, rfl, .str z, rfl, rfl, ?_⟩⟩
      rw [decide_eq_true rfl]
      exact Q0
    | list ds => cases ok
    | tuple ds => cases ok
    | dict ds => cases ok
theorem ok_LsameS (T : Top w K mg) {n : Nat} (G_Lsame : FnOk P w K mg base CX0 (n + 2) T.a_Lsame T.fd_Lsame ["_law_found", "_law_due"] (spSame K n)) : FnOk P w K mg base CX0 (n + 3) T.a_Lsame T.fd_Lsame ["_law_found", "_law_due"] (spSame K (n + 1)) := by
  have G_Lwhole := ok_Lwhole (P := P) (w := w) (base := base) T
  refine T.F_Lsame.ok sc_Lsame (fun vs H Q E h => ?_) (fun cdv A outer s H vs Q E hr h => ?_)
  · obtain ⟨x, y, d, rfl, _⟩ := h
    rfl
  · obtain ⟨x, y, d, rfl, hx, hy, ok, q⟩ := h
    refine ⟨_, (pss_cons (ps_if (pt_val (pe_callB call_isi (by rfl) T.m_isinstance (by decide +kernel) (pa_cons (pv 1) (pa_cons (pe_bltn (v := .ty "tuple") (by rfl) T.m_tuple (by decide +kernel) rfl) pa_nil)))) (pss_cons (ps_if (PW.pt (pw_or (pt_not (pt_val (pe_callB call_isi (by rfl) T.m_isinstance (by decide +kernel) (pa_cons (pv 0) (pa_cons (pe_bltn (v := .ty "tuple") (by rfl) T.m_tuple (by decide +kernel) rfl) pa_nil))))) (pw_or1 (pt_cmpR op_ne (pe_callB call_len_seq (by rfl) T.m_len (by decide +kernel) (pa_cons (pv 0) pa_nil)) (pe_callB call_len_seq (by rfl) T.m_len (by decide +kernel) (pa_cons (pv 1) pa_nil)) (nomark _))))) (pss_one (ps_ret pe_bl)) pss_nil)
      (pss_one (ps_ret (pe_callB (cr_all rfl) (by rfl) T.m_all (by decide +kernel) (pa_cons (pe_lc (own := [("_law_one", 2), ("_law_other", 3)]) (g := gTup K 2 (gCons (gName 2) (gCons (gName 3) gNil))) (by rfl) sc_Lsame.nd (RZ.pi_zipA (by rfl) T.m_zip (pa_cons (pv 0) (pa_cons (pv 1) pa_nil))) (blkOk_by (own := [("_law_one", 2), ("_law_other", 3)]) (N := ["_law_found", "_law_due", "_law_one", "_law_other"]) (sc := defScope s_Lsame) (by decide +kernel)) (fun _ _ _ _ _ => (pg_tup rfl (pgs_cons (pg_name (i := 2) sc_Lsame.nd rfl (Or.inl rfl)) (pgs_cons (pg_name (i := 3) sc_Lsame.nd rfl (Or.inl rfl)) pgs_nil)))) (fun _ _ _ _ _ => pts_nil) (fun _ _ _ _ _ => (pe_call G_Lsame hr (by rfl) T.g_Lsame T.F_Lsame.kp T.b_Lsame .nil pass0 (pa_cons (pv 2) (pa_cons (pv 3) pa_nil))))) pa_nil))))) pss_nil)
      (pss_cons (ps_if (pt_cmpR op_isN (pv 1) pe_non (nomark _)) (pss_one (ps_ret (pe_cmpR op_isN (pv 0) pe_non (nomark _)))) pss_nil)
      (pss_cons (ps_if (pt_val (pe_callB call_isi (by rfl) T.m_isinstance (by decide +kernel) (pa_cons (pv 1) (pa_cons (pe_bltn (v := .ty "bool") (by rfl) T.m_bool (by decide +kernel) rfl) pa_nil)))) (pss_one (ps_ret (pe_and (pe_callB call_isi (by rfl) T.m_isinstance (by decide +kernel) (pa_cons (pv 0) (pa_cons (pe_bltn (v := .ty "bool") (by rfl) T.m_bool (by decide +kernel) rfl) pa_nil))) (pe_one (pe_cmpR op_eq (pv 0) (pv 1) (nomark _)))))) pss_nil)
      (pss_cons (ps_if (pt_val (pe_callB call_isi (by rfl) T.m_isinstance (by decide +kernel) (pa_cons (pv 1) (pa_cons (pe_bltn (v := .ty "str") (by rfl) T.m_str (by decide +kernel) rfl) pa_nil)))) (pss_one (ps_ret (pe_and (pe_callB call_isi (by rfl) T.m_isinstance (by decide +kernel) (pa_cons (pv 0) (pa_cons (pe_bltn (v := .ty "str") (by rfl) T.m_str (by decide +kernel) rfl) pa_nil))) (pe_one (pe_cmpR op_eq (pv 0) (pv 1) (nomark _)))))) pss_nil)
      (pss_one (ps_ret (pe_and (pe_call G_Lwhole (hr.mono (by omega)) (by rfl) T.g_Lwhole T.F_Lwhole.kp T.b_Lwhole .nil pass0 (pa_cons (pv 0) pa_nil)) (pe_one (pe_cmpR op_eq (pv 0) (pv 1) (nomark _)))))))))), ?_⟩
    have Q0 := q H (Same.refl H)
    cases d with
    | none =>
      cases hx
      cases hy
      exact ⟨.non, rfl, _, _, _, _, false, rfl, .ty _, .base .non, kit_ty (by decide +kernel), _, rfl, iteF ⟨.non, rfl, rfl, _, rfl, iteT ⟨.non, rfl, rfl, Q0⟩⟩⟩
    | bool b =>
      cases hx
      cases hy
      refine ⟨.bl b, rfl, _, _, _, _, false, rfl, .ty _, .base (.bl b), kit_ty (by decide +kernel), _, rfl, iteF ⟨.bl b, rfl, rfl, _, rfl, iteF ?_⟩⟩
      refine ⟨.bl b, rfl, _, _, _, _, true, rfl, .ty _, .base (.bl b), kit_ty (by decide +kernel), _, rfl, iteT ?_⟩
      refine ⟨.bl b, rfl, _, _, _, _, true, rfl, .ty _, .base (.bl b), kit_ty (by decide +kernel), _, rfl, iteT ⟨.bl b, rfl, .bl b, rfl, rfl, ?_⟩⟩
      rw [decide_eq_true rfl]
      exact Q0
    | int i =>
      cases hx
      cases hy
      refine ⟨.int i, rfl, _, _, _, _, false, rfl, .ty _, .base (.int i), kit_ty (by decide +kernel), _, rfl, iteF ⟨.int i, rfl, rfl, _, rfl, iteF ?_⟩⟩
      refine ⟨.int i, rfl, _, _, _, _, false, rfl, .ty _, .base (.int i), kit_ty (by decide +kernel), _, rfl, iteF ?_⟩
      refine ⟨.int i, rfl, _, _, _, _, false, rfl, .ty _, .base (.int i), kit_ty (by decide +kernel), _, rfl, iteF ?_⟩
      refine ⟨.int i, rfl, i, rfl, _, rfl, iteT ⟨.int i, rfl, .int i, rfl, rfl, ?_⟩⟩
      rw [decide_eq_true rfl]
      exact Q0
    | str z =>
      cases hx
      cases hy
      refine ⟨.str z, rfl, _, _, _, _, false, rfl, .ty _, .base (.str z), kit_ty (by decide +kernel), _, rfl, iteF ⟨.str z, rfl, rfl, _, rfl, iteF ?_⟩⟩
      refine ⟨.str z, rfl, _, _, _, _, false, rfl, .ty _, .base (.str z), kit_ty (by decide +kernel), _, rfl, iteF ?_⟩
      refine ⟨.str z, rfl, _, _, _, _, true, rfl, .ty _, .base (.str z), kit_ty (by decide +kernel), _, rfl, iteT ?_⟩
      refine ⟨.str z, rfl, _, _, _, _, true, rfl, .ty _, .base (.str z), kit_ty (by decide +kernel), _, rfl, iteT ⟨.str z, rfl, .str z, rfl, rfl, ?_⟩⟩
      rw [decide_eq_true rfl]
      exact Q0
    | list ds => cases ok
    | dict ds => cases ok
    | tuple ds =>
      cases hx with
      | @tup a xs _ sx ax =>
        cases hy with
        | @tup b ys _ sy ay =>
          have lx := dpa_len ds xs ax
          have ly := dpa_len ds ys ay
          obtain ⟨okL, okA⟩ := Bool.and_eq_true_iff.mp (show (decide (ds.length ≤ 1000) && ds.all fun d => okD n d) = true from ok)
          have okl : ds.length ≤ 1000 := of_decide_eq_true okL
          refine ⟨.ref b, rfl, _, _, _, _, true, rfl, .ty _, ty_tup sy, kit_ty (by decide +kernel), _, rfl, iteT ?_⟩
          refine ⟨.ref a, rfl, _, _, _, _, true, rfl, .ty _, ty_tup sx, kit_ty (by decide +kernel), _, rfl, iteF ?_⟩
          refine ⟨.ref a, rfl, a, xs, rfl, .inr sx, .ref b, rfl, b, ys, rfl, .inr sy, rfl, _, rfl, iteN (by rw [lx, ly]) ?_⟩
          refine ⟨.ref a, rfl, .ref b, rfl, a, b, xs, ys, rfl, .inr ⟨sx, sy, fun D hD => lc_it (walk_zipT (xs := xs) (ys := ys) (n := ds.length) (by omega)) (fun i H' => Same H H' ∧ H' D = some (.lst ((List.replicate i true).map V.bl))) ⟨same_upd hD, upd_same⟩ (fun i H' _ h => ⟨sqt_same h.1 sx, sqt_same h.1 sy⟩) ?_ ?_⟩⟩
          · rintro i v H1 H2 hi ⟨sm, eD⟩ ⟨t, u1, u2, rfl, nt, rfl, e1, e2⟩
            have st : Same H1 (upd H1 t (.tup [u1, u2])) := same_upd nt
            obtain ⟨d1, f1, g1⟩ := dpa_at ds xs ax i u1 e1
            obtain ⟨d2, f2, g2⟩ := dpa_at ds ys ay i u2 e2
            have ed : d2 = d1 := Option.some.inj (f2.symm.trans f1)
            subst ed
            have okd : okD n d2 = true := List.all_eq_true.mp okA d2 (List.mem_of_getElem? f1)
            refine ⟨t, [u1, u2], rfl, .inl (.inl upd_same), rfl, u1, [u2], rfl, u2, [], rfl, rfl, rfl, ?_⟩
            refine ⟨u1, rfl, u2, rfl, u1, u2, d2, rfl, dp_same (sm.trans st) d2 u1 g1, dp_same (sm.trans st) d2 u2 g2, okd, fun H3 s3 => ?_⟩
            refine ⟨_, s3 _ _ (st _ _ eD), ?_, ?_, ?_⟩
            · rw [List.length_map, List.length_replicate]
              exact small1000 (by omega)
            · exact fun b' o e => by
                rw [upd_ne (ne_of_none e hD)]
                exact s3 _ _ (st _ _ (sm _ _ e))
            · rw [upd_same, List.replicate_succ', List.map_append]
              rfl
          · rintro H1 ⟨sm, eD⟩
            refine ⟨_, List.replicate ds.length true, rfl, .inl (.inl eD), ?_⟩
            rw [all_true]
            exact q _ sm
theorem ok_Lsame (T : Top w K mg) : ∀ n : Nat, FnOk P w K mg base CX0 (n + 2) T.a_Lsame T.fd_Lsame ["_law_found", "_law_due"] (spSame K n)
  | 0 => ok_Lsame0 T
  | n + 1 => ok_LsameS T (ok_Lsame T n)
/-! ### data, whatever else stands in the heap -/
def isSeq : HO → Bool
  | .lst _ => true
  | .tup _ => true
  | .frz _ _ => true
  | _ => false
/-- all lists and tuples as they were -/
def Seqs (H H' : Hp) : Prop := ∀ b o, isSeq o = true → H b = some o → H' b = some o
theorem Seqs.of {H H' : Hp} (e : Same H H') : Seqs H H' := fun b o _ h => e b o h
theorem Seqs.trans {H H1 H2 : Hp} (a : Seqs H H1) (b : Seqs H1 H2) : Seqs H H2 := fun c o z h => b c o z (a c o z h)
theorem Seqs.upd {H : Hp} {a : Addr} {o u : HO} (e : H a = some u) (n : isSeq u = false) : Seqs H (L2.upd H a o) := fun b v z h => by
  rw [upd_ne (fun y => by rw [y, e] at h; cases h; rw [n] at z; cases z)]
  exact h
theorem Seqs.new {H : Hp} {a : Addr} {o : HO} (e : H a = none) : Seqs H (L2.upd H a o) := Seqs.of (same_upd e)
theorem seqs_l {K : PySem.W.Frag} {H H' : Hp} {a : Addr} {xs : List V} (e : Seqs H H') (h : SqL K H a xs) : SqL K H' a xs := by
  rcases h with (h | ⟨o, h⟩) | h
  · exact .inl (.inl (e _ _ rfl h))
  · exact .inl (.inr ⟨o, e _ _ rfl h⟩)
  · exact .inr h
theorem seqs_t {K : PySem.W.Frag} {H H' : Hp} {a : Addr} {xs : List V} (e : Seqs H H') (h : SqT K H a xs) : SqT K H' a xs := by
  rcases h with (h | ⟨o, h⟩) | h
  · exact .inl (.inl (e _ _ rfl h))
  · exact .inl (.inr ⟨o, e _ _ rfl h⟩)
  · exact .inr h
mutual
theorem dp_seqs {K : PySem.W.Frag} {H H' : Hp} (e : Seqs H H') : ∀ (d : PyData) (v : V), Dp K H v d → Dp K H' v d
  | .none, _, h => by cases h; exact .non
  | .bool b, _, h => by cases h; exact .bl b
  | .int i, _, h => by cases h; exact .int i
  | .str x, _, h => by cases h; exact .str x
  | .list ds, _, h => by
    cases h with
    | lst hs ha => exact .lst (seqs_l e hs) (dpa_seqs e ds _ ha)
  | .tuple ds, _, h => by
    cases h with
    | tup hs ha => exact .tup (seqs_t e hs) (dpa_seqs e ds _ ha)
  | .dict _, _, h => by cases h
theorem dpa_seqs {K : PySem.W.Frag} {H H' : Hp} (e : Seqs H H') : ∀ (ds : List PyData) (vs : List V), DpAll K H vs ds → DpAll K H' vs ds
  | [], _, h => by cases h; exact .nil
  | d :: ds, _, h => by
    cases h with
    | cons h1 h2 => exact .cons (dp_seqs e d _ h1) (dpa_seqs e ds _ h2)
end
theorem dpa_snoc {K : PySem.W.Frag} {H : Hp} {v : V} {d : PyData} (h : Dp K H v d) : ∀ (ds : List PyData) (vs : List V), DpAll K H vs ds → DpAll K H (vs ++ [v]) (ds ++ [d])
  | [], _, a => by cases a; exact .cons h .nil
  | x :: ds, _, a => by
    cases a with
    | cons h1 h2 => exact .cons h1 (dpa_snoc h ds _ h2)
/-- the heap without the places of X -/
noncomputable def wo (H : Hp) (X : Addr → Prop) : Hp := fun b => by
  classical
  exact if X b then none else H b
theorem wo_in {H : Hp} {X : Addr → Prop} {b : Addr} (h : ¬ X b) : wo H X b = H b := by
  unfold wo
  exact if_neg h
theorem wo_some {H : Hp} {X : Addr → Prop} {b : Addr} {o : HO} (h : wo H X b = some o) : ¬ X b ∧ H b = some o := by
  unfold wo at h
  by_cases hx : X b
  · rw [if_pos hx] at h
    cases h
  · rw [if_neg hx] at h
    exact ⟨hx, h⟩
theorem wo_same {H : Hp} {X : Addr → Prop} : Same (wo H X) H := fun b o h => (wo_some h).2
theorem wo_none {H : Hp} : wo H (fun _ => False) = H := by
  funext b
  exact wo_in (fun h => h)
/-! ### kinds of things -/
theorem ty_lst {K : PySem.W.Frag} {H : Hp} {a : Addr} {xs : List V} (h : SqL K H a xs) : TyX K H (.ref a) (.type "list") := by
  rcases h with (h | ⟨o, h⟩) | ⟨o, its, n, lk, hc, _⟩
  · exact .base (.lst h)
  · exact .base (.frz h)
  · exact .kList lk hc
theorem kit_any2 {K : PySem.W.Frag} {t a b : String} {x y : Bool} (h1 : kitB t a = some x) (h2 : kitB t b = some y) : PySem.W.kitAny K (.type t) [.type a, .type b] = some (x || y) := by
  unfold PySem.W.kitAny
  rw [kit_ty h1]
  cases x with
  | true => rfl
  | false =>
    unfold PySem.W.kitAny
    rw [kit_ty h2]
    cases y <;> rfl
/-- the type's name -/
def tyD : PyData → String
  | .none => "NoneType"
  | .bool _ => "bool"
  | .int _ => "int"
  | .str _ => "str"
  | .list _ => "list"
  | .tuple _ => "tuple"
  | .dict _ => "dict"
theorem ty_dp {K : PySem.W.Frag} {H : Hp} {v : V} {d : PyData} (h : Dp K H v d) : TyX K H v (.type (tyD d)) := by
  cases h with
  | non => exact .base .non
  | bl b => exact .base (.bl b)
  | int i => exact .base (.int i)
  | str z => exact .base (.str z)
  | lst h _ => exact ty_lst h
  | tup h _ => exact ty_tup h
def seqD : PyData → Option (List PyData)
  | .list ds => some ds
  | .tuple ds => some ds
  | _ => none
def strD : PyData → Bool
  | .str _ => true
  | _ => false
theorem kit_seq (d : PyData) : ∃ x y, kitB (tyD d) "tuple" = some x ∧ kitB (tyD d) "list" = some y ∧ (x || y) = (seqD d).isSome := by
  cases d with
  | list ds => exact ⟨false, true, by show kitB "list" "tuple" = some false; decide +kernel, by show kitB "list" "list" = some true; decide +kernel, rfl⟩
  | tuple ds => exact ⟨true, false, by show kitB "tuple" "tuple" = some true; decide +kernel, by show kitB "tuple" "list" = some false; decide +kernel, rfl⟩
  | none => exact ⟨false, false, by show kitB "NoneType" "tuple" = some false; decide +kernel, by show kitB "NoneType" "list" = some false; decide +kernel, rfl⟩
  | bool b => exact ⟨false, false, by show kitB "bool" "tuple" = some false; decide +kernel, by show kitB "bool" "list" = some false; decide +kernel, rfl⟩
  | int i => exact ⟨false, false, by show kitB "int" "tuple" = some false; decide +kernel, by show kitB "int" "list" = some false; decide +kernel, rfl⟩
  | str z => exact ⟨false, false, by show kitB "str" "tuple" = some false; decide +kernel, by show kitB "str" "list" = some false; decide +kernel, rfl⟩
  | dict z => exact ⟨false, false, by show kitB "dict" "tuple" = some false; decide +kernel, by show kitB "dict" "list" = some false; decide +kernel, rfl⟩
theorem kit_str (d : PyData) : kitB (tyD d) "str" = some (strD d) := by
  cases d with
  | list ds => show kitB "list" "str" = some false; decide +kernel
  | tuple ds => show kitB "tuple" "str" = some false; decide +kernel
  | none => show kitB "NoneType" "str" = some false; decide +kernel
  | bool b => show kitB "bool" "str" = some false; decide +kernel
  | int i => show kitB "int" "str" = some false; decide +kernel
  | str z => show kitB "str" "str" = some true; decide +kernel
  | dict z => show kitB "dict" "str" = some false; decide +kernel
def SqA (K : PySem.W.Frag) (H : Hp) (a : Addr) (xs : List V) : Prop := SqL K H a xs ∨ SqT K H a xs
theorem SqA.same {K : PySem.W.Frag} {H H' : Hp} {a : Addr} {xs : List V} (e : Same H H') (h : SqA K H a xs) : SqA K H' a xs := h.elim (fun h => .inl (e.seq h)) (fun h => .inr (sqt_same e h))
theorem seq_dp {K : PySem.W.Frag} {H : Hp} {v : V} {d : PyData} {ds : List PyData} (h : Dp K H v d) (e : seqD d = some ds) : ∃ a xs, v = .ref a ∧ SqA K H a xs ∧ DpAll K H xs ds := by
  cases h with
  | lst h a => cases e; exact ⟨_, _, rfl, .inl h, a⟩
  | tup h a => cases e; exact ⟨_, _, rfl, .inr h, a⟩
  | _ => cases e
theorem ixA {K : PySem.W.Frag} {H : Hp} {a : Addr} {xs : List V} {j : Nat} {v : V} {Q : VK} (h : SqA K H a xs) (hj : xs[j]? = some v) (q : Q v H) : rIx K (.ref a) (.int (j : Int)) H Q :=
  h.elim (fun h => .inl ⟨a, xs, j, v, rfl, rfl, h, atI_nat hj, q⟩) (fun h => .inr (.inl ⟨a, xs, j, v, rfl, rfl, h, atI_nat hj, q⟩))
theorem kpA {K : PySem.W.Frag} {H : Hp} {a : Addr} {xs : List V} (h : SqA K H a xs) : (∀ H', Same H H' → SqL K H' a xs) ∨ (∀ H', Same H H' → SqT K H' a xs) := h.elim (fun h => .inl fun _ s => s.seq h) (fun h => .inr fun _ s => sqt_same s h)
/-! ### letters, steps -/
def cd : Fin 4 → Nat
  | 0 => 110
  | 1 => 101
  | 2 => 115
  | 3 => 119
def Lt (l : Fin 4) : Str := ⟨#[cd l]⟩
abbrev nesw : Str := PySem.Str.ofString "nesw"
theorem lt0 : PySem.Str.ofString "n" = Lt 0 := by decide +kernel
theorem lt1 : PySem.Str.ofString "e" = Lt 1 := by decide +kernel
theorem lt2 : PySem.Str.ofString "s" = Lt 2 := by decide +kernel
theorem lt3 : PySem.Str.ofString "w" = Lt 3 := by decide +kernel
theorem ltd : ∀ l m : Fin 4, decide (V.str (Lt l) = V.str (Lt m)) = decide (l = m) := by decide +kernel
theorem occ : ∀ l : Fin 4, Builtin.Str.occurrences nesw (Lt l) 0 nesw.length 1 = [l.val] := by decide +kernel
theorem nesw_len : nesw.length ≤ sizeLine := by decide +kernel
theorem nesw_at : ∀ (i : Nat) (h : i < 4) (c : Nat), nesw.cps[i]? = some c → (⟨#[c]⟩ : Str) = Lt ⟨i, h⟩
  | 0, _, c, e => by cases e; rfl
  | 1, _, c, e => by cases e; rfl
  | 2, _, c, e => by cases e; rfl
  | 3, _, c, e => by cases e; rfl
def dx : Fin 4 → Int
  | 0 => 0
  | 1 => 1
  | 2 => 0
  | 3 => -1
def dy : Fin 4 → Int
  | 0 => 1
  | 1 => 0
  | 2 => -1
  | 3 => 0
theorem dxb : ∀ l : Fin 4, -(2 ^ 64) < dx l ∧ dx l < 2 ^ 64 := by decide +kernel
theorem dyb : ∀ l : Fin 4, -(2 ^ 64) < dy l ∧ dy l < 2 ^ 64 := by decide +kernel
/-! ### lots -/
def tr (a : Fin 8) (l : Fin 4) : Fin 4 := if a.val < 4 then ⟨(a.val + l.val) % 4, by omega⟩ else ⟨(a.val + 4 - l.val) % 4, by omega⟩
def un (a : Fin 8) : Fin 8 := if a.val < 4 then ⟨(4 - a.val) % 4, by omega⟩ else a
def bo (a b : Fin 8) : Fin 8 :=
  let q := if a.val < 4 then (a.val + b.val) % 4 else (a.val + 8 - b.val) % 4
  if (decide (a.val < 4)) = (decide (b.val < 4)) then ⟨q % 4, by omega⟩ else ⟨q % 4 + 4, by omega⟩
theorem at_mir : ∀ (a : Fin 8) (l : Fin 4), (4 : Int) ≤ a.val → atI nesw.cps.toList (((a.val : Int) - (l.val : Int)) % 4) = some (cd (tr a l)) := by decide +kernel
theorem at_tur : ∀ (a : Fin 8) (l : Fin 4), ¬ (4 : Int) ≤ a.val → atI nesw.cps.toList (((a.val : Int) + (l.val : Int)) % 4) = some (cd (tr a l)) := by decide +kernel
theorem un_mir : ∀ a : Fin 8, (4 : Int) ≤ a.val → ((un a).val : Int) = a.val := by decide +kernel
theorem un_tur : ∀ a : Fin 8, ¬ (4 : Int) ≤ a.val → ((un a).val : Int) = (-(a.val : Int)) % 4 := by decide +kernel
theorem bo_1 : ∀ a b : Fin 8, (4 : Int) ≤ a.val → (4 : Int) ≤ b.val → ((bo a b).val : Int) = ((a.val : Int) - b.val) % 4 := by decide +kernel
theorem bo_2 : ∀ a b : Fin 8, (4 : Int) ≤ a.val → ¬ (4 : Int) ≤ b.val → ((bo a b).val : Int) = ((a.val : Int) - b.val) % 4 + 4 := by decide +kernel
theorem bo_3 : ∀ a b : Fin 8, ¬ (4 : Int) ≤ a.val → (4 : Int) ≤ b.val → ((bo a b).val : Int) = ((a.val : Int) + b.val) % 4 + 4 := by decide +kernel
theorem bo_4 : ∀ a b : Fin 8, ¬ (4 : Int) ≤ a.val → ¬ (4 : Int) ≤ b.val → ((bo a b).val : Int) = ((a.val : Int) + b.val) % 4 := by decide +kernel
/-! ### entries that are right -/
inductive Ent where
  | face (l : Fin 4)
  | turn (q : Fin 3)
  | go (n : Fin 9)
  | bump
  | sign (z : Str)
  | bare
  | spy (n : Fin 9) (z : Str)
  | swap
def ws : Fin 10 → Str
  | 0 => PySem.Str.ofString "face"
  | 1 => PySem.Str.ofString "left"
  | 2 => PySem.Str.ofString "right"
  | 3 => PySem.Str.ofString "back"
  | 4 => PySem.Str.ofString "go"
  | 5 => PySem.Str.ofString "bump"
  | 6 => PySem.Str.ofString "sign"
  | 7 => PySem.Str.ofString "bare"
  | 8 => PySem.Str.ofString "spy"
  | 9 => PySem.Str.ofString "swap"
theorem wsd : ∀ i j : Fin 10, decide (V.str (ws i) = V.str (ws j)) = decide (i = j) := by decide +kernel
theorem ws_ok : ∀ i : Fin 10, PyData.strOk (ws i) = true ∧ (ws i).length ≤ 12 := by decide +kernel
namespace Ent
def kind : Ent → Fin 10
  | face _ => 0
  | turn q => ⟨q.val + 1, by omega⟩
  | go _ => 4
  | bump => 5
  | sign _ => 6
  | bare => 7
  | spy _ _ => 8
  | swap => 9
def rest : Ent → List PyData
  | face l => [.str (Lt l)]
  | go n => [.int ((n.val : Int) + 1)]
  | sign z => [.str z]
  | spy n z => [.int ((n.val : Int) + 1), .str z]
  | _ => []
def parts (e : Ent) : List PyData := .str (ws e.kind) :: e.rest
def tup (e : Ent) : PyData := .tuple e.parts
def lst (e : Ent) : PyData := .list e.parts
def need : Ent → Bool
  | turn _ => true
  | go _ => true
  | bump => true
  | spy _ _ => true
  | _ => false
def isFace : Ent → Bool
  | face _ => true
  | _ => false
def isSwap : Ent → Bool
  | swap => true
  | _ => false
def ok : Ent → Prop
  | sign z => z.length ≤ 12 ∧ PyData.strOk z = true
  | spy _ z => z.length ≤ 12 ∧ PyData.strOk z = true
  | _ => True
theorem face_iff (e : Ent) : e.isFace = decide (e.kind = 0) := by
  cases e with
  | turn q => match q with
    | 0 => rfl
    | 1 => rfl
    | 2 => rfl
  | _ => rfl
theorem swap_iff (e : Ent) : e.isSwap = decide (e.kind = 9) := by
  cases e with
  | turn q => match q with
    | 0 => rfl
    | 1 => rfl
    | 2 => rfl
  | _ => rfl
end Ent
/-- what comes ahead has a face where one is needed -/
def Right (es : List Ent) : Prop := ∀ (i : Nat) (e : Ent), es[i]? = some e → e.need = true → (es.take i).any Ent.isFace = true
theorem Right.nil : Right [] := fun i e h => by cases h
theorem Right.snoc {es : List Ent} {e : Ent} (h : Right es) (he : e.need = true → es.any Ent.isFace = true) : Right (es ++ [e]) := fun i x hx hn => by
  by_cases hi : i < es.length
  · rw [List.getElem?_append_left hi] at hx
    rw [List.take_append_of_le_length (Nat.le_of_lt hi)]
    exact h i x hx hn
  · have hl := (List.getElem?_eq_some_iff.mp hx).1
    rw [List.length_append] at hl
    have : i = es.length := by
      have : [e].length = 1 := rfl
      omega
    rw [this, List.getElem?_append_right (Nat.le_refl _), Nat.sub_self] at hx
    cases hx
    rw [this, List.take_left]
    exact he hn
def swaps (es : List Ent) : Nat := (es.filter Ent.isSwap).length
theorem swaps_snoc (es : List Ent) (e : Ent) : swaps (es ++ [e]) = swaps es + (if e.isSwap = true then 1 else 0) := by
  unfold swaps
  rw [List.filter_append, List.length_append, List.filter_cons, List.filter_nil]
  split <;> rfl
theorem swaps_le (es : List Ent) : swaps es ≤ es.length := List.length_filter_le _ _
/-! ### where a walker stands -/
structure Wk where
  leg : Nat
  x : Int
  y : Int
  look : Option (Fin 4)
def W0 : Wk := ⟨0, 0, 0, none⟩
def tq : Fin 3 → Fin 4
  | 0 => 3
  | 1 => 1
  | 2 => 2
def nlook (a : Fin 8) (look : Option (Fin 4)) : Ent → Option (Fin 4)
  | .face l => some (tr a l)
  | .turn q => look.map (fun l => l + tq q)
  | _ => look
def nx (p : Int) (look : Option (Fin 4)) : Ent → Int
  | .go n => match look with
    | some l => p + ((n.val : Int) + 1) * dx l
    | none => p
  | _ => p
def ny (p : Int) (look : Option (Fin 4)) : Ent → Int
  | .go n => match look with
    | some l => p + ((n.val : Int) + 1) * dy l
    | none => p
  | _ => p
def nleg (n : Nat) (e : Ent) : Nat := if e.isSwap = true then n + 1 else n
def next (lots : List (Fin 8)) (p : Wk) (e : Ent) : Wk := ⟨nleg p.leg e, nx p.x p.look e, ny p.y p.look e, nlook (lots.getD (nleg p.leg e) 0) p.look e⟩
@[irreducible] def wat (lots : List (Fin 8)) (es : List Ent) (i : Nat) : Wk := (es.take i).foldl (next lots) W0
theorem wat_zero (lots : List (Fin 8)) (es : List Ent) : wat lots es 0 = W0 := by
  unfold wat
  rfl
theorem wat_succ {lots : List (Fin 8)} {es : List Ent} {i : Nat} {e : Ent} (h : es[i]? = some e) : wat lots es (i + 1) = next lots (wat lots es i) e := by
  unfold wat
  rw [List.take_add_one, h, List.foldl_append]
  rfl
theorem wat_look (lots : List (Fin 8)) (es : List Ent) : ∀ i, (wat lots es i).look.isSome = (es.take i).any Ent.isFace
  | 0 => by rw [wat_zero]; rfl
  | i + 1 => by
    by_cases hi : i < es.length
    · have h : es[i]? = some es[i] := List.getElem?_eq_getElem hi
      rw [wat_succ h, List.take_add_one, h, List.any_append, ← wat_look lots es i]
      show (nlook _ (wat lots es i).look es[i]).isSome = ((wat lots es i).look.isSome || (es[i].isFace || false))
      cases es[i] with
      | face l => cases (wat lots es i).look <;> rfl
      | turn q => cases (wat lots es i).look <;> rfl
      | _ => cases (wat lots es i).look <;> rfl
    · have e1 : es.take (i + 1) = es.take i := by rw [List.take_of_length_le (by omega), List.take_of_length_le (by omega)]
      have := wat_look lots es i
      unfold wat at this ⊢
      rw [e1]
      exact this
theorem wat_leg (lots : List (Fin 8)) (es : List Ent) : ∀ i, (wat lots es i).leg = swaps (es.take i)
  | 0 => by rw [wat_zero]; rfl
  | i + 1 => by
    by_cases hi : i < es.length
    · have h : es[i]? = some es[i] := List.getElem?_eq_getElem hi
      rw [wat_succ h, List.take_add_one, h]
      show nleg (wat lots es i).leg es[i] = swaps (es.take i ++ [es[i]])
      rw [swaps_snoc, wat_leg lots es i]
      unfold nleg
      split <;> rfl
    · have e1 : es.take (i + 1) = es.take i := by rw [List.take_of_length_le (by omega), List.take_of_length_le (by omega)]
      have := wat_leg lots es i
      unfold wat at this ⊢
      rw [e1]
      exact this
theorem swaps_take (es : List Ent) (i : Nat) : swaps (es.take i) ≤ swaps es := by
  unfold swaps
  exact List.Sublist.length_le ((List.take_sublist i es).filter _)
def lk : Option (Fin 4) → Str
  | some l => Lt l
  | none => PySem.Str.ofString ""
def plD (p : Wk) : PyData := .tuple [.int p.x, .int p.y]
def posD (p : Wk) : PyData := .tuple [plD p, .str (lk p.look)]
def trackL (lots : List (Fin 8)) (es : List Ent) (n : Nat) : List PyData := (List.range n).map fun i => posD (wat lots es (i + 1))
theorem trackL_succ (lots : List (Fin 8)) (es : List Ent) (n : Nat) : trackL lots es (n + 1) = trackL lots es n ++ [posD (wat lots es (n + 1))] := by
  unfold trackL
  rw [List.range_succ, List.map_append]
  rfl
def trackD (lots : List (Fin 8)) (es : List Ent) : PyData := .tuple (trackL lots es es.length)
/-- rows of entries, each a list or a tuple -/
def Rows (K : PySem.W.Frag) (H : Hp) (xs : List V) (es : List Ent) : Prop := ∃ ds, DpAll K H xs ds ∧ ds.map seqD = es.map fun e => some e.parts
theorem Rows.same {K : PySem.W.Frag} {H H' : Hp} {xs : List V} {es : List Ent} (h : Rows K H xs es) (s : Same H H') : Rows K H' xs es := by
  obtain ⟨ds, h1, h2⟩ := h
  exact ⟨ds, dpa_same s _ _ h1, h2⟩
theorem Rows.len {K : PySem.W.Frag} {H : Hp} {xs : List V} {es : List Ent} (h : Rows K H xs es) : xs.length = es.length := by
  obtain ⟨ds, h1, h2⟩ := h
  have := congrArg List.length h2
  rw [List.length_map, List.length_map] at this
  rw [dpa_len ds xs h1, this]
/-- one entry, a list or a tuple -/
def EntAt (K : PySem.W.Frag) (H : Hp) (v : V) (e : Ent) : Prop := ∃ a xs, v = .ref a ∧ SqA K H a (.str (ws e.kind) :: xs) ∧ DpAll K H xs e.rest
theorem ent_at {K : PySem.W.Frag} {H : Hp} {v : V} {d : PyData} {e : Ent} (h : Dp K H v d) (hs : seqD d = some e.parts) : EntAt K H v e := by
  obtain ⟨a, xs, rfl, hq, ha⟩ := seq_dp h hs
  cases ha with
  | cons h1 h2 =>
    cases h1
    exact ⟨a, _, rfl, hq, h2⟩
theorem EntAt.same {K : PySem.W.Frag} {H H' : Hp} {v : V} {e : Ent} (h : EntAt K H v e) (s : Same H H') : EntAt K H' v e := by
  obtain ⟨a, xs, h1, h2, h3⟩ := h
  exact ⟨a, xs, h1, h2.elim (fun h => .inl (s.seq h)) (fun h => .inr (sqt_same s h)), dpa_same s _ _ h3⟩
theorem Rows.at_ {K : PySem.W.Frag} {H : Hp} {xs : List V} {es : List Ent} (h : Rows K H xs es) {i : Nat} {v : V} (hv : xs[i]? = some v) : ∃ e, es[i]? = some e ∧ EntAt K H v e := by
  obtain ⟨ds, h1, h2⟩ := h
  obtain ⟨d, fd, gd⟩ := dpa_at ds xs h1 i v hv
  have e1 : (ds.map seqD)[i]? = some (seqD d) := by rw [List.getElem?_map, fd]; rfl
  rw [h2, List.getElem?_map] at e1
  cases e2 : es[i]? with
  | none => rw [e2] at e1; cases e1
  | some e =>
    rw [e2] at e1
    exact ⟨e, rfl, ent_at gd (Option.some.inj e1).symm⟩
theorem rows_tup {K : PySem.W.Frag} {H : Hp} {xs : List V} {es : List Ent} (h : DpAll K H xs (es.map Ent.tup)) : Rows K H xs es := ⟨_, h, by rw [List.map_map]; rfl⟩
def Keys : List DictEntry → List Str → Prop
  | [], [] => True
  | e :: r, k :: ks => (∃ t, e.key = .str k t) ∧ Keys r ks
  | _, _ => False
theorem find_keys (z : Str) : ∀ (l : List DictEntry) (ks : List Str), Keys l ks → (l.find? (·.key.isStr z)).isSome = (ks.any fun s => s == z) ∧ l.any (·.refKey) = false
  | [], [], _ => ⟨rfl, rfl⟩
  | e :: r, k :: ks, h => by
    obtain ⟨⟨t, hk⟩, hr⟩ := h
    obtain ⟨i1, i2⟩ := find_keys z r ks hr
    have e1 : e.key.isStr z = (k == z) := by rw [hk]; rfl
    have e2 : e.refKey = false := by unfold DictEntry.refKey; rw [hk]
    constructor
    · rw [List.find?_cons, e1, List.any_cons]
      cases k == z with
      | true => rfl
      | false => exact i1
    · rw [List.any_cons, e2, i2]
      rfl
  | [], _ :: _, h => h.elim
  | _ :: _, [], h => h.elim
theorem ns_keys {K : PySem.W.Frag} {a : Addr} {es : Array DictEntry} {n : Nat} {ks : List Str} (h : K.lookup a = some ⟨.type "dict", none, .dict es n, #[]⟩) (hk : Keys es.toList ks) (z : Str) : ∃ r, PySem.W.nsIn K a z = some r ∧ r.isSome = (ks.any fun s => s == z) := by
  obtain ⟨i1, i2⟩ := find_keys z es.toList ks hk
  unfold PySem.W.nsIn
  rw [h]
  cases e : es.toList.find? (·.key.isStr z) with
  | some x =>
    rw [e] at i1
    refine ⟨some x.val, ?_, i1⟩
    simp only [e]
  | none =>
    rw [e] at i1
    refine ⟨none, ?_, i1⟩
    simp only [e, i2]
    rfl
--@@SPLIT
/-! ### texts -/
abbrev SMALLs : Str := PySem.Str.ofString "abcdefghijklmnopqrstuvwxyz"
abbrev GREATs : Str := PySem.Str.ofString "ABCDEFGHIJKLMNOPQRSTUVWXYZ"
def smC (c : Nat) : Bool := decide (c ∈ SMALLs.cps.toList)
def grC (c : Nat) : Bool := decide (c ∈ GREATs.cps.toList)
def shL (cs : List Nat) : Bool := decide (1 ≤ (cs.length : Int)) && decide ((cs.length : Int) ≤ 8)
def nmL (cs : List Nat) : Bool := shL cs && cs.all smC
def loL : List Nat → Bool
  | [] => false
  | c :: r => shL (c :: r) && (grC c && r.all smC)
def nmV : V → Bool
  | .str z => nmL z.cps.toList
  | _ => false
def loV : V → Bool
  | .str z => loL z.cps.toList
  | _ => false
def sgV (v : V) : Bool := nmV v || loV v
def shV : V → Bool
  | .str z => shL z.cps.toList
  | _ => false
/-- a thing: a text that is not too long, or no text -/
def Th (K : PySem.W.Frag) (H : Hp) (v : V) : Prop := (∃ z : Str, v = .str z ∧ z.length ≤ 1000) ∨ ((∀ z, v ≠ .str z) ∧ ∃ t, TyX K H v (.type t) ∧ kitB t "str" = some false)
theorem tyx_same {K : PySem.W.Frag} {H H' : Hp} {v : V} {t : Value} (e : Same H H') (h : TyX K H v t) : TyX K H' v t := by
  cases h with
  | base b =>
    cases b with
    | non => exact .base .non
    | bl x => exact .base (.bl x)
    | int i => exact .base (.int i)
    | str x => exact .base (.str x)
    | flt x => exact .base (.flt x)
    | lst h => exact .base (.lst (e _ _ h))
    | frz h => exact .base (.frz (e _ _ h))
    | tup h => exact .base (.tup (e _ _ h))
    | dK h => exact .base (.dK (e _ _ h))
    | dT h => exact .base (.dT (e _ _ h))
    | ins h a b c d f => exact .base (.ins (e _ _ h) a b c d f)
  | byt b => exact .byt b
  | set h => exact .set (e _ _ h)
  | kList h c => exact .kList h c
  | kTuple h c => exact .kTuple h c
  | kDict h c => exact .kDict h c
  | fTuple h => exact .fTuple (e _ _ h)
  | fDict h => exact .fDict (e _ _ h)
theorem Th.same {K : PySem.W.Frag} {H H' : Hp} {v : V} (e : Same H H') (h : Th K H v) : Th K H' v := by
  rcases h with h | ⟨n, t, ty, k⟩
  · exact .inl h
  · exact .inr ⟨n, t, tyx_same e ty, k⟩
theorem nmV_no {v : V} (h : ∀ z, v ≠ .str z) : nmV v = false ∧ loV v = false ∧ shV v = false := by
  cases v with
  | str z => exact absurd rfl (h z)
  | _ => exact ⟨rfl, rfl, rfl⟩
theorem len_toList (z : Str) : z.cps.toList.length = z.length := Array.length_toList
theorem thou {n : Nat} (h : n ≤ 1000) : n ≤ sizeLine := Nat.le_trans h (by decide)
def spShort (K : PySem.W.Frag) : Sp := fun vs H Q _ => ∃ v, vs = [v] ∧ Th K H v ∧ Q (.bl (shV v)) H
theorem s0 : PySem.Str.ofString "" = (⟨#[]⟩ : Str) := by decide +kernel
/-! ### drawn texts, drawn things -/
theorem op_mulS {X : Cx} : OpR X (binaryOp .Mult) (fun x y H Q => ∃ (z : Str) (n : Int), x = .str z ∧ y = .int n ∧ z.length ≤ 16 ∧ 0 ≤ n ∧ n ≤ 1048576 ∧ ∀ z' : Str, (z'.length : Int) = (z.length : Int) * n → Q (.str z') H) := by
  intro pins s σ H x y v u Q I rx ry h
  obtain ⟨z, n, rfl, rfl, hz, h0, h1, q⟩ := h
  obtain ⟨t, rfl⟩ := rx
  obtain ⟨t', rfl⟩ := ry
  exact PySem.W.KXi.mul rfl hz (by omega) (by omega) fun t' k _ h2 => ⟨.str _, H, I.tok _, ⟨_, rfl⟩, q _ (h2 h0)⟩
theorem cut_len (z : Str) (lo hi : Option Int) : (cutS z lo hi).length ≤ z.length := by
  show (((z.cps.toList.drop (HT.sIx z.length 0 lo)).take (HT.sIx z.length z.length hi - HT.sIx z.length 0 lo)).toArray).size ≤ z.length
  rw [List.size_toArray, List.length_take, List.length_drop, len_toList]
  omega
theorem app_len (a b : Str) : (a ++ b).length = a.length + b.length := by
  show (a.cps ++ b.cps).size = _
  rw [Array.size_append]
  rfl
theorem str_at {z : Str} {i : Int} (h0 : 0 ≤ i) (h1 : i < (z.length : Int)) : ∃ c, atI z.cps.toList i = some c := by
  obtain ⟨j, rfl⟩ : ∃ j : Nat, i = j := ⟨i.toNat, by omega⟩
  have hj : j < z.cps.toList.length := by
    rw [len_toList]
    omega
  exact ⟨z.cps.toList[j], atI_nat (List.getElem?_eq_getElem hj)⟩
def spText (lo hi : Nat) : Sp := fun vs H Q _ => ∃ p, vs = [.ref p] ∧ Pool H p ∧ ∀ H' (z : Str), But p H H' → Pool H' p → lo ≤ z.length → z.length ≤ hi → (∀ c ∈ z.cps.toList, c ∈ SMALLs.cps.toList) → Q (.str z) H'
theorem app_mem {a b : Str} {c : Nat} (h : c ∈ (a ++ b).cps.toList) : c ∈ a.cps.toList ∨ c ∈ b.cps.toList := by
  have h2 : c ∈ (a.cps ++ b.cps).toList := h
  rw [Array.toList_append] at h2
  exact List.mem_append.mp h2
theorem join_mem {S : List Nat} : ∀ ys : List Str, (∀ y ∈ ys, ∀ c ∈ y.cps.toList, c ∈ S) → ∀ c ∈ (Str.join (PySem.Str.ofString "") ys).cps.toList, c ∈ S
  | [], _, c, h => by
    have h2 : c ∈ ([] : List Nat) := h
    cases h2
  | [y], hy, c, h => hy y (by simp) c h
  | y :: z :: r, hy, c, h => by
    have h2 : c ∈ ((y ++ PySem.Str.ofString "") ++ Str.join (PySem.Str.ofString "") (z :: r)).cps.toList := h
    rcases app_mem h2 with h3 | h3
    · rcases app_mem h3 with h4 | h4
      · exact hy y (by simp) c h4
      · have h5 : c ∈ ([] : List Nat) := by
          rw [show (PySem.Str.ofString "").cps.toList = [] by decide +kernel] at h4
          exact h4
        cases h5
    · exact join_mem (z :: r) (fun x hx => hy x (List.mem_cons_of_mem _ hx)) c h3
theorem ok_of_mem {z : Str} (h : ∀ c ∈ z.cps.toList, c < 0x110000) : PyData.strOk z = true := by
  show z.cps.all (fun c => decide (c < 0x110000)) = true
  rw [Array.all_eq_true_iff_forall_mem]
  intro c hc
  exact decide_eq_true (h c (Array.mem_toList_iff.mpr hc))
theorem small_ok : ∀ c ∈ SMALLs.cps.toList, c < 0x110000 := by decide +kernel
theorem cut_mem {z : Str} {lo hi : Option Int} {c : Nat} (h : c ∈ (cutS z lo hi).cps.toList) : c ∈ z.cps.toList := by
  have h2 : c ∈ (z.cps.toList.drop (HT.sIx z.length 0 lo)).take (HT.sIx z.length z.length hi - HT.sIx z.length 0 lo) := h
  exact List.mem_of_mem_drop (List.mem_of_mem_take h2)
theorem at_mem {z : Str} {i : Int} {c : Nat} (h : atI z.cps.toList i = some c) : c ∈ z.cps.toList := by
  obtain ⟨j, _, h2, _⟩ := atI_get h
  exact List.mem_of_getElem? h2
theorem join_len : ∀ ys : List Str, (∀ y ∈ ys, y.length = 1) → (Str.join (PySem.Str.ofString "") ys).length = ys.length
  | [], _ => rfl
  | [y], h => by
    show y.length = 1
    exact h y (by simp)
  | y :: z :: r, h => by
    show ((y ++ PySem.Str.ofString "") ++ Str.join (PySem.Str.ofString "") (z :: r)).length = _
    rw [app_len, app_len, join_len (z :: r) (fun x hx => h x (List.mem_cons_of_mem _ hx)), h y (by simp), s0]
    show 1 + 0 + (z :: r).length = (z :: r).length + 1
    omega
theorem sum_ones : ∀ ys : List Str, (∀ y ∈ ys, y.length = 1) → (ys.map (·.length)).sum = ys.length
  | [], _ => rfl
  | y :: r, h => by
    rw [List.map_cons, List.sum_cons, sum_ones r (fun x hx => h x (List.mem_cons_of_mem _ hx)), h y (by simp), List.length_cons]
    omega
theorem ok_Lname (T : Top w K mg) : FnOk P w K mg base CX0 2 T.a_Lname T.fd_Lname ["_law_pool_here"] (spText 1 8) := by
  have G_Ltake := ok_Ltake (P := P) (w := w) (base := base) T
  refine T.F_Lname.ok sc_Lname (fun vs H Q E h => ?_) (fun cdv A outer s H vs Q E hr h => ?_)
  · obtain ⟨p, rfl, _⟩ := h
    rfl
  · obtain ⟨p, rfl, hp, q⟩ := h
    refine ⟨_, (pss_cons (ps_set (i := 1) sc_Lname.nd rfl (.inr rfl) pe_str)
      (pss_one (ps_ret (pe_bm PySem.F.plainAttrs_str PySem.F.slot_str_join PySem.F.type_str_join mt_join pe_str (pa_cons (pe_lc (own := [("_law_k", 2)]) (g := gName 2) (by rfl) sc_Lname.nd (pi_range1 (by rfl) T.m_range (pa_cons (pe_op op_add pe_int (pe_call G_Ltake hr (by rfl) T.g_Ltake T.F_Ltake.kp T.b_Ltake .nil pass0 (pa_cons (pv 0) (pa_cons pe_int pa_nil)))) pa_nil)) (blkOk_by (own := [("_law_k", 2)]) (N := ["_law_pool_here", "_law_letters", "_law_k"]) (sc := defScope s_Lname) (by decide +kernel)) (fun _ _ _ _ _ => (pg_name (i := 2) sc_Lname.nd rfl (Or.inl rfl))) (fun _ _ _ _ _ => pts_nil) (fun _ _ _ _ _ => (pe_ix ix_str (pv 1) (pe_call G_Ltake hr (by rfl) T.g_Ltake T.F_Ltake.kp T.b_Ltake .nil pass0 (pa_cons (pv 0) (pa_cons pe_int pa_nil))) (fun _ _ => rfl)))) pa_nil))))), ?_⟩
    refine ⟨rfl, .ref p, rfl, p, 8, rfl, by decide, by decide, hp, fun H1 r b1 hp1 r0 r1 => ?_⟩
    have l26 : SMALLs.length = 26 := by decide +kernel
    refine ⟨_, _, rfl, rfl, 1 + r, rfl, by omega, by omega, fun D hD => lc_range (lo := 0) (n := (1 + r).toNat) (fun i H' => Pool H' p ∧ But p H H' ∧ ∃ ys : List Str, ys.length = i ∧ (∀ y ∈ ys, y.length = 1) ∧ (∀ y ∈ ys, ∀ c ∈ y.cps.toList, c ∈ SMALLs.cps.toList) ∧ H' D = some (.lst (ys.map V.str))) ⟨hp1.upd (hp1.ne_new hD), b1.mut (b1.free (hp1.ne_new hD) hD), [], rfl, (fun _ h => nomatch h), (fun _ h => nomatch h), upd_same⟩ ?_ ?_⟩
    · rintro i H2 hi ⟨hp2, b2, ys, hl, h1, hm, eD⟩
      have nD : D ≠ p := hp1.ne_new hD
      refine ⟨rfl, ?_⟩
      refine ⟨_, rfl, .ref p, rfl, p, 26, rfl, by decide, by decide, hp2, fun H3 k b3 hp3 k0 k1 => ?_⟩
      obtain ⟨c, hc⟩ := str_at (z := SMALLs) k0 (by rw [l26]; omega)
      refine ⟨_, k, c, rfl, rfl, by decide +kernel, hc, _, b3 _ _ nD eD, ?_, hp3.upd nD, (b2.trans b3).mut (b1.free nD hD), ys ++ [⟨#[c]⟩], ?_, ?_, ?_, ?_⟩
      · rw [List.length_map]
        exact small1000 (by omega)
      · rw [List.length_append, hl]
        rfl
      · intro y hy
        rcases List.mem_append.mp hy with h | h
        · exact h1 y h
        · rw [List.mem_singleton.mp h]
          rfl
      · intro y hy c2 hc2
        rcases List.mem_append.mp hy with h | h
        · exact hm y h c2 hc2
        · rw [List.mem_singleton.mp h] at hc2
          have h3 : c2 ∈ [c] := hc2
          rw [List.mem_singleton.mp h3]
          exact at_mem hc
      · rw [upd_same, List.map_append]
        rfl
    · rintro H2 ⟨hp2, b2, ys, hl, h1, hm, eD⟩
      have e := join_len ys h1
      refine ⟨_, D, ys, rfl, rfl, .inl (.inl (.inl eD)), ?_, ?_⟩
      · rw [sum_ones ys h1, s0]
        show ys.length + ys.length * 0 ≤ 16777216
        omega
      · rw [TL.join_eq]
        exact q H2 _ b2 hp2 (by omega) (by omega) (join_mem ys hm)
theorem up_gr : ∀ c ∈ SMALLs.cps.toList, (Txt.upper ⟨#[c]⟩).cps.toList = [c - 32] ∧ grC (c - 32) = true ∧ c - 32 < 0x110000 := by decide +kernel
theorem all_sm {cs : List Nat} (h : ∀ c ∈ cs, c ∈ SMALLs.cps.toList) : cs.all smC = true := List.all_eq_true.mpr fun c hc => decide_eq_true (h c hc)
theorem nm_of {z : Str} (h1 : 1 ≤ z.length) (h8 : z.length ≤ 8) (hm : ∀ c ∈ z.cps.toList, c ∈ SMALLs.cps.toList) : nmL z.cps.toList = true := by
  unfold nmL shL
  rw [all_sm hm, len_toList, decide_eq_true (show (1 : Int) ≤ (z.length : Int) by omega), decide_eq_true (show (z.length : Int) ≤ 8 by omega)]
  rfl
theorem cut1_tl (z : Str) (h : 1 ≤ z.length) : (cutS z (some 1) none).cps.toList = z.cps.toList.drop 1 := by
  show (z.cps.toList.drop (HT.sIx z.length 0 (some 1))).take (HT.sIx z.length z.length none - HT.sIx z.length 0 (some 1)) = _
  have e1 : HT.sIx z.length 0 (some 1) = 1 := by
    unfold HT.sIx
    simp
    omega
  have e2 : HT.sIx z.length z.length none = z.length := rfl
  rw [e1, e2]
  exact List.take_of_length_le (by rw [List.length_drop, len_toList]; exact Nat.le_refl _)
theorem lo_of {z : Str} {c : Nat} (h1 : 1 ≤ z.length) (h8 : z.length ≤ 8) (hm : ∀ c ∈ z.cps.toList, c ∈ SMALLs.cps.toList) (hc : c ∈ SMALLs.cps.toList) : (Txt.upper ⟨#[c]⟩ ++ cutS z (some 1) none).cps.toList = (c - 32) :: z.cps.toList.drop 1 ∧ loL ((c - 32) :: z.cps.toList.drop 1) = true := by
  obtain ⟨u1, u2, _⟩ := up_gr c hc
  refine ⟨?_, ?_⟩
  · show ((Txt.upper ⟨#[c]⟩).cps ++ (cutS z (some 1) none).cps).toList = _
    rw [Array.toList_append, u1, cut1_tl z h1]
    rfl
  · show (shL ((c - 32) :: z.cps.toList.drop 1) && (grC (c - 32) && (z.cps.toList.drop 1).all smC)) = true
    have l : ((c - 32) :: z.cps.toList.drop 1).length = z.length := by
      rw [List.length_cons, List.length_drop, len_toList]
      omega
    unfold shL
    rw [u2, all_sm (fun d hd => hm d (List.mem_of_mem_drop hd)), l, decide_eq_true (show (1 : Int) ≤ (z.length : Int) by omega), decide_eq_true (show (z.length : Int) ≤ 8 by omega)]
    rfl
/-! ### names, logs and boxes drawn -/
theorem pigeon {α : Type} [DecidableEq α] : ∀ (l found : List α), l.Nodup → (∀ x ∈ l, x ∈ found) → l.length ≤ found.length
  | [], _, _, _ => Nat.zero_le _
  | x :: r, found, nd, h => by
    have nd2 := List.nodup_cons.mp nd
    have hx := h x List.mem_cons_self
    have := pigeon r (found.erase x) nd2.2 (fun y hy => (List.mem_erase_of_ne (fun e => nd2.1 (by rw [← e]; exact hy))).mpr (h y (List.mem_cons_of_mem _ hy)))
    rw [List.length_erase_of_mem hx] at this
    have hp : 0 < found.length := List.length_pos_of_mem hx
    rw [List.length_cons]
    omega
def twelve : List Str := (PySem.Str.ofString "abcdefghijkl").cps.toList.map fun c => ⟨#[c]⟩
theorem twelve_nd : twelve.Nodup := by decide +kernel
theorem twelve_nm : ∀ z ∈ twelve, nmL z.cps.toList = true := by decide +kernel
theorem inV_str (z : Str) (zs : List Str) : inV (.str z) (zs.map V.str) = zs.any (fun y => y == z) := by
  unfold inV
  rw [List.any_map]
  rfl
theorem inV_mem {z : Str} {zs : List Str} : inV (.str z) (zs.map V.str) = true ↔ z ∈ zs := by
  rw [inV_str, List.any_eq_true]
  constructor
  · rintro ⟨y, hy, e⟩
    rw [← eq_of_beq e]
    exact hy
  · exact fun h => ⟨z, h, beq_self_eq_true z⟩
theorem flat_strsM (zs : List Str) : (zs.map V.str).all flatV = true := List.all_eq_true.mpr fun v hv => by
  obtain ⟨z, _, rfl⟩ := List.mem_map.mp hv
  rfl
theorem cut0_tl (z : Str) : (cutS z none (some 1)).cps.toList = z.cps.toList.take 1 := by
  show (z.cps.toList.drop (HT.sIx z.length 0 none)).take (HT.sIx z.length z.length (some 1) - HT.sIx z.length 0 none) = _
  have e1 : HT.sIx z.length 0 none = 0 := rfl
  rw [e1, List.drop_zero, Nat.sub_zero]
  have e2 : HT.sIx z.length z.length (some 1) = min 1 z.length := by
    unfold HT.sIx
    simp
  rw [e2]
  by_cases h : z.length = 0
  · have : z.cps.toList = [] := List.eq_nil_of_length_eq_zero (by rw [len_toList]; exact h)
    rw [this]
    simp
  · rw [show min 1 z.length = 1 by omega]
def spNames : Sp := fun vs H Q _ => ∃ (p : Addr) (m : Nat), vs = [.ref p, .int (m : Nat)] ∧ m ≤ 11 ∧ Pool H p ∧ ∀ H' L (zs : List Str), But p H H' → Pool H' p → H L = none → H' L = some (.lst (zs.map V.str)) → zs.length = m → zs.Nodup → (∀ z ∈ zs, nmL z.cps.toList = true) → Q (.ref L) H'
theorem ok_Lnames (T : Top w K mg) : FnOk P w K mg base CX0 3 T.a_Lnames T.fd_Lnames ["_law_pool_here", "_law_many"] spNames := by
  have G_Ltake := ok_Ltake (P := P) (w := w) (base := base) T
  have G_Lname := ok_Lname (P := P) (w := w) (base := base) T
  refine T.F_Lnames.ok sc_Lnames (fun vs H Q E h => ?_) (fun cdv A outer s H vs Q E hr h => ?_)
  · obtain ⟨p, m, rfl, _⟩ := h
    rfl
  · obtain ⟨p, m, rfl, hm, hp, q⟩ := h
    refine ⟨_, (pss_cons (ps_set (i := 2) sc_Lnames.nd rfl (.inr rfl) (pe_lst pa_nil))
      (pss_cons (ps_for PassesOwn.never rfl (pi_range1 (by rfl) T.m_range (pa_cons (pv 1) pa_nil)) (pg_name (i := 3) sc_Lnames.nd rfl (.inl rfl)) (pss_cons (ps_set (i := 4) sc_Lnames.nd rfl (.inl rfl) (pe_call G_Lname hr (by rfl) T.g_Lname T.F_Lname.kp T.b_Lname .nil pass0 (pa_cons (pv 0) pa_nil)))
      (Evl.pss_cut (ps_if (pt_cmpR op_eq (pe_call G_Ltake (hr.mono (by decide)) (by rfl) T.g_Ltake T.F_Ltake.kp T.b_Ltake .nil pass0 (pa_cons (pv 0) (pa_cons pe_int pa_nil))) pe_int (nomark _)) (pss_one (ps_set (i := 4) sc_Lnames.nd rfl (.inl rfl) (pe_slice sl_str (pv 4) po_none (po_some pe_int)))) pss_nil)
      (Evl.pss_cut (ps_if (pt_cmpR op_in_seq (pv 4) (pv 2) (by rfl)) (pss_one (ps_set (i := 4) sc_Lnames.nd rfl (.inl rfl) (pe_ix ix_list (pe_lc (own := [("_law_letter", 5)]) (g := gName 5) (by rfl) sc_Lnames.nd (pi_str pe_str) (blkOk_by (own := [("_law_letter", 5)]) (N := ["_law_pool_here", "_law_many", "_law_found", "_law_k", "_law_name_here", "_law_letter"]) (sc := defScope s_Lnames) (by decide +kernel)) (fun _ _ _ _ _ => (pg_name (i := 5) sc_Lnames.nd rfl (Or.inl rfl))) (fun _ _ _ _ _ => (pts_one (pt_cmpR (r := rIn K true) (SeqW.notIn_K rfl) (pv 5) (pv 2) (by rfl)))) (fun _ _ _ _ _ => (pv 5))) pe_int (fun _ _ => rfl)))) pss_nil)
      (pss_one (ps_expr (pe_bm PySem.F.plainAttrs_list PySem.F.slot_list_append PySem.F.type_list_append mt_append (pv 2) (pa_cons (pv 4) pa_nil))))))))
      (pss_one (ps_ret (pv 2))))), ?_⟩
    refine ⟨Nat.zero_le _, fun L nL => ?_⟩
    have nLp : L ≠ p := hp.ne_new nL
    have s0 := same_upd (o := .lst []) nL
    refine ⟨.int m, rfl, m, rfl, by omega, by omega, for_range (n := m) (fun i σ H' => But p H H' ∧ Pool H' p ∧ ∃ y3 y4 y5 zs, σ = [some (.ref p), some (.int (m : Nat)), some (.ref L), y3, y4, y5] ∧ H' L = some (.lst (zs.map V.str)) ∧ zs.length = i ∧ zs.Nodup ∧ (∀ z ∈ zs, nmL z.cps.toList = true)) ⟨But.of s0, hp.same s0, none, none, none, [], rfl, upd_same, rfl, .nil, (fun _ h => nomatch h)⟩ ?_ ?_⟩
    · rintro i σ H1 hi ⟨b1, hp1, y3, y4, y5, zs, rfl, eL, lz, nd, hz⟩
      refine ⟨.ref p, rfl, p, rfl, hp1, fun H2 z b2 hp2 z0 z1 zm => ?_⟩
      have eL2 := b2 _ _ nLp eL
      refine ⟨fun σ H' => But p H H' ∧ Pool H' p ∧ H' L = some (.lst (zs.map V.str)) ∧ ∃ y3 y5 z, σ = [some (.ref p), some (.int (m : Nat)), some (.ref L), y3, some (.str z), y5] ∧ nmL z.cps.toList = true, ?_, ?_⟩
      · refine ⟨.ref p, rfl, p, 3, rfl, by decide, by decide, hp2, fun H3 r b3 hp3 _ _ => ⟨rfl, _, rfl, ite2 (fun e => ?_) (fun e => ?_)⟩⟩
        · refine ⟨.str z, rfl, 1, rfl, z, rfl, thou (by omega), (b1.trans b2).trans b3, hp3, b3 _ _ nLp eL2, _, _, _, rfl, ?_⟩
          have l1 : (cutS z none (some 1)).cps.toList.length = 1 := by
            rw [cut0_tl, List.length_take, len_toList]
            omega
          rw [len_toList] at l1
          exact nm_of (by omega) (by omega) (fun c hc => zm c (by rw [cut0_tl] at hc; exact List.mem_of_mem_take hc))
        · exact ⟨(b1.trans b2).trans b3, hp3, b3 _ _ nLp eL2, _, _, z, rfl, nm_of z0 z1 zm⟩
      rintro σ H3 ⟨b3, hp3, eL3, y3, y5, z, rfl, hn⟩
      refine ⟨fun σ H' => But p H H' ∧ Pool H' p ∧ H' L = some (.lst (zs.map V.str)) ∧ ∃ y3 y5 z, σ = [some (.ref p), some (.int (m : Nat)), some (.ref L), y3, some (.str z), y5] ∧ nmL z.cps.toList = true ∧ z ∉ zs, ?_, ?_⟩
      · refine ⟨.str z, rfl, .ref L, rfl, L, _, rfl, .inl (.inl (.inl eL3)), rfl, flat_strsM zs, _, rfl, ite2 (fun e => ?_) (fun e => ?_)⟩
        · refine ⟨_, rfl, fun D hD => lc_it walk_str (fun i H' => Same H3 H' ∧ H' D = some (.lst (((twelve.take i).filter fun y => !(inV (.str y) (zs.map V.str))).map V.str))) ⟨same_upd hD, upd_same⟩ (fun _ _ _ _ => trivial) ?_ ?_⟩
          · rintro j v H4 H5 hj ⟨sm, eD⟩ ⟨rfl, c, hc, rfl⟩
            have ht : twelve[j]? = some ⟨#[c]⟩ := by
              unfold twelve
              rw [List.getElem?_map, Array.getElem?_toList, hc]
              rfl
            have tk : twelve.take (j + 1) = twelve.take j ++ [⟨#[c]⟩] := by rw [List.take_add_one, ht]; rfl
            refine ⟨rfl, _, rfl, .ref L, rfl, L, _, rfl, .inl (.inl (.inl (sm _ _ eL3))), rfl, flat_strsM zs, _, rfl, ite2 (fun e2 => ?_) (fun e2 => ?_)⟩
            · have e2 : (!(inV (.str ⟨#[c]⟩) (zs.map V.str))) = true := e2
              refine ⟨_, rfl, _, eD, ?_, ?_, ?_⟩
              · rw [List.length_map]
                have h1 := List.length_filter_le (fun y => !(inV (.str y) (zs.map V.str))) (twelve.take j)
                have h2 : (twelve.take j).length ≤ 12 := by
                  rw [List.length_take]
                  have : twelve.length = 12 := by decide +kernel
                  omega
                exact small1000 (by omega)
              · exact fun b' o e => by
                  rw [upd_ne (ne_of_none e hD)]
                  exact sm _ _ e
              · rw [upd_same, tk, List.filter_append, List.map_append, List.filter_cons, if_pos e2]
                rfl
            · have e2 : ¬ (!(inV (.str ⟨#[c]⟩) (zs.map V.str))) = true := e2
              refine ⟨sm, ?_⟩
              rw [tk, List.filter_append, List.filter_cons, if_neg e2, List.filter_nil, List.append_nil]
              exact eD
          · rintro H4 ⟨sm, eD⟩
            have l12 : (PySem.Str.ofString "abcdefghijkl").cps.size = 12 := by decide +kernel
            rw [l12, show twelve.take 12 = twelve from List.take_of_length_le (by decide +kernel)] at eD
            obtain ⟨x, xs, ex⟩ : ∃ x xs, (twelve.filter fun y => !(inV (.str y) (zs.map V.str))) = x :: xs := by
              cases ef : twelve.filter fun y => !(inV (.str y) (zs.map V.str)) with
              | cons x xs => exact ⟨x, xs, rfl⟩
              | nil =>
                have hall : ∀ y ∈ twelve, y ∈ zs := fun y hy => by
                  have := List.filter_eq_nil_iff.mp ef y hy
                  refine inV_mem.mp ?_
                  cases h : inV (.str y) (zs.map V.str) with
                  | true => rfl
                  | false => rw [h] at this; exact absurd rfl this
                have := pigeon twelve zs twelve_nd hall
                have t12 : twelve.length = 12 := by decide +kernel
                omega
            rw [ex] at eD
            have hxm : x ∈ twelve.filter fun y => !(inV (.str y) (zs.map V.str)) := by rw [ex]; exact List.mem_cons_self
            obtain ⟨hx1, hx2⟩ := List.mem_filter.mp hxm
            refine ⟨D, _, 0, _, rfl, rfl, .inl (.inl eD), atI_nat (j := 0) rfl, b3.trans (But.of sm), hp3.same sm, sm _ _ eL3, _, _, x, rfl, twelve_nm x hx1, fun hm => ?_⟩
            rw [inV_mem.mpr hm] at hx2
            cases hx2
        · exact ⟨b3, hp3, eL3, _, _, z, rfl, hn, fun hm => e (inV_mem.mpr hm)⟩
      rintro σ H4 ⟨b4, hp4, eL4, y3, y5, z, rfl, hn, hnew⟩
      refine ⟨.ref L, rfl, .inl ⟨rfl, _, .inl (.inl eL4)⟩, .str z, rfl, L, _, _, rfl, rfl, eL4, small1000 (by rw [List.length_map]; omega), b4.mut nL, hp4.upd nLp, _, _, _, zs ++ [z], rfl, ?_, ?_, ?_, ?_⟩
      · rw [upd_same, List.map_append]
        rfl
      · rw [List.length_append, lz]
        rfl
      · exact List.nodup_append.mpr ⟨nd, List.nodup_cons.mpr ⟨List.not_mem_nil, .nil⟩, fun a ha b hb e => hnew (by rw [← List.mem_singleton.mp hb, ← e]; exact ha)⟩
      · intro y hy
        rcases List.mem_append.mp hy with h | h
        · exact hz y h
        · rw [List.mem_singleton.mp h]
          exact hn
    · rintro σ H1 ⟨b1, hp1, y3, y4, y5, zs, rfl, eL, lz, nd, hz⟩
      exact ⟨.ref L, rfl, q H1 L zs b1 hp1 nL eL lz nd hz⟩
--@@SPLIT
/-- places that are left out of sight: the spring is one, all of them are known -/
def HX (p : Addr) (X : Addr → Prop) (H : Hp) : Prop := X p ∧ ∀ b, X b → H b ≠ none
theorem HX.same {p : Addr} {X : Addr → Prop} {H H' : Hp} (x : HX p X H) (e : Same H H') : HX p X H' := ⟨x.1, fun b h => by
  cases o : H b with
  | none => exact absurd o (x.2 b h)
  | some o' => rw [e b o' o]; exact fun z => nomatch z⟩
theorem Pool.known {H : Hp} {p : Addr} (h : Pool H p) : H p ≠ none := by
  obtain ⟨l, c, k, n, h0, h1⟩ := h
  rw [h1]
  exact fun z => nomatch z
theorem HX.but {p : Addr} {X : Addr → Prop} {H H' : Hp} (x : HX p X H) (e : But p H H') (hp : Pool H' p) : HX p X H' := ⟨x.1, fun b h => by
  by_cases eb : b = p
  · rw [eb]
    exact hp.known
  · cases o : H b with
    | none => exact absurd o (x.2 b h)
    | some o' => rw [e b o' eb o]; exact fun z => nomatch z⟩
theorem HX.fresh {p t : Addr} {X : Addr → Prop} {H : Hp} (x : HX p X H) (n : H t = none) : ¬ X t := fun z => x.2 t z n
theorem But.wo {p : Addr} {X : Addr → Prop} {H H' : Hp} (xp : X p) (e : But p H H') : Same (M.wo H X) (M.wo H' X) := fun b o h => by
  have h2 := wo_some h
  rw [wo_in (X := X) h2.1]
  exact e _ _ (fun z => h2.1 (z ▸ xp)) h2.2
theorem tupW {K : PySem.W.Frag} {H : Hp} {p t : Addr} {X : Addr → Prop} {vs : List V} {ds : List PyData} (x : HX p X H) (nt : H t = none) (h : DpAll K (wo H X) vs ds) : Dp K (wo (upd H t (.tup vs)) X) (.ref t) (.tuple ds) :=
  .tup (.inl (.inl ((wo_in (X := X) (x.fresh nt)).trans upd_same))) (dpa_same ((But.of (same_upd nt)).wo x.1) ds vs h)
theorem lstW {K : PySem.W.Frag} {H : Hp} {p t : Addr} {X : Addr → Prop} {vs : List V} {ds : List PyData} (x : HX p X H) (nt : H t = none) (h : DpAll K (wo H X) vs ds) : Dp K (wo (upd H t (.lst vs)) X) (.ref t) (.list ds) :=
  .lst (.inl (.inl ((wo_in (X := X) (x.fresh nt)).trans upd_same))) (dpa_same ((But.of (same_upd nt)).wo x.1) ds vs h)
theorem dpa_len2 {K : PySem.W.Frag} {H : Hp} {ds : List PyData} {vs : List V} (h : DpAll K H vs ds) : vs.length = ds.length := dpa_len ds vs h
theorem tup_at {K : PySem.W.Frag} {H : Hp} {t : Addr} {e : Ent} (h : Dp K H (.ref t) (Ent.tup e)) : ∃ xs, SqT K H t (.str (ws e.kind) :: xs) ∧ DpAll K H xs e.rest := by
  cases h with
  | @tup _ ys _ hs ha =>
    cases ha with
    | cons h1 h2 =>
      cases h1
      exact ⟨_, hs, h2⟩
theorem HX.or {p D : Addr} {X : Addr → Prop} {H : Hp} (x : HX p X H) (h : H D ≠ none) : HX p (fun b => X b ∨ b = D) H := ⟨.inl x.1, fun c z => z.elim (x.2 c) (fun e => by rw [e]; exact h)⟩
theorem some_ne {H : Hp} {b : Addr} {o : HO} (h : H b = some o) : H b ≠ none := by rw [h]; exact fun z => nomatch z
theorem wo_less {H : Hp} {X Y : Addr → Prop} (h : ∀ b, X b → Y b) : Same (wo H Y) (wo H X) := fun c o z => by
  have h2 := wo_some z
  rw [wo_in (X := X) (fun z => h2.1 (h c z))]
  exact h2.2
theorem wo_mut {H : Hp} {X : Addr → Prop} {D : Addr} {o : HO} (h : X D) : Same (wo H X) (wo (upd H D o) X) := fun c u z => by
  have h2 := wo_some z
  rw [wo_in (X := X) h2.1, upd_ne (fun z : c = D => h2.1 (by rw [z]; exact h))]
  exact h2.2
theorem nesw_lt {r : Int} (h0 : 0 ≤ r) (h1 : r < 4) : ∃ l : Fin 4, atI (PySem.Str.ofString "nesw").cps.toList r = some (cd l) := by
  obtain rfl | rfl | rfl | rfl : r = 0 ∨ r = 1 ∨ r = 2 ∨ r = 3 := by omega
  · exact ⟨0, by decide +kernel⟩
  · exact ⟨1, by decide +kernel⟩
  · exact ⟨2, by decide +kernel⟩
  · exact ⟨3, by decide +kernel⟩
/-! ### handed in as lists or tuples; lots; legs -/
def lotV (a : Fin 8) : V := .int (a.val : Nat)
def spLots (K : PySem.W.Frag) : Sp := fun vs H Q _ => ∃ (p : Addr) (m : Nat), vs = [.ref p, .int m] ∧ m ≤ 200 ∧ Pool H p ∧ ∀ H' t (lots : List (Fin 8)), But p H H' → Pool H' p → H t = none → H' t = some (.tup (lots.map lotV)) → lots.length = m → Q (.ref t) H'
theorem eight {r : Int} (h0 : 0 ≤ r) (h1 : r < 8) : ∃ a : Fin 8, V.int r = lotV a := ⟨⟨r.toNat, by omega⟩, by show V.int r = .int ((r.toNat : Nat) : Int); rw [Int.toNat_of_nonneg h0]⟩
theorem ok_Llots (T : Top w K mg) : FnOk P w K mg base CX0 2 T.a_Llots T.fd_Llots ["_law_pool_here", "_law_many"] (spLots K) := by
  have G_Ltake := ok_Ltake (P := P) (w := w) (base := base) T
  refine T.F_Llots.ok sc_Llots (fun vs H Q E h => ?_) (fun cdv A outer s H vs Q E hr h => ?_)
  · obtain ⟨p, m, rfl, _⟩ := h
    rfl
  · obtain ⟨p, m, rfl, hm, hp, q⟩ := h
    refine ⟨_, (pss_one (ps_ret (pe_callTy call_tuple_of (by rfl) T.m_tuple (by decide +kernel) (pa_cons (pe_lc (own := [("_law_k", 2)]) (g := gName 2) (by rfl) sc_Llots.nd (pi_range1 (by rfl) T.m_range (pa_cons (pv 1) pa_nil)) (blkOk_by (own := [("_law_k", 2)]) (N := ["_law_pool_here", "_law_many", "_law_k"]) (sc := defScope s_Llots) (by decide +kernel)) (fun _ _ _ _ _ => (pg_name (i := 2) sc_Llots.nd rfl (Or.inl rfl))) (fun _ _ _ _ _ => pts_nil) (fun _ _ _ _ _ => (pe_call G_Ltake hr (by rfl) T.g_Ltake T.F_Ltake.kp T.b_Ltake .nil pass0 (pa_cons (pv 0) (pa_cons pe_int pa_nil))))) pa_nil)))), ?_⟩
    refine ⟨.int m, rfl, m, rfl, by omega, by omega, fun D hD => lc_it (walk_range (n := m)) (fun i H' => But p H H' ∧ Pool H' p ∧ ∃ lots : List (Fin 8), lots.length = i ∧ H' D = some (.lst (lots.map lotV))) ⟨But.of (same_upd hD), hp.same (same_upd hD), [], rfl, upd_same⟩ (fun i H' _ h => trivial) ?_ ?_⟩
    · rintro i v H1 H2 hi ⟨b1, hp1, lots, hl, eD⟩ ⟨rfl, rfl⟩
      have nD : D ≠ p := hp.ne_new hD
      refine ⟨rfl, .ref p, rfl, p, 8, rfl, by decide, by decide, hp1, fun H3 r b3 hp3 r0 r1 => ?_⟩
      obtain ⟨a, ea⟩ := eight r0 r1
      rw [ea]
      refine ⟨_, b3 _ _ nD eD, small1000 (by rw [List.length_map]; omega), (b1.trans b3).mut hD, hp3.upd nD, lots ++ [a], by rw [List.length_append, hl]; rfl, ?_⟩
      rw [upd_same, List.map_append]
      rfl
    · rintro H1 ⟨b1, hp1, lots, hl, eD⟩
      refine ⟨D, _, rfl, .inl ⟨.inl (.inl eD), fun r nr => ?_⟩⟩
      have sr := same_upd (o := .tup (lots.map lotV)) nr
      exact q _ r lots (b1.trans (But.of sr)) (hp1.same sr) (b1.free (hp1.ne_new nr) nr) upd_same hl
def spLegs (K : PySem.W.Frag) : Sp := fun vs H Q _ => ∃ (e : Addr) (xs : List V) (es : List Ent), vs = [.ref e] ∧ SqA K H e xs ∧ Rows K H xs es ∧ es.length ≤ 200 ∧ ∀ H', Same H H' → Q (.int (1 + (swaps es : Int))) H'
theorem swaps_at {es : List Ent} {i : Nat} {e : Ent} (h : es[i]? = some e) : swaps (es.take (i + 1)) = swaps (es.take i) + (if e.isSwap = true then 1 else 0) := by
  rw [List.take_add_one, h]
  exact swaps_snoc _ _
theorem isw (e : Ent) : decide (V.str (ws e.kind) = V.str (PySem.Str.ofString "swap")) = e.isSwap := (wsd e.kind 9).trans e.swap_iff.symm
theorem ok_legs_in (T : Top w K mg) : FnOk P w K mg base CX0 1 T.a_legs_in T.fd_legs_in ["log"] (spLegs K) := by
  refine T.F_legs_in.ok sc_legs_in (fun vs H Q E h => ?_) (fun cdv A outer s H vs Q E hr h => ?_)
  · obtain ⟨e, xs, es, rfl, _⟩ := h
    rfl
  · obtain ⟨e, xs, es, rfl, hs, ha, hlen, q⟩ := h
    have lx := ha.len
    refine ⟨_, (pss_one (ps_ret (pe_op op_add pe_int (pe_callB call_len_seq (by rfl) T.m_len (by decide +kernel) (pa_cons (pe_lc (own := [("entry", 1)]) (g := gName 1) (by rfl) sc_legs_in.nd (SeqW.pi_seq (pv 0)) (blkOk_by (own := [("entry", 1)]) (N := ["log", "entry"]) (sc := defScope s_legs_in) (by decide +kernel)) (fun _ _ _ _ _ => (pg_name (i := 1) sc_legs_in.nd rfl (Or.inl rfl))) (fun _ _ _ _ _ => (pts_one (pt_cmpR op_eq (pe_ix (r := rIx K) (SeqW.ix_seqK rfl) (pv 1) pe_int (fun _ _ => rfl)) pe_str (nomark _)))) (fun _ _ _ _ _ => (pv 1))) pa_nil))))), ?_⟩
    refine ⟨.ref e, rfl, e, xs, rfl, (fun H' => Same H H'), kpA hs, Same.refl _, fun J G wk hG D hD => lc_it wk (fun i H' => Same H H' ∧ ∃ ys : List V, ys.length = swaps (es.take i) ∧ H' D = some (.lst ys)) ⟨same_upd hD, [], rfl, upd_same⟩ (fun i H' _ h => hG _ h.1) ?_ ?_⟩
    · rintro i v H1 H2 hi ⟨sm, ys, ly, eD⟩ ⟨rfl, hx⟩
      obtain ⟨en, fe, a, us, rfl, hq, _⟩ := (ha.same sm).at_ hx
      have lg := swaps_le (es.take i)
      rw [List.length_take] at lg
      refine ⟨rfl, .ref a, rfl, ixA (j := 0) hq rfl ⟨rfl, _, rfl, ?_⟩⟩
      rw [isw]
      refine ite2 (fun e1 => ⟨.ref a, rfl, ys, eD, small1000 (by omega), (fun b o h => ?_), _, ?_, upd_same⟩) (fun e1 => ⟨sm, ys, ?_, eD⟩)
      · rw [upd_ne (ne_of_none h hD)]
        exact sm _ _ h
      · rw [List.length_append, ly, swaps_at fe, if_pos e1]
        rfl
      · rw [ly, swaps_at fe, if_neg e1]
        rfl
    · rintro H1 ⟨sm, ys, ly, eD⟩
      rw [lx, List.take_length] at ly
      refine ⟨D, ys, rfl, .inl (.inl (.inl eD)), _, _, rfl, rfl, ?_⟩
      rw [ly]
      exact q _ sm
--@@SPLIT
def spIsLot : Sp := fun vs H Q _ => ∃ i : Int, vs = [.int i] ∧ 0 ≤ i ∧ i ≤ 7 ∧ Q (.bl true) H
def spRefuse : Sp := fun vs H Q _ => ∃ i : Int, vs = [.int i] ∧ 0 ≤ i ∧ i ≤ 7 ∧ Q .non H
def spMirrors : Sp := fun vs H Q _ => ∃ i : Int, vs = [.int i] ∧ Q (.bl (decide (4 ≤ i))) H
def spTrue : Sp := fun vs H Q _ => ∃ (a : Fin 8) (l : Fin 4), vs = [.int a.val, .str (Lt l)] ∧ Q (.str (Lt (tr a l))) H
def spShown : Sp := fun vs H Q _ => ∃ (a : Fin 8) (l : Fin 4), vs = [.int a.val, .str (Lt l)] ∧ Q (.str (Lt (tr (un a) l))) H
def spUndone : Sp := fun vs H Q _ => ∃ (a : Fin 8), vs = [.int a.val] ∧ Q (.int (un a).val) H
def spBoth : Sp := fun vs H Q _ => ∃ (a b : Fin 8), vs = [.int a.val, .int b.val] ∧ Q (.int (bo a b).val) H
theorem f8 (a : Fin 8) : (0 : Int) ≤ a.val ∧ (a.val : Int) ≤ 7 := by omega
theorem ok_is_whole (T : Top w K mg) : FnOk P w K mg base CX0 1 T.a_is_whole T.fd_is_whole ["thing"] spWhole := by
  refine T.F_is_whole.ok sc_is_whole (fun vs H Q E h => ?_) (fun cdv A outer s H vs Q E hr h => ?_)
  · obtain ⟨i, rfl, _⟩ := h
    rfl
  · obtain ⟨i, rfl, q⟩ := h
    refine ⟨_, (pss_one (ps_ret (pe_and (pe_callB call_isi (by rfl) T.m_isinstance (by decide +kernel) (pa_cons (pv 0) (pa_cons (pe_bltn (v := .ty "int") (by rfl) T.m_int (by decide +kernel) rfl) pa_nil))) (pe_one (pe_not (pe_callB call_isi (by rfl) T.m_isinstance (by decide +kernel) (pa_cons (pv 0) (pa_cons (pe_bltn (v := .ty "bool") (by rfl) T.m_bool (by decide +kernel) rfl) pa_nil)))))))), ?_⟩
    refine ⟨.int i, rfl, _, _, _, _, true, rfl, .ty _, .base (.int i), kit_ty (by decide +kernel), _, rfl, iteT ?_⟩
    exact ⟨.int i, rfl, _, _, _, _, false, rfl, .ty _, .base (.int i), kit_ty (by decide +kernel), _, rfl, q⟩
theorem ok_is_lot (T : Top w K mg) : FnOk P w K mg base CX0 2 T.a_is_lot T.fd_is_lot ["thing"] spIsLot := by
  have G_is_whole := ok_is_whole (P := P) (w := w) (base := base) T
  refine T.F_is_lot.ok sc_is_lot (fun vs H Q E h => ?_) (fun cdv A outer s H vs Q E hr h => ?_)
  · obtain ⟨i, rfl, _⟩ := h
    rfl
  · obtain ⟨i, rfl, h0, h7, q⟩ := h
    refine ⟨_, (pss_one (ps_ret (pe_and (pe_call G_is_whole hr (by rfl) T.g_is_whole T.F_is_whole.kp T.b_is_whole .nil pass0 (pa_cons (pv 0) pa_nil)) (pe_one (pe_chain op_le op_le pe_int (pv 0) pe_int))))), ?_⟩
    refine ⟨.int i, rfl, i, rfl, _, rfl, iteT ?_⟩
    refine ⟨.int i, rfl, _, _, rfl, rfl, _, rfl, ite2 (fun e => ?_) (fun e => absurd (decide_eq_true h0) e)⟩
    refine ⟨_, _, rfl, rfl, ?_⟩
    show Q (.bl (decide (i ≤ 7))) H
    rw [decide_eq_true h7]
    exact q
theorem ok_refuse_unless_lot (T : Top w K mg) : FnOk P w K mg base CX0 3 T.a_refuse_unless_lot T.fd_refuse_unless_lot ["thing"] spRefuse := by
  have G_is_lot := ok_is_lot (P := P) (w := w) (base := base) T
  refine T.F_refuse_unless_lot.ok sc_refuse_unless_lot (fun vs H Q E h => ?_) (fun cdv A outer s H vs Q E hr h => ?_)
  · obtain ⟨i, rfl, _⟩ := h
    rfl
  · obtain ⟨i, rfl, h0, h7, q⟩ := h
    refine ⟨_, (pss_one (ps_if (pt_not (pt_val (pe_call G_is_lot hr (by rfl) T.g_is_lot T.F_is_lot.kp T.b_is_lot .nil pass0 (pa_cons (pv 0) pa_nil)))) (pss_one ps_never) pss_nil)), ?_⟩
    exact ⟨.int i, rfl, i, rfl, h0, h7, _, rfl, iteF q⟩
theorem ok_mirrors (T : Top w K mg) : FnOk P w K mg base CX0 1 T.a_mirrors T.fd_mirrors ["lot"] spMirrors := by
  refine T.F_mirrors.ok sc_mirrors (fun vs H Q E h => ?_) (fun cdv A outer s H vs Q E hr h => ?_)
  · obtain ⟨i, rfl, _⟩ := h
    rfl
  · obtain ⟨i, rfl, q⟩ := h
    exact ⟨_, (pss_one (ps_ret (pe_cmpR op_ge (pv 0) pe_int (nomark _)))), .int i, rfl, _, _, rfl, rfl, q⟩
theorem ok_true (T : Top w K mg) : FnOk P w K mg base CX0 4 T.a_true T.fd_true ["lot", "letter"] spTrue := by
  have G_refuse_unless_lot := ok_refuse_unless_lot (P := P) (w := w) (base := base) T
  have G_mirrors := ok_mirrors (P := P) (w := w) (base := base) T
  refine T.F_true.ok sc_true (fun vs H Q E h => ?_) (fun cdv A outer s H vs Q E hr h => ?_)
  · obtain ⟨a, l, rfl, _⟩ := h
    rfl
  · obtain ⟨a, l, rfl, q⟩ := h
    refine ⟨_, (pss_cons (ps_expr (pe_call G_refuse_unless_lot hr (by rfl) T.g_refuse_unless_lot T.F_refuse_unless_lot.kp T.b_refuse_unless_lot .nil pass0 (pa_cons (pv 0) pa_nil)))
      (pss_cons (ps_set (i := 2) sc_true.nd rfl (.inl rfl) (pe_bm PySem.F.plainAttrs_str PySem.F.slot_str_index PySem.F.type_str_index mt_sindex (pe_glob (v := .str "nesw") (by rfl) T.g_LETTERS.choose_spec ⟨_, rfl⟩) (pa_cons (pv 1) pa_nil)))
      (pss_cons (ps_if (pt_val (pe_call G_mirrors (hr.mono (by decide)) (by rfl) T.g_mirrors T.F_mirrors.kp T.b_mirrors .nil pass0 (pa_cons (pv 0) pa_nil))) (pss_one (ps_ret (pe_ix ix_str (pe_glob (v := .str "nesw") (by rfl) T.g_LETTERS.choose_spec ⟨_, rfl⟩) (pe_op op_mod (pe_op op_sub (pv 0) (pv 2)) pe_int) (fun _ _ => rfl)))) pss_nil)
      (pss_one (ps_ret (pe_ix ix_str (pe_glob (v := .str "nesw") (by rfl) T.g_LETTERS.choose_spec ⟨_, rfl⟩) (pe_op op_mod (pe_op op_add (pv 0) (pv 2)) pe_int) (fun _ _ => rfl))))))), ?_⟩
    refine ⟨.int a.val, rfl, a.val, rfl, (f8 a).1, (f8 a).2, ?_⟩
    refine ⟨rfl, _, rfl, _, _, l.val, [], rfl, rfl, occ l, ?_⟩
    refine ⟨.int a.val, rfl, a.val, rfl, _, rfl, ite2 (fun e => ?_) (fun e => ?_)⟩
    · have e1 : (4 : Int) ≤ a.val := of_decide_eq_true e
      exact ⟨.int a.val, rfl, _, rfl, _, _, rfl, rfl, _, _, rfl, rfl, by show (0 : Int) < 4; decide, _, _, _, rfl, rfl, nesw_len, at_mir a l e1, q⟩
    · have e1 : ¬ (4 : Int) ≤ a.val := fun z => e (decide_eq_true z)
      exact ⟨.int a.val, rfl, _, rfl, _, _, rfl, rfl, _, _, rfl, rfl, by show (0 : Int) < 4; decide, _, _, _, rfl, rfl, nesw_len, at_tur a l e1, q⟩
def spStep (K : PySem.W.Frag) : Sp := fun vs H Q _ => ∃ (l : Fin 4), vs = [.str (Lt l)] ∧ ∀ q, (∀ H', SqT K H' q [.int (dx l), .int (dy l)]) → Q (.ref q) H
theorem steps_at (T : Top w K mg) : ∀ l : Fin 4, ∃ q, KDct K w T.a_STEPS (Lt l) (.ref q) ∧ ∀ H, SqT K H q [.int (dx l), .int (dy l)]
  | 0 => by rw [← lt0]; exact T.v_STEPS_0
  | 1 => by rw [← lt1]; exact T.v_STEPS_1
  | 2 => by rw [← lt2]; exact T.v_STEPS_2
  | 3 => by rw [← lt3]; exact T.v_STEPS_3
theorem ok_step (T : Top w K mg) : FnOk P w K mg base CX0 1 T.a_step T.fd_step ["letter"] (spStep K) := by
  refine T.F_step.ok sc_step (fun vs H Q E h => ?_) (fun cdv A outer s H vs Q E hr h => ?_)
  · obtain ⟨l, rfl, _⟩ := h
    rfl
  · obtain ⟨l, rfl, q⟩ := h
    obtain ⟨r, hk, ht⟩ := steps_at T l
    exact ⟨_, (pss_one (ps_ret (pe_ix ix_kdict (pe_glob (v := .ref T.a_STEPS) (by rfl) T.g_STEPS rfl) (pv 0) (fun _ _ => rfl)))), .str (Lt l), rfl, _, _, _, rfl, rfl, hk, q r ht⟩
/-! ### the program's track -/
def spRefL (K : PySem.W.Frag) : Sp := fun vs H Q _ => ∃ (e l : Addr) (xs : List V) (es : List Ent) (lots : List (Fin 8)), vs = [.ref e, .ref l] ∧ SqA K H e xs ∧ Rows K H xs es ∧ SqA K H l (lots.map lotV) ∧ lots.length = 1 + swaps es ∧ es.length ≤ 200 ∧ ∀ H', Same H H' → Q .non H'
theorem lot_at {lots : List (Fin 8)} {i : Nat} {v : V} (h : (lots.map lotV)[i]? = some v) : ∃ a, lots[i]? = some a ∧ v = lotV a := by
  rw [List.getElem?_map] at h
  cases e : lots[i]? with
  | none => rw [e] at h; cases h
  | some a => rw [e] at h; exact ⟨a, rfl, (Option.some.inj h).symm⟩
theorem ok_refuse_unless_lots (T : Top w K mg) : FnOk P w K mg base CX0 3 T.a_refuse_unless_lots T.fd_refuse_unless_lots ["log", "lots"] (spRefL K) := by
  have G_legs_in := ok_legs_in (P := P) (w := w) (base := base) T
  have G_is_lot := ok_is_lot (P := P) (w := w) (base := base) T
  refine T.F_refuse_unless_lots.ok sc_refuse_unless_lots (fun vs H Q E h => ?_) (fun cdv A outer s H vs Q E hr h => ?_)
  · obtain ⟨e, l, xs, es, lots, rfl, _⟩ := h
    rfl
  · obtain ⟨e, l, xs, es, lots, rfl, hs, ha, hl, hn, hlen, q⟩ := h
    refine ⟨_, (pss_cons (ps_set (i := 2) sc_refuse_unless_lots.nd rfl (.inl rfl) (pe_call G_legs_in (hr.mono (by decide)) (by rfl) T.g_legs_in T.F_legs_in.kp T.b_legs_in .nil pass0 (pa_cons (pv 0) pa_nil)))
      (pss_cons (ps_if (pt_cmpR op_ne (pe_callB call_len_seq (by rfl) T.m_len (by decide +kernel) (pa_cons (pv 1) pa_nil)) (pv 2) (nomark _)) (pss_one ps_never) pss_nil)
      (pss_one (ps_for PassesOwn.never rfl (SeqW.pi_enumA (by rfl) T.m_enumerate (pa_cons (pv 1) pa_nil)) (pg_tup rfl (pgs_cons (pg_name (i := 3) sc_refuse_unless_lots.nd rfl (.inl rfl)) (pgs_cons (pg_name (i := 4) sc_refuse_unless_lots.nd rfl (.inl rfl)) pgs_nil))) (pss_one (ps_if (pt_not (pt_val (pe_call G_is_lot hr (by rfl) T.g_is_lot T.F_is_lot.kp T.b_is_lot .nil pass0 (pa_cons (pv 4) pa_nil)))) (pss_one ps_never) pss_nil)))))), ?_⟩
    refine ⟨.ref e, rfl, e, xs, es, rfl, hs, ha, hlen, fun H1 s1 => ?_⟩
    refine ⟨.ref l, rfl, l, _, rfl, hl.same s1, _, rfl, rfl, _, rfl, iteN (by rw [List.length_map, hn]; show V.int ((1 + swaps es : Nat) : Int) = .int (1 + (swaps es : Int)); congr 1) ?_⟩
    refine ⟨.ref l, rfl, l, _, rfl, (fun H' => Same H H'), kpA hl, s1, fun J G wk hG => for_it wk (fun i σ H' => Same H1 H' ∧ ∃ y3 y4, σ = [some (.ref e), some (.ref l), some (.int (1 + (swaps es : Int))), y3, y4]) ⟨Same.refl _, none, none, rfl⟩ (fun i σ H' _ h => hG _ (s1.trans h.1)) ?_ ?_⟩
    · rintro i v σ H2 H3 hi ⟨sm, y3, y4, rfl⟩ ⟨t, u1, u2, rfl, nt, rfl, e1, e2⟩
      cases e1
      obtain ⟨a, _, rfl⟩ := lot_at e2
      refine ⟨t, _, rfl, .inl (.inl upd_same), rfl, _, _, rfl, _, _, rfl, rfl, ?_⟩
      exact ⟨_, rfl, _, rfl, (f8 a).1, (f8 a).2, _, rfl, iteF ⟨sm.trans (same_upd nt), _, _, rfl⟩⟩
    · rintro σ H2 ⟨sm, y3, y4, rfl⟩
      exact q _ (s1.trans sm)
def spLook (K : PySem.W.Frag) : Sp := fun vs H Q _ => ∃ (v : V) (e : Ent) (a : Fin 8) (look : Option (Fin 4)), vs = [v, lotV a, .str (lk look)] ∧ EntAt K H v e ∧ (e.need = true → look.isSome = true) ∧ Q (.str (lk (nlook a look e))) H
theorem at_turn : ∀ (l : Fin 4) (q : Fin 3), atI nesw.cps.toList (((l.val : Int) + ((tq q).val : Int)) % 4) = some (cd (l + tq q)) := by decide +kernel
theorem turnQ (T : Top w K mg) : ∀ (q : Fin 3), KDct K w T.a_QUARTERS (ws (Ent.kind (.turn q))) (.int ((tq q).val : Int))
  | 0 => T.v_QUARTERS_2
  | 1 => T.v_QUARTERS_0
  | 2 => T.v_QUARTERS_1
def Ent.isTurn : Ent → Bool
  | .turn _ => true
  | _ => false
theorem inQ (e : Ent) : (([PySem.Str.ofString "right", PySem.Str.ofString "back", PySem.Str.ofString "left"] : List Str).any fun s => s == ws e.kind) = e.isTurn := by
  have h : ∀ k : Fin 10, (([PySem.Str.ofString "right", PySem.Str.ofString "back", PySem.Str.ofString "left"] : List Str).any fun s => s == ws k) = decide (k = 1 ∨ k = 2 ∨ k = 3) := by decide +kernel
  rw [h]
  cases e with
  | turn q => match q with
    | 0 => rfl
    | 1 => rfl
    | 2 => rfl
  | _ => rfl
theorem isf (e : Ent) : decide (V.str (ws e.kind) = V.str (PySem.Str.ofString "face")) = e.isFace := (wsd e.kind 0).trans e.face_iff.symm
theorem ok_look_behind (T : Top w K mg) : FnOk P w K mg base CX0 5 T.a_look_behind T.fd_look_behind ["entry", "lot", "look"] (spLook K) := by
  have G_true := ok_true (P := P) (w := w) (base := base) T
  refine T.F_look_behind.ok sc_look_behind (fun vs H Q E h => ?_) (fun cdv A outer s H vs Q E hr h => ?_)
  · obtain ⟨v, e, a, look, rfl, _⟩ := h
    rfl
  · obtain ⟨v, e, a, look, rfl, ⟨p, us, rfl, hq, hu⟩, hn, q⟩ := h
    refine ⟨_, (pss_cons (ps_set (i := 3) sc_look_behind.nd rfl (.inl rfl) (pe_ix (r := rIx K) (SeqW.ix_seqK rfl) (pv 0) pe_int (fun _ _ => rfl)))
      (pss_cons (ps_if (pt_cmpR op_eq (pv 3) pe_str (nomark _)) (pss_one (ps_ret (pe_call G_true hr (by rfl) T.g_true T.F_true.kp T.b_true .nil pass0 (pa_cons (pv 1) (pa_cons (pe_ix (r := rIx K) (SeqW.ix_seqK rfl) (pv 0) pe_int (fun _ _ => rfl)) pa_nil))))) pss_nil)
      (pss_cons (ps_if (pt_cmpR (op_in_kd T.kd_QUARTERS) (pv 3) (pe_glob (v := .ref T.a_QUARTERS) (by rfl) T.g_QUARTERS rfl) (by rfl)) (pss_one (ps_ret (pe_ix ix_str (pe_glob (v := .str "nesw") (by rfl) T.g_LETTERS.choose_spec ⟨_, rfl⟩) (pe_op op_mod (pe_op op_add (pe_bm PySem.F.plainAttrs_str PySem.F.slot_str_index PySem.F.type_str_index mt_sindex (pe_glob (v := .str "nesw") (by rfl) T.g_LETTERS.choose_spec ⟨_, rfl⟩) (pa_cons (pv 2) pa_nil)) (pe_ix ix_kdict (pe_glob (v := .ref T.a_QUARTERS) (by rfl) T.g_QUARTERS rfl) (pv 3) (fun _ _ => rfl))) pe_int) (fun _ _ => rfl)))) pss_nil)
      (pss_one (ps_ret (pv 2)))))), ?_⟩
    refine ⟨.ref p, rfl, ixA (j := 0) hq rfl ⟨_, rfl, rfl, _, rfl, ?_⟩⟩
    rw [isf]
    obtain ⟨r, h1, h2⟩ := T.ns_QUARTERS (ws e.kind)
    rw [inQ] at h2
    cases e with
    | face l =>
      cases hu with
      | cons h3 h4 =>
        cases h3
        cases h4
        exact iteT ⟨_, rfl, .ref p, rfl, ixA (j := 1) hq rfl ⟨a, l, rfl, q⟩⟩
    | turn k =>
      cases look with
      | none => cases hn rfl
      | some l =>
        refine iteF ⟨_, rfl, _, r, rfl, rfl, h1, _, rfl, ?_⟩
        rw [h2]
        exact iteT ⟨rfl, _, rfl, _, _, l.val, [], rfl, rfl, occ l, _, rfl, _, _, _, rfl, rfl, turnQ T k, _, _, rfl, rfl, _, _, rfl, rfl, by show (0 : Int) < 4; decide, _, _, _, rfl, rfl, nesw_len, at_turn l k, q⟩
    | _ =>
      refine iteF ⟨_, rfl, _, r, rfl, rfl, h1, _, rfl, ?_⟩
      rw [h2]
      exact iteF ⟨_, rfl, q⟩
def spGone (K : PySem.W.Frag) : Sp := fun vs H Q _ => ∃ (p : Addr) (e n m : Int) (l : Fin 4), vs = [.ref p, .str (Lt l), .int m] ∧ SqT K H p [.int e, .int n] ∧ ∀ q, H q = none → Q (.ref q) (upd H q (.tup [.int (e + m * dx l), .int (n + m * dy l)]))
theorem ok_gone (T : Top w K mg) : FnOk P w K mg base CX0 2 T.a_gone T.fd_gone ["place", "letter", "many"] (spGone K) := by
  have G_step := ok_step (P := P) (w := w) (base := base) T
  refine T.F_gone.ok sc_gone (fun vs H Q E h => ?_) (fun cdv A outer s H vs Q E hr h => ?_)
  · obtain ⟨p, e, n, m, l, rfl, _⟩ := h
    rfl
  · obtain ⟨p, e, n, m, l, rfl, hp, q⟩ := h
    refine ⟨_, (pss_cons (ps_asg (pe_call G_step hr (by rfl) T.g_step T.F_step.kp T.b_step .nil pass0 (pa_cons (pv 1) pa_nil)) (pg_tup rfl (pgs_cons (pg_name (i := 3) sc_gone.nd rfl (.inl rfl)) (pgs_cons (pg_name (i := 4) sc_gone.nd rfl (.inl rfl)) pgs_nil))))
      (pss_one (ps_ret (pe_tup (pa_cons (pe_op op_add (pe_ix ix_tup (pv 0) pe_int (fun _ _ => rfl)) (pe_op op_mul (pv 2) (pv 3))) (pa_cons (pe_op op_add (pe_ix ix_tup (pv 0) pe_int (fun _ _ => rfl)) (pe_op op_mul (pv 2) (pv 4))) pa_nil)))))), ?_⟩
    refine ⟨.str (Lt l), rfl, l, rfl, fun q0 hq => ⟨q0, _, rfl, hq _, rfl, _, _, rfl, _, _, rfl, rfl, ?_⟩⟩
    refine ⟨.ref p, rfl, p, _, 0, .int e, rfl, rfl, hp, rfl, .int m, rfl, _, rfl, m, dx l, rfl, rfl, .inr (dxb l), _, _, rfl, rfl, ?_⟩
    exact ⟨.ref p, rfl, p, _, 1, .int n, rfl, rfl, hp, rfl, .int m, rfl, _, rfl, m, dy l, rfl, rfl, .inr (dyb l), _, _, rfl, rfl, by show 2 ≤ sizeLine; decide, fun r nr => q r nr⟩
--@@SPLIT
def spTrack (K : PySem.W.Frag) : Sp := fun vs H Q _ => ∃ (e l : Addr) (xs : List V) (es : List Ent) (lots : List (Fin 8)), vs = [.ref e, .ref l] ∧ SqA K H e xs ∧ Rows K H xs es ∧ SqA K H l (lots.map lotV) ∧ lots.length = 1 + swaps es ∧ es.length ≤ 200 ∧ Right es ∧ ∀ H' r, Same H H' → Dp K H' (.ref r) (trackD lots es) → Q (.ref r) H'
theorem go_of_kind {e : Ent} (h : e.kind = 4) : ∃ n, e = .go n := by
  cases e with
  | go n => exact ⟨n, rfl⟩
  | turn q => exact absurd h (by match q with | 0 => decide | 1 => decide | 2 => decide)
  | _ => cases h
theorem one_int {K : PySem.W.Frag} {H : Hp} {us : List V} {i : Int} (h : DpAll K H us [.int i]) : ∃ v1, us = [v1] ∧ v1 = V.int i := by
  cases h with
  | cons h1 h2 =>
    cases h1
    cases h2
    exact ⟨_, rfl, rfl⟩
theorem isg (e : Ent) : decide (V.str (ws e.kind) = V.str (PySem.Str.ofString "go")) = decide (e.kind = 4) := wsd e.kind 4
theorem ok_track (T : Top w K mg) : FnOk P w K mg base CX0 6 T.a_track T.fd_track ["log", "lots"] (spTrack K) := by
  have G_refuse_unless_lots := ok_refuse_unless_lots (P := P) (w := w) (base := base) T
  have G_look_behind := ok_look_behind (P := P) (w := w) (base := base) T
  have G_gone := ok_gone (P := P) (w := w) (base := base) T
  obtain ⟨q0, hS, hS0⟩ := T.v_START
  refine T.F_track.ok sc_track (fun vs H Q E h => ?_) (fun cdv A outer s H vs Q E hr h => ?_)
  · obtain ⟨e, l, xs, es, lots, rfl, _⟩ := h
    rfl
  · obtain ⟨e, l, xs, es, lots, rfl, hs, ha, hl, hn, hlen, hR, q⟩ := h
    have lx := ha.len
    refine ⟨_, (pss_cons (ps_expr (pe_call G_refuse_unless_lots (hr.mono (by decide)) (by rfl) T.g_refuse_unless_lots T.F_refuse_unless_lots.kp T.b_refuse_unless_lots .nil pass0 (pa_cons (pv 0) (pa_cons (pv 1) pa_nil))))
      (pss_cons (ps_asg (pe_glob (v := .ref T.a_START) (by rfl) T.g_START rfl) (pg_tup rfl (pgs_cons (pg_name (i := 2) sc_track.nd rfl (.inl rfl)) (pgs_cons (pg_name (i := 3) sc_track.nd rfl (.inl rfl)) pgs_nil))))
      (pss_cons (ps_set (i := 4) sc_track.nd rfl (.inl rfl) pe_int)
      (pss_cons (ps_set (i := 5) sc_track.nd rfl (.inl rfl) (pe_lst pa_nil))
      (pss_cons (ps_for PassesOwn.never rfl (SeqW.pi_seq (pv 0)) (pg_name (i := 6) sc_track.nd rfl (.inl rfl)) (Evl.pss_cut (ps_if (pt_cmpR op_eq (pe_ix (r := rIx K) (SeqW.ix_seqK rfl) (pv 6) pe_int (fun _ _ => rfl)) pe_str (nomark _)) (pss_one (ps_aug (i := 4) sc_track.nd rfl (.inl rfl) pe_int ip_add)) pss_nil)
      (pss_cons (ps_set (i := 3) sc_track.nd rfl (.inl rfl) (pe_call G_look_behind hr (by rfl) T.g_look_behind T.F_look_behind.kp T.b_look_behind .nil pass0 (pa_cons (pv 6) (pa_cons (pe_ix (r := rIx K) (SeqW.ix_seqK rfl) (pv 1) (pv 4) (fun _ _ => rfl)) (pa_cons (pv 3) pa_nil)))))
      (pss_cons (ps_if (pt_cmpR op_eq (pe_ix (r := rIx K) (SeqW.ix_seqK rfl) (pv 6) pe_int (fun _ _ => rfl)) pe_str (nomark _)) (pss_one (ps_set (i := 2) sc_track.nd rfl (.inl rfl) (pe_call G_gone (hr.mono (by decide)) (by rfl) T.g_gone T.F_gone.kp T.b_gone .nil pass0 (pa_cons (pv 2) (pa_cons (pv 3) (pa_cons (pe_ix (r := rIx K) (SeqW.ix_seqK rfl) (pv 6) pe_int (fun _ _ => rfl)) pa_nil)))))) pss_nil)
      (pss_one (ps_expr (pe_bm PySem.F.plainAttrs_list PySem.F.slot_list_append PySem.F.type_list_append mt_append (pv 5) (pa_cons (pe_tup (pa_cons (pv 2) (pa_cons (pv 3) pa_nil))) pa_nil))))))))
      (pss_one (ps_ret (pe_callTy call_tuple_of (by rfl) T.m_tuple (by decide +kernel) (pa_cons (pv 5) pa_nil))))))))), ?_⟩
    refine ⟨.ref e, rfl, .ref l, rfl, e, l, xs, es, lots, rfl, hs, ha, hl, hn, hlen, fun H1 s1 => ?_⟩
    refine ⟨T.a_START, _, rfl, hS _, rfl, _, _, rfl, _, _, rfl, rfl, ?_⟩
    refine ⟨Nat.zero_le _, fun S nS => ?_⟩
    have s2 := s1.trans (same_upd (o := .lst []) nS)
    have nS0 : H S = none := s1.free nS
    refine ⟨.ref e, rfl, e, xs, rfl, (fun H' => Same H H'), kpA hs, s2, fun J G wk hG => for_it wk (fun i σ H' => Same H H' ∧ ∃ pl ys y6, σ = [some (.ref e), some (.ref l), some (.ref pl), some (.str (lk (wat lots es i).look)), some (.int ((wat lots es i).leg : Nat)), some (.ref S), y6] ∧ SqT K (wo H' (fun b => b = S)) pl [.int (wat lots es i).x, .int (wat lots es i).y] ∧ H' S = some (.lst ys) ∧ DpAll K (wo H' (fun b => b = S)) ys (trackL lots es i))
      ⟨s2, q0, [], none, by rw [wat_zero]; rfl, by rw [wat_zero]; exact hS0 _, upd_same, .nil⟩ (fun i σ H' _ h => hG _ h.1) ?_ ?_⟩
    · rintro i v σ H2 H3 hi ⟨sm, pl, ys, y6, rfl, hpl, eS, hy⟩ ⟨rfl, hx⟩
      obtain ⟨en, fe, hen⟩ := (ha.same sm).at_ hx
      have hen0 := hen
      obtain ⟨a, us, rfl, hq, hu⟩ := hen
      have hw := wat_succ (lots := lots) fe
      have il : i < es.length := (List.getElem?_eq_some_iff.mp fe).1
      refine ⟨fun σ' H' => H3 = H' ∧ σ' = [some (.ref e), some (.ref l), some (.ref pl), some (.str (lk (wat lots es i).look)), some (.int ((wat lots es (i + 1)).leg : Nat)), some (.ref S), some (.ref a)], ?_, ?_⟩
      · refine ⟨.ref a, rfl, ixA (j := 0) hq rfl ⟨rfl, _, rfl, ?_⟩⟩
        rw [isw]
        have e1 : (wat lots es (i + 1)).leg = nleg (wat lots es i).leg en := by rw [hw]; rfl
        rw [e1]
        unfold nleg
        cases en.isSwap with
        | true => exact iteT ⟨_, rfl, _, _, rfl, rfl, rfl, rfl⟩
        | false => exact iteF ⟨rfl, rfl⟩
      rintro σ' H4 ⟨rfl, rfl⟩
      have lg : (wat lots es (i + 1)).leg < lots.length := by
        have h1 := wat_leg lots es (i + 1)
        have h2 := swaps_take es (i + 1)
        omega
      obtain ⟨lot, flot⟩ : ∃ lot, lots[(wat lots es (i + 1)).leg]? = some lot := ⟨_, List.getElem?_eq_getElem lg⟩
      have fl2 : (lots.map lotV)[(wat lots es (i + 1)).leg]? = some (lotV lot) := by rw [List.getElem?_map, flot]; rfl
      have e2 : (wat lots es (i + 1)).look = nlook lot (wat lots es i).look en := by
        have : lots.getD (wat lots es (i + 1)).leg 0 = lot := by rw [List.getD_eq_getElem?_getD, flot]; rfl
        rw [hw] at this ⊢
        show nlook (lots.getD (nleg (wat lots es i).leg en) 0) _ en = _
        rw [show lots.getD (nleg (wat lots es i).leg en) 0 = lot from this]
      have nl : en.need = true → (wat lots es i).look.isSome = true := fun h => by
        rw [wat_look]
        exact hR i en fe h
      refine ⟨.ref a, rfl, .ref l, rfl, _, rfl, ixA (hl.same sm) fl2 ⟨_, rfl, .ref a, en, lot, (wat lots es i).look, rfl, hen0, nl, ?_⟩⟩
      rw [← e2]
      refine ⟨.ref a, rfl, ixA (j := 0) hq rfl ⟨rfl, _, rfl, ?_⟩⟩
      rw [isg]
      have put : ∀ (H5 : Hp) (pl' : Addr), Same H3 H5 → SqT K (wo H5 (fun b => b = S)) pl' [.int (wat lots es (i + 1)).x, .int (wat lots es (i + 1)).y] → ∀ t, H5 t = none → ∃ l' b ys', V.ref S = .ref l' ∧ [V.ref t] = [b] ∧ upd H5 t (.tup [.ref pl', .str (lk (wat lots es (i + 1)).look)]) l' = some (.lst ys') ∧ ys'.length < sizeLine ∧ Same H (upd (upd H5 t (.tup [.ref pl', .str (lk (wat lots es (i + 1)).look)])) l' (.lst (ys' ++ [b]))) ∧ SqT K (wo (upd (upd H5 t (.tup [.ref pl', .str (lk (wat lots es (i + 1)).look)])) l' (.lst (ys' ++ [b]))) (fun b => b = S)) pl' [.int (wat lots es (i + 1)).x, .int (wat lots es (i + 1)).y] ∧ (∃ zs, (upd (upd H5 t (.tup [.ref pl', .str (lk (wat lots es (i + 1)).look)])) l' (.lst (ys' ++ [b]))) S = some (.lst zs) ∧ DpAll K (wo (upd (upd H5 t (.tup [.ref pl', .str (lk (wat lots es (i + 1)).look)])) l' (.lst (ys' ++ [b]))) (fun b => b = S)) zs (trackL lots es (i + 1))) := fun H5 pl' s5 hpl' t nt => by
        have st := same_upd (o := .tup [.ref pl', .str (lk (wat lots es (i + 1)).look)]) nt
        have eS5 := s5 _ _ eS
        have tS : t ≠ S := Ne.symm (ne_of_none eS5 nt)
        have m5 : Same (wo H3 (fun b => b = S)) (wo H5 (fun b => b = S)) := fun c o h => by
          have h2 := wo_some h
          rw [wo_in (X := fun b => b = S) h2.1]
          exact s5 _ _ h2.2
        have m6 : Same (wo H5 (fun b => b = S)) (wo (upd H5 t (.tup [.ref pl', .str (lk (wat lots es (i + 1)).look)])) (fun b => b = S)) := fun c o h => by
          have h2 := wo_some h
          rw [wo_in (X := fun b => b = S) h2.1]
          exact st _ _ h2.2
        have m7 : Same (wo (upd H5 t (.tup [.ref pl', .str (lk (wat lots es (i + 1)).look)])) (fun b => b = S)) (wo (upd (upd H5 t (.tup [.ref pl', .str (lk (wat lots es (i + 1)).look)])) S (.lst (ys ++ [.ref t]))) (fun b => b = S)) := wo_mut rfl
        have ly := dpa_len2 hy
        have lt : (trackL lots es i).length = i := by unfold trackL; rw [List.length_map, List.length_range]
        refine ⟨S, .ref t, ys, rfl, rfl, st _ _ eS5, small1000 (by omega), fun c o h => ?_, sqt_same (m6.trans m7) hpl', ys ++ [.ref t], upd_same, ?_⟩
        · rw [upd_ne (ne_of_none h nS0)]
          exact st _ _ (s5 _ _ (sm _ _ h))
        · rw [trackL_succ]
          refine dpa_snoc (.tup (.inl (.inl ?_)) (.cons (.tup (sqt_same (m6.trans m7) hpl') (.cons (.int _) (.cons (.int _) .nil))) (.cons (.str _) .nil))) _ _ (dpa_same (m5.trans (m6.trans m7)) _ _ hy)
          rw [wo_in (X := fun b => b = S) tS, upd_ne tS]
          exact upd_same
      by_cases hg : en.kind = 4
      · obtain ⟨n, rfl⟩ := go_of_kind hg
        obtain ⟨v1, rfl, hv1⟩ : ∃ v1, us = [v1] ∧ v1 = V.int ((n.val : Int) + 1) := one_int hu
        subst hv1
        obtain ⟨lt, elk⟩ : ∃ lt, (wat lots es i).look = some lt := Option.isSome_iff_exists.mp (nl rfl)
        have e3 : (wat lots es (i + 1)).look = some lt := by rw [e2, elk]; rfl
        refine iteDY (decide_eq_true rfl) ⟨_, rfl, _, rfl, .ref a, rfl, ixA (j := 1) hq rfl ⟨pl, (wat lots es i).x, (wat lots es i).y, (n.val : Int) + 1, lt, by rw [e3]; rfl, sqt_same wo_same hpl, fun p2 np2 => ?_⟩⟩
        have sp := same_upd (o := .tup [.int ((wat lots es i).x + ((n.val : Int) + 1) * dx lt), .int ((wat lots es i).y + ((n.val : Int) + 1) * dy lt)]) np2
        have ex : (wat lots es (i + 1)).x = (wat lots es i).x + ((n.val : Int) + 1) * dx lt := by
          rw [hw]
          show nx _ (wat lots es i).look (.go n) = _
          rw [elk]
          rfl
        have ey : (wat lots es (i + 1)).y = (wat lots es i).y + ((n.val : Int) + 1) * dy lt := by
          rw [hw]
          show ny _ (wat lots es i).look (.go n) = _
          rw [elk]
          rfl
        refine ⟨.ref S, rfl, .inl ⟨rfl, _, .inl (.inl (sp _ _ eS))⟩, _, rfl, _, rfl, by show 2 ≤ sizeLine; decide, fun t nt => ?_⟩
        have pS : p2 ≠ S := Ne.symm (ne_of_none eS np2)
        obtain ⟨l', b, ys', h1, h2, h3, h4, h5, h6, zs, h7, h8⟩ := put _ p2 sp (by rw [ex, ey]; exact .inl (.inl (by rw [wo_in (X := fun b => b = S) pS]; exact upd_same))) t nt
        exact ⟨l', ys', b, h1, h2, h3, h4, h5, p2, zs, _, rfl, h6, h7, h8⟩
      · have ex : (wat lots es (i + 1)).x = (wat lots es i).x := by
          rw [hw]
          cases en with
          | go n => exact absurd rfl hg
          | _ => rfl
        have ey : (wat lots es (i + 1)).y = (wat lots es i).y := by
          rw [hw]
          cases en with
          | go n => exact absurd rfl hg
          | _ => rfl
        refine iteDN (decide_eq_false hg) ⟨.ref S, rfl, .inl ⟨rfl, _, .inl (.inl eS)⟩, _, rfl, _, rfl, by show 2 ≤ sizeLine; decide, fun t nt => ?_⟩
        obtain ⟨l', b, ys', h1, h2, h3, h4, h5, h6, zs, h7, h8⟩ := put _ pl (Same.refl _) (by rw [ex, ey]; exact hpl) t nt
        exact ⟨l', ys', b, h1, h2, h3, h4, h5, pl, zs, _, rfl, h6, h7, h8⟩
    · rintro σ H2 ⟨sm, pl, ys, y6, rfl, hpl, eS, hy⟩
      refine ⟨.ref S, rfl, S, ys, rfl, .inl ⟨.inl (.inl eS), fun r nr => ?_⟩⟩
      have sr := same_upd (o := .tup ys) nr
      refine q _ r (sm.trans sr) (.tup (.inl (.inl upd_same)) ?_)
      rw [lx] at hy
      exact dpa_same (wo_same.trans sr) _ _ hy
--@@SPLIT
def spLtrue : Sp := fun vs H Q _ => ∃ (a : Fin 8) (l : Fin 4), vs = [.int a.val, .str (Lt l)] ∧ Q (.str (Lt (tr a l))) H
theorem at_tur2 : ∀ (a : Fin 8) (l : Fin 4), (a.val : Int) < 4 → atI nesw.cps.toList (((l.val : Int) + (a.val : Int)) % 4) = some (cd (tr a l)) := by decide +kernel
theorem at_mir2 : ∀ (a : Fin 8) (l : Fin 4), ¬ (a.val : Int) < 4 → atI nesw.cps.toList (((a.val : Int) - (l.val : Int)) % 4) = some (cd (tr a l)) := by decide +kernel
theorem ok_Ltrue (T : Top w K mg) : FnOk P w K mg base CX0 1 T.a_Ltrue T.fd_Ltrue ["_law_lot", "_law_letter"] spLtrue := by
  refine T.F_Ltrue.ok sc_Ltrue (fun vs H Q E h => ?_) (fun cdv A outer s H vs Q E hr h => ?_)
  · obtain ⟨a, l, rfl, _⟩ := h
    rfl
  · obtain ⟨a, l, rfl, q⟩ := h
    refine ⟨_, (pss_cons (ps_set (i := 2) sc_Ltrue.nd rfl (.inl rfl) (pe_bm PySem.F.plainAttrs_str PySem.F.slot_str_index PySem.F.type_str_index mt_sindex pe_str (pa_cons (pv 1) pa_nil)))
      (pss_one (ps_ret (pe_ix ix_str pe_str (pe_ifExp (pt_cmpR op_lt (pv 0) pe_int (nomark _)) (pe_op op_mod (pe_op op_add (pv 2) (pv 0)) pe_int) (pe_op op_mod (pe_op op_sub (pv 0) (pv 2)) pe_int)) (fun _ _ => rfl))))), ?_⟩
    refine ⟨rfl, _, rfl, _, _, l.val, [], rfl, rfl, occ l, ?_⟩
    refine ⟨.int a.val, rfl, _, _, rfl, rfl, _, rfl, ite2 (fun e => ?_) (fun e => ?_)⟩
    · have e1 : (a.val : Int) < 4 := of_decide_eq_true e
      exact ⟨_, rfl, .int a.val, rfl, _, _, rfl, rfl, _, _, rfl, rfl, by show (0 : Int) < 4; decide, _, _, _, rfl, rfl, nesw_len, at_tur2 a l e1, q⟩
    · have e1 : ¬ (a.val : Int) < 4 := fun z => e (decide_eq_true z)
      exact ⟨.int a.val, rfl, _, rfl, _, _, rfl, rfl, _, _, rfl, rfl, by show (0 : Int) < 4; decide, _, _, _, rfl, rfl, nesw_len, at_mir2 a l e1, q⟩
def spOff (K : PySem.W.Frag) : Sp := fun vs H Q _ => ∃ (p : Addr) (e n m : Int) (l : Fin 4), vs = [.ref p, .str (Lt l), .int m] ∧ SqT K H p [.int e, .int n] ∧ ∀ H' q, Same H H' → H q = none → H' q = some (.tup [.int (e + m * dx l), .int (n + m * dy l)]) → Q (.ref q) H'
theorem ok_Loff (T : Top w K mg) : FnOk P w K mg base CX0 1 T.a_Loff T.fd_Loff ["_law_place", "_law_letter", "_law_many"] (spOff K) := by
  refine T.F_Loff.ok sc_Loff (fun vs H Q E h => ?_) (fun cdv A outer s H vs Q E hr h => ?_)
  · obtain ⟨p, e, n, m, l, rfl, _⟩ := h
    rfl
  · obtain ⟨p, e, n, m, l, rfl, hp, q⟩ := h
    refine ⟨_, (pss_cons (ps_asg (pe_dget (hu_of hr) (pe_disp (pps_cons pe_str (pe_tup (pa_cons pe_int (pa_cons pe_int pa_nil))) (pps_cons pe_str (pe_tup (pa_cons pe_int (pa_cons pe_int pa_nil))) (pps_cons pe_str (pe_tup (pa_cons pe_int (pa_cons (pe_un un_neg pe_int) pa_nil))) (pps_cons pe_str (pe_tup (pa_cons (pe_un un_neg pe_int) (pa_cons pe_int pa_nil))) pps_nil)))) (by rfl) (by rfl) (fun z => by cases z) (by decide)) (pv 1) (fun _ _ => rfl)) (pg_tup rfl (pgs_cons (pg_name (i := 3) sc_Loff.nd rfl (.inl rfl)) (pgs_cons (pg_name (i := 4) sc_Loff.nd rfl (.inl rfl)) pgs_nil))))
      (pss_one (ps_ret (pe_tup (pa_cons (pe_op op_add (pe_ix ix_tup (pv 0) pe_int (fun _ _ => rfl)) (pe_op op_mul (pv 2) (pv 3))) (pa_cons (pe_op op_add (pe_ix ix_tup (pv 0) pe_int (fun _ _ => rfl)) (pe_op op_mul (pv 2) (pv 4))) pa_nil)))))), ?_⟩
    intro d nd
    refine ⟨by show 2 ≤ sizeLine; decide, fun t1 n1 => ⟨by show 2 ≤ sizeLine; decide, fun t2 n2 => ⟨_, rfl, by show 2 ≤ sizeLine; decide, fun t3 n3 => ⟨_, rfl, by show 2 ≤ sizeLine; decide, fun t4 n4 => ?_⟩⟩⟩⟩
    have s0 := same_upd (o := .dK []) nd
    have s1 := same_upd (o := .tup [.int 0, .int 1]) n1
    have s2 := same_upd (o := .tup [.int 1, .int 0]) n2
    have s3 := same_upd (o := .tup [.int 0, .int (-1)]) n3
    have s4 := same_upd (o := .tup [.int (-1), .int 0]) n4
    have ed := s4 _ _ (s3 _ _ (s2 _ _ (s1 _ _ (upd_same (H := H) (a := d) (o := .dK [])))))
    refine ⟨ed, [(Sum.inr (PySem.Str.ofString "n"), .ref t1), (Sum.inr (PySem.Str.ofString "e"), .ref t2), (Sum.inr (PySem.Str.ofString "s"), .ref t3), (Sum.inr (PySem.Str.ofString "w"), .ref t4)], rfl, Nat.le_of_ble_eq_true rfl, ?_⟩
    refine ⟨.str (Lt l), rfl, d, ?_⟩
    have key : ∃ t, valV (mergeK [] [((Sum.inr (PySem.Str.ofString "n") : Key), V.ref t1), (Sum.inr (PySem.Str.ofString "e"), .ref t2), (Sum.inr (PySem.Str.ofString "s"), .ref t3), (Sum.inr (PySem.Str.ofString "w"), .ref t4)]) (Sum.inr (Lt l)) = some (.ref t) ∧
        (upd (upd (upd (upd (upd H d (.dK [])) t1 (.tup [.int 0, .int 1])) t2 (.tup [.int 1, .int 0])) t3 (.tup [.int 0, .int (-1)])) t4 (.tup [.int (-1), .int 0])) t = some (.tup [.int (dx l), .int (dy l)]) := by
      rw [lt0, lt1, lt2, lt3]
      match l with
      | 0 => exact ⟨t1, rfl, s4 _ _ (s3 _ _ (s2 _ _ upd_same))⟩
      | 1 => exact ⟨t2, rfl, s4 _ _ (s3 _ _ upd_same)⟩
      | 2 => exact ⟨t3, rfl, s4 _ _ upd_same⟩
      | 3 => exact ⟨t4, rfl, upd_same⟩
    obtain ⟨t, kt, et⟩ := key
    have sAll := (((s0.trans s1).trans s2).trans s3).trans s4
    have sD : Same H (upd (upd (upd (upd (upd (upd H d (.dK [])) t1 (.tup [.int 0, .int 1])) t2 (.tup [.int 1, .int 0])) t3 (.tup [.int 0, .int (-1)])) t4 (.tup [.int (-1), .int 0])) d (.dK (mergeK [] [((Sum.inr (PySem.Str.ofString "n") : Key), V.ref t1), (Sum.inr (PySem.Str.ofString "e"), .ref t2), (Sum.inr (PySem.Str.ofString "s"), .ref t3), (Sum.inr (PySem.Str.ofString "w"), .ref t4)]))) := fun b x h => by
      rw [upd_ne (ne_of_none h nd)]
      exact sAll _ _ h
    have ntd : t ≠ d := ne_of et ed (by intro z; cases z)
    refine ⟨.ref t, rfl, ?_, ?_⟩
    · have g := DGet.k (k := Sum.inr (Lt l)) (H := upd (upd (upd (upd (upd (upd H d (.dK [])) t1 (.tup [.int 0, .int 1])) t2 (.tup [.int 1, .int 0])) t3 (.tup [.int 0, .int (-1)])) t4 (.tup [.int (-1), .int 0])) d (.dK (mergeK [] [((Sum.inr (PySem.Str.ofString "n") : Key), V.ref t1), (Sum.inr (PySem.Str.ofString "e"), .ref t2), (Sum.inr (PySem.Str.ofString "s"), .ref t3), (Sum.inr (PySem.Str.ofString "w"), .ref t4)]))) (a := d) upd_same
      rw [kt] at g
      exact g
    · refine ⟨t, [.int (dx l), .int (dy l)], rfl, .inl (.inl ?_), rfl, _, _, rfl, _, _, rfl, rfl, ?_⟩
      · rw [upd_ne ntd]
        exact et
      · refine ⟨.ref p, rfl, p, _, 0, .int e, rfl, rfl, sqt_same sD hp, rfl, .int m, rfl, _, rfl, m, dx l, rfl, rfl, .inr (dxb l), _, _, rfl, rfl, ?_⟩
        refine ⟨.ref p, rfl, p, _, 1, .int n, rfl, rfl, sqt_same sD hp, rfl, .int m, rfl, _, rfl, m, dy l, rfl, rfl, .inr (dyb l), _, _, rfl, rfl, by show 2 ≤ sizeLine; decide, fun r nr => ?_⟩
        exact q _ r (sD.trans (same_upd nr)) (sD.free nr) upd_same
--@@SPLIT
/-! ### the law's own walk -/
def walkD (lots : List (Fin 8)) (es : List Ent) (i : Nat) : PyData := .tuple [.int ((wat lots es (i + 1)).leg : Nat), posD (wat lots es i), posD (wat lots es (i + 1))]
def walkL (lots : List (Fin 8)) (es : List Ent) (n : Nat) : List PyData := (List.range n).map (walkD lots es)
theorem walkL_succ (lots : List (Fin 8)) (es : List Ent) (n : Nat) : walkL lots es (n + 1) = walkL lots es n ++ [walkD lots es n] := by
  unfold walkL
  rw [List.range_succ, List.map_append]
  rfl
theorem walkL_len (lots : List (Fin 8)) (es : List Ent) (n : Nat) : (walkL lots es n).length = n := by
  unfold walkL
  rw [List.length_map, List.length_range]
theorem inT (e : Ent) : inV (.str (ws e.kind)) [.str "left", .str "right", .str "back"] = e.isTurn := by
  have h : ∀ k : Fin 10, inV (.str (ws k)) [.str "left", .str "right", .str "back"] = decide (k = 1 ∨ k = 2 ∨ k = 3) := by decide +kernel
  rw [h]
  cases e with
  | turn q => match q with
    | 0 => rfl
    | 1 => rfl
    | 2 => rfl
  | _ => rfl
theorem turnV : ∀ q : Fin 3, valV (mergeK [] [((Sum.inr (PySem.Str.ofString "left") : Key), V.int 3), (Sum.inr (PySem.Str.ofString "right"), .int 1), (Sum.inr (PySem.Str.ofString "back"), .int 2)]) (Sum.inr (ws (Ent.kind (.turn q)))) = some (.int ((tq q).val : Int))
  | 0 => rfl
  | 1 => rfl
  | 2 => rfl
def flook (a : Fin 8) (look : Option (Fin 4)) : Ent → Option (Fin 4)
  | .face l => some (tr a l)
  | _ => look
def spWalk (K : PySem.W.Frag) : Sp := fun vs H Q _ => ∃ (e l : Addr) (xs : List V) (es : List Ent) (lots : List (Fin 8)), vs = [.ref e, .ref l] ∧ SqA K H e xs ∧ Rows K H xs es ∧ SqA K H l (lots.map lotV) ∧ lots.length = 1 + swaps es ∧ es.length ≤ 200 ∧ Right es ∧ ∀ H' L ys, Same H H' → H L = none → H' L = some (.lst ys) → DpAll K H' ys (walkL lots es es.length) → Q (.ref L) H'
theorem ok_Lwalk (T : Top w K mg) : FnOk P w K mg base CX0 2 T.a_Lwalk T.fd_Lwalk ["_law_log", "_law_lots_here"] (spWalk K) := by
  have G_Ltrue := ok_Ltrue (P := P) (w := w) (base := base) T
  have G_Loff := ok_Loff (P := P) (w := w) (base := base) T
  refine T.F_Lwalk.ok sc_Lwalk (fun vs H Q E h => ?_) (fun cdv A outer s H vs Q E hr h => ?_)
  · obtain ⟨e, l, xs, es, lots, rfl, _⟩ := h
    rfl
  · obtain ⟨e, l, xs, es, lots, rfl, hs, ha, hl, hn, hlen, hR, q⟩ := h
    have lx := ha.len
    refine ⟨_, (pss_cons (ps_set (i := 2) sc_Lwalk.nd rfl (.inl rfl) (pe_lst pa_nil))
      (pss_cons (ps_asg (pe_tup (pa_cons pe_int (pa_cons (pe_tup (pa_cons pe_int (pa_cons pe_int pa_nil))) (pa_cons pe_str pa_nil)))) (pg_tup rfl (pgs_cons (pg_name (i := 3) sc_Lwalk.nd rfl (.inl rfl)) (pgs_cons (pg_name (i := 4) sc_Lwalk.nd rfl (.inl rfl)) (pgs_cons (pg_name (i := 5) sc_Lwalk.nd rfl (.inl rfl)) pgs_nil)))))
      (pss_cons (ps_for PassesOwn.never rfl (SeqW.pi_seq (pv 0)) (pg_name (i := 6) sc_Lwalk.nd rfl (.inl rfl)) (pss_cons (ps_set (i := 7) sc_Lwalk.nd rfl (.inl rfl) (pe_tup (pa_cons (pv 4) (pa_cons (pv 5) pa_nil))))
      (Evl.pss_cut (ps_if (pt_cmpR op_eq (pe_ix (r := rIx K) (SeqW.ix_seqK rfl) (pv 6) pe_int (fun _ _ => rfl)) pe_str (nomark _)) (pss_one (ps_set (i := 3) sc_Lwalk.nd rfl (.inl rfl) (pe_op op_add (pv 3) pe_int))) pss_nil)
      (Evl.pss_cut (ps_if (pt_cmpR op_eq (pe_ix (r := rIx K) (SeqW.ix_seqK rfl) (pv 6) pe_int (fun _ _ => rfl)) pe_str (nomark _)) (pss_one (ps_set (i := 5) sc_Lwalk.nd rfl (.inl rfl) (pe_call G_Ltrue hr (by rfl) T.g_Ltrue T.F_Ltrue.kp T.b_Ltrue .nil pass0 (pa_cons (pe_ix (r := rIx K) (SeqW.ix_seqK rfl) (pv 1) (pv 3) (fun _ _ => rfl)) (pa_cons (pe_ix (r := rIx K) (SeqW.ix_seqK rfl) (pv 6) pe_int (fun _ _ => rfl)) pa_nil))))) pss_nil)
      (Evl.pss_cut (ps_if (pt_cmpR op_in_seq (pe_ix (r := rIx K) (SeqW.ix_seqK rfl) (pv 6) pe_int (fun _ _ => rfl)) (pe_tup (pa_cons pe_str (pa_cons pe_str (pa_cons pe_str pa_nil)))) (by rfl)) (pss_one (ps_set (i := 5) sc_Lwalk.nd rfl (.inl rfl) (pe_ix ix_str pe_str (pe_op op_mod (pe_op op_add (pe_bm PySem.F.plainAttrs_str PySem.F.slot_str_index PySem.F.type_str_index mt_sindex pe_str (pa_cons (pv 5) pa_nil)) (pe_dget (hu_of hr) (pe_disp (pps_cons pe_str pe_int (pps_cons pe_str pe_int (pps_cons pe_str pe_int pps_nil))) (by rfl) (by rfl) (fun z => by cases z) (by decide)) (pe_ix (r := rIx K) (SeqW.ix_seqK rfl) (pv 6) pe_int (fun _ _ => rfl)) (fun _ _ => rfl))) pe_int) (fun _ _ => rfl)))) pss_nil)
      (pss_cons (ps_if (pt_cmpR op_eq (pe_ix (r := rIx K) (SeqW.ix_seqK rfl) (pv 6) pe_int (fun _ _ => rfl)) pe_str (nomark _)) (pss_one (ps_set (i := 4) sc_Lwalk.nd rfl (.inl rfl) (pe_call G_Loff hr (by rfl) T.g_Loff T.F_Loff.kp T.b_Loff .nil pass0 (pa_cons (pv 4) (pa_cons (pv 5) (pa_cons (pe_ix (r := rIx K) (SeqW.ix_seqK rfl) (pv 6) pe_int (fun _ _ => rfl)) pa_nil)))))) pss_nil)
      (pss_one (ps_expr (pe_bm PySem.F.plainAttrs_list PySem.F.slot_list_append PySem.F.type_list_append mt_append (pv 2) (pa_cons (pe_tup (pa_cons (pv 3) (pa_cons (pv 7) (pa_cons (pe_tup (pa_cons (pv 4) (pa_cons (pv 5) pa_nil))) pa_nil)))) pa_nil))))))))))
      (pss_one (ps_ret (pv 2)))))), ?_⟩
    refine ⟨Nat.zero_le _, fun S nS => ?_⟩
    have s0 := same_upd (o := .lst []) nS
    refine ⟨by show 2 ≤ sizeLine; decide, fun p0 np0 => ⟨by show 3 ≤ sizeLine; decide, fun t3 nt3 => ⟨t3, _, rfl, .inl (.inl upd_same), rfl, _, _, rfl, _, _, rfl, _, _, rfl, rfl, ?_⟩⟩⟩
    have s1 := same_upd (o := .tup [.int 0, .int 0]) np0
    have s3 := same_upd (o := .tup [.int 0, .ref p0, .str ""]) nt3
    have s2 := (s0.trans s1).trans s3
    have pS0 : p0 ≠ S := Ne.symm (ne_of_none (upd_same (H := H) (a := S) (o := .lst [])) np0)
    refine ⟨.ref e, rfl, e, xs, rfl, (fun H' => Same H H'), kpA hs, s2, fun J G wk hG => for_it wk (fun i σ H' => Same H H' ∧ ∃ pl ys y6 y7, σ = [some (.ref e), some (.ref l), some (.ref S), some (.int ((wat lots es i).leg : Nat)), some (.ref pl), some (.str (lk (wat lots es i).look)), y6, y7] ∧ SqT K (wo H' (fun b => b = S)) pl [.int (wat lots es i).x, .int (wat lots es i).y] ∧ H' S = some (.lst ys) ∧ DpAll K (wo H' (fun b => b = S)) ys (walkL lots es i))
      ⟨s2, p0, [], none, none, by rw [wat_zero]; rfl, by rw [wat_zero]; exact .inl (.inl ((wo_in (X := fun b => b = S) pS0).trans (s3 _ _ upd_same))), s3 _ _ (s1 _ _ upd_same), .nil⟩ (fun i σ H' _ h => hG _ h.1) ?_ ?_⟩
    · rintro i v σ H2 H3 hi ⟨sm, pl, ys, y6, y7, rfl, hpl, eS, hy⟩ ⟨rfl, hx⟩
      obtain ⟨en, fe, hen⟩ := (ha.same sm).at_ hx
      obtain ⟨a, us, rfl, hq, hu⟩ := hen
      have hw := wat_succ (lots := lots) fe
      have il : i < es.length := (List.getElem?_eq_some_iff.mp fe).1
      refine ⟨_, rfl, _, rfl, by show 2 ≤ sizeLine; decide, fun h nh => ?_⟩
      have sh := same_upd (o := .tup [.ref pl, .str (lk (wat lots es i).look)]) nh
      have eSh := sh _ _ eS
      have hS : h ≠ S := Ne.symm (ne_of_none eS nh)
      have wS : ∀ {H4 H5 : Hp}, Same H4 H5 → Same (wo H4 (fun b => b = S)) (wo H5 (fun b => b = S)) := fun {H4 H5} s c o z => by
        have h2 := wo_some z
        rw [wo_in (X := fun b => b = S) h2.1]
        exact s _ _ h2.2
      have hplh := sqt_same (wS sh) hpl
      have hyh := dpa_same (wS sh) _ _ hy
      have hqh := hq.same sh
      have huh := dpa_same sh _ _ hu
      have hereD : Dp K (wo (upd H3 h (.tup [.ref pl, .str (lk (wat lots es i).look)])) (fun b => b = S)) (.ref h) (posD (wat lots es i)) := .tup (.inl (.inl ((wo_in (X := fun b => b = S) hS).trans upd_same))) (.cons (.tup hplh (.cons (.int _) (.cons (.int _) .nil))) (.cons (.str _) .nil))
      have smh := sm.trans sh
      generalize upd H3 h (.tup [.ref pl, .str (lk (wat lots es i).look)]) = Hh at *
      refine ⟨fun σ' H' => Hh = H' ∧ σ' = [some (.ref e), some (.ref l), some (.ref S), some (.int ((wat lots es (i + 1)).leg : Nat)), some (.ref pl), some (.str (lk (wat lots es i).look)), some (.ref a), some (.ref h)], ?_, ?_⟩
      · refine ⟨.ref a, rfl, ixA (j := 0) hqh rfl ⟨rfl, _, rfl, ?_⟩⟩
        rw [isw]
        have e1 : (wat lots es (i + 1)).leg = nleg (wat lots es i).leg en := by rw [hw]; rfl
        rw [e1]
        unfold nleg
        cases en.isSwap with
        | true => exact iteT ⟨_, rfl, _, _, rfl, rfl, rfl, rfl⟩
        | false => exact iteF ⟨rfl, rfl⟩
      rintro σ' H4 ⟨rfl, rfl⟩
      have lg : (wat lots es (i + 1)).leg < lots.length := by
        have h1 := wat_leg lots es (i + 1)
        have h2 := swaps_take es (i + 1)
        omega
      obtain ⟨lot, flot⟩ : ∃ lot, lots[(wat lots es (i + 1)).leg]? = some lot := ⟨_, List.getElem?_eq_getElem lg⟩
      have fl2 : (lots.map lotV)[(wat lots es (i + 1)).leg]? = some (lotV lot) := by rw [List.getElem?_map, flot]; rfl
      have e2 : (wat lots es (i + 1)).look = nlook lot (wat lots es i).look en := by
        have : lots.getD (wat lots es (i + 1)).leg 0 = lot := by rw [List.getD_eq_getElem?_getD, flot]; rfl
        rw [hw] at this ⊢
        show nlook (lots.getD (nleg (wat lots es i).leg en) 0) _ en = _
        rw [show lots.getD (nleg (wat lots es i).leg en) 0 = lot from this]
      have nl : en.need = true → (wat lots es i).look.isSome = true := fun h => by
        rw [wat_look]
        exact hR i en fe h
      refine ⟨fun σ' H' => Hh = H' ∧ σ' = [some (.ref e), some (.ref l), some (.ref S), some (.int ((wat lots es (i + 1)).leg : Nat)), some (.ref pl), some (.str (lk (flook lot (wat lots es i).look en))), some (.ref a), some (.ref h)], ?_, ?_⟩
      · refine ⟨.ref a, rfl, ixA (j := 0) hqh rfl ⟨rfl, _, rfl, ?_⟩⟩
        rw [isf]
        cases en with
        | face fl =>
          cases huh with
          | cons h3 h4 =>
          cases h3
          cases h4
          exact iteT ⟨.ref l, rfl, _, rfl, ixA (hl.same smh) fl2 ⟨.ref a, rfl, ixA (j := 1) hqh rfl ⟨lot, fl, rfl, rfl, rfl⟩⟩⟩
        | _ => exact iteF ⟨rfl, rfl⟩
      rintro σ' H4 ⟨rfl, rfl⟩
      refine ⟨fun σ' H' => Same Hh H' ∧ σ' = [some (.ref e), some (.ref l), some (.ref S), some (.int ((wat lots es (i + 1)).leg : Nat)), some (.ref pl), some (.str (lk (wat lots es (i + 1)).look)), some (.ref a), some (.ref h)], ?_, ?_⟩
      · refine ⟨.ref a, rfl, ixA (j := 0) hqh rfl ⟨by show 3 ≤ sizeLine; decide, fun tp np => ⟨tp, _, rfl, .inr (.inl (.inl upd_same)), rfl, rfl, _, rfl, ?_⟩⟩⟩
        have stp := same_upd (o := .tup [.str "left", .str "right", .str "back"]) np
        rw [if_neg Bool.false_ne_true, inT, e2]
        cases en with
        | turn k =>
          cases elk : (wat lots es i).look with
          | none =>
            have := nl rfl
            rw [elk] at this
            cases this
          | some lt =>
            refine iteT ⟨rfl, _, rfl, _, _, lt.val, [], rfl, rfl, occ lt, ?_⟩
            intro d nd
            refine ⟨upd_same, [(Sum.inr (PySem.Str.ofString "left"), .int 3), (Sum.inr (PySem.Str.ofString "right"), .int 1), (Sum.inr (PySem.Str.ofString "back"), .int 2)], rfl, Nat.le_of_ble_eq_true rfl, ?_⟩
            have sd := same_upd (o := .dK []) nd
            have sd2 : Same (upd Hh tp (.tup [.str "left", .str "right", .str "back"])) (upd (upd (upd Hh tp (.tup [.str "left", .str "right", .str "back"])) d (.dK [])) d (.dK (mergeK [] [((Sum.inr (PySem.Str.ofString "left") : Key), V.int 3), (Sum.inr (PySem.Str.ofString "right"), .int 1), (Sum.inr (PySem.Str.ofString "back"), .int 2)]))) := fun c o z => by
              rw [upd_ne (ne_of_none z nd)]
              exact sd _ _ z
            refine ⟨.ref a, rfl, ixA (j := 0) (hqh.same (stp.trans sd2)) rfl ⟨d, .int ((tq k).val : Int), rfl, ?_, ?_⟩⟩
            · have g := DGet.k (k := Sum.inr (ws (Ent.kind (.turn k)))) (H := upd (upd (upd Hh tp (.tup [.str "left", .str "right", .str "back"])) d (.dK [])) d (.dK (mergeK [] [((Sum.inr (PySem.Str.ofString "left") : Key), V.int 3), (Sum.inr (PySem.Str.ofString "right"), .int 1), (Sum.inr (PySem.Str.ofString "back"), .int 2)]))) (a := d) upd_same
              rw [turnV k] at g
              exact g
            · exact ⟨_, _, rfl, rfl, _, _, rfl, rfl, by show (0 : Int) < 4; decide, _, _, _, rfl, rfl, nesw_len, at_turn lt k, stp.trans sd2, rfl⟩
        | _ => exact iteF ⟨stp, rfl⟩
      rintro σ' H4 ⟨s4, rfl⟩
      have put : ∀ (H5 : Hp) (pl' : Addr), Same H4 H5 → SqT K (wo H5 (fun b => b = S)) pl' [.int (wat lots es (i + 1)).x, .int (wat lots es (i + 1)).y] → ∀ u, H5 u = none → ∀ t, upd H5 u (.tup [.ref pl', .str (lk (wat lots es (i + 1)).look)]) t = none → ∃ l' b ys', V.ref S = .ref l' ∧ [V.ref t] = [b] ∧ upd (upd H5 u (.tup [.ref pl', .str (lk (wat lots es (i + 1)).look)])) t (.tup [.int ((wat lots es (i + 1)).leg : Nat), .ref h, .ref u]) l' = some (.lst ys') ∧ ys'.length < sizeLine ∧ Same H (upd (upd (upd H5 u (.tup [.ref pl', .str (lk (wat lots es (i + 1)).look)])) t (.tup [.int ((wat lots es (i + 1)).leg : Nat), .ref h, .ref u])) l' (.lst (ys' ++ [b]))) ∧ SqT K (wo (upd (upd (upd H5 u (.tup [.ref pl', .str (lk (wat lots es (i + 1)).look)])) t (.tup [.int ((wat lots es (i + 1)).leg : Nat), .ref h, .ref u])) l' (.lst (ys' ++ [b]))) (fun b => b = S)) pl' [.int (wat lots es (i + 1)).x, .int (wat lots es (i + 1)).y] ∧ (∃ zs, (upd (upd (upd H5 u (.tup [.ref pl', .str (lk (wat lots es (i + 1)).look)])) t (.tup [.int ((wat lots es (i + 1)).leg : Nat), .ref h, .ref u])) l' (.lst (ys' ++ [b]))) S = some (.lst zs) ∧ DpAll K (wo (upd (upd (upd H5 u (.tup [.ref pl', .str (lk (wat lots es (i + 1)).look)])) t (.tup [.int ((wat lots es (i + 1)).leg : Nat), .ref h, .ref u])) l' (.lst (ys' ++ [b]))) (fun b => b = S)) zs (walkL lots es (i + 1))) := fun H5 pl' s5 hpl' u nu t nt => by
        have su := same_upd (o := .tup [.ref pl', .str (lk (wat lots es (i + 1)).look)]) nu
        have st := same_upd (o := .tup [.int ((wat lots es (i + 1)).leg : Nat), .ref h, .ref u]) nt
        have eS5 := s5 _ _ (s4 _ _ eSh)
        have uS : u ≠ S := Ne.symm (ne_of_none eS5 nu)
        have tS : t ≠ S := Ne.symm (ne_of_none (su _ _ eS5) nt)
        have ly := dpa_len2 hyh
        rw [walkL_len] at ly
        have m7 : Same (wo (upd (upd H5 u (.tup [.ref pl', .str (lk (wat lots es (i + 1)).look)])) t (.tup [.int ((wat lots es (i + 1)).leg : Nat), .ref h, .ref u])) (fun b => b = S)) (wo (upd (upd (upd H5 u (.tup [.ref pl', .str (lk (wat lots es (i + 1)).look)])) t (.tup [.int ((wat lots es (i + 1)).leg : Nat), .ref h, .ref u])) S (.lst (ys ++ [.ref t]))) (fun b => b = S)) := wo_mut rfl
        have m6 := (wS (su.trans st)).trans m7
        refine ⟨S, .ref t, ys, rfl, rfl, st _ _ (su _ _ eS5), small1000 (by omega), fun c o z => ?_, sqt_same m6 hpl', ys ++ [.ref t], upd_same, ?_⟩
        · rw [upd_ne (ne_of_none z nS)]
          exact st _ _ (su _ _ (s5 _ _ (s4 _ _ (smh _ _ z))))
        · rw [walkL_succ]
          refine dpa_snoc (.tup (.inl (.inl ?_)) (.cons (.int _) (.cons (dp_same ((wS (s4.trans s5)).trans m6) _ _ hereD) (.cons (.tup (a := u) (.inl (.inl ?_)) (.cons (.tup (sqt_same m6 hpl') (.cons (.int _) (.cons (.int _) .nil))) (.cons (.str _) .nil))) .nil)))) _ _ (dpa_same ((wS (s4.trans s5)).trans m6) _ _ hyh)
          · rw [wo_in (X := fun b => b = S) tS, upd_ne tS]
            exact upd_same
          · rw [wo_in (X := fun b => b = S) uS, upd_ne uS]
            exact st _ _ upd_same
      refine ⟨.ref a, rfl, ixA (j := 0) (hqh.same s4) rfl ⟨rfl, _, rfl, ?_⟩⟩
      rw [isg]
      have eS4 := s4 _ _ eSh
      by_cases hg : en.kind = 4
      · obtain ⟨n, rfl⟩ := go_of_kind hg
        obtain ⟨v1, rfl, hv1⟩ : ∃ v1, us = [v1] ∧ v1 = V.int ((n.val : Int) + 1) := one_int huh
        subst hv1
        obtain ⟨lt, elk⟩ : ∃ lt, (wat lots es i).look = some lt := Option.isSome_iff_exists.mp (nl rfl)
        have e3 : (wat lots es (i + 1)).look = some lt := by rw [e2, elk]; rfl
        have ex : (wat lots es (i + 1)).x = (wat lots es i).x + ((n.val : Int) + 1) * dx lt := by
          rw [hw]
          show nx _ (wat lots es i).look (.go n) = _
          rw [elk]
          rfl
        have ey : (wat lots es (i + 1)).y = (wat lots es i).y + ((n.val : Int) + 1) * dy lt := by
          rw [hw]
          show ny _ (wat lots es i).look (.go n) = _
          rw [elk]
          rfl
        refine iteDY (decide_eq_true rfl) ⟨_, rfl, _, rfl, .ref a, rfl, ixA (j := 1) (hqh.same s4) rfl ⟨pl, (wat lots es i).x, (wat lots es i).y, (n.val : Int) + 1, lt, by rw [e3]; rfl, sqt_same (wo_same.trans s4) hplh, fun H5 p2 s5 np2 ep2 => ?_⟩⟩
        have p2S : p2 ≠ S := Ne.symm (ne_of_none eS4 np2)
        refine ⟨.ref S, rfl, .inl ⟨rfl, _, .inl (.inl (s5 _ _ eS4))⟩, _, rfl, _, rfl, _, rfl, _, rfl, by show 2 ≤ sizeLine; decide, fun u nu => ⟨by show 3 ≤ sizeLine; decide, fun t nt => ?_⟩⟩
        obtain ⟨l', b, ys', h1, h2, h3, h4, h5, h6, zs, h7, h8⟩ := put H5 p2 s5 (by rw [ex, ey]; exact .inl (.inl (by rw [wo_in (X := fun b => b = S) p2S]; exact ep2))) u nu t nt
        exact ⟨l', ys', b, h1, h2, h3, h4, h5, p2, zs, _, _, rfl, h6, h7, h8⟩
      · have ex : (wat lots es (i + 1)).x = (wat lots es i).x := by
          rw [hw]
          cases en with
          | go n => exact absurd rfl hg
          | _ => rfl
        have ey : (wat lots es (i + 1)).y = (wat lots es i).y := by
          rw [hw]
          cases en with
          | go n => exact absurd rfl hg
          | _ => rfl
        refine iteDN (decide_eq_false hg) ⟨.ref S, rfl, .inl ⟨rfl, _, .inl (.inl eS4)⟩, _, rfl, _, rfl, _, rfl, _, rfl, by show 2 ≤ sizeLine; decide, fun u nu => ⟨by show 3 ≤ sizeLine; decide, fun t nt => ?_⟩⟩
        obtain ⟨l', b, ys', h1, h2, h3, h4, h5, h6, zs, h7, h8⟩ := put _ pl (Same.refl _) (by rw [ex, ey]; exact sqt_same (wS s4) hplh) u nu t nt
        exact ⟨l', ys', b, h1, h2, h3, h4, h5, pl, zs, _, _, rfl, h6, h7, h8⟩
    · rintro σ H2 ⟨sm, pl, ys, y6, y7, rfl, hpl, eS, hy⟩
      rw [lx] at hy
      exact ⟨.ref S, rfl, q _ S ys sm nS eS (dpa_same wo_same _ _ hy)⟩
def spDue (K : PySem.W.Frag) : Sp := fun vs H Q _ => ∃ (e l : Addr) (xs : List V) (es : List Ent) (lots : List (Fin 8)), vs = [.ref e, .ref l] ∧ SqA K H e xs ∧ Rows K H xs es ∧ SqA K H l (lots.map lotV) ∧ lots.length = 1 + swaps es ∧ es.length ≤ 200 ∧ Right es ∧ ∀ H' r, Same H H' → Dp K H' (.ref r) (trackD lots es) → Q (.ref r) H'
--@@SPLIT
/-! ### facts -/
def wx (x : Int) : Fin 4 → Int
  | 3 => x - 1
  | _ => x
def wy (y : Int) : Fin 4 → Int
  | 2 => y - 1
  | _ => y
def wside : Fin 4 → Fin 4
  | 0 => 0
  | 1 => 1
  | 2 => 0
  | 3 => 1
def factD (i : Nat) (word : Str) (x y : Int) (what : Str) : PyData := .tuple [.int (i : Nat), .str word, .tuple [.int x, .int y], .str what]
def wayD (i : Nat) (word : Str) (x y : Int) (l : Fin 4) : PyData := factD i word (wx x l) (wy y l) (Lt (wside l))
def openL (i : Nat) (x y : Int) (l : Fin 4) (n : Nat) : List PyData := (List.range n).map fun k : Nat => wayD i "open" (x + (k : Int) * dx l) (y + (k : Int) * dy l) l
theorem openL_succ (i : Nat) (x y : Int) (l : Fin 4) (n : Nat) : openL i x y l (n + 1) = openL i x y l n ++ [wayD i "open" (x + (n : Int) * dx l) (y + (n : Int) * dy l) l] := by
  unfold openL
  rw [List.range_succ, List.map_append]
  rfl
def factsOf (i : Nat) (p : Wk) : Ent → List PyData
  | .sign z => [factD i "sign" p.x p.y z]
  | .bare => [factD i "bare" p.x p.y ""]
  | .spy n z => match p.look with
    | some l => [factD i "sign" (p.x + ((n.val : Int) + 1) * dx l) (p.y + ((n.val : Int) + 1) * dy l) z]
    | none => []
  | .go n => match p.look with
    | some l => openL i p.x p.y l (n.val + 1)
    | none => []
  | .bump => match p.look with
    | some l => [wayD i "shut" p.x p.y l]
    | none => []
  | _ => []
theorem factsOf_len (i : Nat) (p : Wk) (e : Ent) : (factsOf i p e).length ≤ 9 := by
  cases e with
  | go n =>
    unfold factsOf
    cases p.look with
    | none => exact Nat.zero_le _
    | some l =>
      show (openL i p.x p.y l (n.val + 1)).length ≤ 9
      unfold openL
      rw [List.length_map, List.length_range]
      omega
  | spy n z => unfold factsOf; cases p.look <;> simp
  | bump => unfold factsOf; cases p.look <;> simp
  | _ => unfold factsOf; simp
def factsAt (lots : List (Fin 8)) (es : List Ent) (i : Nat) : List PyData := match es[i]? with
  | some e => factsOf i (wat lots es i) e
  | none => []
theorem factsAt_eq {lots : List (Fin 8)} {es : List Ent} {i : Nat} {e : Ent} (h : es[i]? = some e) : factsAt lots es i = factsOf i (wat lots es i) e := by
  unfold factsAt
  rw [h]
def factsL (lots : List (Fin 8)) (es : List Ent) : Nat → List PyData
  | 0 => []
  | n + 1 => factsL lots es n ++ factsAt lots es n
theorem factsL_len (lots : List (Fin 8)) (es : List Ent) : ∀ n, (factsL lots es n).length ≤ 9 * n
  | 0 => Nat.le_refl _
  | n + 1 => by
    have h1 := factsL_len lots es n
    have h2 : (factsAt lots es n).length ≤ 9 := by
      unfold factsAt
      cases es[n]? with
      | none => exact Nat.zero_le _
      | some e => exact factsOf_len _ _ _
    show (factsL lots es n ++ factsAt lots es n).length ≤ _
    rw [List.length_append]
    omega
def factsD (lots : List (Fin 8)) (es : List Ent) : PyData := .tuple (factsL lots es es.length)
theorem sign_of_kind {e : Ent} (h : e.kind = 6) : ∃ z, e = .sign z := by
  cases e with
  | sign z => exact ⟨z, rfl⟩
  | turn q => exact absurd h (by match q with | 0 => decide | 1 => decide | 2 => decide)
  | _ => cases h
theorem spy_of_kind {e : Ent} (h : e.kind = 8) : ∃ n z, e = .spy n z := by
  cases e with
  | spy n z => exact ⟨n, z, rfl⟩
  | turn q => exact absurd h (by match q with | 0 => decide | 1 => decide | 2 => decide)
  | _ => cases h
theorem bare_of_kind {e : Ent} (h : e.kind = 7) : e = .bare := by
  cases e with
  | bare => rfl
  | turn q => exact absurd h (by match q with | 0 => decide | 1 => decide | 2 => decide)
  | _ => cases h
theorem bump_of_kind {e : Ent} (h : e.kind = 5) : e = .bump := by
  cases e with
  | bump => rfl
  | turn q => exact absurd h (by match q with | 0 => decide | 1 => decide | 2 => decide)
  | _ => cases h
/-! ### the program's facts -/
def spWay (K : PySem.W.Frag) : Sp := fun vs H Q _ => ∃ (p : Addr) (x y : Int) (l : Fin 4), vs = [.ref p, .str (Lt l)] ∧ SqT K H p [.int x, .int y] ∧ ∀ t, H t = none → Q (.ref t) (upd H t (.tup [.int (wx x l), .int (wy y l), .str (Lt (wside l))]))
theorem ok_way_of (T : Top w K mg) : FnOk P w K mg base CX0 1 T.a_way_of T.fd_way_of ["place", "letter"] (spWay K) := by
  refine T.F_way_of.ok sc_way_of (fun vs H Q E h => ?_) (fun cdv A outer s H vs Q E hr h => ?_)
  · obtain ⟨p, x, y, l, rfl, _⟩ := h
    rfl
  · obtain ⟨p, x, y, l, rfl, hp, q⟩ := h
    refine ⟨_, (pss_cons (ps_asg (pv 0) (pg_tup rfl (pgs_cons (pg_name (i := 2) sc_way_of.nd rfl (.inl rfl)) (pgs_cons (pg_name (i := 3) sc_way_of.nd rfl (.inl rfl)) pgs_nil))))
      (pss_cons (ps_if (pt_cmpR op_eq (pv 1) pe_str (nomark _)) (pss_one (ps_ret (pe_tup (pa_cons (pv 2) (pa_cons (pe_op op_sub (pv 3) pe_int) (pa_cons pe_str pa_nil)))))) pss_nil)
      (pss_cons (ps_if (pt_cmpR op_eq (pv 1) pe_str (nomark _)) (pss_one (ps_ret (pe_tup (pa_cons (pe_op op_sub (pv 2) pe_int) (pa_cons (pv 3) (pa_cons pe_str pa_nil)))))) pss_nil)
      (pss_one (ps_ret (pe_tup (pa_cons (pv 2) (pa_cons (pv 3) (pa_cons (pv 1) pa_nil))))))))), ?_⟩
    refine ⟨_, rfl, p, _, rfl, hp, rfl, _, _, rfl, _, _, rfl, rfl, ?_⟩
    refine ⟨_, rfl, rfl, _, rfl, ?_⟩
    rw [show decide (V.str (Lt l) = V.str (PySem.Str.ofString "s")) = decide (l = 2) by rw [lt2]; exact ltd l 2]
    match l, q with
    | 2, q => exact iteT ⟨_, rfl, _, rfl, _, _, rfl, rfl, by show 3 ≤ sizeLine; decide, fun t nt => q t nt⟩
    | 0, q =>
      refine iteF ⟨_, rfl, rfl, _, rfl, ?_⟩
      rw [show decide (V.str (Lt 0) = V.str (PySem.Str.ofString "w")) = decide ((0 : Fin 4) = 3) by rw [lt3]; exact ltd 0 3]
      exact iteF ⟨_, rfl, _, rfl, _, rfl, by show 3 ≤ sizeLine; decide, fun t nt => q t nt⟩
    | 1, q =>
      refine iteF ⟨_, rfl, rfl, _, rfl, ?_⟩
      rw [show decide (V.str (Lt 1) = V.str (PySem.Str.ofString "w")) = decide ((1 : Fin 4) = 3) by rw [lt3]; exact ltd 1 3]
      exact iteF ⟨_, rfl, _, rfl, _, rfl, by show 3 ≤ sizeLine; decide, fun t nt => q t nt⟩
    | 3, q =>
      refine iteF ⟨_, rfl, rfl, _, rfl, ?_⟩
      rw [show decide (V.str (Lt 3) = V.str (PySem.Str.ofString "w")) = decide ((3 : Fin 4) = 3) by rw [lt3]; exact ltd 3 3]
      exact iteT ⟨_, rfl, _, _, rfl, rfl, _, rfl, by show 3 ≤ sizeLine; decide, fun t nt => q t nt⟩
def spWayFact (K : PySem.W.Frag) : Sp := fun vs H Q _ => ∃ (p : Addr) (i : Nat) (z : Str) (x y : Int) (l : Fin 4), vs = [.int i, .str z, .ref p, .str (Lt l)] ∧ SqT K H p [.int x, .int y] ∧ ∀ H' u t, Same H H' → H u = none → H t = none → H' u = some (.tup [.int (wx x l), .int (wy y l)]) → H' t = some (.tup [.int i, .str z, .ref u, .str (Lt (wside l))]) → Q (.ref t) H'
theorem ok_way_fact (T : Top w K mg) : FnOk P w K mg base CX0 2 T.a_way_fact T.fd_way_fact ["at", "word", "place", "look"] (spWayFact K) := by
  have G_way_of := ok_way_of (P := P) (w := w) (base := base) T
  refine T.F_way_fact.ok sc_way_fact (fun vs H Q E h => ?_) (fun cdv A outer s H vs Q E hr h => ?_)
  · obtain ⟨p, i, z, x, y, l, rfl, _⟩ := h
    rfl
  · obtain ⟨p, i, z, x, y, l, rfl, hp, q⟩ := h
    refine ⟨_, (pss_cons (ps_asg (pe_call G_way_of hr (by rfl) T.g_way_of T.F_way_of.kp T.b_way_of .nil pass0 (pa_cons (pv 2) (pa_cons (pv 3) pa_nil))) (pg_tup rfl (pgs_cons (pg_name (i := 4) sc_way_fact.nd rfl (.inl rfl)) (pgs_cons (pg_name (i := 5) sc_way_fact.nd rfl (.inl rfl)) (pgs_cons (pg_name (i := 6) sc_way_fact.nd rfl (.inl rfl)) pgs_nil)))))
      (pss_one (ps_ret (pe_tup (pa_cons (pv 0) (pa_cons (pv 1) (pa_cons (pe_tup (pa_cons (pv 4) (pa_cons (pv 5) pa_nil))) (pa_cons (pv 6) pa_nil)))))))), ?_⟩
    refine ⟨_, rfl, _, rfl, p, x, y, l, rfl, hp, fun a na => ?_⟩
    have sa := same_upd (o := .tup [.int (wx x l), .int (wy y l), .str (Lt (wside l))]) na
    refine ⟨a, _, rfl, .inl (.inl upd_same), rfl, _, _, rfl, _, _, rfl, _, _, rfl, rfl, ?_⟩
    refine ⟨_, rfl, _, rfl, _, rfl, _, rfl, by show 2 ≤ sizeLine; decide, fun u nu => ⟨_, rfl, by show 4 ≤ sizeLine; decide, fun t nt => ?_⟩⟩
    have su := same_upd (o := .tup [.int (wx x l), .int (wy y l)]) nu
    have st := same_upd (o := .tup [.int (i : Int), .str z, .ref u, .str (Lt (wside l))]) nt
    exact q _ u t ((sa.trans su).trans st) (sa.free nu) ((sa.trans su).free nt) (st _ _ upd_same) upd_same
def Xk (X : Addr → Prop) (H : Hp) : Prop := ∀ b, X b → H b ≠ none
theorem Xk.same {X : Addr → Prop} {H H' : Hp} (x : Xk X H) (s : Same H H') : Xk X H' := fun b h => by
  cases o : H b with
  | none => exact absurd o (x b h)
  | some o' => rw [s b o' o]; exact fun z => nomatch z
theorem Xk.wo {X : Addr → Prop} {H H' : Hp} (s : Same H H') : Same (M.wo H X) (M.wo H' X) := fun b o h => by
  have h2 := wo_some h
  rw [wo_in (X := X) h2.1]
  exact s _ _ h2.2
theorem Xk.out {X : Addr → Prop} {H H' : Hp} {t : Addr} {o : HO} (x : Xk X H) (n : H t = none) (e : H' t = some o) : M.wo H' X t = some o := by
  rw [wo_in (X := X) (fun z => x t z n)]
  exact e
theorem way_dp {K : PySem.W.Frag} {H H' : Hp} {X : Addr → Prop} {i : Nat} {z : Str} {x y : Int} {l : Fin 4} {u t : Addr} (xk : Xk X H) (nu : H u = none) (nt : H t = none) (eu : H' u = some (.tup [.int (wx x l), .int (wy y l)])) (et : H' t = some (.tup [.int i, .str z, .ref u, .str (Lt (wside l))])) : Dp K (M.wo H' X) (.ref t) (wayD i z x y l) :=
  .tup (.inl (.inl (xk.out nt et))) (.cons (.int _) (.cons (.str _) (.cons (.tup (.inl (.inl (xk.out nu eu))) (.cons (.int _) (.cons (.int _) .nil))) (.cons (.str _) .nil))))
def spFactsOf (K : PySem.W.Frag) : Sp := fun vs H Q _ => ∃ (v : V) (p : Addr) (i : Nat) (k : Wk) (e : Ent) (X : Addr → Prop), vs = [.int i, v, .ref p, .str (lk k.look)] ∧ EntAt K H v e ∧ (e.need = true → k.look.isSome = true) ∧ Xk X H ∧ SqT K (M.wo H X) p [.int k.x, .int k.y] ∧ ∀ H' L ys, Same H H' → H L = none → H' L = some (.lst ys) → DpAll K (M.wo H' X) ys (factsOf i k e) → Q (.ref L) H'
theorem isk (e : Ent) (j : Fin 10) : decide (V.str (ws e.kind) = V.str (ws j)) = decide (e.kind = j) := wsd e.kind j
theorem ok_facts_of_entry (T : Top w K mg) : FnOk P w K mg base CX0 3 T.a_facts_of_entry T.fd_facts_of_entry ["at", "entry", "place", "look"] (spFactsOf K) := by
  have G_gone := ok_gone (P := P) (w := w) (base := base) T
  have G_way_fact := ok_way_fact (P := P) (w := w) (base := base) T
  refine T.F_facts_of_entry.ok sc_facts_of_entry (fun vs H Q E h => ?_) (fun cdv A outer s H vs Q E hr h => ?_)
  · obtain ⟨v, p, i, k, e, X, rfl, _⟩ := h
    rfl
  · obtain ⟨v, p, i, k, e, X, rfl, ⟨a, us, rfl, hq, hu⟩, hn, xk, hp, q⟩ := h
    refine ⟨_, (pss_cons (ps_set (i := 4) sc_facts_of_entry.nd rfl (.inl rfl) (pe_ix (r := rIx K) (SeqW.ix_seqK rfl) (pv 1) pe_int (fun _ _ => rfl)))
      (pss_cons (ps_if (pt_cmpR op_eq (pv 4) pe_str (nomark _)) (pss_one (ps_ret (pe_lst (pa_cons (pe_tup (pa_cons (pv 0) (pa_cons pe_str (pa_cons (pv 2) (pa_cons (pe_ix (r := rIx K) (SeqW.ix_seqK rfl) (pv 1) pe_int (fun _ _ => rfl)) pa_nil))))) pa_nil)))) pss_nil)
      (pss_cons (ps_if (pt_cmpR op_eq (pv 4) pe_str (nomark _)) (pss_one (ps_ret (pe_lst (pa_cons (pe_tup (pa_cons (pv 0) (pa_cons pe_str (pa_cons (pe_call G_gone hr (by rfl) T.g_gone T.F_gone.kp T.b_gone .nil pass0 (pa_cons (pv 2) (pa_cons (pv 3) (pa_cons (pe_ix (r := rIx K) (SeqW.ix_seqK rfl) (pv 1) pe_int (fun _ _ => rfl)) pa_nil)))) (pa_cons (pe_ix (r := rIx K) (SeqW.ix_seqK rfl) (pv 1) pe_int (fun _ _ => rfl)) pa_nil))))) pa_nil)))) pss_nil)
      (pss_cons (ps_if (pt_cmpR op_eq (pv 4) pe_str (nomark _)) (pss_one (ps_ret (pe_lst (pa_cons (pe_tup (pa_cons (pv 0) (pa_cons pe_str (pa_cons (pv 2) (pa_cons pe_str pa_nil))))) pa_nil)))) pss_nil)
      (pss_cons (ps_if (pt_cmpR op_eq (pv 4) pe_str (nomark _)) (pss_one (ps_ret (pe_lc (own := [("done", 5)]) (g := gName 5) (by rfl) sc_facts_of_entry.nd (pi_range1 (by rfl) T.m_range (pa_cons (pe_ix (r := rIx K) (SeqW.ix_seqK rfl) (pv 1) pe_int (fun _ _ => rfl)) pa_nil)) (blkOk_by (own := [("done", 5)]) (N := ["at", "entry", "place", "look", "word", "done"]) (sc := defScope s_facts_of_entry) (by decide +kernel)) (fun _ _ _ _ _ => (pg_name (i := 5) sc_facts_of_entry.nd rfl (Or.inl rfl))) (fun _ _ _ _ _ => pts_nil) (fun _ _ _ _ _ => (pe_call G_way_fact hr (by rfl) T.g_way_fact T.F_way_fact.kp T.b_way_fact .nil pass0 (pa_cons (pv 0) (pa_cons pe_str (pa_cons (pe_call G_gone hr (by rfl) T.g_gone T.F_gone.kp T.b_gone .nil pass0 (pa_cons (pv 2) (pa_cons (pv 3) (pa_cons (pv 5) pa_nil)))) (pa_cons (pv 3) pa_nil))))))))) pss_nil)
      (pss_cons (ps_if (pt_cmpR op_eq (pv 4) pe_str (nomark _)) (pss_one (ps_ret (pe_lst (pa_cons (pe_call G_way_fact hr (by rfl) T.g_way_fact T.F_way_fact.kp T.b_way_fact .nil pass0 (pa_cons (pv 0) (pa_cons pe_str (pa_cons (pv 2) (pa_cons (pv 3) pa_nil))))) pa_nil)))) pss_nil)
      (pss_one (ps_ret (pe_lst pa_nil))))))))), ?_⟩
    refine ⟨.ref a, rfl, ixA (j := 0) hq rfl ⟨_, rfl, rfl, _, rfl, ?_⟩⟩
    have hp0 := sqt_same wo_same hp
    have step1 : ∀ (j : Fin 10) (B C : Prop), (e.kind = j → B) → (e.kind ≠ j → C) → if decide (V.str (ws e.kind) = V.str (ws j)) = true then B else C := fun j B C h1 h2 => by
      rw [isk]
      exact ite2 (fun z => h1 (of_decide_eq_true z)) (fun z => h2 (fun y => z (decide_eq_true y)))
    refine step1 6 _ _ (fun h6 => ?_) (fun h6 => ⟨_, rfl, rfl, _, rfl, step1 8 _ _ (fun h8 => ?_) (fun h8 => ⟨_, rfl, rfl, _, rfl, step1 7 _ _ (fun h7 => ?_) (fun h7 => ⟨_, rfl, rfl, _, rfl, step1 4 _ _ (fun h4 => ?_) (fun h4 => ⟨_, rfl, rfl, _, rfl, step1 5 _ _ (fun h5 => ?_) (fun h5 => ?_)⟩)⟩)⟩)⟩)
    · obtain ⟨z, rfl⟩ : ∃ z, e = .sign z := sign_of_kind h6
      obtain ⟨v1, rfl, rfl⟩ : ∃ v1, us = [v1] ∧ v1 = V.str z := by
        cases hu with
        | cons h1 h2 => cases h1; cases h2; exact ⟨_, rfl, rfl⟩
      refine ⟨_, rfl, _, rfl, .ref a, rfl, ixA (j := 1) hq rfl ⟨by show 4 ≤ sizeLine; decide, fun t nt => ⟨by show 1 ≤ sizeLine; decide, fun L nL => ?_⟩⟩⟩
      have st := same_upd (o := .tup [.int (i : Int), .str "sign", .ref p, .str z]) nt
      have sL := same_upd (o := .lst [.ref t]) nL
      exact q _ L _ (st.trans sL) (st.free nL) upd_same (.cons (.tup (.inl (.inl (xk.out nt (sL _ _ upd_same)))) (.cons (.int _) (.cons (.str _) (.cons (.tup (sqt_same (Xk.wo (st.trans sL)) hp) (.cons (.int _) (.cons (.int _) .nil))) (.cons (.str _) .nil))))) .nil)
    · obtain ⟨n, z, rfl⟩ : ∃ n z, e = .spy n z := spy_of_kind h8
      obtain ⟨v1, v2, rfl, rfl, rfl⟩ : ∃ v1 v2, us = [v1, v2] ∧ v1 = V.int ((n.val : Int) + 1) ∧ v2 = V.str z := by
        cases hu with
        | cons h1 h2 =>
          cases h1
          cases h2 with
          | cons h3 h4 => cases h3; cases h4; exact ⟨_, _, rfl, rfl, rfl⟩
      obtain ⟨l, el⟩ := Option.isSome_iff_exists.mp (hn rfl)
      refine ⟨_, rfl, _, rfl, _, rfl, .ref a, rfl, ixA (j := 1) hq rfl ⟨p, k.x, k.y, (n.val : Int) + 1, l, by rw [el]; rfl, hp0, fun g ng => ?_⟩⟩
      have sg := same_upd (o := .tup [.int (k.x + ((n.val : Int) + 1) * dx l), .int (k.y + ((n.val : Int) + 1) * dy l)]) ng
      refine ⟨.ref a, rfl, ixA (j := 2) (hq.same sg) rfl ⟨by show 4 ≤ sizeLine; decide, fun t nt => ⟨by show 1 ≤ sizeLine; decide, fun L nL => ?_⟩⟩⟩
      have st := same_upd (o := .tup [.int (i : Int), .str "sign", .ref g, .str z]) nt
      have sL := same_upd (o := .lst [.ref t]) nL
      refine q _ L _ ((sg.trans st).trans sL) ((sg.trans st).free nL) upd_same ?_
      have ef : factsOf i k (.spy n z) = [factD i "sign" (k.x + ((n.val : Int) + 1) * dx l) (k.y + ((n.val : Int) + 1) * dy l) z] := by
        unfold factsOf
        rw [el]
      rw [ef]
      exact .cons (.tup (.inl (.inl (xk.out (sg.free nt) (sL _ _ upd_same)))) (.cons (.int _) (.cons (.str _) (.cons (.tup (.inl (.inl (xk.out ng (sL _ _ (st _ _ upd_same))))) (.cons (.int _) (.cons (.int _) .nil))) (.cons (.str _) .nil))))) .nil
    · obtain rfl : e = .bare := bare_of_kind h7
      refine ⟨_, rfl, _, rfl, by show 4 ≤ sizeLine; decide, fun t nt => ⟨by show 1 ≤ sizeLine; decide, fun L nL => ?_⟩⟩
      have st := same_upd (o := .tup [.int (i : Int), .str "bare", .ref p, .str ""]) nt
      have sL := same_upd (o := .lst [.ref t]) nL
      exact q _ L _ (st.trans sL) (st.free nL) upd_same (.cons (.tup (.inl (.inl (xk.out nt (sL _ _ upd_same)))) (.cons (.int _) (.cons (.str _) (.cons (.tup (sqt_same (Xk.wo (st.trans sL)) hp) (.cons (.int _) (.cons (.int _) .nil))) (.cons (.str _) .nil))))) .nil)
    · obtain ⟨n, rfl⟩ := go_of_kind h4
      obtain ⟨v1, rfl, rfl⟩ := one_int hu
      obtain ⟨l, el⟩ := Option.isSome_iff_exists.mp (hn rfl)
      have ef : factsOf i k (.go n) = openL i k.x k.y l (n.val + 1) := by
        unfold factsOf
        rw [el]
      refine ⟨.ref a, rfl, ixA (j := 1) hq rfl ⟨(n.val : Int) + 1, rfl, by omega, by omega, fun D hD => lc_it (walk_range (n := ((n.val : Int) + 1 - 0).toNat)) (fun j H' => Same H H' ∧ ∃ ys : List V, ys.length = j ∧ DpAll K (M.wo H' (fun b => X b ∨ b = D)) ys (openL i k.x k.y l j) ∧ H' D = some (.lst ys)) ⟨same_upd hD, [], rfl, .nil, upd_same⟩ (fun _ _ _ _ => trivial) ?_ ?_⟩⟩
      · rintro j v H1 H2 hj ⟨sm, ys, ly, hy, eD⟩ ⟨rfl, rfl⟩
        have x1 : Xk (fun b => X b ∨ b = D) H2 := fun b h => h.elim ((xk.same sm) b) (fun z => by rw [z, eD]; exact fun y => nomatch y)
        refine ⟨rfl, _, rfl, _, rfl, _, rfl, _, rfl, p, k.x, k.y, _, l, by rw [el]; rfl, sqt_same sm hp0, fun g ng => ?_⟩
        have e0 : (0 : Int) + (j : Int) = j := by omega
        rw [e0] at *
        have sg := same_upd (o := .tup [.int (k.x + (j : Int) * dx l), .int (k.y + (j : Int) * dy l)]) ng
        refine ⟨_, rfl, g, i, _, k.x + (j : Int) * dx l, k.y + (j : Int) * dy l, l, by rw [el]; rfl, .inl (.inl upd_same), fun H3 u t s3 nu nt eu et => ?_⟩
        have s23 := sg.trans s3
        have m6 : Same (M.wo H3 (fun b => X b ∨ b = D)) (M.wo (upd H3 D (.lst (ys ++ [.ref t]))) (fun b => X b ∨ b = D)) := wo_mut (X := fun b => X b ∨ b = D) (.inr rfl)
        refine ⟨ys, s23 _ _ eD, small1000 (by omega), fun b o h => ?_, ys ++ [.ref t], by rw [List.length_append, ly]; rfl, ?_, upd_same⟩
        · rw [upd_ne (ne_of_none h hD)]
          exact s23 _ _ (sm _ _ h)
        · rw [openL_succ]
          exact dpa_snoc (dp_same m6 _ _ (way_dp (x1.same sg) nu nt eu et)) _ _ (dpa_same ((Xk.wo s23).trans m6) _ _ hy)
      · rintro H1 ⟨sm, ys, ly, hy, eD⟩
        have en : ((n.val : Int) + 1 - 0).toNat = n.val + 1 := by omega
        rw [en, ← ef] at hy
        exact q _ D ys sm hD eD (dpa_same (wo_less (fun b z => .inl z)) _ _ hy)
    · obtain rfl : e = .bump := bump_of_kind h5
      obtain ⟨l, el⟩ := Option.isSome_iff_exists.mp (hn rfl)
      refine ⟨_, rfl, _, rfl, _, rfl, p, i, _, k.x, k.y, l, by rw [el]; rfl, hp0, fun H3 u t s3 nu nt eu et => ⟨by show 1 ≤ sizeLine; decide, fun L nL => ?_⟩⟩
      have sL := same_upd (o := .lst [.ref t]) nL
      have ef : factsOf i k .bump = [wayD i "shut" k.x k.y l] := by
        unfold factsOf
        rw [el]
      refine q _ L _ (s3.trans sL) (s3.free nL) upd_same ?_
      rw [ef]
      exact .cons (way_dp xk nu nt (sL _ _ eu) (sL _ _ et)) .nil
    · refine ⟨Nat.zero_le _, fun L nL => q _ L _ (same_upd nL) nL upd_same ?_⟩
      have ef : factsOf i k e = [] := by
        cases e with
        | face l => rfl
        | turn q => rfl
        | swap => rfl
        | sign z => exact absurd rfl h6
        | spy n z => exact absurd rfl h8
        | bare => exact absurd rfl h7
        | go n => exact absurd rfl h4
        | bump => exact absurd rfl h5
      rw [ef]
      exact .nil
--@@SPLIT
theorem dpa_app {K : PySem.W.Frag} {H : Hp} : ∀ (ds es : List PyData) (xs ys : List V), DpAll K H xs ds → DpAll K H ys es → DpAll K H (xs ++ ys) (ds ++ es)
  | [], _, _, _, h, g => by cases h; exact g
  | d :: ds, es, _, ys, h, g => by
    cases h with
    | cons h1 h2 => exact .cons h1 (dpa_app ds es _ ys h2 g)
theorem dpa_dropK {K : PySem.W.Frag} {H : Hp} : ∀ (n : Nat) (ds : List PyData) (xs : List V), DpAll K H xs ds → DpAll K H (xs.drop n) (ds.drop n)
  | 0, _, _, h => h
  | n + 1, [], _, h => by cases h; exact .nil
  | n + 1, d :: ds, _, h => by
    cases h with
    | cons h1 h2 => exact dpa_dropK n ds _ h2
theorem dpa_takeK {K : PySem.W.Frag} {H : Hp} : ∀ (n : Nat) (ds : List PyData) (xs : List V), DpAll K H xs ds → DpAll K H (xs.take n) (ds.take n)
  | 0, _, _, _ => .nil
  | n + 1, [], _, h => by cases h; exact .nil
  | n + 1, d :: ds, _, h => by
    cases h with
    | cons h1 h2 => exact .cons h1 (dpa_takeK n ds _ h2)
theorem dpa_setK {K : PySem.W.Frag} {H : Hp} {v : V} {d : PyData} (hv : Dp K H v d) : ∀ (n : Nat) (ds : List PyData) (xs : List V), DpAll K H xs ds → ds[n]? = some d → DpAll K H (xs.set n v) ds
  | _, [], _, h, e => by cases e
  | 0, d' :: ds, _, h, e => by
    cases e
    cases h with
    | cons h1 h2 => exact .cons hv h2
  | n + 1, d' :: ds, _, h, e => by
    cases h with
    | cons h1 h2 => exact .cons h1 (dpa_setK hv n ds _ h2 e)
/-! ### all facts of a log -/
def posL (lots : List (Fin 8)) (es : List Ent) (n : Nat) : List PyData := (List.range n).map fun i : Nat => posD (wat lots es i)
theorem posL_eq (lots : List (Fin 8)) (es : List Ent) (n : Nat) : posL lots es (n + 1) = posD (wat lots es 0) :: trackL lots es n := by
  unfold posL trackL
  rw [List.range_succ_eq_map, List.map_cons, List.map_map]
  rfl
theorem posL_at {lots : List (Fin 8)} {es : List Ent} {n i : Nat} {d : PyData} (h : (posL lots es n)[i]? = some d) : d = posD (wat lots es i) := by
  unfold posL at h
  rw [List.getElem?_map] at h
  cases e : (List.range n)[i]? with
  | none => rw [e] at h; cases h
  | some j =>
    rw [e] at h
    obtain ⟨h1, h2⟩ := List.getElem?_eq_some_iff.mp e
    rw [List.getElem_range] at h2
    rw [← h2] at h
    exact (Option.some.inj h).symm
theorem pos_parts {K : PySem.W.Frag} {H : Hp} {v : V} {p : Wk} (h : Dp K H v (posD p)) : ∃ t pl, v = .ref t ∧ SqT K H t [.ref pl, .str (lk p.look)] ∧ SqT K H pl [.int p.x, .int p.y] := by
  cases h with
  | tup hs ha =>
    cases ha with
    | cons h1 h2 =>
      cases h2 with
      | cons h3 h4 =>
        cases h3
        cases h4
        cases h1 with
        | tup hp hq =>
          cases hq with
          | cons h5 h6 =>
            cases h5
            cases h6 with
            | cons h7 h8 =>
              cases h7
              cases h8
              exact ⟨_, _, rfl, hs, hp⟩
def spFacts (K : PySem.W.Frag) : Sp := fun vs H Q _ => ∃ (e l : Addr) (xs : List V) (es : List Ent) (lots : List (Fin 8)), vs = [.ref e, .ref l] ∧ SqA K H e xs ∧ Rows K H xs es ∧ SqA K H l (lots.map lotV) ∧ lots.length = 1 + swaps es ∧ es.length ≤ 100 ∧ Right es ∧ ∀ H' r, Same H H' → Dp K H' (.ref r) (factsD lots es) → Q (.ref r) H'
theorem ok_facts (T : Top w K mg) : FnOk P w K mg base CX0 7 T.a_facts T.fd_facts ["log", "lots"] (spFacts K) := by
  have G_track := ok_track (P := P) (w := w) (base := base) T
  have G_facts_of_entry := ok_facts_of_entry (P := P) (w := w) (base := base) T
  obtain ⟨q0, hS, hS0⟩ := T.v_START
  refine T.F_facts.ok sc_facts (fun vs H Q E h => ?_) (fun cdv A outer s H vs Q E hr h => ?_)
  · obtain ⟨e, l, xs, es, lots, rfl, _⟩ := h
    rfl
  · obtain ⟨e, l, xs, es, lots, rfl, hs, ha, hl, hn, hlen, hR, q⟩ := h
    have lx := ha.len
    refine ⟨_, (pss_cons (ps_set (i := 2) sc_facts.nd rfl (.inl rfl) (pe_call G_track hr (by rfl) T.g_track T.F_track.kp T.b_track .nil pass0 (pa_cons (pv 0) (pa_cons (pv 1) pa_nil))))
      (pss_cons (ps_set (i := 3) sc_facts.nd rfl (.inl rfl) (pe_lst (pa_cons (pe_glob (v := .ref T.a_START) (by rfl) T.g_START rfl) (StX.pa_star (pv 2) pa_nil))))
      (pss_cons (ps_set (i := 4) sc_facts.nd rfl (.inl rfl) (pe_lst pa_nil))
      (pss_cons (ps_for PassesOwn.never rfl (SeqW.pi_enumA (by rfl) T.m_enumerate (pa_cons (pv 0) pa_nil)) (pg_tup rfl (pgs_cons (pg_name (i := 5) sc_facts.nd rfl (.inl rfl)) (pgs_cons (pg_name (i := 6) sc_facts.nd rfl (.inl rfl)) pgs_nil))) (pss_cons (ps_asg (pe_ix ix_list (pv 3) (pv 5) (fun _ _ => rfl)) (pg_tup rfl (pgs_cons (pg_name (i := 7) sc_facts.nd rfl (.inl rfl)) (pgs_cons (pg_name (i := 8) sc_facts.nd rfl (.inl rfl)) pgs_nil))))
      (pss_one (ps_expr (pe_bm PySem.F.plainAttrs_list PySem.F.slot_list_extend PySem.F.type_list_extend mt_extend (pv 4) (pa_cons (pe_call G_facts_of_entry (hr.mono (by decide)) (by rfl) T.g_facts_of_entry T.F_facts_of_entry.kp T.b_facts_of_entry .nil pass0 (pa_cons (pv 5) (pa_cons (pv 6) (pa_cons (pv 7) (pa_cons (pv 8) pa_nil))))) pa_nil))))))
      (pss_one (ps_ret (pe_callTy call_tuple_of (by rfl) T.m_tuple (by decide +kernel) (pa_cons (pv 4) pa_nil)))))))), ?_⟩
    refine ⟨.ref e, rfl, .ref l, rfl, e, l, xs, es, lots, rfl, hs, ha, hl, hn, by omega, hR, fun H1 r s1 hr1 => ?_⟩
    obtain ⟨zs, hz1, hz2⟩ : ∃ zs, SqT K H1 r zs ∧ DpAll K H1 zs (trackL lots es es.length) := by
      cases hr1 with
      | tup h1 h2 => exact ⟨_, h1, h2⟩
    have lz := dpa_len2 hz2
    have lt : (trackL lots es es.length).length = es.length := by unfold trackL; rw [List.length_map, List.length_range]
    have hp : DpAll K H1 (.ref T.a_START :: zs) (posL lots es (es.length + 1)) := by
      rw [posL_eq, wat_zero]
      exact .cons (.tup (hS _) (.cons (.tup (hS0 _) (.cons (.int _) (.cons (.int _) .nil))) (.cons (.str _) .nil))) hz2
    refine ⟨.ref r, rfl, r, zs, rfl, .inl hz1, ?_, fun A0 nA => ?_⟩
    · show (.ref T.a_START :: (zs ++ [])).length ≤ sizeLine
      rw [List.append_nil]
      exact Nat.le_of_lt (small1000 (by rw [List.length_cons]; omega))
    refine ⟨Nat.zero_le _, fun F nF => ?_⟩
    have sA := same_upd (o := .lst (.ref T.a_START :: (zs ++ []))) nA
    have sF := same_upd (o := .lst []) nF
    have s2 := (s1.trans sA).trans sF
    have nF1 : H1 F = none := sA.free nF
    have AF : A0 ≠ F := ne_of_none upd_same nF
    refine ⟨.ref e, rfl, e, xs, rfl, (fun H' => Same H H'), kpA hs, s2, fun J G wk hG => for_it wk (fun i σ H' => Same H1 H' ∧ ∃ ys y5 y6 y7 y8, σ = [some (.ref e), some (.ref l), some (.ref r), some (.ref A0), some (.ref F), y5, y6, y7, y8] ∧ H' A0 = some (.lst (.ref T.a_START :: zs)) ∧ H' F = some (.lst ys) ∧ DpAll K (M.wo H' (fun b => b = F)) ys (factsL lots es i))
      ⟨sA.trans sF, [], none, none, none, none, rfl, sF _ _ (by rw [upd_same, List.append_nil]), upd_same, .nil⟩ (fun i σ H' _ h => hG _ (s1.trans h.1)) ?_ ?_⟩
    · rintro i v σ H2 H3 hi ⟨sm, ys, y5, y6, y7, y8, rfl, eA, eF, hy⟩ ⟨t, u1, u2, rfl, nt, rfl, e1, e2⟩
      cases e1
      have st := same_upd (o := .tup [.int (i : Nat), u2]) nt
      obtain ⟨en, fe, hen⟩ := (ha.same ((s1.trans sm).trans st)).at_ e2
      have il := (List.getElem?_eq_some_iff.mp fe).1
      obtain ⟨v, gv⟩ : ∃ v, (.ref T.a_START :: zs)[i]? = some v := ⟨_, List.getElem?_eq_getElem (by rw [List.length_cons]; omega)⟩
      have m3 : Same H1 (M.wo (upd H2 t (.tup [.int (i : Nat), u2])) (fun b => b = F)) := fun c o z => by
        rw [wo_in (X := fun b => b = F) (ne_of_none z nF1)]
        exact st _ _ (sm _ _ z)
      obtain ⟨d, fd, gd⟩ := dpa_at _ _ (dpa_same m3 _ _ hp) i v gv
      have := posL_at fd
      subst this
      obtain ⟨tp, pl, rfl, hp1, hp2⟩ := pos_parts gd
      have eF3 := st _ _ eF
      refine ⟨t, _, rfl, .inl (.inl upd_same), rfl, _, _, rfl, _, _, rfl, rfl, ?_⟩
      refine ⟨.ref A0, rfl, _, rfl, A0, _, _, _, rfl, rfl, .inl (.inl (st _ _ eA)), atI_nat gv, tp, _, rfl, sqt_same wo_same hp1, rfl, _, _, rfl, _, _, rfl, rfl, ?_⟩
      have nl : en.need = true → (wat lots es i).look.isSome = true := fun h => by
        rw [wat_look]
        exact hR i en fe h
      have xk : Xk (fun b => b = F) (upd H2 t (.tup [.int (i : Nat), u2])) := fun b h => by rw [h, eF3]; exact fun z => nomatch z
      refine ⟨.ref F, rfl, .inl ⟨rfl, _, .inl (.inl eF3)⟩, _, rfl, _, rfl, _, rfl, _, rfl, u2, pl, i, wat lots es i, en, (fun b => b = F), rfl, hen, nl, xk, hp2, fun H4 L fs s4 nL eL hf => ?_⟩
      have ly := dpa_len2 hy
      have lf := dpa_len2 hf
      have b1 := factsL_len lots es i
      have b2 := factsOf_len i (wat lots es i) en
      have m6 : Same (M.wo H4 (fun b => b = F)) (M.wo (upd H4 F (.lst (ys ++ fs))) (fun b => b = F)) := wo_mut rfl
      refine ⟨F, L, ys, fs, rfl, rfl, s4 _ _ eF3, eL, Nat.le_of_lt (small1000 (by omega)), fun c o z => ?_, ys ++ fs, _, _, _, _, rfl, ?_, upd_same, ?_⟩
      · rw [upd_ne (ne_of_none z nF1)]
        exact s4 _ _ (st _ _ (sm _ _ z))
      · rw [upd_ne AF]
        exact s4 _ _ (st _ _ eA)
      · show DpAll K _ (ys ++ fs) (factsL lots es i ++ factsAt lots es i)
        rw [factsAt_eq fe]
        exact dpa_app _ _ _ _ (dpa_same ((Xk.wo (st.trans s4)).trans m6) _ _ hy) (dpa_same m6 _ _ hf)
    · rintro σ H2 ⟨sm, ys, y5, y6, y7, y8, rfl, eA, eF, hy⟩
      refine ⟨.ref F, rfl, F, ys, rfl, .inl ⟨.inl (.inl eF), fun r2 nr => ?_⟩⟩
      have sr := same_upd (o := .tup ys) nr
      rw [lx] at hy
      exact q _ r2 ((s1.trans sm).trans sr) (.tup (.inl (.inl upd_same)) (dpa_same (wo_same.trans sr) _ _ hy))
--@@SPLIT
/-! ### the law's own side of a way -/
def spSide (K : PySem.W.Frag) : Sp := fun vs H Q _ => ∃ (p : Addr) (x y : Int) (l : Fin 4), vs = [.ref p, .str (Lt l)] ∧ SqT K H p [.int x, .int y] ∧ ∀ H' t, Same H H' → H t = none → H' t = some (.tup [.int (wx x l), .int (wy y l), .str (Lt (wside l))]) → Q (.ref t) H'
theorem inSW : ∀ l : Fin 4, inV (.str (Lt l)) [.str "s", .str "w"] = decide (l = 2 ∨ l = 3) := by decide +kernel
theorem sideV : ∀ l : Fin 4, valV (mergeK [] [((Sum.inr (PySem.Str.ofString "n") : Key), V.str (PySem.Str.ofString "n")), (Sum.inr (PySem.Str.ofString "s"), .str (PySem.Str.ofString "n")), (Sum.inr (PySem.Str.ofString "e"), .str (PySem.Str.ofString "e")), (Sum.inr (PySem.Str.ofString "w"), .str (PySem.Str.ofString "e"))]) (Sum.inr (Lt l)) = some (.str (Lt (wside l))) := by
  rw [lt0, lt1, lt2, lt3]
  intro l
  match l with
  | 0 => rfl
  | 1 => rfl
  | 2 => rfl
  | 3 => rfl
theorem ok_Lside (T : Top w K mg) : FnOk P w K mg base CX0 2 T.a_Lside T.fd_Lside ["_law_place", "_law_letter"] (spSide K) := by
  have G_Loff := ok_Loff (P := P) (w := w) (base := base) T
  refine T.F_Lside.ok sc_Lside (fun vs H Q E h => ?_) (fun cdv A outer s H vs Q E hr h => ?_)
  · obtain ⟨p, x, y, l, rfl, _⟩ := h
    rfl
  · obtain ⟨p, x, y, l, rfl, hp, q⟩ := h
    refine ⟨_, (Evl.pss_cut (ps_if (pt_cmpR op_in_seq (pv 1) (pe_tup (pa_cons pe_str (pa_cons pe_str pa_nil))) (by rfl)) (pss_one (ps_set (i := 0) sc_Lside.nd rfl (.inl rfl) (pe_call G_Loff hr (by rfl) T.g_Loff T.F_Loff.kp T.b_Loff .nil pass0 (pa_cons (pv 0) (pa_cons (pv 1) (pa_cons pe_int pa_nil)))))) pss_nil)
      (pss_one (ps_ret (pe_op op_catT (pv 0) (pe_tup (pa_cons (pe_dget (hu_of hr) (pe_disp (pps_cons pe_str pe_str (pps_cons pe_str pe_str (pps_cons pe_str pe_str (pps_cons pe_str pe_str pps_nil)))) (by rfl) (by rfl) (fun z => by cases z) (by decide)) (pv 1) (fun _ _ => rfl)) pa_nil)))))), ?_⟩
    refine ⟨fun σ' H' => Same H H' ∧ ∃ p2, σ' = [some (.ref p2), some (.str (Lt l))] ∧ SqT K H' p2 [.int (wx x l), .int (wy y l)], ?_, ?_⟩
    · refine ⟨_, rfl, by show 2 ≤ sizeLine; decide, fun tp np => ⟨tp, _, rfl, .inr (.inl (.inl upd_same)), rfl, rfl, _, rfl, ?_⟩⟩
      have stp := same_upd (o := .tup [.str "s", .str "w"]) np
      rw [if_neg Bool.false_ne_true, inSW]
      have hp2 := sqt_same stp hp
      match l with
      | 0 => exact iteF ⟨stp, p, rfl, hp2⟩
      | 1 => exact iteF ⟨stp, p, rfl, hp2⟩
      | 2 => exact iteT ⟨_, rfl, _, rfl, p, x, y, 1, 2, rfl, hp2, fun H1 t s1 nt et => ⟨stp.trans s1, t, rfl, .inl (.inl (by rw [et, show x + 1 * dx 2 = wx x 2 by show x + 1 * 0 = x; omega, show y + 1 * dy 2 = wy y 2 by show y + 1 * (-1) = y - 1; omega]))⟩⟩
      | 3 => exact iteT ⟨_, rfl, _, rfl, p, x, y, 1, 3, rfl, hp2, fun H1 t s1 nt et => ⟨stp.trans s1, t, rfl, .inl (.inl (by rw [et, show x + 1 * dx 3 = wx x 3 by show x + 1 * (-1) = x - 1; omega, show y + 1 * dy 3 = wy y 3 by show y + 1 * 0 = y; omega]))⟩⟩
    · rintro σ' H1 ⟨s1, p2, rfl, hp2⟩
      refine ⟨.ref p2, rfl, ?_⟩
      intro d nd
      refine ⟨upd_same, [(Sum.inr (PySem.Str.ofString "n"), .str (PySem.Str.ofString "n")), (Sum.inr (PySem.Str.ofString "s"), .str (PySem.Str.ofString "n")), (Sum.inr (PySem.Str.ofString "e"), .str (PySem.Str.ofString "e")), (Sum.inr (PySem.Str.ofString "w"), .str (PySem.Str.ofString "e"))], rfl, Nat.le_of_ble_eq_true rfl, ?_⟩
      have sd := same_upd (o := .dK []) nd
      have sd2 : Same H1 (upd (upd H1 d (.dK [])) d (.dK (mergeK [] [((Sum.inr (PySem.Str.ofString "n") : Key), V.str (PySem.Str.ofString "n")), (Sum.inr (PySem.Str.ofString "s"), .str (PySem.Str.ofString "n")), (Sum.inr (PySem.Str.ofString "e"), .str (PySem.Str.ofString "e")), (Sum.inr (PySem.Str.ofString "w"), .str (PySem.Str.ofString "e"))]))) := fun c o z => by
        rw [upd_ne (ne_of_none z nd)]
        exact sd _ _ z
      refine ⟨_, rfl, d, .str (Lt (wside l)), rfl, ?_, ?_⟩
      · have g := DGet.k (k := Sum.inr (Lt l)) (H := upd (upd H1 d (.dK [])) d (.dK (mergeK [] [((Sum.inr (PySem.Str.ofString "n") : Key), V.str (PySem.Str.ofString "n")), (Sum.inr (PySem.Str.ofString "s"), .str (PySem.Str.ofString "n")), (Sum.inr (PySem.Str.ofString "e"), .str (PySem.Str.ofString "e")), (Sum.inr (PySem.Str.ofString "w"), .str (PySem.Str.ofString "e"))]))) (a := d) upd_same
        rw [sideV l] at g
        exact g
      · refine ⟨by show 1 ≤ sizeLine; decide, fun t1 nt1 => ?_⟩
        have st1 := same_upd (o := .tup [.str (Lt (wside l))]) nt1
        refine ⟨p2, t1, _, _, rfl, rfl, sqt_same (sd2.trans st1) hp2, .inl (.inl upd_same), (fun z => nomatch z), by show 3 ≤ sizeLine; decide, (fun z => nomatch z), fun _ t nt => ?_⟩
        exact q _ t (((s1.trans sd2).trans st1).trans (same_upd nt)) (((s1.trans sd2).trans st1).free nt) upd_same
/-! ### what is due of a track -/
theorem walk_parts {K : PySem.W.Frag} {H : Hp} {v : V} {lots : List (Fin 8)} {es : List Ent} {i : Nat} (h : Dp K H v (walkD lots es i)) : ∃ t a b, v = .ref t ∧ SqT K H t [.int ((wat lots es (i + 1)).leg : Nat), a, b] ∧ Dp K H a (posD (wat lots es i)) ∧ Dp K H b (posD (wat lots es (i + 1))) := by
  cases h with
  | tup hs ha =>
    cases ha with
    | cons h1 h2 =>
      cases h1
      cases h2 with
      | cons h3 h4 =>
        cases h4 with
        | cons h5 h6 =>
          cases h6
          exact ⟨_, _, _, rfl, hs, h3, h5⟩
theorem walkL_at (lots : List (Fin 8)) (es : List Ent) {n i : Nat} {d : PyData} (h : (walkL lots es n)[i]? = some d) : d = walkD lots es i := by
  unfold walkL at h
  rw [List.getElem?_map] at h
  cases e : (List.range n)[i]? with
  | none => rw [e] at h; cases h
  | some j =>
    rw [e] at h
    obtain ⟨h1, h2⟩ := List.getElem?_eq_some_iff.mp e
    rw [List.getElem_range] at h2
    rw [← h2] at h
    exact (Option.some.inj h).symm
/-! ### a land, and what is so in it -/
abbrev Sgn := (Int × Int) × Str
abbrev Sht := Int × Int × Fin 4
def sgAt (sg : List Sgn) (x y : Int) : Option Str := (sg.find? fun s => decide (s.1 = (x, y))).map (·.2)
def kvsL (sg : List Sgn) : List (List L2.Key × V) := sg.map fun s => ([.inl s.1.1, .inl s.1.2], .str s.2)
theorem valV_sg (x y : Int) : ∀ sg : List Sgn, valV (kvsL sg) [.inl x, .inl y] = (sgAt sg x y).map V.str
  | [] => rfl
  | ((a, b), z) :: sg => by
    have ih := valV_sg x y sg
    by_cases h : (a, b) = (x, y)
    · cases h
      rw [show kvsL (((x, y), z) :: sg) = ([.inl x, .inl y], .str z) :: kvsL sg from rfl, valV_pos rfl]
      simp [sgAt]
    · have n : ¬ ([.inl a, .inl b] : List L2.Key) = [.inl x, .inl y] := fun e => h (by
        injection e with e1 e2
        injection e2 with e2 _
        cases e1
        cases e2
        rfl)
      rw [show kvsL (((a, b), z) :: sg) = ([.inl a, .inl b], .str z) :: kvsL sg from rfl, valV_neg n, ih]
      simp [sgAt, List.find?_cons, h]
/-- what a fact of the entry i at (x, y), moved by (sx, sy), says is so -/
inductive SoF (sg : List Sgn) (sh : List Sht) (sx sy : Int) : PyData → Prop
  | sign {i : Nat} {x y : Int} {z : Str} (h : sgAt sg (x + sx) (y + sy) = some z) : SoF sg sh sx sy (factD i "sign" x y z)
  | bare {i : Nat} {x y : Int} (h : sgAt sg (x + sx) (y + sy) = none) : SoF sg sh sx sy (factD i "bare" x y "")
  | opn {i : Nat} {x y : Int} {l : Fin 4} (h : (x + sx, y + sy, l) ∉ sh) : SoF sg sh sx sy (factD i "open" x y (Lt l))
  | shut {i : Nat} {x y : Int} {l : Fin 4} (h : (x + sx, y + sy, l) ∈ sh) : SoF sg sh sx sy (factD i "shut" x y (Lt l))
def AllSo (sg : List Sgn) (sh : List Sht) (sx sy : Int) (lots : List (Fin 8)) (es : List Ent) : Prop := ∀ d ∈ factsL lots es es.length, SoF sg sh sx sy d
theorem wat_app (lots : List (Fin 8)) (es fs : List Ent) {i : Nat} (h : i ≤ es.length) : wat lots (es ++ fs) i = wat lots es i := by
  unfold wat
  rw [List.take_append_of_le_length h]
theorem factsL_app (lots : List (Fin 8)) (es fs : List Ent) : ∀ n, n ≤ es.length → factsL lots (es ++ fs) n = factsL lots es n
  | 0, _ => rfl
  | n + 1, h => by
    show factsL lots (es ++ fs) n ++ factsAt lots (es ++ fs) n = factsL lots es n ++ factsAt lots es n
    rw [factsL_app lots es fs n (by omega)]
    congr 1
    unfold factsAt
    rw [wat_app lots es fs (by omega), List.getElem?_append_left (by omega)]
theorem allSo_nil {sg : List Sgn} {sh : List Sht} {sx sy : Int} {lots : List (Fin 8)} : AllSo sg sh sx sy lots [] := fun d m => by cases m
theorem AllSo.snoc {sg : List Sgn} {sh : List Sht} {sx sy : Int} {lots : List (Fin 8)} {es : List Ent} {e : Ent} (h : AllSo sg sh sx sy lots es) (he : ∀ d ∈ factsOf es.length (wat lots es es.length) e, SoF sg sh sx sy d) : AllSo sg sh sx sy lots (es ++ [e]) := fun d m => by
  rw [List.length_append] at m
  have m : d ∈ factsL lots (es ++ [e]) es.length ++ factsAt lots (es ++ [e]) es.length := m
  rw [factsL_app lots es [e] _ (Nat.le_refl _), factsAt_eq (e := e) (by simp), wat_app lots es [e] (Nat.le_refl _)] at m
  exact (List.mem_append.mp m).elim (h d) (he d)
theorem wat_snoc (lots : List (Fin 8)) (es : List Ent) (e : Ent) : wat lots (es ++ [e]) (es ++ [e]).length = next lots (wat lots es es.length) e := by
  have n : (es ++ [e]).length = es.length + 1 := List.length_append ..
  rw [n, wat_succ (e := e) (by simp), wat_app lots es [e] (Nat.le_refl _)]
/-- swaps at the end tell nothing -/
theorem AllSo.swaps {sg : List Sgn} {sh : List Sht} {sx sy : Int} {lots : List (Fin 8)} {es : List Ent} (h : AllSo sg sh sx sy lots es) : ∀ n, AllSo sg sh sx sy lots (es ++ List.replicate n Ent.swap)
  | 0 => by rw [List.replicate_zero, List.append_nil]; exact h
  | n + 1 => by
    rw [List.replicate_succ', ← List.append_assoc]
    exact (AllSo.swaps h n).snoc fun d m => by cases m
theorem Right.swaps {es : List Ent} (h : Right es) : ∀ n, Right (es ++ List.replicate n Ent.swap)
  | 0 => by rw [List.replicate_zero, List.append_nil]; exact h
  | n + 1 => by
    rw [List.replicate_succ', ← List.append_assoc]
    exact (Right.swaps h n).snoc fun z => by cases z
theorem swaps_rep (es : List Ent) : ∀ n, M.swaps (es ++ List.replicate n Ent.swap) = M.swaps es + n
  | 0 => by rw [List.replicate_zero, List.append_nil]; rfl
  | n + 1 => by
    rw [List.replicate_succ', ← List.append_assoc, swaps_snoc, swaps_rep es n]
    rfl
/-- two rows, side by side -/
inductive F2 {α β : Type} (R : α → β → Prop) : List α → List β → Prop
  | nil : F2 R [] []
  | cons {a : α} {b : β} {as : List α} {bs : List β} (h : R a b) (t : F2 R as bs) : F2 R (a :: as) (b :: bs)
theorem F2.imp {α β : Type} {R S : α → β → Prop} (f : ∀ a b, R a b → S a b) {as : List α} {bs : List β} (h : F2 R as bs) : F2 S as bs := by
  induction h with
  | nil => exact .nil
  | cons h _ ih => exact .cons (f _ _ h) ih
theorem F2.len {α β : Type} {R : α → β → Prop} {as : List α} {bs : List β} (h : F2 R as bs) : as.length = bs.length := by
  induction h with
  | nil => rfl
  | cons _ _ ih => exact congrArg Nat.succ ih
theorem F2.snoc {α β : Type} {R : α → β → Prop} {as : List α} {bs : List β} {a : α} {b : β} (h : F2 R as bs) (r : R a b) : F2 R (as ++ [a]) (bs ++ [b]) := by
  induction h with
  | nil => exact .cons r .nil
  | cons h _ ih => exact .cons h ih
theorem F2.app {α β : Type} {R : α → β → Prop} {as as' : List α} {bs bs' : List β} (h : F2 R as bs) (h' : F2 R as' bs') : F2 R (as ++ as') (bs ++ bs') := by
  induction h with
  | nil => exact h'
  | cons h _ ih => exact .cons h ih
theorem F2.rep {α β : Type} {R : α → β → Prop} {a : α} {b : β} (n : Nat) (r : R a b) : F2 R (List.replicate n a) (List.replicate n b) := by
  induction n with
  | zero => exact .nil
  | succ n ih => exact .cons r ih
/-! entries as they stand: known tuples of flat things -/
def Ent.vrest : Ent → List V
  | .face l => [.str (Lt l)]
  | .go n => [.int ((n.val : Int) + 1)]
  | .sign z => [.str z]
  | .spy n z => [.int ((n.val : Int) + 1), .str z]
  | _ => []
def Ent.vs (e : Ent) : List V := .str (ws e.kind) :: e.vrest
theorem vrest_dp {K : PySem.W.Frag} {H : Hp} (e : Ent) : DpAll K H e.vrest e.rest := by
  cases e with
  | face l => exact .cons (.str _) .nil
  | go n => exact .cons (.int _) .nil
  | sign z => exact .cons (.str _) .nil
  | spy n z => exact .cons (.int _) (.cons (.str _) .nil)
  | _ => exact .nil
def EntsAt (H : Hp) (vs : List V) (es : List Ent) : Prop := F2 (fun v e => ∃ a, v = V.ref a ∧ H a = some (.tup (Ent.vs e))) vs es
theorem EntsAt.dp {K : PySem.W.Frag} {H : Hp} {vs : List V} {es : List Ent} (h : EntsAt H vs es) : DpAll K H vs (es.map Ent.tup) := by
  induction h with
  | nil => exact .nil
  | @cons v e vs es h _ ih =>
    obtain ⟨a, rfl, ha⟩ := h
    exact .cons (.tup (.inl (.inl ha)) (.cons (.str _) (vrest_dp e))) ih
theorem EntsAt.but {p : Addr} {H H' : Hp} {vs : List V} {es : List Ent} (hp : Pool H p) (b : But p H H') (h : EntsAt H vs es) : EntsAt H' vs es :=
  F2.imp (fun v e ⟨a, ev, ha⟩ => ⟨a, ev, b _ _ (hp.ne_tup ha) ha⟩) h
theorem EntsAt.same {H H' : Hp} {vs : List V} {es : List Ent} (s : Same H H') (h : EntsAt H vs es) : EntsAt H' vs es :=
  F2.imp (fun v e ⟨a, ev, ha⟩ => ⟨a, ev, s _ _ ha⟩) h
theorem EntsAt.len {H : Hp} {vs : List V} {es : List Ent} (h : EntsAt H vs es) : vs.length = es.length := F2.len h
/-! the land as it stands -/
def shD (w : Sht) : PyData := .tuple [.int w.1, .int w.2.1, .str (Lt w.2.2)]
def ShsAt (H : Hp) (vs : List V) (sh : List Sht) : Prop := F2 (fun v w => ∃ a, v = V.ref a ∧ H a = some (.tup [.int w.1, .int w.2.1, .str (Lt w.2.2)])) vs sh
structure LandAt (p : Addr) (H : Hp) (t : Addr) (sg : List Sgn) (sh : List Sht) : Prop where
  ex : ∃ D S ss, H t = some (.tup [.ref D, .ref S]) ∧ H D = some (.dT (kvsL sg)) ∧ S ≠ p ∧ H S = some (.lst ss) ∧ ShsAt H ss sh
  few : sh.length ≤ 7
theorem ShsAt.len {H : Hp} {vs : List V} {sh : List Sht} (h : ShsAt H vs sh) : vs.length = sh.length := F2.len h
theorem ShsAt.dp {K : PySem.W.Frag} {H : Hp} {vs : List V} {sh : List Sht} (h : ShsAt H vs sh) : DpAll K H vs (sh.map shD) := by
  induction h with
  | nil => exact .nil
  | @cons v w vs sh h _ ih =>
    obtain ⟨a, rfl, ha⟩ := h
    exact .cons (.tup (.inl (.inl ha)) (.cons (.int _) (.cons (.int _) (.cons (.str _) .nil)))) ih
theorem ShsAt.but {p : Addr} {H H' : Hp} {vs : List V} {sh : List Sht} (hp : Pool H p) (b : But p H H') (h : ShsAt H vs sh) : ShsAt H' vs sh :=
  F2.imp (fun v w ⟨a, ev, ha⟩ => ⟨a, ev, b _ _ (hp.ne_tup ha) ha⟩) h
theorem ShsAt.same {H H' : Hp} {vs : List V} {sh : List Sht} (s : Same H H') (h : ShsAt H vs sh) : ShsAt H' vs sh :=
  F2.imp (fun v w ⟨a, ev, ha⟩ => ⟨a, ev, s _ _ ha⟩) h
theorem LandAt.but {p : Addr} {H H' : Hp} {t : Addr} {sg : List Sgn} {sh : List Sht} (hp : Pool H p) (b : But p H H') (h : LandAt p H t sg sh) : LandAt p H' t sg sh := by
  obtain ⟨⟨D, S, ss, h1, h2, h3, h4, h5⟩, few⟩ := h
  obtain ⟨l, c, k, n, _, at_⟩ := id hp
  exact ⟨⟨D, S, ss, b _ _ (hp.ne_tup h1) h1, b _ _ (ne_of h2 at_ (by intro z; cases z)) h2, h3, b _ _ h3 h4, h5.but hp b⟩, few⟩
theorem LandAt.same {p : Addr} {H H' : Hp} {t : Addr} {sg : List Sgn} {sh : List Sht} (s : Same H H') (h : LandAt p H t sg sh) : LandAt p H' t sg sh := by
  obtain ⟨⟨D, S, ss, h1, h2, h3, h4, h5⟩, few⟩ := h
  exact ⟨⟨D, S, ss, s _ _ h1, s _ _ h2, h3, s _ _ h4, h5.same s⟩, few⟩
theorem lt_inj : ∀ a b : Fin 4, (Lt a == Lt b) = decide (a = b) := by decide +kernel
theorem shD_eqv (a b : Sht) : PyData.eqv (shD a) (shD b) = decide (a = b) := by
  obtain ⟨x, y, l⟩ := a
  obtain ⟨x', y', l'⟩ := b
  simp only [shD, PyData.eqv, PyData.eqvAll, Bool.and_true]
  rw [lt_inj]
  by_cases h1 : x = x' <;> by_cases h2 : y = y' <;> by_cases h3 : l = l' <;> simp [h1, h2, h3]
theorem sh_any (sh : List Sht) (w : Sht) : ((sh.map shD).any fun z => PyData.eqv z (shD w)) = decide (w ∈ sh) := by
  rw [List.any_map]
  induction sh with
  | nil => rfl
  | cons a sh ih =>
    rw [List.any_cons, ih]
    show (PyData.eqv (shD a) (shD w) || _) = _
    rw [shD_eqv]
    by_cases h : a = w
    · subst h; simp
    · simp [h, Ne.symm h]
theorem lt_ok : ∀ l : Fin 4, PyData.strOk (Lt l) = true := by decide +kernel
theorem shD_lay (w : Sht) : PyData.canLay0 (shD w) = true ∧ (shD w).depth = 1 := by
  obtain ⟨x, y, l⟩ := w
  refine ⟨?_, ?_⟩
  · simp [shD, PyData.canLay0, PyData.canLayAll0, lt_ok]
  · simp [shD, PyData.depth, PyData.depthAll]
theorem shD_shaped (w : Sht) : SeqAt.shaped (shD w) = true := by
  obtain ⟨h1, h2⟩ := shD_lay w
  exact Bool.and_eq_true_iff.mpr ⟨h1, decide_eq_true (by rw [h2]; decide)⟩
theorem shs_all : ∀ sh : List Sht, PyData.canLayAll0 (sh.map shD) = true ∧ PyData.depthAll (sh.map shD) ≤ 1
  | [] => ⟨rfl, Nat.zero_le _⟩
  | w :: r => by
    obtain ⟨i1, i2⟩ := shs_all r
    obtain ⟨h1, h2⟩ := shD_lay w
    refine ⟨?_, ?_⟩
    · show (PyData.canLay0 (shD w) && PyData.canLayAll0 (r.map shD)) = true
      rw [h1, i1]; rfl
    · show max (shD w).depth (PyData.depthAll (r.map shD)) ≤ 1
      omega
theorem shs_shaped (sh : List Sht) : SeqAt.shaped (.list (sh.map shD)) = true := by
  obtain ⟨h1, h2⟩ := shs_all sh
  exact Bool.and_eq_true_iff.mpr ⟨h1, decide_eq_true (by show PyData.depthAll _ + 1 ≤ 64; omega)⟩
--@@SPLIT
/-! ### a land drawn -/
theorem nm_len {z : Str} (h : nmL z.cps.toList = true) : 1 ≤ z.length ∧ z.length ≤ 8 := by
  have h1 := (Bool.and_eq_true_iff.mp h).1
  obtain ⟨h2, h3⟩ := Bool.and_eq_true_iff.mp (show (decide (1 ≤ (z.cps.toList.length : Int)) && decide ((z.cps.toList.length : Int) ≤ 8)) = true from h1)
  rw [len_toList] at h2 h3
  have := of_decide_eq_true h2
  have := of_decide_eq_true h3
  omega
theorem sg_put {sg : List Sgn} {x y : Int} {z : Str} (h : sgAt sg x y = none) : putK (kvsL sg) [.inl x, .inl y] (.str z) = kvsL (sg ++ [((x, y), z)]) := by
  rw [putK_new _ (by rw [valV_sg, h]; rfl)]
  unfold kvsL
  rw [List.map_append]
  rfl
theorem kvsL_len (sg : List Sgn) : (kvsL sg).length = sg.length := List.length_map _
/-- a place drawn: three goes -/
theorem three {r : Int} (h0 : 0 ≤ r) (h1 : r < 3) : ∃ z : Str, atI [V.str (PySem.Str.ofString "oak"), .str (PySem.Str.ofString "elm"), .str (PySem.Str.ofString "x")] r = some (.str z) := by
  obtain rfl | rfl | rfl : r = 0 ∨ r = 1 ∨ r = 2 := by omega
  all_goals exact ⟨_, rfl⟩
theorem ne_lt {r : Int} (h0 : 0 ≤ r) (h1 : r < 2) : ∃ l : Fin 4, atI (PySem.Str.ofString "ne").cps.toList r = some (cd l) := by
  obtain rfl | rfl : r = 0 ∨ r = 1 := by omega
  · exact ⟨0, by decide +kernel⟩
  · exact ⟨1, by decide +kernel⟩
def spLand : Sp := fun vs H Q _ => ∃ (p : Addr) (m : Nat), vs = [.ref p, .int (m : Nat)] ∧ m ≤ 10 ∧ Pool H p ∧ ∀ H' t sg sh, But p H H' → Pool H' p → LandAt p H' t sg sh → Q (.ref t) H'
/-- the state of the signs' dict -/
structure SgIn (p : Addr) (H H' : Hp) (D : Addr) (n : Nat) : Prop where
  but : But p H H'
  pool : Pool H' p
  ex : ∃ sg, H' D = some (.dT (kvsL sg)) ∧ sg.length ≤ n
theorem SgIn.next {p : Addr} {H H1 H2 : Hp} {D : Addr} {n : Nat} (h : SgIn p H H1 D n) (nDp : D ≠ p) (b : But p H1 H2) (hp : Pool H2 p) : SgIn p H H2 D (n + 1) := by
  obtain ⟨sg, e, l⟩ := h.ex
  exact ⟨h.but.trans b, hp, sg, b _ _ nDp e, by omega⟩
theorem SgIn.put {p : Addr} {H H1 H2 : Hp} {D t : Addr} {n : Nat} {x y : Int} {z : Str} {sg : List Sgn} (h : SgIn p H H1 D n) (nD : H D = none) (nDp : D ≠ p) (b : But p H1 H2) (hp : Pool H2 p) (e2 : H2 D = some (.dT (kvsL sg))) (l : sg.length ≤ n) (no : sgAt sg x y = none) (ht : H2 t = some (.tup [.int x, .int y])) (hn : n ≤ 100) :
    ∃ H4, DPut H2 D (.ref t) (.str z) H4 ∧ SgIn p H H4 D (n + 1) ∧ ∀ b o, b ≠ D → H2 b = some o → H4 b = some o := by
  refine ⟨_, DPut.t (k := [.inl x, .inl y]) e2 ht (small1000 (by rw [kvsL_len]; omega)), ⟨(h.but.trans b).mut nD, hp.upd nDp, _, by rw [upd_same, sg_put no], ?_⟩, fun c o ne ho => by rw [upd_ne ne]; exact ho⟩
  rw [List.length_append]
  exact Nat.succ_le_succ l
theorem ok_Lland (T : Top w K mg) : FnOk P w K mg base CX0 4 T.a_Lland T.fd_Lland ["_law_pool_here", "_law_many"] spLand := by
  have G_Ltake := ok_Ltake (P := P) (w := w) (base := base) T
  have G_Lnames := ok_Lnames (P := P) (w := w) (base := base) T
  refine T.F_Lland.ok sc_Lland (fun vs H Q E h => ?_) (fun cdv A outer s H vs Q E hr h => ?_)
  · obtain ⟨p, m, rfl, _⟩ := h
    rfl
  · obtain ⟨p, m, rfl, hm, hp, q⟩ := h
    refine ⟨_, (pss_cons (ps_set (i := 2) sc_Lland.nd rfl (.inl rfl) pe_dnewT)
      (pss_cons (ps_for PassesOwn.never rfl (pi_list (pe_call G_Lnames hr (by rfl) T.g_Lnames T.F_Lnames.kp T.b_Lnames .nil pass0 (pa_cons (pv 0) (pa_cons (pe_op op_add pe_int (pv 1)) pa_nil)))) (pg_name (i := 3) sc_Lland.nd rfl (.inl rfl)) (pss_cons (ps_set (i := 4) sc_Lland.nd rfl (.inl rfl) (pe_tup (pa_cons (pe_op op_sub (pe_call G_Ltake (hr.mono (by decide)) (by rfl) T.g_Ltake T.F_Ltake.kp T.b_Ltake .nil pass0 (pa_cons (pv 0) (pa_cons pe_int pa_nil))) pe_int) (pa_cons (pe_op op_sub (pe_call G_Ltake (hr.mono (by decide)) (by rfl) T.g_Ltake T.F_Ltake.kp T.b_Ltake .nil pass0 (pa_cons (pv 0) (pa_cons pe_int pa_nil))) pe_int) pa_nil))))
      (pss_one (ps_if (pt_cmp (pc_dnotin (hu_of hr) (pv 4) (pv 2))) (pss_one (ps_dput (hu_of hr) (pv 2) (pv 4) (pe_op op_add_str (pe_bm0 PySem.F.plainAttrs_str PySem.F.slot_str_upper PySem.F.type_str_upper mt_upper (pe_ix ix_str (pv 3) pe_int (fun _ _ => rfl))) (pe_slice sl_str (pv 3) (po_some pe_int) po_none)) rfl)) pss_nil))))
      (pss_cons (ps_for PassesOwn.never rfl (pi_range1 (by rfl) T.m_range (pa_cons (pe_call G_Ltake (hr.mono (by decide)) (by rfl) T.g_Ltake T.F_Ltake.kp T.b_Ltake .nil pass0 (pa_cons (pv 0) (pa_cons pe_int pa_nil))) pa_nil)) (pg_name (i := 5) sc_Lland.nd rfl (.inl rfl)) (pss_cons (ps_set (i := 4) sc_Lland.nd rfl (.inl rfl) (pe_tup (pa_cons (pe_op op_sub (pe_call G_Ltake (hr.mono (by decide)) (by rfl) T.g_Ltake T.F_Ltake.kp T.b_Ltake .nil pass0 (pa_cons (pv 0) (pa_cons pe_int pa_nil))) pe_int) (pa_cons (pe_op op_sub (pe_call G_Ltake (hr.mono (by decide)) (by rfl) T.g_Ltake T.F_Ltake.kp T.b_Ltake .nil pass0 (pa_cons (pv 0) (pa_cons pe_int pa_nil))) pe_int) pa_nil))))
      (pss_one (ps_if (pt_cmp (pc_dnotin (hu_of hr) (pv 4) (pv 2))) (pss_one (ps_dput (hu_of hr) (pv 2) (pv 4) (pe_ix ix_tup (pe_tup (pa_cons pe_str (pa_cons pe_str (pa_cons pe_str pa_nil)))) (pe_call G_Ltake (hr.mono (by decide)) (by rfl) T.g_Ltake T.F_Ltake.kp T.b_Ltake .nil pass0 (pa_cons (pv 0) (pa_cons pe_int pa_nil))) (fun _ _ => rfl)) rfl)) pss_nil))))
      (pss_cons (ps_set (i := 6) sc_Lland.nd rfl (.inl rfl) (pe_lst pa_nil))
      (pss_cons (ps_for PassesOwn.never rfl (pi_range1 (by rfl) T.m_range (pa_cons (pe_call G_Ltake (hr.mono (by decide)) (by rfl) T.g_Ltake T.F_Ltake.kp T.b_Ltake .nil pass0 (pa_cons (pv 0) (pa_cons pe_int pa_nil))) pa_nil)) (pg_name (i := 5) sc_Lland.nd rfl (.inl rfl)) (pss_one (ps_expr (pe_bm PySem.F.plainAttrs_list PySem.F.slot_list_append PySem.F.type_list_append mt_append (pv 6) (pa_cons (pe_tup (pa_cons (pe_op op_sub (pe_call G_Ltake (hr.mono (by decide)) (by rfl) T.g_Ltake T.F_Ltake.kp T.b_Ltake .nil pass0 (pa_cons (pv 0) (pa_cons pe_int pa_nil))) pe_int) (pa_cons (pe_op op_sub (pe_call G_Ltake (hr.mono (by decide)) (by rfl) T.g_Ltake T.F_Ltake.kp T.b_Ltake .nil pass0 (pa_cons (pv 0) (pa_cons pe_int pa_nil))) pe_int) (pa_cons (pe_ix ix_str pe_str (pe_call G_Ltake (hr.mono (by decide)) (by rfl) T.g_Ltake T.F_Ltake.kp T.b_Ltake .nil pass0 (pa_cons (pv 0) (pa_cons pe_int pa_nil))) (fun _ _ => rfl)) pa_nil)))) pa_nil)))))
      (pss_one (ps_ret (pe_tup (pa_cons (pv 2) (pa_cons (pv 6) pa_nil)))))))))), ?_⟩
    intro D nD
    have sD := same_upd (o := .dT []) nD
    have nDp : D ≠ p := hp.ne_new nD
    refine ⟨.ref p, rfl, .int (m : Nat), rfl, _, _, rfl, rfl, p, 1 + m, by show [V.ref p, V.int (1 + (m : Int))] = [.ref p, .int ((1 + m : Nat) : Int)]; congr 3, by omega, hp.same sD, fun H1 L zs b1 hp1 nL eL lz nd nm => ?_⟩
    have nLp : L ≠ p := hp.ne_new (sD.free nL)
    have LD : L ≠ D := fun z => by rw [z, upd_same] at nL; cases nL
    -- behind a drawn place: a sign is put there if there is none
    have there : ∀ {n : Nat} {H2 H4 : Hp} {t : Addr} {x y : Int}, SgIn p H H2 D n → But p H2 H4 → Pool H4 p → H4 t = none → ∃ o : Option Str, DGet (upd H4 t (.tup [.int x, .int y])) D (.ref t) (o.map V.str) ∧ SgIn p H (upd H4 t (.tup [.int x, .int y])) D (n + 1) ∧
        (o = none → n ≤ 100 → ∀ {H5 : Hp} {z : Str}, But p (upd H4 t (.tup [.int x, .int y])) H5 → Pool H5 p → ∃ H6, DPut H5 D (.ref t) (.str z) H6 ∧ SgIn p H H6 D (n + 1) ∧ ∀ b o, b ≠ D → H5 b = some o → H6 b = some o) := fun {n H2 H4 t x y} h b4 hp4 nt => by
      have st := same_upd (o := .tup [.int x, .int y]) nt
      have hp5 := hp4.upd (o := .tup [.int x, .int y]) (hp4.ne_new nt)
      obtain ⟨sg, eD, l⟩ := h.ex
      have eD5 := st _ _ (b4 _ _ nDp eD)
      have g := DGet.t (k := [.inl x, .inl y]) eD5 (b := t) upd_same
      rw [valV_sg] at g
      refine ⟨_, g, h.next nDp (b4.trans (But.of st)) hp5, fun no hn H5 z b5 hp => ?_⟩
      have tp : t ≠ p := hp4.ne_new nt
      exact h.put nD nDp ((b4.trans (But.of st)).trans b5) hp (b5 _ _ nDp eD5) l no (b5 _ _ tp upd_same) hn
    refine ⟨L, rfl, ⟨_, .inl (.inl eL)⟩, for_it (walk_list (xs := zs.map V.str)) (fun i σ H' => SgIn p H H' D i ∧ H' L = some (.lst (zs.map V.str)) ∧ ∃ y3 y4 y5 y6, σ = [some (.ref p), some (.int (m : Nat)), some (.ref D), y3, y4, y5, y6])
      ⟨⟨(But.of sD).trans b1, hp1, [], b1 _ _ nDp upd_same, Nat.le_refl _⟩, eL, none, none, none, none, rfl⟩ (fun i σ H' _ h => .inl (.inl h.2.1)) ?_ ?_⟩
    · rintro i v σ H2 H3 hi ⟨sg, eL2, y3, y4, y5, y6, rfl⟩ ⟨rfl, hx⟩
      obtain ⟨z, hz, rfl⟩ : ∃ z, zs[i]? = some z ∧ v = V.str z := by
        rw [List.getElem?_map] at hx
        cases e : zs[i]? with
        | none => rw [e] at hx; cases hx
        | some z => rw [e] at hx; exact ⟨z, rfl, (Option.some.inj hx).symm⟩
      obtain ⟨z1, z8⟩ := nm_len (nm z (List.mem_of_getElem? hz))
      rw [List.length_map] at hi
      refine ⟨_, rfl, p, 5, rfl, by decide, by decide, sg.pool, fun H4 r b4 hp4 r0 r1 => ⟨_, _, rfl, rfl, _, rfl, p, 5, rfl, by decide, by decide, hp4, fun H5 r' b5 hp5 _ _ => ⟨_, _, rfl, rfl, by show 2 ≤ sizeLine; decide, fun t nt => ?_⟩⟩⟩
      obtain ⟨o, g, sg2, put⟩ := there (x := r - 2) (y := r' - 2) sg (b4.trans b5) hp5 nt
      have eL3 : upd H5 t (.tup [.int (r - 2), .int (r' - 2)]) L = some (.lst (zs.map V.str)) := same_upd nt _ _ ((b4.trans b5) _ _ nLp eL2)
      refine ⟨.ref t, rfl, .ref D, rfl, D, _, rfl, g, _, rfl, ?_⟩
      cases o with
      | some z' => exact iteDN rfl ⟨sg2, eL3, _, _, _, _, rfl⟩
      | none =>
        obtain ⟨c, hc⟩ := str_at (z := z) (i := 0) (by decide) (by omega)
        have hu := PyProof.Rows.len_upper (⟨#[c]⟩ : Str)
        have hu1 : (⟨#[c]⟩ : Str).length = 1 := rfl
        have hcut := cut_len z (some 1) none
        obtain ⟨H6, dp, sg3, old⟩ := put rfl (by omega) (z := Txt.upper ⟨#[c]⟩ ++ cutS z (some 1) none) (But.refl _ _) sg2.pool
        refine iteDY rfl ⟨.str z, rfl, z, 0, c, rfl, rfl, thou (by omega), hc, rfl, _, rfl, rfl, (by rw [hu1]; decide), .str z, rfl, 1, rfl, z, rfl, thou (by omega), _, _, rfl, rfl, thou (by omega), ?_⟩
        exact ⟨.ref D, rfl, .ref t, rfl, D, H6, rfl, dp, sg3, old _ _ LD eL3, _, _, _, _, rfl⟩
    rintro σ H2 ⟨sg, _, y3, y4, y5, y6, rfl⟩
    rw [List.length_map] at sg
    refine ⟨.ref p, rfl, p, 4, rfl, by decide, by decide, sg.pool, fun H3 r b3 hp3 r0 r1 => ?_⟩
    obtain ⟨k, rfl⟩ : ∃ k : Nat, r = k := ⟨r.toNat, by omega⟩
    refine ⟨k, rfl, by omega, by omega, for_range (n := k) (fun i σ H' => SgIn p H H' D (zs.length + 1 + i) ∧ ∃ y3 y4 y5 y6, σ = [some (.ref p), some (.int (m : Nat)), some (.ref D), y3, y4, y5, y6]) ⟨sg.next nDp b3 hp3, _, _, _, _, rfl⟩ ?_ ?_⟩
    · rintro i σ H4 hi ⟨sg, y3, y4, y5, y6, rfl⟩
      refine ⟨_, rfl, p, 5, rfl, by decide, by decide, sg.pool, fun H5 r b5 hp5 r0 r1 => ⟨_, _, rfl, rfl, _, rfl, p, 5, rfl, by decide, by decide, hp5, fun H6 r' b6 hp6 _ _ => ⟨_, _, rfl, rfl, by show 2 ≤ sizeLine; decide, fun t nt => ?_⟩⟩⟩
      obtain ⟨o, g, sg2, put⟩ := there (x := r - 2) (y := r' - 2) sg (b5.trans b6) hp6 nt
      refine ⟨.ref t, rfl, .ref D, rfl, D, _, rfl, g, _, rfl, ?_⟩
      cases o with
      | some z' => exact iteDN rfl ⟨sg2, _, _, _, _, rfl⟩
      | none =>
        refine iteDY rfl ⟨by decide, fun t3 nt3 => ⟨.ref p, rfl, p, 3, rfl, by decide, by decide, (sg2.pool.same (same_upd nt3)), fun H7 j b7 hp7 j0 j1 => ?_⟩⟩
        obtain ⟨z, hz⟩ := three j0 j1
        have st3 := same_upd (o := .tup [.str "oak", .str "elm", .str "x"]) nt3
        have t3p : t3 ≠ p := sg2.pool.ne_new nt3
        obtain ⟨H8, dp, sg3, old⟩ := put rfl (by omega) (z := z) ((But.of st3).trans b7) hp7
        exact ⟨t3, _, _, _, rfl, rfl, .inl (.inl (b7 _ _ t3p upd_same)), hz, .ref D, rfl, .ref t, rfl, D, H8, rfl, dp, sg3, _, _, _, _, rfl⟩
    rintro σ H4 ⟨sg, y3, y4, y5, y6, rfl⟩
    obtain ⟨sn, eD, _⟩ := sg.ex
    refine ⟨Nat.zero_le _, fun S nS => ?_⟩
    have sS := same_upd (o := .lst []) nS
    have nS0 : H S = none := sg.but.free (sg.pool.ne_new nS) nS
    have nSp : S ≠ p := sg.pool.ne_new nS
    have DS : D ≠ S := ne_of_none eD nS
    refine ⟨.ref p, rfl, p, 8, rfl, by decide, by decide, sg.pool.same sS, fun H5 r b5 hp5 r0 r1 => ?_⟩
    obtain ⟨k, rfl⟩ : ∃ k : Nat, r = k := ⟨r.toNat, by omega⟩
    refine ⟨k, rfl, by omega, by omega, for_range (n := k) (fun i σ H' => But p H H' ∧ Pool H' p ∧ H' D = some (.dT (kvsL sn)) ∧ ∃ ss sh y3 y4 y5, H' S = some (.lst ss) ∧ ShsAt H' ss sh ∧ sh.length = i ∧ σ = [some (.ref p), some (.int (m : Nat)), some (.ref D), y3, y4, y5, some (.ref S)])
      ⟨(sg.but.trans (But.of sS)).trans b5, hp5, b5 _ _ nDp (sS _ _ eD), [], [], _, _, _, b5 _ _ nSp upd_same, .nil, rfl, rfl⟩ ?_ ?_⟩
    · rintro i σ H6 hi ⟨b6, hp6, eD6, ss, sh, y3, y4, y5, eS6, hs6, ls, rfl⟩
      refine ⟨.ref S, rfl, .inl ⟨rfl, _, .inl (.inl eS6)⟩, .ref p, rfl, p, 5, rfl, by decide, by decide, hp6, fun H7 r b7 hp7 _ _ => ⟨_, _, rfl, rfl, .ref p, rfl, p, 5, rfl, by decide, by decide, hp7, fun H8 r' b8 hp8 _ _ => ⟨_, _, rfl, rfl, .ref p, rfl, p, 2, rfl, by decide, by decide, hp8, fun H9 j b9 hp9 j0 j1 => ?_⟩⟩⟩
      obtain ⟨l, hl⟩ := ne_lt j0 j1
      refine ⟨_, _, _, rfl, rfl, by decide +kernel, hl, by show 3 ≤ sizeLine; decide, fun t nt => ?_⟩
      have b69 := (b7.trans b8).trans b9
      have st := same_upd (o := .tup [.int (r - 2), .int (r' - 2), .str (Lt l)]) nt
      have hp10 := hp9.upd (o := .tup [.int (r - 2), .int (r' - 2), .str (Lt l)]) (hp9.ne_new nt)
      have b6t := b69.trans (But.of st)
      have eS10 := b6t _ _ nSp eS6
      have tS : t ≠ S := Ne.symm (ne_of_none (b69 _ _ nSp eS6) nt)
      have put : ∀ {v : V} {w : Sht}, (∃ a, v = V.ref a ∧ upd H9 t (.tup [.int (r - 2), .int (r' - 2), .str (Lt l)]) a = some (.tup [.int w.1, .int w.2.1, .str (Lt w.2.2)])) → ∃ a, v = V.ref a ∧ upd (upd H9 t (.tup [.int (r - 2), .int (r' - 2), .str (Lt l)])) S (.lst (ss ++ [.ref t])) a = some (.tup [.int w.1, .int w.2.1, .str (Lt w.2.2)]) := fun ⟨a, ea, h⟩ =>
        ⟨a, ea, by rw [upd_ne (ne_of h eS10 (by intro z; cases z))]; exact h⟩
      refine ⟨S, ss, _, rfl, rfl, eS10, small1000 (by rw [hs6.len]; omega), (b6.trans b6t).mut nS0, hp10.upd nSp, by rw [upd_ne DS]; exact b6t _ _ nDp eD6, ss ++ [.ref t], sh ++ [(r - 2, r' - 2, l)], _, _, _, upd_same, ?_, by rw [List.length_append, ls]; rfl, rfl⟩
      exact F2.snoc ((hs6.but hp6 b6t).imp fun _ _ => put) ⟨t, rfl, by rw [upd_ne tS]; exact upd_same⟩
    · rintro σ H6 ⟨b6, hp6, eD6, ss, sh, y3, y4, y5, eS6, hs6, ls, rfl⟩
      refine ⟨.ref D, rfl, .ref S, rfl, by show 2 ≤ sizeLine; decide, fun t nt => ?_⟩
      have st := same_upd (o := .tup [.ref D, .ref S]) nt
      exact q _ t sn sh (b6.trans (But.of st)) (hp6.same st) ⟨⟨D, S, ss, upd_same, st _ _ eD6, nSp, st _ _ eS6, hs6.same st⟩, by omega⟩
--@@SPLIT
/-! ### an entry written in the land -/
/-- an entry written at (x, y), looking to l: where it leads, and that all facts of it are so -/
structure StepOk (sg : List Sgn) (sh : List Sht) (x y : Int) (l : Fin 4) (e : Ent) (x' y' : Int) (l' : Fin 4) : Prop where
  swap : e.isSwap = false
  look : ∀ a, nlook a (some l) e = some l'
  east : x' = nx x (some l) e
  north : y' = ny y (some l) e
  so : ∀ (i : Nat) (k : Wk) (sx sy : Int), k.look = some l → k.x + sx = x → k.y + sy = y → ∀ d ∈ factsOf i k e, SoF sg sh sx sy d
theorem wx_add (x s : Int) (l : Fin 4) : wx x l + s = wx (x + s) l := by
  match l with
  | 3 => show x - 1 + s = x + s - 1; omega
  | 0 => rfl
  | 1 => rfl
  | 2 => rfl
theorem wy_add (y s : Int) (l : Fin 4) : wy y l + s = wy (y + s) l := by
  match l with
  | 2 => show y - 1 + s = y + s - 1; omega
  | 0 => rfl
  | 1 => rfl
  | 3 => rfl
def wayAt (x y : Int) (l : Fin 4) (j : Nat) : Sht := (wx (x + (j : Int) * dx l) l, wy (y + (j : Int) * dy l) l, wside l)
section
variable {sg : List Sgn} {sh : List Sht} {x y : Int} {l : Fin 4}
theorem step_turn (q : Fin 3) : StepOk sg sh x y l (.turn q) x y (l + tq q) := ⟨rfl, fun _ => rfl, rfl, rfl, fun _ _ _ _ _ _ _ _ m => nomatch m⟩
theorem step_bump (h : wayAt x y l 0 ∈ sh) : StepOk sg sh x y l .bump x y l := ⟨rfl, fun _ => rfl, rfl, rfl, fun i k sx sy el ex ey d m => by
  have ef : factsOf i k .bump = [wayD i "shut" k.x k.y l] := by unfold factsOf; rw [el]
  rw [ef] at m
  rw [List.mem_singleton.mp m]
  refine .shut ?_
  rw [wx_add, wy_add, ex, ey]
  have e : wayAt x y l 0 = (wx x l, wy y l, wside l) := by
    show (wx (x + 0 * dx l) l, wy (y + 0 * dy l) l, wside l) = _
    rw [Int.zero_mul, Int.zero_mul, Int.add_zero, Int.add_zero]
  exact e ▸ h⟩
theorem step_go {n : Fin 9} (h : ∀ j, j < n.val + 1 → wayAt x y l j ∉ sh) : StepOk sg sh x y l (.go n) (x + ((n.val : Int) + 1) * dx l) (y + ((n.val : Int) + 1) * dy l) l := ⟨rfl, fun _ => rfl, rfl, rfl, fun i k sx sy el ex ey d m => by
  have ef : factsOf i k (.go n) = openL i k.x k.y l (n.val + 1) := by unfold factsOf; rw [el]
  rw [ef] at m
  obtain ⟨j, hj, rfl⟩ := List.mem_map.mp m
  refine .opn ?_
  rw [wx_add, wy_add, show k.x + (j : Int) * dx l + sx = x + (j : Int) * dx l by omega, show k.y + (j : Int) * dy l + sy = y + (j : Int) * dy l by omega]
  exact h j (List.mem_range.mp hj)⟩
theorem step_spy {n : Fin 9} {z : Str} (h : sgAt sg (x + ((n.val : Int) + 1) * dx l) (y + ((n.val : Int) + 1) * dy l) = some z) : StepOk sg sh x y l (.spy n z) x y l := ⟨rfl, fun _ => rfl, rfl, rfl, fun i k sx sy el ex ey d m => by
  have ef : factsOf i k (.spy n z) = [factD i "sign" (k.x + ((n.val : Int) + 1) * dx l) (k.y + ((n.val : Int) + 1) * dy l) z] := by unfold factsOf; rw [el]
  rw [ef] at m
  rw [List.mem_singleton.mp m]
  refine .sign ?_
  rw [show k.x + ((n.val : Int) + 1) * dx l + sx = x + ((n.val : Int) + 1) * dx l by omega, show k.y + ((n.val : Int) + 1) * dy l + sy = y + ((n.val : Int) + 1) * dy l by omega]
  exact h⟩
theorem step_sign {z : Str} (h : sgAt sg x y = some z) : StepOk sg sh x y l (.sign z) x y l := ⟨rfl, fun _ => rfl, rfl, rfl, fun i k sx sy _ ex ey d m => by
  rw [List.mem_singleton.mp (show d ∈ [factD i "sign" k.x k.y z] from m)]
  refine .sign ?_
  rw [ex, ey]
  exact h⟩
theorem step_bare (h : sgAt sg x y = none) : StepOk sg sh x y l .bare x y l := ⟨rfl, fun _ => rfl, rfl, rfl, fun i k sx sy _ ex ey d m => by
  rw [List.mem_singleton.mp (show d ∈ [factD i "bare" k.x k.y ""] from m)]
  refine .bare ?_
  rw [ex, ey]
  exact h⟩
end
theorem three_w {r : Int} (h0 : 0 ≤ r) (h1 : r < 3) : ∃ q : Fin 3, atI [V.str (PySem.Str.ofString "left"), .str (PySem.Str.ofString "right"), .str (PySem.Str.ofString "back")] r = some (.str (ws (Ent.kind (.turn q)))) := by
  obtain rfl | rfl | rfl : r = 0 ∨ r = 1 ∨ r = 2 := by omega
  · exact ⟨0, rfl⟩
  · exact ⟨1, rfl⟩
  · exact ⟨2, rfl⟩
theorem units65 {k : Nat} {A : Around} (r : Room k A) : A.units + 65 < cLine := by have := r.un; omega
def spEntry : Sp := fun vs H Q _ => ∃ (p t : Addr) (k : Int) (pl : Addr) (x y : Int) (l : Fin 4) (sg : List Sgn) (sh : List Sht), vs = [.ref p, .ref t, .int k, .ref pl, .str (Lt l)] ∧ 3 ≤ k ∧ k ≤ 11 ∧ Pool H p ∧ LandAt p H t sg sh ∧ H pl = some (.tup [.int x, .int y]) ∧
  ∀ H' r en pl' e x' y' l', But p H H' → Pool H' p → H' r = some (.tup [.ref en, .ref pl', .str (Lt l')]) → H' en = some (.tup (Ent.vs e)) → H' pl' = some (.tup [.int x', .int y']) → StepOk sg sh x y l e x' y' l' → Q (.ref r) H'
theorem ok_Lentry (T : Top w K mg) : FnOk P w K mg base CX0 3 T.a_Lentry T.fd_Lentry ["_law_pool_here", "_law_land_here", "_law_pick", "_law_place", "_law_look"] spEntry := by
  have G_Ltake := ok_Ltake (P := P) (w := w) (base := base) T
  have G_Loff := ok_Loff (P := P) (w := w) (base := base) T
  have G_Lside := ok_Lside (P := P) (w := w) (base := base) T
  refine T.F_Lentry.ok sc_Lentry (fun vs H Q E h => ?_) (fun cdv A outer s H vs Q E hr h => ?_)
  · obtain ⟨p, t, k, pl, x, y, l, sg, sh, rfl, _⟩ := h
    rfl
  · obtain ⟨p, t, k, pl, x, y, l, sg, sh, rfl, k0, k1, hp, hl, hpl, q⟩ := h
    obtain ⟨⟨D, S, ss, ht, hD, Sp, hS, hss⟩, few⟩ := id hl
    refine ⟨_, (pss_cons (ps_asg (pv 1) (pg_tup rfl (pgs_cons (pg_name (i := 5) sc_Lentry.nd rfl (.inl rfl)) (pgs_cons (pg_name (i := 6) sc_Lentry.nd rfl (.inl rfl)) pgs_nil))))
      (pss_cons (ps_if (pt_cmpR op_eq (pv 2) pe_int (nomark _)) (pss_cons (ps_set (i := 7) sc_Lentry.nd rfl (.inl rfl) (pe_ix ix_tup (pe_tup (pa_cons pe_str (pa_cons pe_str (pa_cons pe_str pa_nil)))) (pe_call G_Ltake (hr.mono (by decide)) (by rfl) T.g_Ltake T.F_Ltake.kp T.b_Ltake .nil pass0 (pa_cons (pv 0) (pa_cons pe_int pa_nil))) (fun _ _ => rfl)))
      (pss_one (ps_ret (pe_tup (pa_cons (pe_tup (pa_cons (pv 7) pa_nil)) (pa_cons (pv 3) (pa_cons (pe_ix ix_str pe_str (pe_op op_mod (pe_op op_add (pe_bm PySem.F.plainAttrs_str PySem.F.slot_str_index PySem.F.type_str_index mt_sindex pe_str (pa_cons (pv 4) pa_nil)) (pe_dget (hu_of hr) (pe_disp (pps_cons pe_str pe_int (pps_cons pe_str pe_int (pps_cons pe_str pe_int pps_nil))) (by rfl) (by rfl) (fun z => by cases z) (by decide)) (pv 7) (fun _ _ => rfl))) pe_int) (fun _ _ => rfl)) pa_nil))))))) pss_nil)
      (pss_cons (ps_if (pt_cmpR op_lt (pv 2) pe_int (nomark _)) (pss_cons (ps_set (i := 8) sc_Lentry.nd rfl (.inl rfl) (pe_op op_add pe_int (pe_call G_Ltake (hr.mono (by decide)) (by rfl) T.g_Ltake T.F_Ltake.kp T.b_Ltake .nil pass0 (pa_cons (pv 0) (pa_cons pe_int pa_nil)))))
      (pss_cons (ps_set (i := 9) sc_Lentry.nd rfl (.inl rfl) pe_int)
      (pss_cons (ps_while PassesOwn.never (PW.pt (pw_and (pt_cmpR op_lt (pv 9) (pv 8) (nomark _)) (pw_and1 (pt_cmpR (op_notInD (units65 hr)) (pe_call G_Lside hr (by rfl) T.g_Lside T.F_Lside.kp T.b_Lside .nil pass0 (pa_cons (pe_call G_Loff (hr.mono (by decide)) (by rfl) T.g_Loff T.F_Loff.kp T.b_Loff .nil pass0 (pa_cons (pv 3) (pa_cons (pv 4) (pa_cons (pv 9) pa_nil)))) (pa_cons (pv 4) pa_nil))) (pv 6) (by rfl))))) (pss_one (ps_set (i := 9) sc_Lentry.nd rfl (.inl rfl) (pe_op op_add (pv 9) pe_int))))
      (pss_cons (ps_if (pt_cmpR op_eq (pv 9) pe_int (nomark _)) (pss_one (ps_ret (pe_tup (pa_cons (pe_tup (pa_cons pe_str pa_nil)) (pa_cons (pv 3) (pa_cons (pv 4) pa_nil)))))) pss_nil)
      (pss_one (ps_ret (pe_tup (pa_cons (pe_tup (pa_cons pe_str (pa_cons (pv 9) pa_nil))) (pa_cons (pe_call G_Loff (hr.mono (by decide)) (by rfl) T.g_Loff T.F_Loff.kp T.b_Loff .nil pass0 (pa_cons (pv 3) (pa_cons (pv 4) (pa_cons (pv 9) pa_nil)))) (pa_cons (pv 4) pa_nil)))))))))) pss_nil)
      (pss_cons (ps_set (i := 10) sc_Lentry.nd rfl (.inl rfl) (pe_op op_add pe_int (pe_call G_Ltake (hr.mono (by decide)) (by rfl) T.g_Ltake T.F_Ltake.kp T.b_Ltake .nil pass0 (pa_cons (pv 0) (pa_cons pe_int pa_nil)))))
      (Evl.pss_cut (ps_if (PW.pt (pw_and (pt_cmpR op_eq (pv 2) pe_int (nomark _)) (pw_and1 (pt_cmp (pc_din (hu_of hr) (pe_call G_Loff (hr.mono (by decide)) (by rfl) T.g_Loff T.F_Loff.kp T.b_Loff .nil pass0 (pa_cons (pv 3) (pa_cons (pv 4) (pa_cons (pv 10) pa_nil)))) (pv 5)))))) (pss_one (ps_ret (pe_tup (pa_cons (pe_tup (pa_cons pe_str (pa_cons (pv 10) (pa_cons (pe_dget (hu_of hr) (pv 5) (pe_call G_Loff (hr.mono (by decide)) (by rfl) T.g_Loff T.F_Loff.kp T.b_Loff .nil pass0 (pa_cons (pv 3) (pa_cons (pv 4) (pa_cons (pv 10) pa_nil)))) (fun _ _ => rfl)) pa_nil)))) (pa_cons (pv 3) (pa_cons (pv 4) pa_nil)))))) pss_nil)
      (pss_cons (ps_if (pt_cmp (pc_din (hu_of hr) (pv 3) (pv 5))) (pss_one (ps_ret (pe_tup (pa_cons (pe_tup (pa_cons pe_str (pa_cons (pe_dget (hu_of hr) (pv 5) (pv 3) (fun _ _ => rfl)) pa_nil))) (pa_cons (pv 3) (pa_cons (pv 4) pa_nil)))))) pss_nil)
      (pss_one (ps_ret (pe_tup (pa_cons (pe_tup (pa_cons pe_str pa_nil)) (pa_cons (pv 3) (pa_cons (pv 4) pa_nil)))))))))))), ?_⟩
    refine ⟨.ref t, rfl, t, _, rfl, .inl (.inl ht), rfl, _, _, rfl, _, _, rfl, rfl, ?_⟩
    -- what is told at the end
    have fin : ∀ (H' : Hp) (e : Ent) (pl' : Addr) (x' y' : Int) (l' : Fin 4), But p H H' → Pool H' p → H' pl' = some (.tup [.int x', .int y']) → StepOk sg sh x y l e x' y' l' → ∀ en, H' en = none → ∀ r, upd H' en (.tup (Ent.vs e)) r = none →
        Q (.ref r) (upd (upd H' en (.tup (Ent.vs e))) r (.tup [.ref en, .ref pl', .str (Lt l')])) := fun H' e pl' x' y' l' b hp' hpl' st en nen r nr => by
      have s1 := same_upd (o := .tup (Ent.vs e)) nen
      have s2 := same_upd (o := .tup [.ref en, .ref pl', .str (Lt l')]) nr
      exact q _ r en pl' e x' y' l' (b.trans (But.of (s1.trans s2))) (hp'.same (s1.trans s2)) upd_same (s2 _ _ upd_same) ((s1.trans s2) _ _ hpl') st
    refine ⟨.int k, rfl, rfl, _, rfl, ite2 (fun e3 => ?_) (fun e3 => ?_)⟩
    · -- it turns
      refine ⟨by show 3 ≤ sizeLine; decide, fun t3 nt3 => ⟨.ref p, rfl, p, 3, rfl, by decide, by decide, hp.same (same_upd nt3), fun H1 j b1 hp1 j0 j1 => ?_⟩⟩
      obtain ⟨w3, hw3⟩ := three_w j0 j1
      have b01 := (But.of (same_upd (o := .tup [.str "left", .str "right", .str "back"]) nt3)).trans b1
      have t3p : t3 ≠ p := hp.ne_new nt3
      refine ⟨t3, _, _, _, rfl, rfl, .inl (.inl (b1 _ _ t3p upd_same)), hw3, ?_⟩
      have hpl1 := b01 _ _ (hp.ne_tup hpl) hpl
      refine ⟨_, rfl, by show 1 ≤ sizeLine; decide, fun en nen => ⟨.ref pl, rfl, rfl, _, rfl, _, _, l.val, [], rfl, rfl, occ l, ?_⟩⟩
      intro d nd
      have s1 := same_upd (o := .tup [.str (ws (Ent.kind (.turn w3)))]) nen
      have sd := same_upd (o := .dK []) nd
      refine ⟨upd_same, [(Sum.inr (PySem.Str.ofString "left"), .int 3), (Sum.inr (PySem.Str.ofString "right"), .int 1), (Sum.inr (PySem.Str.ofString "back"), .int 2)], rfl, Nat.le_of_ble_eq_true rfl, ?_⟩
      have sd2 : Same (upd H1 en (.tup [.str (ws (Ent.kind (.turn w3)))])) (upd (upd (upd H1 en (.tup [.str (ws (Ent.kind (.turn w3)))])) d (.dK [])) d (.dK (mergeK [] [((Sum.inr (PySem.Str.ofString "left") : Key), V.int 3), (Sum.inr (PySem.Str.ofString "right"), .int 1), (Sum.inr (PySem.Str.ofString "back"), .int 2)]))) := fun c o z => by
        rw [upd_ne (ne_of_none z nd)]
        exact sd _ _ z
      refine ⟨_, rfl, d, .int ((tq w3).val : Int), rfl, ?_, ?_⟩
      · have g := DGet.k (k := Sum.inr (ws (Ent.kind (.turn w3)))) (H := upd (upd (upd H1 en (.tup [.str (ws (Ent.kind (.turn w3)))])) d (.dK [])) d (.dK (mergeK [] [((Sum.inr (PySem.Str.ofString "left") : Key), V.int 3), (Sum.inr (PySem.Str.ofString "right"), .int 1), (Sum.inr (PySem.Str.ofString "back"), .int 2)]))) (a := d) upd_same
        rw [turnV w3] at g
        exact g
      · refine ⟨_, _, rfl, rfl, _, _, rfl, rfl, by show (0 : Int) < 4; decide, _, _, _, rfl, rfl, nesw_len, at_turn l w3, by show 3 ≤ sizeLine; decide, fun r nr => ?_⟩
        have s2 := same_upd (o := .tup [.ref en, .ref pl, .str (Lt (l + tq w3))]) nr
        have s02 := (s1.trans sd2).trans s2
        exact q _ r en pl (.turn w3) x y (l + tq w3) (b01.trans (But.of s02)) (hp1.same s02) upd_same ((sd2.trans s2) _ _ upd_same) (s02 _ _ hpl1) (step_turn w3)
    have k4 : ¬ k = 3 := fun z => e3 (by rw [z]; exact decide_eq_true rfl)
    refine ⟨.int k, rfl, _, _, rfl, rfl, _, rfl, ite2 (fun e8 => ?_) (fun e8 => ?_)⟩
    · -- it goes as far as it may
      refine ⟨.ref p, rfl, p, 3, rfl, by decide, by decide, hp, fun H1 j b1 hp1 j0 j1 => ⟨_, _, rfl, rfl, ?_⟩⟩
      obtain ⟨g, hg, g1, g3⟩ : ∃ g : Nat, 1 + j = (g : Int) ∧ 1 ≤ g ∧ g ≤ 3 := ⟨(1 + j).toNat, by omega, by omega, by omega⟩
      rw [show (fun i j => V.int (i + j)) 1 j = V.int (g : Int) from congrArg V.int hg]
      refine ⟨fun m σ' H' => ∃ n : Nat, n + m = g ∧ Same H1 H' ∧ σ' = [some (.ref p), some (.ref t), some (.int k), some (.ref pl), some (.str (Lt l)), some (.ref D), some (.ref S), none, some (.int (g : Nat)), some (.int (n : Nat)), none] ∧ ∀ j, j < n → wayAt x y l j ∉ sh, ⟨g, 0, by omega, Same.refl _, rfl, fun j h => nomatch h⟩, ?_⟩
      rintro m σ' H2 ⟨n, hn, s2, rfl, free⟩
      have b02 := b1.trans (But.of s2)
      have hp2 := hp1.same s2
      have hpl2 := b02 _ _ (hp.ne_tup hpl) hpl
      obtain ⟨l0, c0, kk, n0, _, pat⟩ := id hp
      have hS2 := b02 _ _ Sp hS
      have hss2 := hss.but hp b02
      refine ⟨.int (n : Nat), rfl, .int (g : Nat), rfl, _, _, rfl, rfl, _, rfl, ite2 (fun lt => ?_) (fun ge => ?_)⟩
      · have lt : (n : Int) < g := of_decide_eq_true lt
        refine ⟨.ref pl, rfl, .str (Lt l), rfl, .int (n : Nat), rfl, pl, x, y, n, l, rfl, .inl (.inl hpl2), fun H3 a s3 na ea => ⟨.str (Lt l), rfl, a, _, _, l, rfl, .inl (.inl ea), fun H4 c s4 nc ec => ?_⟩⟩
        have s24 := s3.trans s4
        have hD : Dp K H4 (.ref c) (shD (wayAt x y l n)) := .tup (.inl (.inl ec)) (.cons (.int _) (.cons (.int _) (.cons (.str _) .nil)))
        have hE : Dp K H4 (.ref S) (.list (sh.map shD)) := .lst (.inl (.inl (s24 _ _ hS2))) ((hss2.same s24).dp)
        refine ⟨.ref S, rfl, _, _, hD, hE, shD_shaped _, shs_shaped _, _, rfl, ?_⟩
        rw [sh_any]
        by_cases mem : wayAt x y l n ∈ sh
        · refine iteDN (by rw [decide_eq_true mem]; rfl) ?_
          have sx : Same H1 H4 := s2.trans s24
          have bx := b1.trans (But.of sx)
          have px := hp1.same sx
          have plx := bx _ _ (hp.ne_tup hpl) hpl
          refine ⟨.int (n : Nat), rfl, rfl, _, rfl, ite2 (fun z => ?_) (fun z => ?_)⟩
          · have z : V.int (n : Nat) = V.int 0 := of_decide_eq_true z
            have n0 : n = 0 := by injection z with z; omega
            subst n0
            exact ⟨by show 1 ≤ sizeLine; decide, fun en nen => ⟨.ref pl, rfl, .str (Lt l), rfl, by show 3 ≤ sizeLine; decide, fun r nr => fin _ .bump pl x y l bx px plx (step_bump mem) en nen r nr⟩⟩
          · have n0 : n ≠ 0 := fun z' => z (by rw [z']; exact decide_eq_true rfl)
            obtain ⟨q9, hq9⟩ : ∃ q : Fin 9, n = q.val + 1 := ⟨⟨n - 1, by omega⟩, by show n = n - 1 + 1; omega⟩
            subst hq9
            refine ⟨.int ((q9.val + 1 : Nat) : Int), rfl, by show 2 ≤ sizeLine; decide, fun en nen => ⟨.ref pl, rfl, .str (Lt l), rfl, .int ((q9.val + 1 : Nat) : Int), rfl, pl, x, y, ((q9.val + 1 : Nat) : Int), l, rfl, .inl (.inl (same_upd nen _ _ plx)), fun H5 a s5 na ea => ⟨.str (Lt l), rfl, by show 3 ≤ sizeLine; decide, fun r nr => ?_⟩⟩⟩
            have se := same_upd (o := .tup [.str "go", .int ((q9.val + 1 : Nat) : Int)]) nen
            have sr := same_upd (o := .tup [.ref en, .ref a, .str (Lt l)]) nr
            exact q _ r en a (.go q9) _ _ l (bx.trans (But.of ((se.trans s5).trans sr))) (px.same ((se.trans s5).trans sr)) upd_same ((s5.trans sr) _ _ upd_same) (sr _ _ ea) (step_go free)
        · refine iteDY (by rw [decide_eq_false mem]; rfl) ⟨_, fun σ' H' (z : H4 = H' ∧ σ' = [some (.ref p), some (.ref t), some (.int k), some (.ref pl), some (.str (Lt l)), some (.ref D), some (.ref S), none, some (.int (g : Nat)), some (.int ((n + 1 : Nat) : Int)), none]) => ⟨m - 1, by omega, n + 1, by omega, z.1 ▸ s2.trans s24, z.2, fun j hj => ?_⟩, .int (n : Nat), rfl, _, _, rfl, rfl, rfl, rfl⟩
          by_cases e : j = n
          · exact e ▸ mem
          · exact free j (by omega)
      · have ge : ¬ (n : Int) < g := fun z => ge (decide_eq_true z)
        refine iteDN rfl ?_
        have sx : Same H1 H2 := s2.trans (Same.refl H2)
        have bx := b1.trans (But.of sx)
        have px := hp1.same sx
        have plx := bx _ _ (hp.ne_tup hpl) hpl
        refine ⟨.int (n : Nat), rfl, rfl, _, rfl, ite2 (fun z => ?_) (fun z => ?_)⟩
        · have z : V.int (n : Nat) = V.int 0 := of_decide_eq_true z
          have n0 : n = 0 := by injection z with z; omega
          subst n0
          exact ⟨by show 1 ≤ sizeLine; decide, fun en nen => ⟨.ref pl, rfl, .str (Lt l), rfl, by show 3 ≤ sizeLine; decide, fun r nr => fin _ .bump pl x y l bx px plx (step_bump (by omega)) en nen r nr⟩⟩
        · have n0 : n ≠ 0 := fun z' => z (by rw [z']; exact decide_eq_true rfl)
          obtain ⟨q9, hq9⟩ : ∃ q : Fin 9, n = q.val + 1 := ⟨⟨n - 1, by omega⟩, by show n = n - 1 + 1; omega⟩
          subst hq9
          refine ⟨.int ((q9.val + 1 : Nat) : Int), rfl, by show 2 ≤ sizeLine; decide, fun en nen => ⟨.ref pl, rfl, .str (Lt l), rfl, .int ((q9.val + 1 : Nat) : Int), rfl, pl, x, y, ((q9.val + 1 : Nat) : Int), l, rfl, .inl (.inl (same_upd nen _ _ plx)), fun H5 a s5 na ea => ⟨.str (Lt l), rfl, by show 3 ≤ sizeLine; decide, fun r nr => ?_⟩⟩⟩
          have se := same_upd (o := .tup [.str "go", .int ((q9.val + 1 : Nat) : Int)]) nen
          have sr := same_upd (o := .tup [.ref en, .ref a, .str (Lt l)]) nr
          exact q _ r en a (.go q9) _ _ l (bx.trans (But.of ((se.trans s5).trans sr))) (px.same ((se.trans s5).trans sr)) upd_same ((s5.trans sr) _ _ upd_same) (sr _ _ ea) (step_go free)
    -- it tells what stands there, or ahead
    have sgn : ∀ {H' : Hp} {a : Addr} {u v : Int}, But p H H' → H' a = some (.tup [.int u, .int v]) → DGet H' D (.ref a) ((sgAt sg u v).map V.str) := fun {H' a u v} b ea => by
      obtain ⟨l0, c0, kk, n0, _, pat⟩ := id hp
      have g := DGet.t (k := [.inl u, .inl v]) (b _ _ (ne_of hD pat (by intro z; cases z)) hD) ea
      rw [valV_sg] at g
      exact g
    refine ⟨.ref p, rfl, p, 4, rfl, by decide, by decide, hp, fun H1 j b1 hp1 j0 j1 => ⟨_, _, rfl, rfl, ?_⟩⟩
    obtain ⟨n, hn⟩ : ∃ n : Fin 9, 1 + j = (n.val : Int) + 1 := ⟨⟨j.toNat, by omega⟩, by show 1 + j = (j.toNat : Int) + 1; omega⟩
    rw [show (fun i j => V.int (i + j)) 1 j = V.int ((n.val : Int) + 1) from congrArg V.int hn]
    have hpl1 := b1 _ _ (hp.ne_tup hpl) hpl
    refine ⟨fun σ' H' => But p H H' ∧ Pool H' p ∧ σ' = [some (.ref p), some (.ref t), some (.int k), some (.ref pl), some (.str (Lt l)), some (.ref D), some (.ref S), none, none, none, some (.int ((n.val : Int) + 1))], ?_, ?_⟩
    · refine ⟨.int k, rfl, rfl, _, rfl, ite2 (fun e => ?_) (fun e => iteF ⟨b1, hp1, rfl⟩)⟩
      refine ⟨.ref pl, rfl, .str (Lt l), rfl, .int ((n.val : Int) + 1), rfl, pl, x, y, (n.val : Int) + 1, l, rfl, .inl (.inl hpl1), fun H2 a s2 na ea => ?_⟩
      have b2 := b1.trans (But.of s2)
      refine ⟨.ref D, rfl, D, _, rfl, sgn b2 ea, _, rfl, ?_⟩
      cases ez : sgAt sg (x + ((n.val : Int) + 1) * dx l) (y + ((n.val : Int) + 1) * dy l) with
      | none => exact iteDN rfl ⟨b2, hp1.same s2, rfl⟩
      | some z =>
        refine iteDY rfl ⟨.int ((n.val : Int) + 1), rfl, .ref D, rfl, .ref pl, rfl, .str (Lt l), rfl, .int ((n.val : Int) + 1), rfl, pl, x, y, (n.val : Int) + 1, l, rfl, .inl (.inl (s2 _ _ hpl1)), fun H3 a3 s3 na3 ea3 => ?_⟩
        have b3 := b2.trans (But.of s3)
        have g := sgn b3 ea3
        rw [ez] at g
        exact ⟨D, .str z, rfl, g, by show 3 ≤ sizeLine; decide, fun en nen => ⟨.ref pl, rfl, .str (Lt l), rfl, by show 3 ≤ sizeLine; decide, fun r nr => fin _ (.spy n z) pl x y l b3 (hp1.same (s2.trans s3)) (b3 _ _ (hp.ne_tup hpl) hpl) (step_spy ez) en nen r nr⟩⟩
    · rintro σ' H2 ⟨b2, hp2, rfl⟩
      have hpl2 := b2 _ _ (hp.ne_tup hpl) hpl
      refine ⟨.ref pl, rfl, .ref D, rfl, D, _, rfl, sgn b2 hpl2, _, rfl, ?_⟩
      cases ez : sgAt sg x y with
      | none => exact iteDN rfl ⟨by show 1 ≤ sizeLine; decide, fun en nen => ⟨.ref pl, rfl, .str (Lt l), rfl, by show 3 ≤ sizeLine; decide, fun r nr => fin _ .bare pl x y l b2 hp2 hpl2 (step_bare ez) en nen r nr⟩⟩
      | some z =>
        have g := sgn b2 hpl2
        rw [ez] at g
        exact iteDY rfl ⟨.ref D, rfl, .ref pl, rfl, D, .str z, rfl, g, by show 2 ≤ sizeLine; decide, fun en nen => ⟨.ref pl, rfl, .str (Lt l), rfl, by show 3 ≤ sizeLine; decide, fun r nr => fin _ (.sign z) pl x y l b2 hp2 hpl2 (step_sign ez) en nen r nr⟩⟩
--@@SPLIT
/-! ### a log written in the land -/
theorem nx_add (a s : Int) (o : Option (Fin 4)) (e : Ent) : nx a o e + s = nx (a + s) o e := by
  cases e with
  | go n => cases o with
    | none => rfl
    | some l => show a + _ + s = a + s + _; omega
  | _ => rfl
theorem ny_add (a s : Int) (o : Option (Fin 4)) (e : Ent) : ny a o e + s = ny (a + s) o e := by
  cases e with
  | go n => cases o with
    | none => rfl
    | some l => show a + _ + s = a + s + _; omega
  | _ => rfl
def spWritten (K : PySem.W.Frag) : Sp := fun vs H Q _ => ∃ (p t lo pl : Addr) (m : Nat) (sx sy : Int) (lots : List (Fin 8)) (sg : List Sgn) (sh : List Sht), vs = [.ref p, .ref t, .int (m : Nat), .ref lo, .ref pl] ∧ m ≤ 40 ∧ Pool H p ∧ LandAt p H t sg sh ∧ H lo = some (.tup (lots.map lotV)) ∧ 1 ≤ lots.length ∧ lots.length ≤ 8 ∧ H pl = some (.tup [.int sx, .int sy]) ∧
  ∀ H' r vs es, But p H H' → Pool H' p → SqT K H' r vs → EntsAt H' vs es → es.length ≤ 50 → lots.length = 1 + M.swaps es → Right es → AllSo sg sh sx sy lots es → Q (.ref r) H'
/-- how far the log is written -/
structure Wrt (p L : Addr) (H H' : Hp) (sg : List Sgn) (sh : List Sht) (sx sy : Int) (lots : List (Fin 8)) (es : List Ent) (vs : List V) : Prop where
  but : But p H H'
  pool : Pool H' p
  list : H' L = some (.lst vs)
  ents : EntsAt H' vs es
  right : Right es
  so : AllSo sg sh sx sy lots es
theorem Wrt.next {p L : Addr} {H H1 H2 : Hp} {sg : List Sgn} {sh : List Sht} {sx sy : Int} {lots : List (Fin 8)} {es : List Ent} {vs : List V} (h : Wrt p L H H1 sg sh sx sy lots es vs) (Lp : L ≠ p) (b : But p H1 H2) (hp : Pool H2 p) : Wrt p L H H2 sg sh sx sy lots es vs :=
  ⟨h.but.trans b, hp, b _ _ Lp h.list, h.ents.but h.pool b, h.right, h.so⟩
theorem ok_Lwritten (T : Top w K mg) : FnOk P w K mg base CX0 4 T.a_Lwritten T.fd_Lwritten ["_law_pool_here", "_law_land_here", "_law_many", "_law_lots_here", "_law_place"] (spWritten K) := by
  have G_Ltake := ok_Ltake (P := P) (w := w) (base := base) T
  have G_Ltrue := ok_Ltrue (P := P) (w := w) (base := base) T
  have G_Lentry := ok_Lentry (P := P) (w := w) (base := base) T
  refine T.F_Lwritten.ok sc_Lwritten (fun vs H Q E h => ?_) (fun cdv A outer s H vs Q E hr h => ?_)
  · obtain ⟨p, t, lo, pl, m, sx, sy, lots, sg, sh, rfl, _⟩ := h
    rfl
  · obtain ⟨p, t, lo, pl, m, sx, sy, lots, sg, sh, rfl, hm, hp, hl, hlo, l1, l8, hpl, q⟩ := h
    refine ⟨_, (pss_cons (ps_set (i := 5) sc_Lwritten.nd rfl (.inl rfl) (pe_lst pa_nil))
      (pss_cons (ps_asg (pe_tup (pa_cons pe_str (pa_cons pe_int pa_nil))) (pg_tup rfl (pgs_cons (pg_name (i := 6) sc_Lwritten.nd rfl (.inl rfl)) (pgs_cons (pg_name (i := 7) sc_Lwritten.nd rfl (.inl rfl)) pgs_nil))))
      (pss_cons (ps_for PassesOwn.never rfl (pi_range1 (by rfl) T.m_range (pa_cons (pv 2) pa_nil)) (pg_name (i := 8) sc_Lwritten.nd rfl (.inl rfl)) (pss_cons (ps_set (i := 9) sc_Lwritten.nd rfl (.inl rfl) (pe_call G_Ltake (hr.mono (by decide)) (by rfl) T.g_Ltake T.F_Ltake.kp T.b_Ltake .nil pass0 (pa_cons (pv 0) (pa_cons pe_int pa_nil))))
      (Evl.pss_cut (ps_if (PW.pt (pw_and (pt_cmpR op_eq (pv 9) pe_int (nomark _)) (pw_and1 (pt_cmpR op_lt (pe_op op_add (pv 7) pe_int) (pe_callB call_len_seq (by rfl) T.m_len (by decide +kernel) (pa_cons (pv 3) pa_nil)) (nomark _))))) (pss_cons (ps_set (i := 7) sc_Lwritten.nd rfl (.inl rfl) (pe_op op_add (pv 7) pe_int))
      (pss_one (ps_set (i := 10) sc_Lwritten.nd rfl (.inl rfl) (pe_tup (pa_cons pe_str pa_nil))))) (pss_one (ps_if (PW.pt (pw_or (pt_cmpR op_eq (pv 6) pe_str (nomark _)) (pw_or1 (pt_cmpR op_lt (pv 9) pe_int (nomark _))))) (pss_cons (ps_set (i := 10) sc_Lwritten.nd rfl (.inl rfl) (pe_tup (pa_cons pe_str (pa_cons (pe_ix ix_str pe_str (pe_call G_Ltake (hr.mono (by decide)) (by rfl) T.g_Ltake T.F_Ltake.kp T.b_Ltake .nil pass0 (pa_cons (pv 0) (pa_cons pe_int pa_nil))) (fun _ _ => rfl)) pa_nil))))
      (pss_one (ps_set (i := 6) sc_Lwritten.nd rfl (.inl rfl) (pe_call G_Ltrue (hr.mono (by decide)) (by rfl) T.g_Ltrue T.F_Ltrue.kp T.b_Ltrue .nil pass0 (pa_cons (pe_ix ix_tup (pv 3) (pv 7) (fun _ _ => rfl)) (pa_cons (pe_ix ix_tup (pv 10) pe_int (fun _ _ => rfl)) pa_nil)))))) (pss_one (ps_asg (pe_call G_Lentry hr (by rfl) T.g_Lentry T.F_Lentry.kp T.b_Lentry .nil pass0 (pa_cons (pv 0) (pa_cons (pv 1) (pa_cons (pv 9) (pa_cons (pv 4) (pa_cons (pv 6) pa_nil)))))) (pg_tup rfl (pgs_cons (pg_name (i := 10) sc_Lwritten.nd rfl (.inl rfl)) (pgs_cons (pg_name (i := 4) sc_Lwritten.nd rfl (.inl rfl)) (pgs_cons (pg_name (i := 6) sc_Lwritten.nd rfl (.inl rfl)) pgs_nil)))))))))
      (pss_one (ps_expr (pe_bm PySem.F.plainAttrs_list PySem.F.slot_list_append PySem.F.type_list_append mt_append (pv 5) (pa_cons (pv 10) pa_nil)))))))
      (pss_one (ps_ret (pe_op op_catA (pe_callTy call_tuple_of (by rfl) T.m_tuple (by decide +kernel) (pa_cons (pv 5) pa_nil)) (pe_op RepN.op_repN (pe_tup (pa_cons (pe_tup (pa_cons pe_str pa_nil)) pa_nil)) (pe_op op_sub (pe_op op_sub (pe_callB call_len_seq (by rfl) T.m_len (by decide +kernel) (pa_cons (pv 3) pa_nil)) pe_int) (pv 7))))))))), ?_⟩
    refine ⟨Nat.zero_le _, fun L nL => ?_⟩
    have sL := same_upd (o := .lst []) nL
    have Lp : L ≠ p := hp.ne_new nL
    refine ⟨by show 2 ≤ sizeLine; decide, fun c0 nc0 => ⟨c0, _, rfl, .inl (.inl upd_same), rfl, _, _, rfl, _, _, rfl, rfl, ?_⟩⟩
    have s0 := sL.trans (same_upd (o := .tup [.str "", .int 0]) nc0)
    have loL : lo ≠ L := ne_of_none hlo nL
    refine ⟨.int (m : Nat), rfl, m, rfl, by omega, by omega, for_range (n := m) (fun i σ H' => ∃ es vs pl' y8 y9 y10, Wrt p L H H' sg sh sx sy lots es vs ∧ es.length = i ∧ M.swaps es + 1 ≤ lots.length ∧ H' pl' = some (.tup [.int ((wat lots es es.length).x + sx), .int ((wat lots es es.length).y + sy)]) ∧
      σ = [some (.ref p), some (.ref t), some (.int (m : Nat)), some (.ref lo), some (.ref pl'), some (.ref L), some (.str (lk (wat lots es es.length).look)), some (.int ((wat lots es es.length).leg : Nat)), y8, y9, y10])
      ⟨[], [], pl, none, none, none, ⟨But.of s0, hp.same s0, same_upd nc0 _ _ upd_same, .nil, Right.nil, allSo_nil⟩, rfl, l1, ?_, ?_⟩ ?_ ?_⟩
    · rw [show ([] : List Ent).length = 0 from rfl, wat_zero]
      show _ = some (HO.tup [.int (0 + sx), .int (0 + sy)])
      rw [Int.zero_add, Int.zero_add]
      exact s0 _ _ hpl
    · rw [show ([] : List Ent).length = 0 from rfl, wat_zero]
      rfl
    · rintro i σ H2 hi ⟨es, vs, pl', y8, y9, y10, wr, le, lsw, hpl', rfl⟩
      have hwa := fun e => wat_snoc lots es e
      obtain ⟨W', hwW⟩ : ∃ W', wat lots es es.length = W' := ⟨_, rfl⟩
      have wlook : (wat lots es es.length).look.isSome = es.any Ent.isFace := by rw [wat_look, List.take_length]
      have wleg : (wat lots es es.length).leg = M.swaps es := by rw [wat_leg, List.take_length]
      rw [hwW] at hwa wlook wleg hpl' ⊢
      revert hwW
      generalize W' = W at *
      intro hwW
      refine ⟨.ref p, rfl, p, 12, rfl, by decide, by decide, wr.pool, fun H3 r b3 hp3 r0 r1 => ?_⟩
      have wr3 := wr.next Lp b3 hp3
      have hlo3 := wr3.but _ _ (hp.ne_tup hlo) hlo
      have hpl3 := b3 _ _ (wr.pool.ne_tup hpl') hpl'
      have lb : W.leg < lots.length := by omega
      obtain ⟨a, hga⟩ : ∃ a, lots[W.leg]? = some a := ⟨_, List.getElem?_eq_getElem lb⟩
      have hgd : lots.getD W.leg 0 = a := by rw [List.getD_eq_getElem?_getD, hga]; rfl
      have ha : (lots.map lotV)[W.leg]? = some (lotV a) := by rw [List.getElem?_map, hga]; rfl
      refine ⟨fun σ' H' => ∃ e en pl2 y8 y9, Wrt p L H H' sg sh sx sy lots es vs ∧ H' en = some (.tup (Ent.vs e)) ∧ (e.need = true → es.any Ent.isFace = true) ∧ (∀ d ∈ factsOf es.length W e, SoF sg sh sx sy d) ∧ M.swaps (es ++ [e]) + 1 ≤ lots.length ∧ H' pl2 = some (.tup [.int ((next lots W e).x + sx), .int ((next lots W e).y + sy)]) ∧ σ' = [some (.ref p), some (.ref t), some (.int (m : Nat)), some (.ref lo), some (.ref pl2), some (.ref L), some (.str (lk (next lots W e).look)), some (.int ((next lots W e).leg : Nat)), y8, y9, some (.ref en)], ?_, ?_⟩
      · refine ⟨.int r, rfl, rfl, _, rfl, ite2 (fun e11 => ?_) (fun n11 => iteF ?_)⟩
        · refine ⟨.int (W.leg : Nat), rfl, _, _, rfl, rfl, .ref lo, rfl, lo, _, rfl, .inr (.inl (.inl hlo3)), _, _, rfl, rfl, _, rfl, ite2 (fun more => ?_) (fun more => ?_)⟩
          · have more : (W.leg : Int) + 1 < ((lots.map lotV).length : Int) := of_decide_eq_true more
            rw [List.length_map] at more
            refine ⟨.int (W.leg : Nat), rfl, _, _, rfl, rfl, by show 1 ≤ sizeLine; decide, fun en nen => ?_⟩
            have se := same_upd (o := .tup [.str "swap"]) nen
            refine ⟨.swap, en, pl', some (.int (0 + (i : Nat))), some (.int r), wr3.next Lp (But.of se) (hp3.same se), upd_same, (fun z => nomatch z), (fun d z => nomatch z), ?_, se _ _ hpl3, rfl⟩
            rw [swaps_snoc]
            show M.swaps es + 1 + 1 ≤ lots.length
            omega
          · skip
            refine ⟨.str (lk W.look), rfl, rfl, _, rfl, ite2 (fun e => iteT ?_) (fun ne => ?_)⟩
            · refine ⟨.ref p, rfl, p, 4, rfl, by decide, by decide, hp3, fun H4 j b4 hp4 j0 j1 => ?_⟩
              obtain ⟨l, hl4⟩ := nesw_lt j0 j1
              refine ⟨_, _, _, rfl, rfl, by decide +kernel, hl4, by show 2 ≤ sizeLine; decide, fun en nen => ?_⟩
              have se := same_upd (o := .tup [.str "face", .str (Lt l)]) nen
              have b3e := b4.trans (But.of se)
              have hp5 := hp4.same se
              refine ⟨.ref lo, rfl, .int (W.leg : Nat), rfl, lo, _, _, _, rfl, rfl, .inl (.inl (b3e _ _ (hp3.ne_tup hlo3) hlo3)), atI_nat ha, .ref en, rfl, en, _, 1, .str (Lt l), rfl, rfl, .inl (.inl upd_same), rfl, a, l, rfl, ?_⟩
              refine ⟨.face l, en, pl', some (.int (0 + (i : Nat))), some (.int r), wr3.next Lp b3e hp5, upd_same, (fun z => nomatch z), (fun d z => nomatch z), ?_, b3e _ _ (hp3.ne_tup hpl3) hpl3, ?_⟩
              · rw [swaps_snoc]; exact lsw
              · show _ = [some (V.ref p), some (.ref t), some (.int (m : Nat)), some (.ref lo), some (.ref pl'), some (.ref L), some (.str (Lt (tr (lots.getD W.leg 0) l))), some (.int (W.leg : Nat)), some (.int (0 + (i : Nat))), some (.int r), some (.ref en)]
                rw [hgd]
                rfl
            · have hlk : W.look.isSome = true := by
                cases ew : W.look with
                | some l => rfl
                | none => exact absurd (by rw [ew]; exact decide_eq_true rfl) ne
              refine ⟨.int r, rfl, _, _, rfl, rfl, _, rfl, ite2 (fun e3 => ?_) (fun e3 => ?_)⟩
              · refine ⟨.ref p, rfl, p, 4, rfl, by decide, by decide, hp3, fun H4 j b4 hp4 j0 j1 => ?_⟩
                obtain ⟨l, hl4⟩ := nesw_lt j0 j1
                refine ⟨_, _, _, rfl, rfl, by decide +kernel, hl4, by show 2 ≤ sizeLine; decide, fun en nen => ?_⟩
                have se := same_upd (o := .tup [.str "face", .str (Lt l)]) nen
                have b3e := b4.trans (But.of se)
                have hp5 := hp4.same se
                refine ⟨.ref lo, rfl, .int (W.leg : Nat), rfl, lo, _, _, _, rfl, rfl, .inl (.inl (b3e _ _ (hp3.ne_tup hlo3) hlo3)), atI_nat ha, .ref en, rfl, en, _, 1, .str (Lt l), rfl, rfl, .inl (.inl upd_same), rfl, a, l, rfl, ?_⟩
                refine ⟨.face l, en, pl', some (.int (0 + (i : Nat))), some (.int r), wr3.next Lp b3e hp5, upd_same, (fun z => nomatch z), (fun d z => nomatch z), ?_, b3e _ _ (hp3.ne_tup hpl3) hpl3, ?_⟩
                · rw [swaps_snoc]; exact lsw
                · show _ = [some (V.ref p), some (.ref t), some (.int (m : Nat)), some (.ref lo), some (.ref pl'), some (.ref L), some (.str (Lt (tr (lots.getD W.leg 0) l))), some (.int (W.leg : Nat)), some (.int (0 + (i : Nat))), some (.int r), some (.ref en)]
                  rw [hgd]
                  rfl
              · have r3 : ¬ r < 3 := fun z => e3 (decide_eq_true z)
                obtain ⟨l, el⟩ := Option.isSome_iff_exists.mp hlk
                refine ⟨.ref p, rfl, .ref t, rfl, .int r, rfl, .ref pl', rfl, .str (lk W.look), rfl, p, t, r, pl', _, _, l, sg, sh, by rw [el]; rfl, by omega, by omega, hp3, hl.but hp wr3.but, hpl3, fun H4 rr en pl2 e x' y' l' b4 hp4 err een epl st => ⟨rr, _, rfl, .inl (.inl err), rfl, _, _, rfl, _, _, rfl, _, _, rfl, rfl, ?_⟩⟩
                have lg : nleg W.leg e = W.leg := by unfold nleg; rw [st.swap]; rfl
                refine ⟨e, en, pl2, some (.int (0 + (i : Nat))), some (.int r), wr3.next Lp b4 hp4, een, (fun _ => by rw [← wlook, hlk]), (fun d z => st.so es.length W sx sy el rfl rfl d z), ?_, ?_, ?_⟩
                · rw [swaps_snoc, st.swap]; exact lsw
                · show H4 pl2 = some (.tup [.int (nx W.x W.look e + sx), .int (ny W.y W.look e + sy)])
                  rw [nx_add, ny_add, el, ← st.east, ← st.north]
                  exact epl
                · show _ = [some (V.ref p), some (.ref t), some (.int (m : Nat)), some (.ref lo), some (.ref pl2), some (.ref L), some (.str (lk (nlook (lots.getD (nleg W.leg e) 0) W.look e))), some (.int (nleg W.leg e : Nat)), some (.int (0 + (i : Nat))), some (.int r), some (.ref en)]
                  rw [el, st.look, lg]
                  rfl
        · skip
          refine ⟨.str (lk W.look), rfl, rfl, _, rfl, ite2 (fun e => iteT ?_) (fun ne => ?_)⟩
          · refine ⟨.ref p, rfl, p, 4, rfl, by decide, by decide, hp3, fun H4 j b4 hp4 j0 j1 => ?_⟩
            obtain ⟨l, hl4⟩ := nesw_lt j0 j1
            refine ⟨_, _, _, rfl, rfl, by decide +kernel, hl4, by show 2 ≤ sizeLine; decide, fun en nen => ?_⟩
            have se := same_upd (o := .tup [.str "face", .str (Lt l)]) nen
            have b3e := b4.trans (But.of se)
            have hp5 := hp4.same se
            refine ⟨.ref lo, rfl, .int (W.leg : Nat), rfl, lo, _, _, _, rfl, rfl, .inl (.inl (b3e _ _ (hp3.ne_tup hlo3) hlo3)), atI_nat ha, .ref en, rfl, en, _, 1, .str (Lt l), rfl, rfl, .inl (.inl upd_same), rfl, a, l, rfl, ?_⟩
            refine ⟨.face l, en, pl', some (.int (0 + (i : Nat))), some (.int r), wr3.next Lp b3e hp5, upd_same, (fun z => nomatch z), (fun d z => nomatch z), ?_, b3e _ _ (hp3.ne_tup hpl3) hpl3, ?_⟩
            · rw [swaps_snoc]; exact lsw
            · show _ = [some (V.ref p), some (.ref t), some (.int (m : Nat)), some (.ref lo), some (.ref pl'), some (.ref L), some (.str (Lt (tr (lots.getD W.leg 0) l))), some (.int (W.leg : Nat)), some (.int (0 + (i : Nat))), some (.int r), some (.ref en)]
              rw [hgd]
              rfl
          · have hlk : W.look.isSome = true := by
              cases ew : W.look with
              | some l => rfl
              | none => exact absurd (by rw [ew]; exact decide_eq_true rfl) ne
            refine ⟨.int r, rfl, _, _, rfl, rfl, _, rfl, ite2 (fun e3 => ?_) (fun e3 => ?_)⟩
            · refine ⟨.ref p, rfl, p, 4, rfl, by decide, by decide, hp3, fun H4 j b4 hp4 j0 j1 => ?_⟩
              obtain ⟨l, hl4⟩ := nesw_lt j0 j1
              refine ⟨_, _, _, rfl, rfl, by decide +kernel, hl4, by show 2 ≤ sizeLine; decide, fun en nen => ?_⟩
              have se := same_upd (o := .tup [.str "face", .str (Lt l)]) nen
              have b3e := b4.trans (But.of se)
              have hp5 := hp4.same se
              refine ⟨.ref lo, rfl, .int (W.leg : Nat), rfl, lo, _, _, _, rfl, rfl, .inl (.inl (b3e _ _ (hp3.ne_tup hlo3) hlo3)), atI_nat ha, .ref en, rfl, en, _, 1, .str (Lt l), rfl, rfl, .inl (.inl upd_same), rfl, a, l, rfl, ?_⟩
              refine ⟨.face l, en, pl', some (.int (0 + (i : Nat))), some (.int r), wr3.next Lp b3e hp5, upd_same, (fun z => nomatch z), (fun d z => nomatch z), ?_, b3e _ _ (hp3.ne_tup hpl3) hpl3, ?_⟩
              · rw [swaps_snoc]; exact lsw
              · show _ = [some (V.ref p), some (.ref t), some (.int (m : Nat)), some (.ref lo), some (.ref pl'), some (.ref L), some (.str (Lt (tr (lots.getD W.leg 0) l))), some (.int (W.leg : Nat)), some (.int (0 + (i : Nat))), some (.int r), some (.ref en)]
                rw [hgd]
                rfl
            · have r3 : ¬ r < 3 := fun z => e3 (decide_eq_true z)
              obtain ⟨l, el⟩ := Option.isSome_iff_exists.mp hlk
              refine ⟨.ref p, rfl, .ref t, rfl, .int r, rfl, .ref pl', rfl, .str (lk W.look), rfl, p, t, r, pl', _, _, l, sg, sh, by rw [el]; rfl, by omega, by omega, hp3, hl.but hp wr3.but, hpl3, fun H4 rr en pl2 e x' y' l' b4 hp4 err een epl st => ⟨rr, _, rfl, .inl (.inl err), rfl, _, _, rfl, _, _, rfl, _, _, rfl, rfl, ?_⟩⟩
              have lg : nleg W.leg e = W.leg := by unfold nleg; rw [st.swap]; rfl
              refine ⟨e, en, pl2, some (.int (0 + (i : Nat))), some (.int r), wr3.next Lp b4 hp4, een, (fun _ => by rw [← wlook, hlk]), (fun d z => st.so es.length W sx sy el rfl rfl d z), ?_, ?_, ?_⟩
              · rw [swaps_snoc, st.swap]; exact lsw
              · show H4 pl2 = some (.tup [.int (nx W.x W.look e + sx), .int (ny W.y W.look e + sy)])
                rw [nx_add, ny_add, el, ← st.east, ← st.north]
                exact epl
              · show _ = [some (V.ref p), some (.ref t), some (.int (m : Nat)), some (.ref lo), some (.ref pl2), some (.ref L), some (.str (lk (nlook (lots.getD (nleg W.leg e) 0) W.look e))), some (.int (nleg W.leg e : Nat)), some (.int (0 + (i : Nat))), some (.int r), some (.ref en)]
                rw [el, st.look, lg]
                rfl
      · rintro σ' H4 ⟨e, en, pl2, y8, y9, wr4, hen, hneed, hso, hsw, hpl2, rfl⟩
        have lv := wr4.ents.len
        refine ⟨.ref L, rfl, .inl ⟨rfl, _, .inl (.inl wr4.list)⟩, .ref en, rfl, L, vs, _, rfl, rfl, wr4.list, small1000 (by omega), ?_⟩
        have notL : ∀ {c : Addr} {us : List V}, H4 c = some (.tup us) → c ≠ L := fun h => ne_of h wr4.list (by intro z; cases z)
        refine ⟨es ++ [e], vs ++ [.ref en], pl2, y8, y9, some (.ref en), ⟨wr4.but.mut nL, wr4.pool.upd Lp, upd_same, F2.snoc (wr4.ents.imp fun v x ⟨c, ev, hc⟩ => ⟨c, ev, by rw [upd_ne (notL hc)]; exact hc⟩) ⟨en, rfl, by rw [upd_ne (notL hen)]; exact hen⟩, wr4.right.snoc hneed, wr4.so.snoc (by rw [hwW]; exact hso)⟩, by rw [List.length_append, le]; rfl, hsw, ?_, ?_⟩
        · rw [hwa, upd_ne (notL hpl2)]
          exact hpl2
        · rw [hwa]
    · rintro σ H2 ⟨es, vs, pl', y8, y9, y10, wr, le, lsw, hpl', rfl⟩
      have wleg : (wat lots es es.length).leg = M.swaps es := by rw [wat_leg, List.take_length]
      have hlo2 := wr.but _ _ (hp.ne_tup hlo) hlo
      have lv := wr.ents.len
      refine ⟨.ref L, rfl, L, vs, rfl, .inl ⟨.inl (.inl wr.list), fun r nr => ?_⟩⟩
      have sr := same_upd (o := .tup vs) nr
      refine ⟨by show 1 ≤ sizeLine; decide, fun t1 n1 => ⟨by show 1 ≤ sizeLine; decide, fun t2 n2 => ?_⟩⟩
      have s1 := same_upd (o := .tup [.str "swap"]) n1
      have s2 := same_upd (o := .tup [.ref t1]) n2
      have s02 := (sr.trans s1).trans s2
      obtain ⟨k, hk⟩ : ∃ k : Nat, k + (M.swaps es + 1) = lots.length := ⟨lots.length - (M.swaps es + 1), by omega⟩
      refine ⟨.ref lo, rfl, lo, _, rfl, .inr (.inl (.inl (s02 _ _ hlo2))), _, _, rfl, rfl, _, rfl, _, _, rfl, rfl, t2, .ref t1, k, rfl, ?_, .inl (.inl upd_same), by omega, fun pp HH sm hpp => ?_⟩
      · show V.int (((lots.map lotV).length : Int) - 1 - ((wat lots es es.length).leg : Nat)) = .int (k : Nat)
        rw [List.length_map, wleg]
        congr 1
        omega
      have s0H := s02.trans sm
      have qq : ∀ H' rr, Same HH H' → SqT K H' rr (vs ++ List.replicate k (.ref t1)) → Q (.ref rr) H' := fun H' rr s' hrr => by
        have sall := s0H.trans s'
        refine q H' rr _ (es ++ List.replicate k .swap) (wr.but.trans (But.of sall)) (wr.pool.same sall) hrr (F2.app (wr.ents.same sall) (F2.rep k ⟨t1, rfl, s' _ _ (sm _ _ (s2 _ _ upd_same))⟩)) ?_ ?_ (wr.right.swaps k) (wr.so.swaps k)
        · rw [List.length_append, List.length_replicate]; omega
        · rw [swaps_rep]; omega
      refine ⟨r, pp, vs, _, rfl, rfl, .inl (.inl (sm _ _ (s2 _ _ (s1 _ _ upd_same)))), hpp, Nat.le_of_lt (small1000 (by rw [List.length_replicate]; omega)), fun e0 => ?_, fun _ e0 => ?_, fun _ _ rr nrr => ?_⟩
      · subst e0; exact qq _ pp (Same.refl _) hpp
      · refine qq _ r (Same.refl _) ?_
        rw [e0, List.append_nil]
        exact .inl (.inl (sm _ _ (s2 _ _ (s1 _ _ upd_same))))
      · exact qq _ rr (same_upd nrr) (.inl (.inl upd_same))
--@@SPLIT
/-! ### whether a fact is so -/
def spSo (K : PySem.W.Frag) : Sp := fun vs H Q _ => ∃ (p t f st : Addr) (sx sy : Int) (sg : List Sgn) (sh : List Sht) (d : PyData), vs = [.ref t, .ref f, .ref st] ∧ LandAt p H t sg sh ∧ Dp K H (.ref f) d ∧ SoF sg sh sx sy d ∧ SqT K H st [.int sx, .int sy] ∧ ∀ H', Same H H' → Q (.bl true) H'
theorem fact_at {K : PySem.W.Frag} {H : Hp} {f : Addr} {i : Nat} {word what : Str} {x y : Int} (h : Dp K H (.ref f) (factD i word x y what)) : ∃ pl, SqT K H f [.int (i : Nat), .str word, .ref pl, .str what] ∧ SqT K H pl [.int x, .int y] := by
  cases h with
  | tup hs ha =>
    cases ha with
    | cons h1 ha =>
      cases h1
      cases ha with
      | cons h2 ha =>
        cases h2
        cases ha with
        | cons h3 ha =>
          cases ha with
          | cons h4 ha =>
            cases h4
            cases ha
            cases h3 with
            | tup hp hq =>
              cases hq with
              | cons h5 hq =>
                cases h5
                cases hq with
                | cons h6 hq =>
                  cases h6
                  cases hq
                  exact ⟨_, hs, hp⟩
theorem ok_Lso (T : Top w K mg) : FnOk P w K mg base CX0 1 T.a_Lso T.fd_Lso ["_law_land_here", "_law_fact", "_law_start"] (spSo K) := by
  refine T.F_Lso.ok sc_Lso (fun vs H Q E h => ?_) (fun cdv A outer s H vs Q E hr h => ?_)
  · obtain ⟨p, t, f, st, sx, sy, sg, sh, d, rfl, _⟩ := h
    rfl
  · obtain ⟨p, t, f, st, sx, sy, sg, sh, d, rfl, ⟨⟨D, S, ss, ht, hD, Sp, hS, hss⟩, few⟩, hf, so, hst, q⟩ := h
    refine ⟨_, (pss_cons (ps_asg (pv 0) (pg_tup rfl (pgs_cons (pg_name (i := 3) sc_Lso.nd rfl (.inl rfl)) (pgs_cons (pg_name (i := 4) sc_Lso.nd rfl (.inl rfl)) pgs_nil))))
      (pss_cons (ps_asg (pv 1) (pg_tup rfl (pgs_cons (pg_name (i := 5) sc_Lso.nd rfl (.inl rfl)) (pgs_cons (pg_name (i := 6) sc_Lso.nd rfl (.inl rfl)) (pgs_cons (pg_name (i := 7) sc_Lso.nd rfl (.inl rfl)) (pgs_cons (pg_name (i := 8) sc_Lso.nd rfl (.inl rfl)) pgs_nil))))))
      (pss_cons (ps_set (i := 7) sc_Lso.nd rfl (.inl rfl) (pe_tup (pa_cons (pe_op op_add (pe_ix ix_tup (pv 7) pe_int (fun _ _ => rfl)) (pe_ix ix_tup (pv 2) pe_int (fun _ _ => rfl))) (pa_cons (pe_op op_add (pe_ix ix_tup (pv 7) pe_int (fun _ _ => rfl)) (pe_ix ix_tup (pv 2) pe_int (fun _ _ => rfl))) pa_nil))))
      (pss_cons (ps_if (pt_cmpR op_eq (pv 6) pe_str (nomark _)) (pss_one (ps_ret (pe_cmpR op_eq (pe_dget2 (hu_of hr) (pv 3) (pv 7) pe_str ⟨by rfl, by rfl, by rfl, by rfl⟩) (pv 8) (nomark _)))) pss_nil)
      (pss_cons (ps_if (pt_cmpR op_eq (pv 6) pe_str (nomark _)) (pss_one (ps_ret (pe_and (pe_cmp (pc_dnotin (hu_of hr) (pv 7) (pv 3))) (pe_one (pe_cmpR op_eq (pv 8) pe_str (nomark _)))))) pss_nil)
      (pss_one (ps_ret (pe_cmpR op_eq (pe_cmpR (op_inD (units65 hr)) (pe_op op_catT (pv 7) (pe_tup (pa_cons (pv 8) pa_nil))) (pv 4) (by rfl)) (pe_cmpR op_eq (pv 6) pe_str (nomark _)) (nomark _))))))))), ?_⟩
    obtain ⟨i, word, x, y, what, rfl, cs⟩ : ∃ (i : Nat) (word : Str) (x y : Int) (what : Str), d = factD i word x y what ∧ ((word = "sign" ∧ sgAt sg (x + sx) (y + sy) = some what) ∨ (word = "bare" ∧ what = "" ∧ sgAt sg (x + sx) (y + sy) = none) ∨ ((word = "open" ∨ word = "shut") ∧ ∃ l, what = Lt l ∧ decide ((x + sx, y + sy, l) ∈ sh) = decide (V.str word = V.str "shut"))) := by
      cases so with
      | @sign i x y z h => exact ⟨i, _, x, y, z, rfl, .inl ⟨rfl, h⟩⟩
      | @bare i x y h => exact ⟨i, _, x, y, _, rfl, .inr (.inl ⟨rfl, rfl, h⟩)⟩
      | @opn i x y l h => exact ⟨i, _, x, y, _, rfl, .inr (.inr ⟨.inl rfl, l, rfl, by rw [decide_eq_false h]; decide +kernel⟩)⟩
      | @shut i x y l h => exact ⟨i, _, x, y, _, rfl, .inr (.inr ⟨.inr rfl, l, rfl, by rw [decide_eq_true h]; decide +kernel⟩)⟩
    obtain ⟨pl, hs, hpl⟩ := fact_at hf
    refine ⟨.ref t, rfl, t, _, rfl, .inl (.inl ht), rfl, _, _, rfl, _, _, rfl, rfl, ?_⟩
    refine ⟨.ref f, rfl, f, _, rfl, hs, rfl, _, _, rfl, _, _, rfl, _, _, rfl, _, _, rfl, rfl, ?_⟩
    refine ⟨.ref pl, rfl, pl, _, 0, .int x, rfl, rfl, hpl, rfl, .ref st, rfl, st, _, 0, .int sx, rfl, rfl, hst, rfl, _, _, rfl, rfl, .ref pl, rfl, pl, _, 1, .int y, rfl, rfl, hpl, rfl, .ref st, rfl, st, _, 1, .int sy, rfl, rfl, hst, rfl, _, _, rfl, rfl, by show 2 ≤ sizeLine; decide, fun np nn => ?_⟩
    have sn := same_upd (o := .tup [.int (x + sx), .int (y + sy)]) nn
    have g := DGet.t (k := [.inl (x + sx), .inl (y + sy)]) (sn _ _ hD) (b := np) upd_same
    rw [valV_sg] at g
    have hE : Dp K (upd H np (.tup [.int (x + sx), .int (y + sy)])) (.ref S) (.list (sh.map shD)) := .lst (.inl (.inl (sn _ _ hS))) ((hss.same sn).dp)
    refine ⟨.str word, rfl, rfl, _, rfl, ?_⟩
    rcases cs with ⟨rfl, h⟩ | ⟨rfl, rfl, h⟩ | ⟨hw, l, hl, h⟩
    · refine iteDY (by decide +kernel) ⟨.ref D, rfl, D, rfl, .inr ⟨_, .inl (sn _ _ hD)⟩, .ref np, rfl, _, g, .str what, rfl, ?_⟩
      rw [h]
      refine ⟨rfl, ?_⟩
      show Q (.bl (decide (V.str what = V.str what))) _
      rw [decide_eq_true rfl]
      exact q _ sn
    · refine iteDN (by decide +kernel) ⟨.str _, rfl, rfl, _, rfl, iteDY (by decide +kernel) ?_⟩
      rw [h] at g
      refine ⟨.ref np, rfl, .ref D, rfl, D, _, rfl, g, _, rfl, iteDY rfl ⟨.str _, rfl, rfl, ?_⟩⟩
      rw [decide_eq_true rfl]
      exact q _ sn
    · have n1 : decide (V.str word = V.str (PySem.Str.ofString "sign")) = false := by rcases hw with rfl | rfl <;> decide +kernel
      have n2 : decide (V.str word = V.str (PySem.Str.ofString "bare")) = false := by rcases hw with rfl | rfl <;> decide +kernel
      refine iteDN n1 ⟨.str word, rfl, rfl, _, rfl, iteDN n2 ?_⟩
      refine ⟨.ref np, rfl, .str what, rfl, by show 1 ≤ sizeLine; decide, fun t1 m1 => ?_⟩
      have s1 := same_upd (o := .tup [.str what]) m1
      refine ⟨np, t1, _, _, rfl, rfl, .inl (.inl (s1 _ _ upd_same)), .inl (.inl upd_same), (fun z => nomatch z), by show 3 ≤ sizeLine; decide, (fun z => nomatch z), fun _ c nc => ?_⟩
      have s2 := same_upd (o := .tup [.int (x + sx), .int (y + sy), .str what]) nc
      subst hl
      have hc : Dp K (upd (upd (upd H np (.tup [.int (x + sx), .int (y + sy)])) t1 (.tup [.str (Lt l)])) c (.tup [.int (x + sx), .int (y + sy), .str (Lt l)])) (.ref c) (shD (x + sx, y + sy, l)) := .tup (.inl (.inl upd_same)) (.cons (.int _) (.cons (.int _) (.cons (.str _) .nil)))
      refine ⟨.ref S, rfl, _, _, hc, dp_same (s1.trans s2) _ _ hE, shD_shaped _, shs_shaped _, .str word, rfl, rfl, rfl, ?_⟩
      rw [sh_any, h]
      show Q (.bl (decide (V.bl _ = V.bl _))) _
      rw [decide_eq_true rfl]
      exact q _ ((sn.trans s1).trans s2)
--@@SPLIT
theorem cut_last (xs : List V) : cutV xs (some (-1)) none = xs.drop (xs.length - 1) ∧ HT.sIx xs.length 0 (some (-1)) = xs.length - 1 ∧ HT.sIx xs.length xs.length none = xs.length := by
  have e1 : HT.sIx xs.length 0 (some (-1)) = xs.length - 1 := by
    unfold HT.sIx
    simp
    omega
  have e2 : HT.sIx xs.length xs.length none = xs.length := rfl
  refine ⟨?_, e1, e2⟩
  unfold cutV
  rw [e1, e2]
  exact List.take_of_length_le (by rw [List.length_drop]; exact Nat.le_refl _)
def lastD (lots : List (Fin 8)) (es : List Ent) : PyData := .tuple ((trackL lots es es.length).drop (es.length - 1))
theorem lastD_ok (lots : List (Fin 8)) (es : List Ent) (h : es.length ≤ 100) : okD 3 (lastD lots es) = true := by
  refine Bool.and_eq_true_iff.mpr ⟨decide_eq_true ?_, List.all_eq_true.mpr fun d hd => ?_⟩
  · rw [List.length_drop]
    unfold trackL
    rw [List.length_map, List.length_range]
    omega
  · obtain ⟨i, _, rfl⟩ := List.mem_map.mp (List.mem_of_mem_drop hd)
    rfl
def spLaw (K : PySem.W.Frag) : Sp := fun vs H Q _ => ∃ (a : Addr) (ns : List Int), vs = [.ref a] ∧ SqL K H a (ns.map V.int) ∧ ns.length ≤ 63 ∧ ∀ H', Q (.bl true) H'
theorem ok_law (T : Top w K mg) : FnOk P w K mg base CX0 8 T.a_law T.fd_law ["_law_script"] (spLaw K) := by
  have G_Lpool := ok_Lpool (P := P) (w := w) (base := base) T
  have G_Ltake := ok_Ltake (P := P) (w := w) (base := base) T
  have G_Lland := ok_Lland (P := P) (w := w) (base := base) T
  have G_Llots := ok_Llots (P := P) (w := w) (base := base) T
  have G_Lwritten := ok_Lwritten (P := P) (w := w) (base := base) T
  have G_Lso := ok_Lso (P := P) (w := w) (base := base) T
  have G_facts := ok_facts (P := P) (w := w) (base := base) T
  have G_track := ok_track (P := P) (w := w) (base := base) T
  have G_Lwalk := ok_Lwalk (P := P) (w := w) (base := base) T
  have G_Lsame := ok_Lsame (P := P) (w := w) (base := base) T 3
  refine T.F_law.ok sc_law (fun vs H Q E h => ?_) (fun cdv A outer s H vs Q E hr h => ?_)
  · obtain ⟨a, ns, rfl, _⟩ := h
    rfl
  · obtain ⟨a, ns, rfl, hS, hlen, q⟩ := h
    refine ⟨_, (pss_cons (ps_for PassesOwn.never rfl (pi_range1 (by rfl) T.m_range (pa_cons pe_int pa_nil)) (pg_name (i := 1) sc_law.nd rfl (.inl rfl)) (pss_cons (ps_set (i := 2) sc_law.nd rfl (.inl rfl) (pe_call G_Lpool (hr.mono (by decide)) (by rfl) T.g_Lpool T.F_Lpool.kp T.b_Lpool .nil pass0 (pa_cons (pv 0) (pa_cons (pv 1) pa_nil))))
      (pss_cons (ps_set (i := 3) sc_law.nd rfl (.inr rfl) (pe_call G_Lland (hr.mono (by decide)) (by rfl) T.g_Lland T.F_Lland.kp T.b_Lland .nil pass0 (pa_cons (pv 2) (pa_cons pe_int pa_nil))))
      (pss_cons (ps_set (i := 4) sc_law.nd rfl (.inl rfl) (pe_call G_Llots (hr.mono (by decide)) (by rfl) T.g_Llots T.F_Llots.kp T.b_Llots .nil pass0 (pa_cons (pv 2) (pa_cons (pe_op op_add pe_int (pe_call G_Ltake (hr.mono (by decide)) (by rfl) T.g_Ltake T.F_Ltake.kp T.b_Ltake .nil pass0 (pa_cons (pv 2) (pa_cons pe_int pa_nil)))) pa_nil))))
      (pss_cons (ps_set (i := 5) sc_law.nd rfl (.inr rfl) (pe_tup (pa_cons (pe_op op_sub (pe_call G_Ltake (hr.mono (by decide)) (by rfl) T.g_Ltake T.F_Ltake.kp T.b_Ltake .nil pass0 (pa_cons (pv 2) (pa_cons pe_int pa_nil))) pe_int) (pa_cons (pe_op op_sub (pe_call G_Ltake (hr.mono (by decide)) (by rfl) T.g_Ltake T.F_Ltake.kp T.b_Ltake .nil pass0 (pa_cons (pv 2) (pa_cons pe_int pa_nil))) pe_int) pa_nil))))
      (pss_cons (ps_set (i := 6) sc_law.nd rfl (.inl rfl) (pe_call G_Lwritten (hr.mono (by decide)) (by rfl) T.g_Lwritten T.F_Lwritten.kp T.b_Lwritten .nil pass0 (pa_cons (pv 2) (pa_cons (pv 3) (pa_cons (pe_call G_Ltake (hr.mono (by decide)) (by rfl) T.g_Ltake T.F_Ltake.kp T.b_Ltake .nil pass0 (pa_cons (pv 2) (pa_cons pe_int pa_nil))) (pa_cons (pv 4) (pa_cons (pv 5) pa_nil)))))))
      (pss_cons (ps_if (pt_not (pt_val (pe_callB (cr_all rfl) (by rfl) T.m_all (by decide +kernel) (pa_cons (pe_lc (own := [("_law_fact", 7)]) (g := gName 7) (by rfl) sc_law.nd (pi_tup (pe_call G_facts hr (by rfl) T.g_facts T.F_facts.kp T.b_facts .nil pass0 (pa_cons (pv 6) (pa_cons (pv 4) pa_nil)))) (blkOk_by (own := [("_law_fact", 7)]) (N := ["_law_script", "_law_k", "_law_pool_here", "_law_land_here", "_law_lots_here", "_law_start", "_law_log", "_law_fact", "_law_leg", "_law_here", "_law_behind"]) (sc := defScope s_law) (by decide +kernel)) (fun _ _ _ _ _ => (pg_name (i := 7) sc_law.nd rfl (Or.inl rfl))) (fun _ _ _ _ _ => pts_nil) (fun _ _ _ _ _ => (pe_call G_Lso (hr.mono (by decide)) (by rfl) T.g_Lso T.F_Lso.kp T.b_Lso .nil pass0 (pa_cons (pv 3) (pa_cons (pv 7) (pa_cons (pv 5) pa_nil)))))) pa_nil)))) (pss_one (ps_ret pe_bl)) pss_nil)
      (pss_one (ps_if (pt_not (pt_val (pe_call G_Lsame (hr.mono (by decide)) (by rfl) T.g_Lsame T.F_Lsame.kp T.b_Lsame .nil pass0 (pa_cons (pe_slice sl_tupA (pe_call G_track (hr.mono (by decide)) (by rfl) T.g_track T.F_track.kp T.b_track .nil pass0 (pa_cons (pv 6) (pa_cons (pv 4) pa_nil))) (po_some (pe_un un_neg pe_int)) po_none) (pa_cons (pe_callTy call_tuple_of (by rfl) T.m_tuple (by decide +kernel) (pa_cons (pe_slice sl_list (pe_lc (own := [("_law_leg", 8), ("_law_here", 9), ("_law_behind", 10)]) (g := gTup K 3 (gCons (gName 8) (gCons (gName 9) (gCons (gName 10) gNil)))) (by rfl) sc_law.nd (pi_list (pe_call G_Lwalk (hr.mono (by decide)) (by rfl) T.g_Lwalk T.F_Lwalk.kp T.b_Lwalk .nil pass0 (pa_cons (pv 6) (pa_cons (pv 4) pa_nil)))) (blkOk_by (own := [("_law_leg", 8), ("_law_here", 9), ("_law_behind", 10)]) (N := ["_law_script", "_law_k", "_law_pool_here", "_law_land_here", "_law_lots_here", "_law_start", "_law_log", "_law_fact", "_law_leg", "_law_here", "_law_behind"]) (sc := defScope s_law) (by decide +kernel)) (fun _ _ _ _ _ => (pg_tup rfl (pgs_cons (pg_name (i := 8) sc_law.nd rfl (Or.inl rfl)) (pgs_cons (pg_name (i := 9) sc_law.nd rfl (Or.inl rfl)) (pgs_cons (pg_name (i := 10) sc_law.nd rfl (Or.inl rfl)) pgs_nil))))) (fun _ _ _ _ _ => pts_nil) (fun _ _ _ _ _ => (pv 10))) (po_some (pe_un un_neg pe_int)) po_none) pa_nil)) pa_nil))))) (pss_one (ps_ret pe_bl)) pss_nil)))))))))
      (pss_one (ps_ret pe_bl))), ?_⟩
    refine ⟨3, rfl, by decide, by decide, for_range (n := 3) (fun i σ H' => Same H H' ∧ ∃ y1 y2 y3 y4 y5 y6 y7 y8 y9 y10, σ = [some (.ref a), y1, y2, y3, y4, y5, y6, y7, y8, y9, y10]) ⟨Same.refl H, none, none, none, none, none, none, none, none, none, none, rfl⟩ ?_ (fun σ H' _ => q H')⟩
    rintro i σ H0 hi ⟨s0, y1, y2, y3, y4, y5, y6, y7, y8, y9, y10, rfl⟩
    refine ⟨.ref a, rfl, _, rfl, a, ns, _, rfl, s0.seq hS, hlen, by omega, fun H1 p s1 np hp => ?_⟩
    have np0 : H p = none := s0.free np
    refine ⟨.ref p, rfl, p, 4, rfl, by omega, hp, fun H2 t sg sh b2 hp2 hl2 => ?_⟩
    refine ⟨.ref p, rfl, .ref p, rfl, p, 4, rfl, by decide, by decide, hp2, fun H3 j b3 hp3 j0 j1 => ⟨_, _, rfl, rfl, ?_⟩⟩
    obtain ⟨n, hn, n1, n4⟩ : ∃ n : Nat, 1 + j = (n : Int) ∧ 1 ≤ n ∧ n ≤ 4 := ⟨(1 + j).toNat, by omega, by omega, by omega⟩
    refine ⟨p, n, by show [V.ref p, V.int (1 + j)] = [.ref p, .int (n : Nat)]; rw [hn], by omega, hp3, fun H4 lo lots b4 hp4 nlo elo llo => ?_⟩
    refine ⟨.ref p, rfl, p, 5, rfl, by decide, by decide, hp4, fun H5 r b5 hp5 _ _ => ⟨_, _, rfl, rfl, .ref p, rfl, p, 5, rfl, by decide, by decide, hp5, fun H6 r' b6 hp6 _ _ => ⟨_, _, rfl, rfl, by show 2 ≤ sizeLine; decide, fun st nst => ?_⟩⟩⟩
    have ss := same_upd (o := .tup [.int (r - 2), .int (r' - 2)]) nst
    refine ⟨.ref p, rfl, .ref t, rfl, .ref p, rfl, p, 31, rfl, by decide, by decide, hp6.same ss, fun H7 m b7 hp7 m0 m1 => ?_⟩
    obtain ⟨k, rfl⟩ : ∃ k : Nat, m = k := ⟨m.toNat, by omega⟩
    have b46 := b5.trans b6
    have b47 := b46.trans ((But.of ss).trans b7)
    have hl4 := ((hl2.but hp2 b3).but hp3 b4)
    have hl7 := hl4.but hp4 b47
    have elo7 := b47 _ _ (hp4.ne_tup elo) elo
    have hp6s := hp6.same ss
    have est7 := b7 _ _ (hp6s.ne_tup (upd_same (H := H6) (a := st) (o := .tup [.int (r - 2), .int (r' - 2)]))) upd_same
    refine ⟨.ref lo, rfl, .ref st, rfl, p, t, lo, st, k, r - 2, r' - 2, lots, sg, sh, rfl, by omega, hp7, hl7, elo7, by omega, by omega, est7, fun H8 lg vs es b8 hp8 hlg ents le sw right so => ?_⟩
    have s8 : Same H H8 := But.same np0 (s0.trans s1) ((((b2.trans b3).trans b4).trans b47).trans b8)
    have hl8 := hl7.but hp7 b8
    have elo8 := b8 _ _ (hp7.ne_tup elo7) elo7
    have est8 := b8 _ _ (hp7.ne_tup est7) est7
    have rows8 : M.Rows K H8 vs es := rows_tup ents.dp
    refine ⟨.ref lg, rfl, .ref lo, rfl, lg, lo, vs, es, lots, rfl, .inr hlg, rows8, .inr (.inl (.inl elo8)), sw, by omega, right, fun H9 fr s9 hfr => ?_⟩
    obtain ⟨fs, hfs, hfd⟩ : ∃ fs, SqT K H9 fr fs ∧ DpAll K H9 fs (factsL lots es es.length) := by
      cases hfr with
      | tup h1 h2 => exact ⟨_, h1, h2⟩
    have lf := dpa_len2 hfd
    have bf := factsL_len lots es es.length
    refine ⟨fr, rfl, ⟨_, hfs⟩, fun D hD => lc_it (walk_tup (xs := fs)) (fun i H' => Same H9 H' ∧ H' D = some (.lst ((List.replicate i true).map V.bl))) ⟨same_upd hD, upd_same⟩ (fun i H' _ h => sqt_same h.1 hfs) ?_ ?_⟩
    · rintro i v Ha Hb hi ⟨sm, eD⟩ ⟨rfl, hx⟩
      obtain ⟨d, fd, gd⟩ := dpa_at _ _ hfd i v hx
      obtain ⟨f, rfl⟩ : ∃ f, v = V.ref f := by
        cases so d (List.mem_of_getElem? fd) <;> (cases gd; exact ⟨_, rfl⟩)
      have s9m := s9.trans sm
      refine ⟨rfl, .ref t, rfl, .ref f, rfl, .ref st, rfl, p, t, f, st, _, _, sg, sh, d, rfl, hl8.same s9m, dp_same sm _ _ gd, so d (List.mem_of_getElem? fd), .inl (.inl (s9m _ _ est8)), fun Hc sc => ?_⟩
      refine ⟨_, sc _ _ eD, ?_, fun b' o e => ?_, ?_⟩
      · rw [List.length_map, List.length_replicate]
        exact small1000 (by omega)
      · rw [upd_ne (ne_of_none e hD)]
        exact sc _ _ (sm _ _ e)
      · rw [upd_same, List.replicate_succ', List.map_append]
        rfl
    rintro Ha ⟨sm, eD⟩
    refine ⟨_, List.replicate fs.length true, rfl, .inl (.inl eD), ?_⟩
    rw [all_true]
    refine ⟨_, rfl, iteF ?_⟩
    have sa := s9.trans sm
    refine ⟨.ref lg, rfl, .ref lo, rfl, lg, lo, vs, es, lots, rfl, .inr (sqt_same sa hlg), rows8.same sa, .inr (.inl (.inl (sa _ _ elo8))), sw, by omega, right, fun Hb tr sb htr => ?_⟩
    obtain ⟨zs, hz1, hz2⟩ : ∃ zs, SqT K Hb tr zs ∧ DpAll K Hb zs (trackL lots es es.length) := by
      cases htr with
      | tup h1 h2 => exact ⟨_, h1, h2⟩
    have lz := dpa_len2 hz2
    have ltr : (trackL lots es es.length).length = es.length := by unfold trackL; rw [List.length_map, List.length_range]
    obtain ⟨c1, c2, c3⟩ := cut_last zs
    have lzs : zs.length = es.length := by omega
    have hzd := dpa_dropK (es.length - 1) _ _ hz2
    have s8b := sa.trans sb
    have hzc : DpAll K Hb (cutV zs (some (-1)) none) ((trackL lots es es.length).drop (es.length - 1)) := by rw [c1, lzs]; exact hzd
    refine ⟨_, rfl, _, rfl, tr, zs, rfl, hz1, fun wh => ?_, fun _ x nx => ?_⟩
    · have z0 : zs.length - 1 = 0 := by rw [← c2]; exact wh.1
      have e0 : es.length - 1 = 0 := by omega
      have sX : Same H8 Hb := s8b
      have hX : Dp K Hb (.ref tr) (lastD lots es) := .tup hz1 (by have := hzd; rw [e0] at this ⊢; exact this)
      refine ⟨.ref lg, rfl, .ref lo, rfl, lg, lo, vs, es, lots, rfl, .inr (sqt_same sX hlg), rows8.same sX, .inr (.inl (.inl (sX _ _ elo8))), sw, by omega, right, fun Hc Lw ys sc _ eL hy => ?_⟩
      have ly := dpa_len2 hy
      rw [walkL_len] at ly
      refine ⟨Lw, rfl, ⟨ys, .inl (.inl eL)⟩, fun D2 hD2 => lc_it (walk_list (xs := ys)) (fun i H' => Same Hc H' ∧ ∃ zs : List V, zs.length = i ∧ DpAll K (wo H' (fun b => b = D2)) zs (trackL lots es i) ∧ H' D2 = some (.lst zs)) ⟨same_upd hD2, [], rfl, .nil, upd_same⟩ (fun i H' _ h => .inl (.inl (h.1 _ _ eL))) ?_ ?_⟩
      · rintro i v Hd He hi ⟨sm, zs, lz, hz, eD⟩ ⟨rfl, hx⟩
        have m1 : Same Hc (wo He (fun b => b = D2)) := fun c o z => by
          rw [wo_in (X := fun b => b = D2) (ne_of_none z hD2)]
          exact sm _ _ z
        obtain ⟨d, fd, gd⟩ := dpa_at _ ys (dpa_same m1 _ _ hy) i v hx
        have := walkL_at lots es fd
        subst this
        obtain ⟨tt, wa, wb, rfl, htt, ga, gb⟩ := walk_parts gd
        have m6 : Same (wo He (fun b => b = D2)) (wo (upd He D2 (.lst (zs ++ [wb]))) (fun b => b = D2)) := wo_mut rfl
        refine ⟨tt, _, rfl, sqt_same wo_same htt, rfl, _, _, rfl, _, _, rfl, _, _, rfl, rfl, rfl, wb, rfl, zs, eD, small1000 (by omega), fun c o z => ?_, zs ++ [wb], ?_, ?_, upd_same⟩
        · rw [upd_ne (ne_of_none z hD2)]
          exact sm _ _ z
        · rw [List.length_append, lz]
          rfl
        · rw [trackL_succ]
          exact dpa_snoc (dp_same m6 _ _ gb) _ _ (dpa_same m6 _ _ hz)
      · rintro Hd ⟨sd, ws, lw, hw, eD2⟩
        rw [ly] at hw lw
        obtain ⟨d1, _, _⟩ := cut_last ws
        have hcut : DpAll K Hd (cutV ws (some (-1)) none) ((trackL lots es es.length).drop (es.length - 1)) := by rw [d1, lw]; exact dpa_same wo_same _ _ (dpa_dropK _ _ _ hw)
        refine ⟨_, rfl, _, rfl, D2, ws, rfl, .inl (.inl eD2), fun l nl => ⟨l, _, rfl, .inl ⟨.inl (.inl upd_same), fun r2 nr2 => ?_⟩⟩⟩
        have sl := (same_upd (o := .lst (cutV ws (some (-1)) none)) nl)
        have sr := same_upd (o := .tup (cutV ws (some (-1)) none)) nr2
        have sall := (sc.trans sd).trans (sl.trans sr)
        have h2 : Dp K (upd (upd Hd l (.lst (cutV ws (some (-1)) none))) r2 (.tup (cutV ws (some (-1)) none))) (.ref r2) (lastD lots es) := .tup (.inl (.inl upd_same)) (dpa_same (sl.trans sr) _ _ hcut)
        exact ⟨.ref tr, .ref r2, lastD lots es, rfl, dp_same sall _ _ hX, h2, lastD_ok lots es (by omega), fun Hf sf => ⟨_, rfl, iteF ⟨(s8.trans sX).trans (sall.trans sf), _, _, _, _, _, _, _, _, _, _, rfl⟩⟩⟩
    · have sx := same_upd (o := .tup (cutV zs (some (-1)) none)) nx
      have sX : Same H8 (upd Hb x (.tup (cutV zs (some (-1)) none))) := s8b.trans sx
      have hX : Dp K (upd Hb x (.tup (cutV zs (some (-1)) none))) (.ref x) (lastD lots es) := .tup (.inl (.inl upd_same)) (dpa_same sx _ _ hzc)
      refine ⟨.ref lg, rfl, .ref lo, rfl, lg, lo, vs, es, lots, rfl, .inr (sqt_same sX hlg), rows8.same sX, .inr (.inl (.inl (sX _ _ elo8))), sw, by omega, right, fun Hc Lw ys sc _ eL hy => ?_⟩
      have ly := dpa_len2 hy
      rw [walkL_len] at ly
      refine ⟨Lw, rfl, ⟨ys, .inl (.inl eL)⟩, fun D2 hD2 => lc_it (walk_list (xs := ys)) (fun i H' => Same Hc H' ∧ ∃ zs : List V, zs.length = i ∧ DpAll K (wo H' (fun b => b = D2)) zs (trackL lots es i) ∧ H' D2 = some (.lst zs)) ⟨same_upd hD2, [], rfl, .nil, upd_same⟩ (fun i H' _ h => .inl (.inl (h.1 _ _ eL))) ?_ ?_⟩
      · rintro i v Hd He hi ⟨sm, zs, lz, hz, eD⟩ ⟨rfl, hx⟩
        have m1 : Same Hc (wo He (fun b => b = D2)) := fun c o z => by
          rw [wo_in (X := fun b => b = D2) (ne_of_none z hD2)]
          exact sm _ _ z
        obtain ⟨d, fd, gd⟩ := dpa_at _ ys (dpa_same m1 _ _ hy) i v hx
        have := walkL_at lots es fd
        subst this
        obtain ⟨tt, wa, wb, rfl, htt, ga, gb⟩ := walk_parts gd
        have m6 : Same (wo He (fun b => b = D2)) (wo (upd He D2 (.lst (zs ++ [wb]))) (fun b => b = D2)) := wo_mut rfl
        refine ⟨tt, _, rfl, sqt_same wo_same htt, rfl, _, _, rfl, _, _, rfl, _, _, rfl, rfl, rfl, wb, rfl, zs, eD, small1000 (by omega), fun c o z => ?_, zs ++ [wb], ?_, ?_, upd_same⟩
        · rw [upd_ne (ne_of_none z hD2)]
          exact sm _ _ z
        · rw [List.length_append, lz]
          rfl
        · rw [trackL_succ]
          exact dpa_snoc (dp_same m6 _ _ gb) _ _ (dpa_same m6 _ _ hz)
      · rintro Hd ⟨sd, ws, lw, hw, eD2⟩
        rw [ly] at hw lw
        obtain ⟨d1, _, _⟩ := cut_last ws
        have hcut : DpAll K Hd (cutV ws (some (-1)) none) ((trackL lots es es.length).drop (es.length - 1)) := by rw [d1, lw]; exact dpa_same wo_same _ _ (dpa_dropK _ _ _ hw)
        refine ⟨_, rfl, _, rfl, D2, ws, rfl, .inl (.inl eD2), fun l nl => ⟨l, _, rfl, .inl ⟨.inl (.inl upd_same), fun r2 nr2 => ?_⟩⟩⟩
        have sl := (same_upd (o := .lst (cutV ws (some (-1)) none)) nl)
        have sr := same_upd (o := .tup (cutV ws (some (-1)) none)) nr2
        have sall := (sc.trans sd).trans (sl.trans sr)
        have h2 : Dp K (upd (upd Hd l (.lst (cutV ws (some (-1)) none))) r2 (.tup (cutV ws (some (-1)) none))) (.ref r2) (lastD lots es) := .tup (.inl (.inl upd_same)) (dpa_same (sl.trans sr) _ _ hcut)
        exact ⟨.ref x, .ref r2, lastD lots es, rfl, dp_same sall _ _ hX, h2, lastD_ok lots es (by omega), fun Hf sf => ⟨_, rfl, iteF ⟨(s8.trans sX).trans (sall.trans sf), _, _, _, _, _, _, _, _, _, _, rfl⟩⟩⟩
--@@SPLIT
end
theorem all_mk {l : PySem.W.OpenLaw} {w : World} {K : PySem.W.Frag} {h : Heap} {mg : Str → Option Value} {fa : Addr} (X : K.In h) (G : h.Ns mainGlobals mg) (hfa : mg "law" = some (.ref fa))
    {f_is_whole : Addr} {od_is_whole an_is_whole : Option Addr} {sl_is_whole : Array (Option Value)} {oc_is_whole kV_is_whole dc_is_whole pm_is_whole cd_is_whole ct_is_whole : Value}
    {f_step : Addr} {od_step an_step : Option Addr} {sl_step : Array (Option Value)} {oc_step kV_step dc_step pm_step cd_step ct_step : Value}
    {f_way_of : Addr} {od_way_of an_way_of : Option Addr} {sl_way_of : Array (Option Value)} {oc_way_of kV_way_of dc_way_of pm_way_of cd_way_of ct_way_of : Value}
    {f_is_lot : Addr} {od_is_lot an_is_lot : Option Addr} {sl_is_lot : Array (Option Value)} {oc_is_lot kV_is_lot dc_is_lot pm_is_lot cd_is_lot ct_is_lot : Value}
    {f_refuse_unless_lot : Addr} {od_refuse_unless_lot an_refuse_unless_lot : Option Addr} {sl_refuse_unless_lot : Array (Option Value)} {oc_refuse_unless_lot kV_refuse_unless_lot dc_refuse_unless_lot pm_refuse_unless_lot cd_refuse_unless_lot ct_refuse_unless_lot : Value}
    {f_mirrors : Addr} {od_mirrors an_mirrors : Option Addr} {sl_mirrors : Array (Option Value)} {oc_mirrors kV_mirrors dc_mirrors pm_mirrors cd_mirrors ct_mirrors : Value}
    {f_true : Addr} {od_true an_true : Option Addr} {sl_true : Array (Option Value)} {oc_true kV_true dc_true pm_true cd_true ct_true : Value}
    {f_legs_in : Addr} {od_legs_in an_legs_in : Option Addr} {sl_legs_in : Array (Option Value)} {oc_legs_in kV_legs_in dc_legs_in pm_legs_in cd_legs_in ct_legs_in : Value}
    {f_refuse_unless_lots : Addr} {od_refuse_unless_lots an_refuse_unless_lots : Option Addr} {sl_refuse_unless_lots : Array (Option Value)} {oc_refuse_unless_lots kV_refuse_unless_lots dc_refuse_unless_lots pm_refuse_unless_lots cd_refuse_unless_lots ct_refuse_unless_lots : Value}
    {f_gone : Addr} {od_gone an_gone : Option Addr} {sl_gone : Array (Option Value)} {oc_gone kV_gone dc_gone pm_gone cd_gone ct_gone : Value}
    {f_look_behind : Addr} {od_look_behind an_look_behind : Option Addr} {sl_look_behind : Array (Option Value)} {oc_look_behind kV_look_behind dc_look_behind pm_look_behind cd_look_behind ct_look_behind : Value}
    {f_track : Addr} {od_track an_track : Option Addr} {sl_track : Array (Option Value)} {oc_track kV_track dc_track pm_track cd_track ct_track : Value}
    {f_way_fact : Addr} {od_way_fact an_way_fact : Option Addr} {sl_way_fact : Array (Option Value)} {oc_way_fact kV_way_fact dc_way_fact pm_way_fact cd_way_fact ct_way_fact : Value}
    {f_facts_of_entry : Addr} {od_facts_of_entry an_facts_of_entry : Option Addr} {sl_facts_of_entry : Array (Option Value)} {oc_facts_of_entry kV_facts_of_entry dc_facts_of_entry pm_facts_of_entry cd_facts_of_entry ct_facts_of_entry : Value}
    {f_facts : Addr} {od_facts an_facts : Option Addr} {sl_facts : Array (Option Value)} {oc_facts kV_facts dc_facts pm_facts cd_facts ct_facts : Value}
    {f_Llots : Addr} {od_Llots an_Llots : Option Addr} {sl_Llots : Array (Option Value)} {oc_Llots kV_Llots dc_Llots pm_Llots cd_Llots ct_Llots : Value}
    {f_Lpool : Addr} {od_Lpool an_Lpool : Option Addr} {sl_Lpool : Array (Option Value)} {oc_Lpool kV_Lpool dc_Lpool pm_Lpool cd_Lpool ct_Lpool : Value}
    {f_Ltake : Addr} {od_Ltake an_Ltake : Option Addr} {sl_Ltake : Array (Option Value)} {oc_Ltake kV_Ltake dc_Ltake pm_Ltake cd_Ltake ct_Ltake : Value}
    {f_Lwhole : Addr} {od_Lwhole an_Lwhole : Option Addr} {sl_Lwhole : Array (Option Value)} {oc_Lwhole kV_Lwhole dc_Lwhole pm_Lwhole cd_Lwhole ct_Lwhole : Value}
    {f_Lsame : Addr} {od_Lsame an_Lsame : Option Addr} {sl_Lsame : Array (Option Value)} {oc_Lsame kV_Lsame dc_Lsame pm_Lsame cd_Lsame ct_Lsame : Value}
    {f_Ltrue : Addr} {od_Ltrue an_Ltrue : Option Addr} {sl_Ltrue : Array (Option Value)} {oc_Ltrue kV_Ltrue dc_Ltrue pm_Ltrue cd_Ltrue ct_Ltrue : Value}
    {f_Loff : Addr} {od_Loff an_Loff : Option Addr} {sl_Loff : Array (Option Value)} {oc_Loff kV_Loff dc_Loff pm_Loff cd_Loff ct_Loff : Value}
    {f_Lside : Addr} {od_Lside an_Lside : Option Addr} {sl_Lside : Array (Option Value)} {oc_Lside kV_Lside dc_Lside pm_Lside cd_Lside ct_Lside : Value}
    {f_Lname : Addr} {od_Lname an_Lname : Option Addr} {sl_Lname : Array (Option Value)} {oc_Lname kV_Lname dc_Lname pm_Lname cd_Lname ct_Lname : Value}
    {f_Lnames : Addr} {od_Lnames an_Lnames : Option Addr} {sl_Lnames : Array (Option Value)} {oc_Lnames kV_Lnames dc_Lnames pm_Lnames cd_Lnames ct_Lnames : Value}
    {f_Lwalk : Addr} {od_Lwalk an_Lwalk : Option Addr} {sl_Lwalk : Array (Option Value)} {oc_Lwalk kV_Lwalk dc_Lwalk pm_Lwalk cd_Lwalk ct_Lwalk : Value}
    {f_Lland : Addr} {od_Lland an_Lland : Option Addr} {sl_Lland : Array (Option Value)} {oc_Lland kV_Lland dc_Lland pm_Lland cd_Lland ct_Lland : Value}
    {f_Lentry : Addr} {od_Lentry an_Lentry : Option Addr} {sl_Lentry : Array (Option Value)} {oc_Lentry kV_Lentry dc_Lentry pm_Lentry cd_Lentry ct_Lentry : Value}
    {f_Lwritten : Addr} {od_Lwritten an_Lwritten : Option Addr} {sl_Lwritten : Array (Option Value)} {oc_Lwritten kV_Lwritten dc_Lwritten pm_Lwritten cd_Lwritten ct_Lwritten : Value}
    {f_Lso : Addr} {od_Lso an_Lso : Option Addr} {sl_Lso : Array (Option Value)} {oc_Lso kV_Lso dc_Lso pm_Lso cd_Lso ct_Lso : Value}
    {f_law : Addr} {od_law an_law : Option Addr} {sl_law : Array (Option Value)} {oc_law kV_law dc_law pm_law cd_law ct_law : Value}
    {t_LETTERS : Tok}
    {f_STEPS : Addr}
    {es_STEPS : Array DictEntry} {n_STEPS : Nat}
    
    {q_STEPS_0 : Addr}
    {dd_STEPS_0 : Option Addr} {sl_STEPS_0 : Array (Option Value)} {nn_STEPS_0 : Nat} {tk_STEPS_0_0 : Tok} {tk_STEPS_0_1 : Tok}
    {q_STEPS_1 : Addr}
    {dd_STEPS_1 : Option Addr} {sl_STEPS_1 : Array (Option Value)} {nn_STEPS_1 : Nat} {tk_STEPS_1_0 : Tok} {tk_STEPS_1_1 : Tok}
    {q_STEPS_2 : Addr}
    {dd_STEPS_2 : Option Addr} {sl_STEPS_2 : Array (Option Value)} {nn_STEPS_2 : Nat} {tk_STEPS_2_0 : Tok} {tk_STEPS_2_1 : Tok}
    {q_STEPS_3 : Addr}
    {dd_STEPS_3 : Option Addr} {sl_STEPS_3 : Array (Option Value)} {nn_STEPS_3 : Nat} {tk_STEPS_3_0 : Tok} {tk_STEPS_3_1 : Tok}
    {f_QUARTERS : Addr}
    {es_QUARTERS : Array DictEntry} {n_QUARTERS : Nat}
    
    
    
    {tk_QUARTERS_0 : Tok}
    {tk_QUARTERS_1 : Tok}
    {tk_QUARTERS_2 : Tok}
    {f_START : Addr}
    {tk_START_1 : Tok}
    {dd_START : Option Addr} {sl_START : Array (Option Value)} {nn_START : Nat}
    {q_START_0 : Addr} {dd_START_0 : Option Addr} {sl_START_0 : Array (Option Value)} {nn_START_0 : Nat} {tk_START_0_0 : Tok} {tk_START_0_1 : Tok}
    (A_is_whole : PySem.W.nsIn K mainGlobals "is_whole" = some (some (.ref f_is_whole))) (L_is_whole : K.lookup f_is_whole = some ⟨oc_is_whole, od_is_whole, .func (PySem.W.fnOf "is_whole" "is_whole" (defArgs s_is_whole) (defBody s_is_whole) (defScope s_is_whole) .none kV_is_whole dc_is_whole pm_is_whole an_is_whole cd_is_whole ct_is_whole), sl_is_whole⟩) (C_is_whole : PySem.W.codeIn K cd_is_whole "is_whole" = true) (K_is_whole : PySem.W.keepIn K (.ref f_is_whole) = true)
    (A_step : PySem.W.nsIn K mainGlobals "step" = some (some (.ref f_step))) (L_step : K.lookup f_step = some ⟨oc_step, od_step, .func (PySem.W.fnOf "step" "step" (defArgs s_step) (defBody s_step) (defScope s_step) .none kV_step dc_step pm_step an_step cd_step ct_step), sl_step⟩) (C_step : PySem.W.codeIn K cd_step "step" = true) (K_step : PySem.W.keepIn K (.ref f_step) = true)
    (A_way_of : PySem.W.nsIn K mainGlobals "way_of" = some (some (.ref f_way_of))) (L_way_of : K.lookup f_way_of = some ⟨oc_way_of, od_way_of, .func (PySem.W.fnOf "way_of" "way_of" (defArgs s_way_of) (defBody s_way_of) (defScope s_way_of) .none kV_way_of dc_way_of pm_way_of an_way_of cd_way_of ct_way_of), sl_way_of⟩) (C_way_of : PySem.W.codeIn K cd_way_of "way_of" = true) (K_way_of : PySem.W.keepIn K (.ref f_way_of) = true)
    (A_is_lot : PySem.W.nsIn K mainGlobals "is_lot" = some (some (.ref f_is_lot))) (L_is_lot : K.lookup f_is_lot = some ⟨oc_is_lot, od_is_lot, .func (PySem.W.fnOf "is_lot" "is_lot" (defArgs s_is_lot) (defBody s_is_lot) (defScope s_is_lot) .none kV_is_lot dc_is_lot pm_is_lot an_is_lot cd_is_lot ct_is_lot), sl_is_lot⟩) (C_is_lot : PySem.W.codeIn K cd_is_lot "is_lot" = true) (K_is_lot : PySem.W.keepIn K (.ref f_is_lot) = true)
    (A_refuse_unless_lot : PySem.W.nsIn K mainGlobals "refuse_unless_lot" = some (some (.ref f_refuse_unless_lot))) (L_refuse_unless_lot : K.lookup f_refuse_unless_lot = some ⟨oc_refuse_unless_lot, od_refuse_unless_lot, .func (PySem.W.fnOf "refuse_unless_lot" "refuse_unless_lot" (defArgs s_refuse_unless_lot) (defBody s_refuse_unless_lot) (defScope s_refuse_unless_lot) .none kV_refuse_unless_lot dc_refuse_unless_lot pm_refuse_unless_lot an_refuse_unless_lot cd_refuse_unless_lot ct_refuse_unless_lot), sl_refuse_unless_lot⟩) (C_refuse_unless_lot : PySem.W.codeIn K cd_refuse_unless_lot "refuse_unless_lot" = true) (K_refuse_unless_lot : PySem.W.keepIn K (.ref f_refuse_unless_lot) = true)
    (A_mirrors : PySem.W.nsIn K mainGlobals "mirrors" = some (some (.ref f_mirrors))) (L_mirrors : K.lookup f_mirrors = some ⟨oc_mirrors, od_mirrors, .func (PySem.W.fnOf "mirrors" "mirrors" (defArgs s_mirrors) (defBody s_mirrors) (defScope s_mirrors) .none kV_mirrors dc_mirrors pm_mirrors an_mirrors cd_mirrors ct_mirrors), sl_mirrors⟩) (C_mirrors : PySem.W.codeIn K cd_mirrors "mirrors" = true) (K_mirrors : PySem.W.keepIn K (.ref f_mirrors) = true)
    (A_true : PySem.W.nsIn K mainGlobals "true" = some (some (.ref f_true))) (L_true : K.lookup f_true = some ⟨oc_true, od_true, .func (PySem.W.fnOf "true" "true" (defArgs s_true) (defBody s_true) (defScope s_true) .none kV_true dc_true pm_true an_true cd_true ct_true), sl_true⟩) (C_true : PySem.W.codeIn K cd_true "true" = true) (K_true : PySem.W.keepIn K (.ref f_true) = true)
    (A_legs_in : PySem.W.nsIn K mainGlobals "legs_in" = some (some (.ref f_legs_in))) (L_legs_in : K.lookup f_legs_in = some ⟨oc_legs_in, od_legs_in, .func (PySem.W.fnOf "legs_in" "legs_in" (defArgs s_legs_in) (defBody s_legs_in) (defScope s_legs_in) .none kV_legs_in dc_legs_in pm_legs_in an_legs_in cd_legs_in ct_legs_in), sl_legs_in⟩) (C_legs_in : PySem.W.codeIn K cd_legs_in "legs_in" = true) (K_legs_in : PySem.W.keepIn K (.ref f_legs_in) = true)
    (A_refuse_unless_lots : PySem.W.nsIn K mainGlobals "refuse_unless_lots" = some (some (.ref f_refuse_unless_lots))) (L_refuse_unless_lots : K.lookup f_refuse_unless_lots = some ⟨oc_refuse_unless_lots, od_refuse_unless_lots, .func (PySem.W.fnOf "refuse_unless_lots" "refuse_unless_lots" (defArgs s_refuse_unless_lots) (defBody s_refuse_unless_lots) (defScope s_refuse_unless_lots) .none kV_refuse_unless_lots dc_refuse_unless_lots pm_refuse_unless_lots an_refuse_unless_lots cd_refuse_unless_lots ct_refuse_unless_lots), sl_refuse_unless_lots⟩) (C_refuse_unless_lots : PySem.W.codeIn K cd_refuse_unless_lots "refuse_unless_lots" = true) (K_refuse_unless_lots : PySem.W.keepIn K (.ref f_refuse_unless_lots) = true)
    (A_gone : PySem.W.nsIn K mainGlobals "gone" = some (some (.ref f_gone))) (L_gone : K.lookup f_gone = some ⟨oc_gone, od_gone, .func (PySem.W.fnOf "gone" "gone" (defArgs s_gone) (defBody s_gone) (defScope s_gone) .none kV_gone dc_gone pm_gone an_gone cd_gone ct_gone), sl_gone⟩) (C_gone : PySem.W.codeIn K cd_gone "gone" = true) (K_gone : PySem.W.keepIn K (.ref f_gone) = true)
    (A_look_behind : PySem.W.nsIn K mainGlobals "look_behind" = some (some (.ref f_look_behind))) (L_look_behind : K.lookup f_look_behind = some ⟨oc_look_behind, od_look_behind, .func (PySem.W.fnOf "look_behind" "look_behind" (defArgs s_look_behind) (defBody s_look_behind) (defScope s_look_behind) .none kV_look_behind dc_look_behind pm_look_behind an_look_behind cd_look_behind ct_look_behind), sl_look_behind⟩) (C_look_behind : PySem.W.codeIn K cd_look_behind "look_behind" = true) (K_look_behind : PySem.W.keepIn K (.ref f_look_behind) = true)
    (A_track : PySem.W.nsIn K mainGlobals "track" = some (some (.ref f_track))) (L_track : K.lookup f_track = some ⟨oc_track, od_track, .func (PySem.W.fnOf "track" "track" (defArgs s_track) (defBody s_track) (defScope s_track) .none kV_track dc_track pm_track an_track cd_track ct_track), sl_track⟩) (C_track : PySem.W.codeIn K cd_track "track" = true) (K_track : PySem.W.keepIn K (.ref f_track) = true)
    (A_way_fact : PySem.W.nsIn K mainGlobals "way_fact" = some (some (.ref f_way_fact))) (L_way_fact : K.lookup f_way_fact = some ⟨oc_way_fact, od_way_fact, .func (PySem.W.fnOf "way_fact" "way_fact" (defArgs s_way_fact) (defBody s_way_fact) (defScope s_way_fact) .none kV_way_fact dc_way_fact pm_way_fact an_way_fact cd_way_fact ct_way_fact), sl_way_fact⟩) (C_way_fact : PySem.W.codeIn K cd_way_fact "way_fact" = true) (K_way_fact : PySem.W.keepIn K (.ref f_way_fact) = true)
    (A_facts_of_entry : PySem.W.nsIn K mainGlobals "facts_of_entry" = some (some (.ref f_facts_of_entry))) (L_facts_of_entry : K.lookup f_facts_of_entry = some ⟨oc_facts_of_entry, od_facts_of_entry, .func (PySem.W.fnOf "facts_of_entry" "facts_of_entry" (defArgs s_facts_of_entry) (defBody s_facts_of_entry) (defScope s_facts_of_entry) .none kV_facts_of_entry dc_facts_of_entry pm_facts_of_entry an_facts_of_entry cd_facts_of_entry ct_facts_of_entry), sl_facts_of_entry⟩) (C_facts_of_entry : PySem.W.codeIn K cd_facts_of_entry "facts_of_entry" = true) (K_facts_of_entry : PySem.W.keepIn K (.ref f_facts_of_entry) = true)
    (A_facts : PySem.W.nsIn K mainGlobals "facts" = some (some (.ref f_facts))) (L_facts : K.lookup f_facts = some ⟨oc_facts, od_facts, .func (PySem.W.fnOf "facts" "facts" (defArgs s_facts) (defBody s_facts) (defScope s_facts) .none kV_facts dc_facts pm_facts an_facts cd_facts ct_facts), sl_facts⟩) (C_facts : PySem.W.codeIn K cd_facts "facts" = true) (K_facts : PySem.W.keepIn K (.ref f_facts) = true)
    (A_Llots : PySem.W.nsIn K mainGlobals "_law_lots" = some (some (.ref f_Llots))) (L_Llots : K.lookup f_Llots = some ⟨oc_Llots, od_Llots, .func (PySem.W.fnOf "_law_lots" "_law_lots" (defArgs s_Llots) (defBody s_Llots) (defScope s_Llots) .none kV_Llots dc_Llots pm_Llots an_Llots cd_Llots ct_Llots), sl_Llots⟩) (C_Llots : PySem.W.codeIn K cd_Llots "_law_lots" = true) (K_Llots : PySem.W.keepIn K (.ref f_Llots) = true)
    (A_Lpool : PySem.W.nsIn K mainGlobals "_law_pool" = some (some (.ref f_Lpool))) (L_Lpool : K.lookup f_Lpool = some ⟨oc_Lpool, od_Lpool, .func (PySem.W.fnOf "_law_pool" "_law_pool" (defArgs s_Lpool) (defBody s_Lpool) (defScope s_Lpool) .none kV_Lpool dc_Lpool pm_Lpool an_Lpool cd_Lpool ct_Lpool), sl_Lpool⟩) (C_Lpool : PySem.W.codeIn K cd_Lpool "_law_pool" = true) (K_Lpool : PySem.W.keepIn K (.ref f_Lpool) = true)
    (A_Ltake : PySem.W.nsIn K mainGlobals "_law_take" = some (some (.ref f_Ltake))) (L_Ltake : K.lookup f_Ltake = some ⟨oc_Ltake, od_Ltake, .func (PySem.W.fnOf "_law_take" "_law_take" (defArgs s_Ltake) (defBody s_Ltake) (defScope s_Ltake) .none kV_Ltake dc_Ltake pm_Ltake an_Ltake cd_Ltake ct_Ltake), sl_Ltake⟩) (C_Ltake : PySem.W.codeIn K cd_Ltake "_law_take" = true) (K_Ltake : PySem.W.keepIn K (.ref f_Ltake) = true)
    (A_Lwhole : PySem.W.nsIn K mainGlobals "_law_whole" = some (some (.ref f_Lwhole))) (L_Lwhole : K.lookup f_Lwhole = some ⟨oc_Lwhole, od_Lwhole, .func (PySem.W.fnOf "_law_whole" "_law_whole" (defArgs s_Lwhole) (defBody s_Lwhole) (defScope s_Lwhole) .none kV_Lwhole dc_Lwhole pm_Lwhole an_Lwhole cd_Lwhole ct_Lwhole), sl_Lwhole⟩) (C_Lwhole : PySem.W.codeIn K cd_Lwhole "_law_whole" = true) (K_Lwhole : PySem.W.keepIn K (.ref f_Lwhole) = true)
    (A_Lsame : PySem.W.nsIn K mainGlobals "_law_same" = some (some (.ref f_Lsame))) (L_Lsame : K.lookup f_Lsame = some ⟨oc_Lsame, od_Lsame, .func (PySem.W.fnOf "_law_same" "_law_same" (defArgs s_Lsame) (defBody s_Lsame) (defScope s_Lsame) .none kV_Lsame dc_Lsame pm_Lsame an_Lsame cd_Lsame ct_Lsame), sl_Lsame⟩) (C_Lsame : PySem.W.codeIn K cd_Lsame "_law_same" = true) (K_Lsame : PySem.W.keepIn K (.ref f_Lsame) = true)
    (A_Ltrue : PySem.W.nsIn K mainGlobals "_law_true" = some (some (.ref f_Ltrue))) (L_Ltrue : K.lookup f_Ltrue = some ⟨oc_Ltrue, od_Ltrue, .func (PySem.W.fnOf "_law_true" "_law_true" (defArgs s_Ltrue) (defBody s_Ltrue) (defScope s_Ltrue) .none kV_Ltrue dc_Ltrue pm_Ltrue an_Ltrue cd_Ltrue ct_Ltrue), sl_Ltrue⟩) (C_Ltrue : PySem.W.codeIn K cd_Ltrue "_law_true" = true) (K_Ltrue : PySem.W.keepIn K (.ref f_Ltrue) = true)
    (A_Loff : PySem.W.nsIn K mainGlobals "_law_off" = some (some (.ref f_Loff))) (L_Loff : K.lookup f_Loff = some ⟨oc_Loff, od_Loff, .func (PySem.W.fnOf "_law_off" "_law_off" (defArgs s_Loff) (defBody s_Loff) (defScope s_Loff) .none kV_Loff dc_Loff pm_Loff an_Loff cd_Loff ct_Loff), sl_Loff⟩) (C_Loff : PySem.W.codeIn K cd_Loff "_law_off" = true) (K_Loff : PySem.W.keepIn K (.ref f_Loff) = true)
    (A_Lside : PySem.W.nsIn K mainGlobals "_law_side" = some (some (.ref f_Lside))) (L_Lside : K.lookup f_Lside = some ⟨oc_Lside, od_Lside, .func (PySem.W.fnOf "_law_side" "_law_side" (defArgs s_Lside) (defBody s_Lside) (defScope s_Lside) .none kV_Lside dc_Lside pm_Lside an_Lside cd_Lside ct_Lside), sl_Lside⟩) (C_Lside : PySem.W.codeIn K cd_Lside "_law_side" = true) (K_Lside : PySem.W.keepIn K (.ref f_Lside) = true)
    (A_Lname : PySem.W.nsIn K mainGlobals "_law_name" = some (some (.ref f_Lname))) (L_Lname : K.lookup f_Lname = some ⟨oc_Lname, od_Lname, .func (PySem.W.fnOf "_law_name" "_law_name" (defArgs s_Lname) (defBody s_Lname) (defScope s_Lname) .none kV_Lname dc_Lname pm_Lname an_Lname cd_Lname ct_Lname), sl_Lname⟩) (C_Lname : PySem.W.codeIn K cd_Lname "_law_name" = true) (K_Lname : PySem.W.keepIn K (.ref f_Lname) = true)
    (A_Lnames : PySem.W.nsIn K mainGlobals "_law_names" = some (some (.ref f_Lnames))) (L_Lnames : K.lookup f_Lnames = some ⟨oc_Lnames, od_Lnames, .func (PySem.W.fnOf "_law_names" "_law_names" (defArgs s_Lnames) (defBody s_Lnames) (defScope s_Lnames) .none kV_Lnames dc_Lnames pm_Lnames an_Lnames cd_Lnames ct_Lnames), sl_Lnames⟩) (C_Lnames : PySem.W.codeIn K cd_Lnames "_law_names" = true) (K_Lnames : PySem.W.keepIn K (.ref f_Lnames) = true)
    (A_Lwalk : PySem.W.nsIn K mainGlobals "_law_walk" = some (some (.ref f_Lwalk))) (L_Lwalk : K.lookup f_Lwalk = some ⟨oc_Lwalk, od_Lwalk, .func (PySem.W.fnOf "_law_walk" "_law_walk" (defArgs s_Lwalk) (defBody s_Lwalk) (defScope s_Lwalk) .none kV_Lwalk dc_Lwalk pm_Lwalk an_Lwalk cd_Lwalk ct_Lwalk), sl_Lwalk⟩) (C_Lwalk : PySem.W.codeIn K cd_Lwalk "_law_walk" = true) (K_Lwalk : PySem.W.keepIn K (.ref f_Lwalk) = true)
    (A_Lland : PySem.W.nsIn K mainGlobals "_law_land" = some (some (.ref f_Lland))) (L_Lland : K.lookup f_Lland = some ⟨oc_Lland, od_Lland, .func (PySem.W.fnOf "_law_land" "_law_land" (defArgs s_Lland) (defBody s_Lland) (defScope s_Lland) .none kV_Lland dc_Lland pm_Lland an_Lland cd_Lland ct_Lland), sl_Lland⟩) (C_Lland : PySem.W.codeIn K cd_Lland "_law_land" = true) (K_Lland : PySem.W.keepIn K (.ref f_Lland) = true)
    (A_Lentry : PySem.W.nsIn K mainGlobals "_law_entry" = some (some (.ref f_Lentry))) (L_Lentry : K.lookup f_Lentry = some ⟨oc_Lentry, od_Lentry, .func (PySem.W.fnOf "_law_entry" "_law_entry" (defArgs s_Lentry) (defBody s_Lentry) (defScope s_Lentry) .none kV_Lentry dc_Lentry pm_Lentry an_Lentry cd_Lentry ct_Lentry), sl_Lentry⟩) (C_Lentry : PySem.W.codeIn K cd_Lentry "_law_entry" = true) (K_Lentry : PySem.W.keepIn K (.ref f_Lentry) = true)
    (A_Lwritten : PySem.W.nsIn K mainGlobals "_law_written" = some (some (.ref f_Lwritten))) (L_Lwritten : K.lookup f_Lwritten = some ⟨oc_Lwritten, od_Lwritten, .func (PySem.W.fnOf "_law_written" "_law_written" (defArgs s_Lwritten) (defBody s_Lwritten) (defScope s_Lwritten) .none kV_Lwritten dc_Lwritten pm_Lwritten an_Lwritten cd_Lwritten ct_Lwritten), sl_Lwritten⟩) (C_Lwritten : PySem.W.codeIn K cd_Lwritten "_law_written" = true) (K_Lwritten : PySem.W.keepIn K (.ref f_Lwritten) = true)
    (A_Lso : PySem.W.nsIn K mainGlobals "_law_so" = some (some (.ref f_Lso))) (L_Lso : K.lookup f_Lso = some ⟨oc_Lso, od_Lso, .func (PySem.W.fnOf "_law_so" "_law_so" (defArgs s_Lso) (defBody s_Lso) (defScope s_Lso) .none kV_Lso dc_Lso pm_Lso an_Lso cd_Lso ct_Lso), sl_Lso⟩) (C_Lso : PySem.W.codeIn K cd_Lso "_law_so" = true) (K_Lso : PySem.W.keepIn K (.ref f_Lso) = true)
    (A_law : PySem.W.nsIn K mainGlobals "law" = some (some (.ref f_law))) (L_law : K.lookup f_law = some ⟨oc_law, od_law, .func (PySem.W.fnOf "law" "law" (defArgs s_law) (defBody s_law) (defScope s_law) .none kV_law dc_law pm_law an_law cd_law ct_law), sl_law⟩) (C_law : PySem.W.codeIn K cd_law "law" = true) (K_law : PySem.W.keepIn K (.ref f_law) = true)
    (A_LETTERS : PySem.W.nsIn K mainGlobals "LETTERS" = some (some (.str "nesw" t_LETTERS)))
    (A_STEPS : PySem.W.nsIn K mainGlobals "STEPS" = some (some (.ref f_STEPS)))
    (D_STEPS : K.lookup f_STEPS = some ⟨.type "dict", none, .dict es_STEPS n_STEPS, #[]⟩)
    (Y_STEPS : PySem.W.KeysLit w.params es_STEPS.toList)
    (N_STEPS_0 : PySem.W.nsIn K f_STEPS "n" = some (some (.ref q_STEPS_0)))
    (V_STEPS_0 : K.lookup q_STEPS_0 = some ⟨.type "tuple", dd_STEPS_0, .seq #[.int (0) tk_STEPS_0_0, .int (1) tk_STEPS_0_1] nn_STEPS_0, sl_STEPS_0⟩)
    (N_STEPS_1 : PySem.W.nsIn K f_STEPS "e" = some (some (.ref q_STEPS_1)))
    (V_STEPS_1 : K.lookup q_STEPS_1 = some ⟨.type "tuple", dd_STEPS_1, .seq #[.int (1) tk_STEPS_1_0, .int (0) tk_STEPS_1_1] nn_STEPS_1, sl_STEPS_1⟩)
    (N_STEPS_2 : PySem.W.nsIn K f_STEPS "s" = some (some (.ref q_STEPS_2)))
    (V_STEPS_2 : K.lookup q_STEPS_2 = some ⟨.type "tuple", dd_STEPS_2, .seq #[.int (0) tk_STEPS_2_0, .int (-1) tk_STEPS_2_1] nn_STEPS_2, sl_STEPS_2⟩)
    (N_STEPS_3 : PySem.W.nsIn K f_STEPS "w" = some (some (.ref q_STEPS_3)))
    (V_STEPS_3 : K.lookup q_STEPS_3 = some ⟨.type "tuple", dd_STEPS_3, .seq #[.int (-1) tk_STEPS_3_0, .int (0) tk_STEPS_3_1] nn_STEPS_3, sl_STEPS_3⟩)
    (A_QUARTERS : PySem.W.nsIn K mainGlobals "QUARTERS" = some (some (.ref f_QUARTERS)))
    (D_QUARTERS : K.lookup f_QUARTERS = some ⟨.type "dict", none, .dict es_QUARTERS n_QUARTERS, #[]⟩)
    (Y_QUARTERS : PySem.W.KeysLit w.params es_QUARTERS.toList)
    (lo_QUARTERS : (f_QUARTERS == sysModules) = false)
    (ke_QUARTERS : Keys es_QUARTERS.toList ["right", "back", "left"])
    (N_QUARTERS_0 : PySem.W.nsIn K f_QUARTERS "right" = some (some (.int 1 tk_QUARTERS_0)))
    (N_QUARTERS_1 : PySem.W.nsIn K f_QUARTERS "back" = some (some (.int 2 tk_QUARTERS_1)))
    (N_QUARTERS_2 : PySem.W.nsIn K f_QUARTERS "left" = some (some (.int 3 tk_QUARTERS_2)))
    (A_START : PySem.W.nsIn K mainGlobals "START" = some (some (.ref f_START)))
    (V_START : K.lookup f_START = some ⟨.type "tuple", dd_START, .seq #[.ref q_START_0, .str "" tk_START_1] nn_START, sl_START⟩)
    (V_START_0 : K.lookup q_START_0 = some ⟨.type "tuple", dd_START_0, .seq #[.int (0) tk_START_0_0, .int (0) tk_START_0_1] nn_START_0, sl_START_0⟩)
    (Z_abs : PySem.W.nsIn K mainGlobals "abs" = some none)
    (Z_all : PySem.W.nsIn K mainGlobals "all" = some none)
    (Z_bool : PySem.W.nsIn K mainGlobals "bool" = some none)
    (Z_enumerate : PySem.W.nsIn K mainGlobals "enumerate" = some none)
    (Z_int : PySem.W.nsIn K mainGlobals "int" = some none)
    (Z_isinstance : PySem.W.nsIn K mainGlobals "isinstance" = some none)
    (Z_len : PySem.W.nsIn K mainGlobals "len" = some none)
    (Z_range : PySem.W.nsIn K mainGlobals "range" = some none)
    (Z_str : PySem.W.nsIn K mainGlobals "str" = some none)
    (Z_tuple : PySem.W.nsIn K mainGlobals "tuple" = some none)
    (Z_zip : PySem.W.nsIn K mainGlobals "zip" = some none) :
    ∃ fd : FuncData, (∀ (s : Shared) (v : Value), BindsTo s fd ⟨[v], []⟩ [("_law_script", v)]) ∧ ∀ base : Heap, K.In base → base.Ns mainGlobals mg → FnOk l.prog w K mg base CX0 8 fa fd ["_law_script"] (spLaw K) := by
  have e := hfa.symm.trans (PySem.W.mg_of X G A_law)
  cases e
  let T : Top w K mg := {
    a_is_whole := f_is_whole, fd_is_whole := _, F_is_whole := fun_mk (st := s_is_whole) L_is_whole C_is_whole K_is_whole,
    b_is_whole := (fun_mk (st := s_is_whole) L_is_whole C_is_whole K_is_whole).binds (ps := ["thing"]) fun _ _ _ _ _ _ us hl => match us, hl with | [_], _ => rfl,
    g_is_whole := PySem.W.mg_of X G A_is_whole,
    a_step := f_step, fd_step := _, F_step := fun_mk (st := s_step) L_step C_step K_step,
    b_step := (fun_mk (st := s_step) L_step C_step K_step).binds (ps := ["letter"]) fun _ _ _ _ _ _ us hl => match us, hl with | [_], _ => rfl,
    g_step := PySem.W.mg_of X G A_step,
    a_way_of := f_way_of, fd_way_of := _, F_way_of := fun_mk (st := s_way_of) L_way_of C_way_of K_way_of,
    b_way_of := (fun_mk (st := s_way_of) L_way_of C_way_of K_way_of).binds (ps := ["place", "letter"]) fun _ _ _ _ _ _ us hl => match us, hl with | [_, _], _ => rfl,
    g_way_of := PySem.W.mg_of X G A_way_of,
    a_is_lot := f_is_lot, fd_is_lot := _, F_is_lot := fun_mk (st := s_is_lot) L_is_lot C_is_lot K_is_lot,
    b_is_lot := (fun_mk (st := s_is_lot) L_is_lot C_is_lot K_is_lot).binds (ps := ["thing"]) fun _ _ _ _ _ _ us hl => match us, hl with | [_], _ => rfl,
    g_is_lot := PySem.W.mg_of X G A_is_lot,
    a_refuse_unless_lot := f_refuse_unless_lot, fd_refuse_unless_lot := _, F_refuse_unless_lot := fun_mk (st := s_refuse_unless_lot) L_refuse_unless_lot C_refuse_unless_lot K_refuse_unless_lot,
    b_refuse_unless_lot := (fun_mk (st := s_refuse_unless_lot) L_refuse_unless_lot C_refuse_unless_lot K_refuse_unless_lot).binds (ps := ["thing"]) fun _ _ _ _ _ _ us hl => match us, hl with | [_], _ => rfl,
    g_refuse_unless_lot := PySem.W.mg_of X G A_refuse_unless_lot,
    a_mirrors := f_mirrors, fd_mirrors := _, F_mirrors := fun_mk (st := s_mirrors) L_mirrors C_mirrors K_mirrors,
    b_mirrors := (fun_mk (st := s_mirrors) L_mirrors C_mirrors K_mirrors).binds (ps := ["lot"]) fun _ _ _ _ _ _ us hl => match us, hl with | [_], _ => rfl,
    g_mirrors := PySem.W.mg_of X G A_mirrors,
    a_true := f_true, fd_true := _, F_true := fun_mk (st := s_true) L_true C_true K_true,
    b_true := (fun_mk (st := s_true) L_true C_true K_true).binds (ps := ["lot", "letter"]) fun _ _ _ _ _ _ us hl => match us, hl with | [_, _], _ => rfl,
    g_true := PySem.W.mg_of X G A_true,
    a_legs_in := f_legs_in, fd_legs_in := _, F_legs_in := fun_mk (st := s_legs_in) L_legs_in C_legs_in K_legs_in,
    b_legs_in := (fun_mk (st := s_legs_in) L_legs_in C_legs_in K_legs_in).binds (ps := ["log"]) fun _ _ _ _ _ _ us hl => match us, hl with | [_], _ => rfl,
    g_legs_in := PySem.W.mg_of X G A_legs_in,
    a_refuse_unless_lots := f_refuse_unless_lots, fd_refuse_unless_lots := _, F_refuse_unless_lots := fun_mk (st := s_refuse_unless_lots) L_refuse_unless_lots C_refuse_unless_lots K_refuse_unless_lots,
    b_refuse_unless_lots := (fun_mk (st := s_refuse_unless_lots) L_refuse_unless_lots C_refuse_unless_lots K_refuse_unless_lots).binds (ps := ["log", "lots"]) fun _ _ _ _ _ _ us hl => match us, hl with | [_, _], _ => rfl,
    g_refuse_unless_lots := PySem.W.mg_of X G A_refuse_unless_lots,
    a_gone := f_gone, fd_gone := _, F_gone := fun_mk (st := s_gone) L_gone C_gone K_gone,
    b_gone := (fun_mk (st := s_gone) L_gone C_gone K_gone).binds (ps := ["place", "letter", "many"]) fun _ _ _ _ _ _ us hl => match us, hl with | [_, _, _], _ => rfl,
    g_gone := PySem.W.mg_of X G A_gone,
    a_look_behind := f_look_behind, fd_look_behind := _, F_look_behind := fun_mk (st := s_look_behind) L_look_behind C_look_behind K_look_behind,
    b_look_behind := (fun_mk (st := s_look_behind) L_look_behind C_look_behind K_look_behind).binds (ps := ["entry", "lot", "look"]) fun _ _ _ _ _ _ us hl => match us, hl with | [_, _, _], _ => rfl,
    g_look_behind := PySem.W.mg_of X G A_look_behind,
    a_track := f_track, fd_track := _, F_track := fun_mk (st := s_track) L_track C_track K_track,
    b_track := (fun_mk (st := s_track) L_track C_track K_track).binds (ps := ["log", "lots"]) fun _ _ _ _ _ _ us hl => match us, hl with | [_, _], _ => rfl,
    g_track := PySem.W.mg_of X G A_track,
    a_way_fact := f_way_fact, fd_way_fact := _, F_way_fact := fun_mk (st := s_way_fact) L_way_fact C_way_fact K_way_fact,
    b_way_fact := (fun_mk (st := s_way_fact) L_way_fact C_way_fact K_way_fact).binds (ps := ["at", "word", "place", "look"]) fun _ _ _ _ _ _ us hl => match us, hl with | [_, _, _, _], _ => rfl,
    g_way_fact := PySem.W.mg_of X G A_way_fact,
    a_facts_of_entry := f_facts_of_entry, fd_facts_of_entry := _, F_facts_of_entry := fun_mk (st := s_facts_of_entry) L_facts_of_entry C_facts_of_entry K_facts_of_entry,
    b_facts_of_entry := (fun_mk (st := s_facts_of_entry) L_facts_of_entry C_facts_of_entry K_facts_of_entry).binds (ps := ["at", "entry", "place", "look"]) fun _ _ _ _ _ _ us hl => match us, hl with | [_, _, _, _], _ => rfl,
    g_facts_of_entry := PySem.W.mg_of X G A_facts_of_entry,
    a_facts := f_facts, fd_facts := _, F_facts := fun_mk (st := s_facts) L_facts C_facts K_facts,
    b_facts := (fun_mk (st := s_facts) L_facts C_facts K_facts).binds (ps := ["log", "lots"]) fun _ _ _ _ _ _ us hl => match us, hl with | [_, _], _ => rfl,
    g_facts := PySem.W.mg_of X G A_facts,
    a_Llots := f_Llots, fd_Llots := _, F_Llots := fun_mk (st := s_Llots) L_Llots C_Llots K_Llots,
    b_Llots := (fun_mk (st := s_Llots) L_Llots C_Llots K_Llots).binds (ps := ["_law_pool_here", "_law_many"]) fun _ _ _ _ _ _ us hl => match us, hl with | [_, _], _ => rfl,
    g_Llots := PySem.W.mg_of X G A_Llots,
    a_Lpool := f_Lpool, fd_Lpool := _, F_Lpool := fun_mk (st := s_Lpool) L_Lpool C_Lpool K_Lpool,
    b_Lpool := (fun_mk (st := s_Lpool) L_Lpool C_Lpool K_Lpool).binds (ps := ["_law_script", "_law_k"]) fun _ _ _ _ _ _ us hl => match us, hl with | [_, _], _ => rfl,
    g_Lpool := PySem.W.mg_of X G A_Lpool,
    a_Ltake := f_Ltake, fd_Ltake := _, F_Ltake := fun_mk (st := s_Ltake) L_Ltake C_Ltake K_Ltake,
    b_Ltake := (fun_mk (st := s_Ltake) L_Ltake C_Ltake K_Ltake).binds (ps := ["_law_pool_here", "_law_wide"]) fun _ _ _ _ _ _ us hl => match us, hl with | [_, _], _ => rfl,
    g_Ltake := PySem.W.mg_of X G A_Ltake,
    a_Lwhole := f_Lwhole, fd_Lwhole := _, F_Lwhole := fun_mk (st := s_Lwhole) L_Lwhole C_Lwhole K_Lwhole,
    b_Lwhole := (fun_mk (st := s_Lwhole) L_Lwhole C_Lwhole K_Lwhole).binds (ps := ["_law_thing"]) fun _ _ _ _ _ _ us hl => match us, hl with | [_], _ => rfl,
    g_Lwhole := PySem.W.mg_of X G A_Lwhole,
    a_Lsame := f_Lsame, fd_Lsame := _, F_Lsame := fun_mk (st := s_Lsame) L_Lsame C_Lsame K_Lsame,
    b_Lsame := (fun_mk (st := s_Lsame) L_Lsame C_Lsame K_Lsame).binds (ps := ["_law_found", "_law_due"]) fun _ _ _ _ _ _ us hl => match us, hl with | [_, _], _ => rfl,
    g_Lsame := PySem.W.mg_of X G A_Lsame,
    a_Ltrue := f_Ltrue, fd_Ltrue := _, F_Ltrue := fun_mk (st := s_Ltrue) L_Ltrue C_Ltrue K_Ltrue,
    b_Ltrue := (fun_mk (st := s_Ltrue) L_Ltrue C_Ltrue K_Ltrue).binds (ps := ["_law_lot", "_law_letter"]) fun _ _ _ _ _ _ us hl => match us, hl with | [_, _], _ => rfl,
    g_Ltrue := PySem.W.mg_of X G A_Ltrue,
    a_Loff := f_Loff, fd_Loff := _, F_Loff := fun_mk (st := s_Loff) L_Loff C_Loff K_Loff,
    b_Loff := (fun_mk (st := s_Loff) L_Loff C_Loff K_Loff).binds (ps := ["_law_place", "_law_letter", "_law_many"]) fun _ _ _ _ _ _ us hl => match us, hl with | [_, _, _], _ => rfl,
    g_Loff := PySem.W.mg_of X G A_Loff,
    a_Lside := f_Lside, fd_Lside := _, F_Lside := fun_mk (st := s_Lside) L_Lside C_Lside K_Lside,
    b_Lside := (fun_mk (st := s_Lside) L_Lside C_Lside K_Lside).binds (ps := ["_law_place", "_law_letter"]) fun _ _ _ _ _ _ us hl => match us, hl with | [_, _], _ => rfl,
    g_Lside := PySem.W.mg_of X G A_Lside,
    a_Lname := f_Lname, fd_Lname := _, F_Lname := fun_mk (st := s_Lname) L_Lname C_Lname K_Lname,
    b_Lname := (fun_mk (st := s_Lname) L_Lname C_Lname K_Lname).binds (ps := ["_law_pool_here"]) fun _ _ _ _ _ _ us hl => match us, hl with | [_], _ => rfl,
    g_Lname := PySem.W.mg_of X G A_Lname,
    a_Lnames := f_Lnames, fd_Lnames := _, F_Lnames := fun_mk (st := s_Lnames) L_Lnames C_Lnames K_Lnames,
    b_Lnames := (fun_mk (st := s_Lnames) L_Lnames C_Lnames K_Lnames).binds (ps := ["_law_pool_here", "_law_many"]) fun _ _ _ _ _ _ us hl => match us, hl with | [_, _], _ => rfl,
    g_Lnames := PySem.W.mg_of X G A_Lnames,
    a_Lwalk := f_Lwalk, fd_Lwalk := _, F_Lwalk := fun_mk (st := s_Lwalk) L_Lwalk C_Lwalk K_Lwalk,
    b_Lwalk := (fun_mk (st := s_Lwalk) L_Lwalk C_Lwalk K_Lwalk).binds (ps := ["_law_log", "_law_lots_here"]) fun _ _ _ _ _ _ us hl => match us, hl with | [_, _], _ => rfl,
    g_Lwalk := PySem.W.mg_of X G A_Lwalk,
    a_Lland := f_Lland, fd_Lland := _, F_Lland := fun_mk (st := s_Lland) L_Lland C_Lland K_Lland,
    b_Lland := (fun_mk (st := s_Lland) L_Lland C_Lland K_Lland).binds (ps := ["_law_pool_here", "_law_many"]) fun _ _ _ _ _ _ us hl => match us, hl with | [_, _], _ => rfl,
    g_Lland := PySem.W.mg_of X G A_Lland,
    a_Lentry := f_Lentry, fd_Lentry := _, F_Lentry := fun_mk (st := s_Lentry) L_Lentry C_Lentry K_Lentry,
    b_Lentry := (fun_mk (st := s_Lentry) L_Lentry C_Lentry K_Lentry).binds (ps := ["_law_pool_here", "_law_land_here", "_law_pick", "_law_place", "_law_look"]) fun _ _ _ _ _ _ us hl => match us, hl with | [_, _, _, _, _], _ => rfl,
    g_Lentry := PySem.W.mg_of X G A_Lentry,
    a_Lwritten := f_Lwritten, fd_Lwritten := _, F_Lwritten := fun_mk (st := s_Lwritten) L_Lwritten C_Lwritten K_Lwritten,
    b_Lwritten := (fun_mk (st := s_Lwritten) L_Lwritten C_Lwritten K_Lwritten).binds (ps := ["_law_pool_here", "_law_land_here", "_law_many", "_law_lots_here", "_law_place"]) fun _ _ _ _ _ _ us hl => match us, hl with | [_, _, _, _, _], _ => rfl,
    g_Lwritten := PySem.W.mg_of X G A_Lwritten,
    a_Lso := f_Lso, fd_Lso := _, F_Lso := fun_mk (st := s_Lso) L_Lso C_Lso K_Lso,
    b_Lso := (fun_mk (st := s_Lso) L_Lso C_Lso K_Lso).binds (ps := ["_law_land_here", "_law_fact", "_law_start"]) fun _ _ _ _ _ _ us hl => match us, hl with | [_, _, _], _ => rfl,
    g_Lso := PySem.W.mg_of X G A_Lso,
    a_law := fa, fd_law := _, F_law := fun_mk (st := s_law) L_law C_law K_law,
    b_law := (fun_mk (st := s_law) L_law C_law K_law).binds (ps := ["_law_script"]) fun _ _ _ _ _ _ us hl => match us, hl with | [_], _ => rfl,
    g_law := PySem.W.mg_of X G A_law,
    g_LETTERS := ⟨_, PySem.W.mg_of X G A_LETTERS⟩,
    a_STEPS := f_STEPS, g_STEPS := PySem.W.mg_of X G A_STEPS,
    v_STEPS_0 := ⟨_, ⟨_, _, _, D_STEPS, Y_STEPS, N_STEPS_0, rfl⟩, fun H => .inr ⟨_, _, _, V_STEPS_0, rfl, rfl, by show 2 ≤ sizeLine; decide, (.cons ⟨_, rfl⟩ (.cons ⟨_, rfl⟩ .nil))⟩⟩,
    v_STEPS_1 := ⟨_, ⟨_, _, _, D_STEPS, Y_STEPS, N_STEPS_1, rfl⟩, fun H => .inr ⟨_, _, _, V_STEPS_1, rfl, rfl, by show 2 ≤ sizeLine; decide, (.cons ⟨_, rfl⟩ (.cons ⟨_, rfl⟩ .nil))⟩⟩,
    v_STEPS_2 := ⟨_, ⟨_, _, _, D_STEPS, Y_STEPS, N_STEPS_2, rfl⟩, fun H => .inr ⟨_, _, _, V_STEPS_2, rfl, rfl, by show 2 ≤ sizeLine; decide, (.cons ⟨_, rfl⟩ (.cons ⟨_, rfl⟩ .nil))⟩⟩,
    v_STEPS_3 := ⟨_, ⟨_, _, _, D_STEPS, Y_STEPS, N_STEPS_3, rfl⟩, fun H => .inr ⟨_, _, _, V_STEPS_3, rfl, rfl, by show 2 ≤ sizeLine; decide, (.cons ⟨_, rfl⟩ (.cons ⟨_, rfl⟩ .nil))⟩⟩,
    a_QUARTERS := f_QUARTERS, g_QUARTERS := PySem.W.mg_of X G A_QUARTERS,
    es_QUARTERS := _, n_QUARTERS := _, kd_QUARTERS := ⟨D_QUARTERS, Y_QUARTERS, lo_QUARTERS⟩,
    ns_QUARTERS := ns_keys D_QUARTERS ke_QUARTERS,
    v_QUARTERS_0 := ⟨_, _, _, D_QUARTERS, Y_QUARTERS, N_QUARTERS_0, ⟨_, rfl⟩⟩,
    v_QUARTERS_1 := ⟨_, _, _, D_QUARTERS, Y_QUARTERS, N_QUARTERS_1, ⟨_, rfl⟩⟩,
    v_QUARTERS_2 := ⟨_, _, _, D_QUARTERS, Y_QUARTERS, N_QUARTERS_2, ⟨_, rfl⟩⟩,
    a_START := f_START, g_START := PySem.W.mg_of X G A_START,
    v_START := ⟨_, fun H => .inr ⟨_, _, _, V_START, rfl, rfl, by show 2 ≤ sizeLine; decide, (.cons rfl (.cons ⟨_, rfl⟩ .nil))⟩, fun H => .inr ⟨_, _, _, V_START_0, rfl, rfl, by show 2 ≤ sizeLine; decide, (.cons ⟨_, rfl⟩ (.cons ⟨_, rfl⟩ .nil))⟩⟩,
    m_abs := PySem.W.mg_none_of X G Z_abs, m_all := PySem.W.mg_none_of X G Z_all, m_bool := PySem.W.mg_none_of X G Z_bool, m_enumerate := PySem.W.mg_none_of X G Z_enumerate, m_int := PySem.W.mg_none_of X G Z_int, m_isinstance := PySem.W.mg_none_of X G Z_isinstance, m_len := PySem.W.mg_none_of X G Z_len, m_range := PySem.W.mg_none_of X G Z_range, m_str := PySem.W.mg_none_of X G Z_str, m_tuple := PySem.W.mg_none_of X G Z_tuple, m_zip := PySem.W.mg_none_of X G Z_zip }
  exact ⟨T.fd_law, fun s v => .of_eq rfl, fun base _ _ => ok_law T⟩
end M
open PySem PySem.W PyProof.Rows
set_option maxHeartbeats 0 in
theorem PySem.Challenge.cw_wayneedle_k14_whole_facts_of_a_land_holds : PySem.Challenge.rw_wayneedle_k14_whole_facts_of_a_land.Holds := by
  w_on; o_law; k_head; (case hw => w_witness2)
  k_fill
  refine L2.walk_of (l := PySem.Challenge.rw_wayneedle_k14_whole_facts_of_a_land) (n := 63) (k := 8) (x := "_law_script") (CX := fun _ => L2.CX0) (sp := fun w => M.spLaw _) rfl (by decide) rfl ⟨rfl, by decide, by decide⟩ (fun w h Y => PySem.W.kIn_of Y) ?F (fun _ _ a ns hl _ hS => ⟨a, ns, rfl, hS, hl, fun _ => rfl⟩) (fun _ _ _ _ _ h => h)
  case F =>
    intro w mg fa h KX G hmg
    refine' M.all_mk KX G hmg ?A_is_whole ?L_is_whole ?C_is_whole ?K_is_whole ?A_step ?L_step ?C_step ?K_step ?A_way_of ?L_way_of ?C_way_of ?K_way_of ?A_is_lot ?L_is_lot ?C_is_lot ?K_is_lot ?A_refuse_unless_lot ?L_refuse_unless_lot ?C_refuse_unless_lot ?K_refuse_unless_lot ?A_mirrors ?L_mirrors ?C_mirrors ?K_mirrors ?A_true ?L_true ?C_true ?K_true ?A_legs_in ?L_legs_in ?C_legs_in ?K_legs_in ?A_refuse_unless_lots ?L_refuse_unless_lots ?C_refuse_unless_lots ?K_refuse_unless_lots ?A_gone ?L_gone ?C_gone ?K_gone ?A_look_behind ?L_look_behind ?C_look_behind ?K_look_behind ?A_track ?L_track ?C_track ?K_track ?A_way_fact ?L_way_fact ?C_way_fact ?K_way_fact ?A_facts_of_entry ?L_facts_of_entry ?C_facts_of_entry ?K_facts_of_entry ?A_facts ?L_facts ?C_facts ?K_facts ?A_Llots ?L_Llots ?C_Llots ?K_Llots ?A_Lpool ?L_Lpool ?C_Lpool ?K_Lpool ?A_Ltake ?L_Ltake ?C_Ltake ?K_Ltake ?A_Lwhole ?L_Lwhole ?C_Lwhole ?K_Lwhole ?A_Lsame ?L_Lsame ?C_Lsame ?K_Lsame ?A_Ltrue ?L_Ltrue ?C_Ltrue ?K_Ltrue ?A_Loff ?L_Loff ?C_Loff ?K_Loff ?A_Lside ?L_Lside ?C_Lside ?K_Lside ?A_Lname ?L_Lname ?C_Lname ?K_Lname ?A_Lnames ?L_Lnames ?C_Lnames ?K_Lnames ?A_Lwalk ?L_Lwalk ?C_Lwalk ?K_Lwalk ?A_Lland ?L_Lland ?C_Lland ?K_Lland ?A_Lentry ?L_Lentry ?C_Lentry ?K_Lentry ?A_Lwritten ?L_Lwritten ?C_Lwritten ?K_Lwritten ?A_Lso ?L_Lso ?C_Lso ?K_Lso ?A_law ?L_law ?C_law ?K_law ?A_LETTERS ?A_STEPS ?D_STEPS ?Y_STEPS ?N_STEPS_0 ?V_STEPS_0 ?N_STEPS_1 ?V_STEPS_1 ?N_STEPS_2 ?V_STEPS_2 ?N_STEPS_3 ?V_STEPS_3 ?A_QUARTERS ?D_QUARTERS ?Y_QUARTERS ?lo_QUARTERS ?ke_QUARTERS ?N_QUARTERS_0 ?N_QUARTERS_1 ?N_QUARTERS_2 ?A_START ?V_START ?V_START_0 ?Z_abs ?Z_all ?Z_bool ?Z_enumerate ?Z_int ?Z_isinstance ?Z_len ?Z_range ?Z_str ?Z_tuple ?Z_zip
    (case A_is_whole => k_is); (case L_is_whole => k_is); (case C_is_whole => k_is); (case K_is_whole => k_is); (case A_step => k_is); (case L_step => k_is); (case C_step => k_is); (case K_step => k_is); (case A_way_of => k_is); (case L_way_of => k_is); (case C_way_of => k_is); (case K_way_of => k_is); (case A_is_lot => k_is); (case L_is_lot => k_is); (case C_is_lot => k_is); (case K_is_lot => k_is); (case A_refuse_unless_lot => k_is); (case L_refuse_unless_lot => k_is); (case C_refuse_unless_lot => k_is); (case K_refuse_unless_lot => k_is); (case A_mirrors => k_is); (case L_mirrors => k_is); (case C_mirrors => k_is); (case K_mirrors => k_is); (case A_true => k_is); (case L_true => k_is); (case C_true => k_is); (case K_true => k_is); (case A_legs_in => k_is); (case L_legs_in => k_is); (case C_legs_in => k_is); (case K_legs_in => k_is); (case A_refuse_unless_lots => k_is); (case L_refuse_unless_lots => k_is); (case C_refuse_unless_lots => k_is); (case K_refuse_unless_lots => k_is); (case A_gone => k_is); (case L_gone => k_is); (case C_gone => k_is); (case K_gone => k_is); (case A_look_behind => k_is); (case L_look_behind => k_is); (case C_look_behind => k_is); (case K_look_behind => k_is); (case A_track => k_is); (case L_track => k_is); (case C_track => k_is); (case K_track => k_is); (case A_way_fact => k_is); (case L_way_fact => k_is); (case C_way_fact => k_is); (case K_way_fact => k_is); (case A_facts_of_entry => k_is); (case L_facts_of_entry => k_is); (case C_facts_of_entry => k_is); (case K_facts_of_entry => k_is); (case A_facts => k_is); (case L_facts => k_is); (case C_facts => k_is); (case K_facts => k_is); (case A_Llots => k_is); (case L_Llots => k_is); (case C_Llots => k_is); (case K_Llots => k_is); (case A_Lpool => k_is); (case L_Lpool => k_is); (case C_Lpool => k_is); (case K_Lpool => k_is); (case A_Ltake => k_is); (case L_Ltake => k_is); (case C_Ltake => k_is); (case K_Ltake => k_is); (case A_Lwhole => k_is); (case L_Lwhole => k_is); (case C_Lwhole => k_is); (case K_Lwhole => k_is); (case A_Lsame => k_is); (case L_Lsame => k_is); (case C_Lsame => k_is); (case K_Lsame => k_is); (case A_Ltrue => k_is); (case L_Ltrue => k_is); (case C_Ltrue => k_is); (case K_Ltrue => k_is); (case A_Loff => k_is); (case L_Loff => k_is); (case C_Loff => k_is); (case K_Loff => k_is); (case A_Lside => k_is); (case L_Lside => k_is); (case C_Lside => k_is); (case K_Lside => k_is); (case A_Lname => k_is); (case L_Lname => k_is); (case C_Lname => k_is); (case K_Lname => k_is); (case A_Lnames => k_is); (case L_Lnames => k_is); (case C_Lnames => k_is); (case K_Lnames => k_is); (case A_Lwalk => k_is); (case L_Lwalk => k_is); (case C_Lwalk => k_is); (case K_Lwalk => k_is); (case A_Lland => k_is); (case L_Lland => k_is); (case C_Lland => k_is); (case K_Lland => k_is); (case A_Lentry => k_is); (case L_Lentry => k_is); (case C_Lentry => k_is); (case K_Lentry => k_is); (case A_Lwritten => k_is); (case L_Lwritten => k_is); (case C_Lwritten => k_is); (case K_Lwritten => k_is); (case A_Lso => k_is); (case L_Lso => k_is); (case C_Lso => k_is); (case K_Lso => k_is); (case A_law => k_is); (case L_law => k_is); (case C_law => k_is); (case K_law => k_is); (case A_LETTERS => k_is); (case A_STEPS => k_is); (case D_STEPS => k_is); (case Y_STEPS => k_keys); (case N_STEPS_0 => k_is); (case V_STEPS_0 => k_is); (case N_STEPS_1 => k_is); (case V_STEPS_1 => k_is); (case N_STEPS_2 => k_is); (case V_STEPS_2 => k_is); (case N_STEPS_3 => k_is); (case V_STEPS_3 => k_is); (case A_QUARTERS => k_is); (case D_QUARTERS => k_is); (case Y_QUARTERS => k_keys); (case lo_QUARTERS => first | rfl | decide +kernel); (case ke_QUARTERS => exact ⟨⟨_, rfl⟩, ⟨_, rfl⟩, ⟨_, rfl⟩, True.intro⟩); (case N_QUARTERS_0 => k_is); (case N_QUARTERS_1 => k_is); (case N_QUARTERS_2 => k_is); (case A_START => k_is); (case V_START => k_is); (case V_START_0 => k_is); (case Z_abs => k_is); (case Z_all => k_is); (case Z_bool => k_is); (case Z_enumerate => k_is); (case Z_int => k_is); (case Z_isinstance => k_is); (case Z_len => k_is); (case Z_range => k_is); (case Z_str => k_is); (case Z_tuple => k_is); (case Z_zip => k_is)
