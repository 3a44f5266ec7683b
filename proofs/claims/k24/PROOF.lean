import PyProof.Rows.All
import Wide.All
import OpenK.AllK
import Wide.FinOn
import HandS.ForMost
import HandS.ForExc
import HandS.HotCalls
import HandS.ExcIs
import HandS.ExcInit
import HandS.ExcField
import HandS.Defaults
import HandS.CallSlots
import HandS.Deep
import KE.GoesEnum
import KE.GoesNew
import HandS.IsInst
import HandS.Replace
import HandS.Wide
import HandS.NoneIn
import HandS.Walk
import HandS.Evl
import HandS.More
import HandS.Zip
import HandS.Conv
import KE.KxIndex
import PySem.Challenge.RW_wayneedle_k24_whole_atlases_by_names
import HandS.TupMul
import HandS.Star
import HandS.TupAny
import HandS.Flow
import HandS.RaiseMore
import HandS.ListItems
import HandS.SortRule
import HandS.Strs
import KE.GoesEnumKw
import HandS.Iter
import HandS.OwnEq
import HandS.FStr
import KE.DataCmp
import HandS.SuiteRaise
import HandS.RaiseFrom
import HandS.ExcInitHot
import PyProof.ListStr
set_option Elab.async false
set_option linter.all false
set_option maxRecDepth 100000
set_option maxHeartbeats 4000000

namespace Rep01
open PySem PySem.Spec PyProof.Rows L2
/-! ### a tuple of something, taken once or not at all -/
abbrev tupO (its : Array Value) (n : Nat) (dd : Option Addr) (sl : Array (Option Value)) : Obj := { cls := .type "tuple", dict := dd, data := .seq its n, slots := sl }
theorem once {l : Addr} {its : Array Value} {n : Nat} {dd : Option Addr} {sl : Array (Option Value)} {u : Tok} :
    Meets (Builtin.«tuple.__mul__» ⟨[.ref l, .int 1 u], []⟩) (fun _ R s => s.heap.get? l = some (tupO its n dd sl) ∧ R (.ok (.ret (.ref l))) s) :=
  .of_wp fun prog w A R s h => by
    obtain ⟨hl, h⟩ := h
    obtain ⟨hp, g, d, tk, os⟩ := s
    have ix := AutoSeq1.idx_int
    have cy : (its.isEmpty || (1 : Int) == 1) = true := by rw [show ((1 : Int) == 1) = true from rfl, Bool.or_true]
    wp_walk using wpAny_loadPart' hl
    exact ⟨_, rfl, h⟩
theorem never {l : Addr} {its : Array Value} {n : Nat} {dd : Option Addr} {sl : Array (Option Value)} {u : Tok} (he : its.isEmpty = false) :
    Meets (Builtin.«tuple.__mul__» ⟨[.ref l, .int 0 u], []⟩) (fun _ R s => s.heap.get? l = some (tupO its n dd sl) ∧ R (.ok (.ret (.ref s.heap.objs.size))) { s with heap := s.heap.push { cls := .type "tuple", data := .seq #[] }, toks := s.toks }) :=
  .of_wp fun prog w A R s h => by
    obtain ⟨hl, h⟩ := h
    obtain ⟨hp, g, d, tk, os⟩ := s
    have ix := AutoSeq1.idx_int
    wp_walk using wpAny_loadPart' hl
    exact ⟨_, rfl, h⟩
def rTwo (K : PySem.W.Frag) : R2 := fun x y H Q => ∃ (l : Addr) (v : V) (k : Int), x = .ref l ∧ y = .int k ∧ SqT K H l [v] ∧ (k = 1 ∨ k = 0) ∧ (k = 1 → Q (.ref l) H) ∧ (k = 0 → ∀ p, H p = none → Q (.ref p) (upd H p (.tup [])))
theorem op_two {X : Cx} : OpR X (binaryOp .Mult) (rTwo X.K) := by
  intro pins s σ H x y v u Q I rx ry h
  obtain ⟨l, v1, k, rfl, rfl, hT, hk, q1, q0⟩ := h
  cases rx
  obtain ⟨t, rfl⟩ := ry
  obtain ⟨its, r, ⟨⟨cls, dd, data, sl⟩, ho, hc, n, hd⟩, _⟩ := I.tuple hT
  simp only at hc hd
  subst hc hd
  have he : its.toArray.isEmpty = false := by
    cases r with
    | cons _ _ => rfl
  refine wpAny_binaryOp_repeat_ref (T := "tuple") (by decide) ⟨_, ho, rfl⟩ (U := "int") (typeIs_int · k t) noFill_tuple_mul F.fills_int_mul F.slot_int_rmul repeat_tuple F.slot_int_index.lookup ?_
  refine call_meets F.slot_int_rmul (typeIs_int s k t) F.entry_int_rmul (F.args_int_rmul_2 _ _) (int_rmul_tuple k t l _ n dd sl) ⟨ho, rfl, ⟨_, ho, rfl⟩, ?_⟩
  rcases hk with rfl | rfl
  · exact call_meets F.slot_tuple_mul ⟨_, ho, rfl⟩ F.entry_tuple_mul (F.args_tuple_mul_2 _ _) once ⟨ho, .ref l, H, I, rfl, q1 rfl⟩
  · exact call_meets F.slot_tuple_mul ⟨_, ho, rfl⟩ F.entry_tuple_mul (F.args_tuple_mul_2 _ _) (never he) ⟨ho, .ref s.heap.objs.size, _, I.laid (t' := s.toks) (o := .tup []) (fun b ob q => Heap.get?_push_of_some _ q) (Nat.le_refl _) ⟨Nat.zero_le _, _, .nil, IsTup.new _ _⟩, rfl, q0 rfl _ (I.hok.fresh (Nat.le_refl _))⟩
end Rep01
namespace RepN
open PySem PySem.Spec PyProof.Rows L2
/-! ### a tuple of one thing, taken any number of times -/
def rRepN (K : PySem.W.Frag) : R2 := fun x y H Q => ∃ (l : Addr) (v : V) (k : Nat), x = .ref l ∧ y = .int (k : Nat) ∧ SqT K H l [v] ∧ k ≤ 1000 ∧ ∀ p H', Same H H' → SqT K H' p (List.replicate k v) → Q (.ref p) H'
theorem op_repN {X : Cx} : OpR X (binaryOp .Mult) (rRepN X.K) := fun pins s σ H x y v u Q I rx ry ⟨l, a, k, e1, e2, hl, small, q⟩ => by
  have new : ∀ {p : Addr} {xs : List V}, H p = none → xs = List.replicate k a → Q (.ref p) (L2.upd H p (.tup xs)) := fun {p xs} n e => by
    refine q p _ (fun b o z => ?_) (e ▸ .inl (.inl upd_same))
    rw [upd_ne (ne_of_none z n)]; exact z
  by_cases two : 2 ≤ k
  · refine op_repT pins s σ H x y v u Q I rx ry ⟨l, k, [a], e1, e2, hl, by simp, by omega, by omega, by simp, fun p n => new n ?_⟩
    rw [Int.toNat_natCast]
    clear small two e2 new q
    induction k with
    | zero => rfl
    | succ k ih => rw [List.replicate_succ, List.flatten_cons, ih]; rfl
  · refine Rep01.op_two pins s σ H x y v u Q I rx ry ⟨l, a, k, e1, e2, hl, by omega, fun one => ?_, fun none p n => ?_⟩
    · have : k = 1 := by omega
      subst this
      exact q l H (Same.refl H) hl
    · have : k = 0 := by omega
      subst this
      exact new n rfl
end RepN
/-! ### iterators that hand out pairs (enumerate, zip), over what is a list or a tuple: one turn for all of them, by GoesN -/
namespace PairW
open PySem PySem.Spec PyProof.Rows L2
/-- a sequence and an iterator over it: a tuple (true) or a list (false) -/
def SqB (t : Bool) (h : Heap) (l : Addr) (xs : Array Value) : Prop := match t with
  | true => h.IsTuple l xs
  | false => h.IsList l xs
def ItB (t : Bool) (h : Heap) (it l : Addr) (k : Nat) : Prop := match t with
  | true => h.IsTupleIter it l k
  | false => h.IsListIter it l k
def SqV (t : Bool) (K : PySem.W.Frag) (H : Hp) (a : Addr) (xs : List V) : Prop := match t with
  | true => SqT K H a xs
  | false => SqL K H a xs
def itO (t : Bool) (l : Addr) : Obj := match t with
  | true => { cls := .type "tuple_iterator", data := .fields #[.ref l, .int 0 0] }
  | false => { cls := .type "list_iterator", data := .fields #[.ref l, .int 0 0] }
theorem SqB.lt {t : Bool} {h : Heap} {a : Addr} {xs : Array Value} (q : SqB t h a xs) : a < h.objs.size := by
  cases t <;> (obtain ⟨o, e, _⟩ := q; exact Heap.lt_size e)
theorem ItB.at {t : Bool} {h h' : Heap} {a l : Addr} {k : Nat} (x : ItB t h a l k) (e : ∀ o, h.get? a = some o → h'.get? a = some o) : ItB t h' a l k := by
  cases t
  · exact Heap.IsListIter.at x e
  · exact Heap.IsTupleIter.at x e
theorem ItB.obj {t : Bool} {h : Heap} {a l : Addr} {k : Nat} (x : ItB t h a l k) : ∃ o, h.get? a = some o ∧ ∀ v, o.data ≠ .cell v := by
  cases t <;> (obtain ⟨o, e, _, d⟩ := x; exact ⟨o, e, fun v q => by rw [d] at q; cases q⟩)
theorem itO_is {t : Bool} {h : Heap} {a l : Addr} (e : h.get? a = some (itO t l)) : ItB t h a l 0 := by
  cases t <;> exact ⟨_, e, rfl, rfl⟩
theorem sqv_get {X : Cx} {pins : List (Addr × Obj)} {σ : L2.St} {H : Hp} {s : Shared} {t : Bool} {a : Addr} {xs : List V} (I : Inv X pins σ H s) (h : SqV t X.K H a xs) : ∃ its, Vals xs its ∧ SqB t s.heap a its.toArray := by
  cases t
  · obtain ⟨its, rv, there, _⟩ := I.list h
    exact ⟨its, rv, there.isList⟩
  · obtain ⟨its, rv, there, _⟩ := I.tuple h
    exact ⟨its, rv, there⟩
theorem sqv_inj {X : Cx} {pins : List (Addr × Obj)} {σ : L2.St} {H : Hp} {s : Shared} {t : Bool} {a : Addr} {xs ys : List V} (I : Inv X pins σ H s) (h : SqV t X.K H a xs) (h' : SqV t X.K H a ys) : xs = ys := by
  cases t
  · exact I.list_inj h h'
  · exact I.tuple_inj h h'
theorem draws {prog : Program} {w : World} {A : Around} (hh : A.handled = none) (t : Bool) {it l : Addr} (ne : l ≠ it) (items : Array Value) :
    Draws prog w A it [it, l] items.size (fun i v => items[i]? = some v) (fun i h => ItB t h it l i ∧ SqB t h l items) := by
  cases t
  · exact Draws.list hh it l ne items
  · exact Draws.tuple hh it l ne items
theorem begins (t : Bool) (l : Addr) (items : Array Value) : Begins (.ref l) (itO t l) (fun h => SqB t h l items) := by
  cases t
  · exact begins_list l items
  · exact begins_tuple l items
/-- an iterator stands, made of new cells alone -/
theorem begun {X : Cx} {pins : List (Addr × Obj)} {σ : L2.St} {H : Hp} {s : Shared} {tg : Expr} {J : It} {fp : List Addr} {it : Addr} {tn : Nat → Heap → Prop} {R : It → Hp → Prop} {h' : Heap} (I : Inv X pins σ H s)
    (old : ∀ b o, s.heap.get? b = some o → h'.get? b = some o) (T : Turn X.prog X.w X.K tg J fp it tn) (st : tn 0 h') (new : ∀ b ∈ fp, s.heap.objs.size ≤ b) (q : R J H) : PIE X pins σ tg R (.ref it) { s with heap := h' } :=
  ⟨it, fp, tn, J, H, rfl, I.kept (t' := s.toks) old, T, st, fun b m => I.fpOk (new b m) (I.hok.fresh (new b m)), q⟩
/-- pairs: when there is one, of what it is, when there is none any more -/
structure Prs where
  go : Nat → Hp → Prop
  are : Nat → Hp → V → V → Prop
  stop : Nat → Hp → Prop
def Prs.it (p : Prs) : It where
  go := p.go
  yld := fun i H v H' => ∃ T x y, v = .ref T ∧ H T = none ∧ H' = upd H T (.tup [x, y]) ∧ p.are i H x y
  stop := p.stop
/-- what the iterator that stands at i over the sequences as they are now does: the library's GoesN, with what its pairs are -/
def Does (P : Program) (w : World) (X : Cx) (tg : Expr) (p : Prs) (it : Addr) (wr : List Addr) (tn : Nat → Heap → Prop) (i : Nat) (H : Hp) (s : Shared) : Prop :=
  ∃ (n : Nat) (fp : List Addr) (Y : Nat → Heap → Value → Heap → Prop) (St : Nat → Heap → Prop), GoesN P w X.A tg it fp wr n Y St ∧ St i s.heap ∧ (∀ h, St (i + 1) h → tn (i + 1) h) ∧ (p.stop i H → i = n) ∧
    (p.go i H → i < n ∧ ∀ h0 v h, Y i h0 v h → ∃ T a b x y, v = .ref T ∧ h0.objs.size ≤ T ∧ h.IsTuple T #[a, b] ∧ RelV x a ∧ RelV y b ∧ p.are i H x y)
theorem turn_prs {P : Program} {w : World} {K : PySem.W.Frag} {tg : Expr} {it : Addr} {fp wr : List Addr} {tn : Nat → Heap → Prop} (p : Prs) (mine : it ∈ fp) (hwr : ∀ b ∈ wr, b ∈ fp)
    (obj : ∀ i h, tn i h → ∀ b ∈ fp, ∃ o, h.get? b = some o ∧ ∀ v, o.data ≠ .cell v) (keep : ∀ i h h', tn i h → (∀ b ∈ fp, ∀ o, h.get? b = some o → h'.get? b = some o) → tn i h')
    (self : ∀ (A : Around) (i : Nat) (s : Shared) (Q : Value → Shared → Prop) (E : Value → Shared → Prop), tn i s.heap → Q (.ref it) s → wpAny (model P w) A (pyIter (.ref it)) Q E s)
    (does : ∀ (X : Cx), X.prog = P → X.w = w → X.K = K → X.calm = true → ∀ i pins s σ H, Inv X pins σ H s → tn i s.heap → (p.go i H ∨ p.stop i H) → Does P w X tg p it wr tn i H s) : Turn P w K tg p.it fp it tn where
  mem := mine
  obj := obj
  keep := keep
  self := self
  item := fun X e1 e2 e3 calm i pins s σ H E I free st more => by
    obtain ⟨n, fp', Y, St, W, here, next, _, far⟩ := does X e1 e2 e3 calm i pins s σ H I st (.inl more)
    obtain ⟨lt, pair⟩ := far more
    refine W.goes i s (fun u s2 => ∃ x H', Inv X pins σ H' s2 ∧ RelV x u ∧ p.it.yld i H x H' ∧ tn (i + 1) s2.heap ∧ ∀ b ∈ fp, H' b = none) E lt here fun v h' tk told st' old _ => ?_
    obtain ⟨T, a, b, x, y, rfl, new, tup, ra, rb, are⟩ := pair _ _ _ told
    refine ⟨.ref T, upd H T (.tup [x, y]), I.turnedNew (ch := wr) old (fun c m => free c (hwr c m)) new ⟨by show 2 ≤ sizeLine; decide, [a, b], .cons ra (.cons rb .nil), tup⟩, rfl, ⟨T, x, y, rfl, I.hok.fresh new, rfl, are⟩, next _ st', fun c m => ?_⟩
    obtain ⟨o, ho, _⟩ := obj i _ st c m
    exact (upd_ne (Nat.ne_of_lt (Nat.lt_of_lt_of_le (Heap.lt_size ho) new))).trans (free c m).1
  done := fun X e1 e2 e3 calm i pins s σ H E I free st none => by
    obtain ⟨n, fp', Y, St, W, here, _, last, _⟩ := does X e1 e2 e3 calm i pins s σ H I st (.inr none)
    rw [last none] at here
    exact W.stops s (fun s1 => Inv X pins σ H s1) E here fun h' tk old _ => I.turnedL (ch := wr) old fun c m => free c (hwr c m)
/-! enumerate, from k0 on -/
def PrE (t : Bool) (k0 : Int) (K : PySem.W.Frag) (a : Addr) : Prs where
  go := fun i H => ∃ xs : List V, SqV t K H a xs ∧ i < xs.length
  are := fun i H x y => x = .int (k0 + (i : Nat)) ∧ ∀ xs, SqV t K H a xs → xs[i]? = some y
  stop := fun i H => ∃ xs : List V, SqV t K H a xs ∧ i = xs.length
def TnE (t : Bool) (k0 : Int) (a e it : Addr) (i : Nat) (h : Heap) : Prop := (∃ old, IsEnum h e it (k0 + (i : Int)) old) ∧ ItB t h it a i
theorem turn_e {P : Program} {w : World} {K : PySem.W.Frag} {elts : List Expr} {kk : Nat} {tpos : Pos} {t : Bool} {k0 : Int} {a e it : Addr} (hai : a ≠ it) (hae : a ≠ e) (hei : e ≠ it) :
    Turn P w K (.Tuple elts kk tpos) (PrE t k0 K a).it [e, it] e (TnE t k0 a e it) := by
  refine turn_prs (wr := [e, it]) _ (by simp) (fun _ m => m) (fun i h st b m => ?_) (fun i h h' st k => ?_) (fun A i s Q E st q => ?_) fun X e1 e2 e3 calm i pins s σ H I st told => ?_
  · obtain ⟨⟨_, he⟩, hi⟩ := st
    rcases List.mem_cons.mp m with z | m
    · exact z ▸ ⟨_, he, fun _ q => nomatch q⟩
    · exact List.mem_singleton.mp m ▸ hi.obj
  · obtain ⟨⟨old, he⟩, hi⟩ := st
    exact ⟨⟨old, k e (by simp) _ he⟩, hi.at fun o => k it (by simp) o⟩
  · exact wpAny_pyIter_enum st.1.choose_spec q
  · subst e1 e2 e3
    obtain ⟨xs, hq⟩ : ∃ xs : List V, SqV t X.K H a xs := told.elim (fun ⟨xs, q, _⟩ => ⟨xs, q⟩) fun ⟨xs, q, _⟩ => ⟨xs, q⟩
    obtain ⟨its, rv, there⟩ := sqv_get I hq
    have many : xs.length = its.toArray.size := by rw [List.size_toArray]; exact rv.length
    have D := draws (prog := X.prog) (w := X.w) (A := X.A.in1) (I.ok.hd calm) t hai its.toArray
    refine ⟨_, _, _, _, GoesN.enumFrom k0 D e hei (by simp; exact ⟨hei, Ne.symm hae⟩) (by simp), ⟨st.1, st.2, there⟩, fun h q => ⟨q.1, q.2.1⟩, fun ⟨ys, q, n⟩ => by rw [n, sqv_inj I q hq, many], fun ⟨ys, q, n⟩ => ⟨?_, ?_⟩⟩
    · rw [sqv_inj I q hq, many] at n; exact n
    · rintro h0 v h ⟨T, tk, u, rfl, new, hu, tup⟩
      have ix : i < xs.length := by rw [← sqv_inj I q hq]; exact n
      obtain ⟨u', hu', ru⟩ := rv.get (List.getElem?_eq_getElem ix)
      have same : u' = u := Option.some.inj (hu'.symm.trans (by simpa using hu))
      exact ⟨T, _, u, .int (k0 + (i : Nat)), xs[i], rfl, new, tup, ⟨tk, rfl⟩, same ▸ ru, rfl, fun zs hz => by rw [sqv_inj I hz hq]; exact List.getElem?_eq_getElem ix⟩
theorem walk_e {t : Bool} {k0 : Int} {K : PySem.W.Frag} {a : Addr} {xs : List V} : Walk (PrE t k0 K a).it xs.length (fun H => SqV t K H a xs) (YPair (fun i => some (.int (k0 + (i : Nat)))) (fun i => xs[i]?)) where
  goes := fun i H lt q => ⟨xs, q, lt⟩
  stops := fun H q => ⟨xs, q, rfl⟩
  yields := fun i H v H' _ q ⟨T, x, y, e1, e2, e3, e4, e5⟩ => ⟨T, x, y, e1, e2, e3, by rw [e4], e5 xs q⟩
/-- the two cells of an enumerate that was made just now -/
theorem pie_e {X : Cx} {pins : List (Addr × Obj)} {σ : L2.St} {H : Hp} {s : Shared} {elts : List Expr} {kk : Nat} {tpos : Pos} {t : Bool} {k0 : Int} {a : Addr} {xs : List V} {R : It → Hp → Prop} {h' : Heap} (I : Inv X pins σ H s) (hq : SqV t X.K H a xs)
    (he : IsEnum h' (s.heap.objs.size + 1) s.heap.objs.size k0 .none) (hi : h'.get? s.heap.objs.size = some (itO t a)) (old : ∀ b o, s.heap.get? b = some o → h'.get? b = some o) (q : R (PrE t k0 X.K a).it H) :
    wpAny (model X.prog X.w) X.A (pyIter (.ref (s.heap.objs.size + 1))) (PIE X pins σ (.Tuple elts kk tpos) R) X.xe { s with heap := h' } := by
  obtain ⟨its, _, there⟩ := sqv_get I hq
  have lt := there.lt
  refine wpAny_pyIter_enum he (begun I old (turn_e (t := t) (k0 := k0) (Nat.ne_of_lt lt) (Nat.ne_of_lt (Nat.lt_succ_of_lt lt)) (Nat.succ_ne_self _)) ⟨⟨.none, ?_⟩, itO_is hi⟩ (fun b m => ?_) q)
  · show IsEnum h' _ _ (k0 + 0) _
    rw [Int.add_zero]; exact he
  · rcases List.mem_cons.mp m with z | m
    · exact z ▸ Nat.le_succ _
    · exact Nat.le_of_eq (List.mem_singleton.mp m).symm
/-- enumerate of one thing, whatever its iterator is -/
theorem made_one {v : Value} {o : Obj} {G : Heap → Prop} (B : Begins v o G) : Meets (Builtin.«enumerate.__new__» ⟨[.type "enumerate", v], []⟩) (fun _ R s => G s.heap ∧
    R (.ok (.ret (.ref (s.heap.push o).objs.size))) { s with heap := (s.heap.push o).push { cls := .type "enumerate", data := .fields #[.none, .bool false, .ref s.heap.objs.size, rawInt 0, .none, .none] } }) := .of_wp fun prog w A R ⟨hp, g, dr, tk, os⟩ ⟨stands, ends⟩ => by
  have known := sub_enumerate
  have first : ∀ {A' : Around} {E Q : Value → Shared → Prop}, Q (.ref hp.objs.size) ⟨hp.push o, g, dr, tk, os⟩ → wpAny (model prog w) A' (pyIter v) Q E ⟨hp, g, dr, tk, os⟩ := fun q => B.iter prog w _ _ ⟨hp, g, dr, tk, os⟩ _ stands q
  wp_walk using first
  refine wpAny_stack_any (fun _ => wpAny_pure ?_)
  split
  next c _ _ _ _ _ => cases (c == Value.type "enumerate") <;> (wp_walk using first; exact ⟨_, rfl, ends⟩)
  next => wp_walk using first; exact ⟨_, rfl, ends⟩
theorem call_one {prog : Program} {w : World} {A : Around} {E : Value → Shared → Prop} {s : Shared} {v : Value} {o : Obj} {G : Heap → Prop} {Q : Value → Shared → Prop} (B : Begins v o G) (stands : G s.heap)
    (then_ : ∀ h', IsEnum h' (s.heap.objs.size + 1) s.heap.objs.size 0 .none → h'.get? s.heap.objs.size = some o → (∀ b o, s.heap.get? b = some o → h'.get? b = some o) → Q (.ref (s.heap.objs.size + 1)) { s with heap := h' }) :
    wpAny (model prog w) A (call (.type "enumerate") [v]) Q E s := by
  refine callType_new F.called_enumerate (by decide) (F.typeCall_enumerate_1 _) (F.newCall_enumerate_1 _) (fun obj => F.args_object_init_2 obj _) F.entry_enumerate_new (made_one B) ⟨stands, ?_⟩
  have n1 := Heap.size_push s.heap o
  have last : IsEnum ((s.heap.push o).push { cls := .type "enumerate", data := .fields #[.none, .bool false, .ref s.heap.objs.size, rawInt 0, .none, .none] }) (s.heap.objs.size + 1) s.heap.objs.size 0 .none := n1 ▸ Heap.get?_push_size (s.heap.push o) rfl
  refine n1.symm ▸ ⟨⟨_, last, rfl⟩, then_ _ last ?_ fun b u z => ?_⟩
  · exact Heap.get?_push_of_some _ (Heap.get?_push_size _ B.free)
  · exact Heap.get?_push_of_some _ (Heap.get?_push_of_some _ z)
end PairW
namespace EnumT
open PySem PySem.Spec PyProof.Rows L2 PairW
theorem walk_enumT {K : PySem.W.Frag} {a : Addr} {xs : List V} : Walk (PrE true 0 K a).it xs.length (fun H => SqT K H a xs) (YPair (fun i => some (.int (i : Nat))) (fun i => xs[i]?)) := by
  have w := walk_e (t := true) (k0 := 0) (K := K) (a := a) (xs := xs)
  simp only [Int.zero_add] at w
  exact w
def iEnumT (K : PySem.W.Frag) (ta : TA) : TI := fun σ H R => ta σ H fun vs H1 => ∃ a xs, vs = [.ref a] ∧ SqT K H1 a xs ∧ R (PrE true 0 K a).it H1
theorem pi_enumT {X : Cx} {e : Expr} {ta : TA} {p pos tpos : Pos} {elts : List Expr} {kk : Nat} (hg : Gl X "enumerate") (hm : X.mg "enumerate" = none) (ha : PA X [e] ta)
    (hs : starEach [e] X.env = [(false, eval e X.env)] := by rfl) : PI X (.Tuple elts kk tpos) (.Call (.Name "enumerate" p) [e] [] pos) (iEnumT X.K ta) where
  run := fun pins s σ H R I h => Call_ (ld_blt I hg hm boot_enumerate (PyProof.Rows.callWith_type1 (thn (ha.run pos pins s σ H _ I h) fun us s1 ⟨vs, H1, I1, rv, a, xs, e, hq, q⟩ => by
    subst e
    obtain ⟨_, rfl, rfl⟩ := vals1 rv
    obtain ⟨its, _, there⟩ := sqv_get (t := true) I1 hq
    exact call_one (begins true a its.toArray) there fun h' he hi old => pie_e (t := true) (xs := xs) I1 hq he hi old q) hs rfl))
end EnumT
/-! ### walks over what is a list or a tuple -/
namespace SeqW
open PySem PySem.Spec PySem.Calls PyProof.Rows L2
/-- what stands at a is as it was -/
def Keeps (a : Addr) (H H' : Hp) : Prop := ∀ o, H a = some o → H' a = some o
theorem keeps_v {t : Bool} {K : PySem.W.Frag} {H H' : Hp} {a : Addr} {xs : List V} (k : Keeps a H H') (h : PairW.SqV t K H a xs) : PairW.SqV t K H' a xs := by
  cases t <;> exact h.elim (fun h => .inl (h.elim (fun h => .inl (k _ h)) fun ⟨o, h⟩ => .inr ⟨o, k _ h⟩)) .inr
theorem keeps_l {K : PySem.W.Frag} {H H' : Hp} {a : Addr} {xs : List V} (k : Keeps a H H') (h : SqL K H a xs) : SqL K H' a xs := keeps_v (t := false) k h
theorem keeps_t {K : PySem.W.Frag} {H H' : Hp} {a : Addr} {xs : List V} (k : Keeps a H H') (h : SqT K H a xs) : SqT K H' a xs := keeps_v (t := true) k h
theorem keeps_same {a : Addr} {H H' : Hp} (s : Same H H') : Keeps a H H' := fun o h => s a o h
theorem ix_seqK {X : Cx} {K : PySem.W.Frag} (h : X.K = K) : IxR X (rIx K) := by
  subst h
  exact ix_seq
def iSeq (K : PySem.W.Frag) (tl : TE) : TI := fun σ H R => tl σ H fun x H1 => ∃ a xs, x = .ref a ∧ ∃ Kp : Hp → Prop, ((∀ H', Kp H' → SqL K H' a xs) ∨ (∀ H', Kp H' → SqT K H' a xs)) ∧ Kp H1 ∧ ∀ (J : It) (G : Hp → Prop), Walk J xs.length G (YAt xs) → (∀ H', Kp H' → G H') → R J H1
theorem pi_seq {X : Cx} {tg l : Expr} {tl : TE} (hl : PE X l tl) : PI X tg l (iSeq X.K tl) where
  run := fun pins s σ H R I h => thn (hl.run pins s σ H _ I h) fun v s1 ⟨x, H1, I1, rv, a, xs, e, Kp, side, kp, q⟩ => by
    subst e
    cases rv
    have new : ∀ b ∈ [s1.heap.objs.size], s1.heap.objs.size ≤ b := fun b m => Nat.le_of_eq (List.mem_singleton.mp m).symm
    rcases side with is | is
    · obtain ⟨its, _, there, _⟩ := I1.list (is _ kp)
      exact wpAny_pyIter_list there.isList (PairW.begun I1 (fun _ _ => Heap.get?_push_of_some _) (turn_list a _) ⟨_, Heap.get?_push_size _ rfl, rfl, rfl⟩ new (q _ _ walk_list is))
    · obtain ⟨its, _, there, _⟩ := I1.tuple (is _ kp)
      exact wpAny_pyIter_tuple (show s1.heap.IsTuple a its.toArray from there) (PairW.begun I1 (fun _ _ => Heap.get?_push_of_some _) (turn_tuple a _) ⟨_, Heap.get?_push_size _ rfl, rfl, rfl⟩ new (q _ _ walk_tup is))
def iEnumA (K : PySem.W.Frag) (ta : TA) : TI := fun σ H R => ta σ H fun vs H1 => ∃ a xs, vs = [.ref a] ∧ ∃ Kp : Hp → Prop, ((∀ H', Kp H' → SqL K H' a xs) ∨ (∀ H', Kp H' → SqT K H' a xs)) ∧ Kp H1 ∧ ∀ (J : It) (G : Hp → Prop), Walk J xs.length G (YPair (fun i => some (.int (i : Nat))) (fun i => xs[i]?)) → (∀ H', Kp H' → G H') → R J H1
theorem pi_enumA {X : Cx} {e : Expr} {ta : TA} {p pos tpos : Pos} {elts : List Expr} {kk : Nat} (hg : Gl X "enumerate") (hm : X.mg "enumerate" = none) (ha : PA X [e] ta)
    (hs : starEach [e] X.env = [(false, eval e X.env)] := by rfl) : PI X (.Tuple elts kk tpos) (.Call (.Name "enumerate" p) [e] [] pos) (iEnumA X.K ta) where
  run := fun pins s σ H R I h => Call_ (ld_blt I hg hm boot_enumerate (PyProof.Rows.callWith_type1 (thn (ha.run pos pins s σ H _ I h) fun us s1 ⟨vs, H1, I1, rv, a, xs, e, Kp, side, kp, q⟩ => by
    subst e
    obtain ⟨_, rfl, rfl⟩ := vals1 rv
    have go : ∀ t : Bool, (∀ H', Kp H' → PairW.SqV t X.K H' a xs) → wpAny (model X.prog X.w) X.A (call (.type "enumerate") [.ref a]) (fun v s2 => wpAny (model X.prog X.w) X.A (pyIter v) (PIE X pins σ (.Tuple elts kk tpos) R) X.xe s2) X.xe s1 := fun t is => by
      obtain ⟨its, _, there⟩ := PairW.sqv_get I1 (is _ kp)
      have w := PairW.walk_e (t := t) (k0 := 0) (K := X.K) (a := a) (xs := xs)
      simp only [Int.zero_add] at w
      exact PairW.call_one (PairW.begins t a its.toArray) there fun h' he hi old => PairW.pie_e (xs := xs) I1 (is _ kp) he hi old (q _ _ w is)
    exact side.elim (go false) (go true)) hs rfl))
end SeqW
/-! ### len and == of an instance by its class's own methods -/
namespace OwnI
open PySem PySem.Spec PySem.Calls PyProof.Rows L2
section
variable {X : Cx} {CX : CXT} {k : Nat} {C f : Addr} {fd : FuncData} {ps : List Str} {sp : Sp} {E : XK}
theorem call_lenO (_c : Cls X.K C) (hm : Meth X.K C "__len__" f) (F : FnOk X.prog X.w X.K X.mg X.base CX0 k f fd ps sp) (hr : Room (k + 1) X.A) (hb : Binds X.K fd ps []) :
    CallR X (.builtin "len") (fun xs H Q => ∃ a dx fs, xs = [.ref a] ∧ H a = some (.ins C dx fs) ∧ sp [.ref a] H (fun v H' => ∃ n : Nat, v = .int n ∧ n ≤ sizeLine ∧ Q (.int n) H') E0) := by
  intro pins s σ H xs us Q I r h
  obtain ⟨a, dx, fs, rfl, ha, hsp⟩ := h
  obtain ⟨u, rfl, ru⟩ := vals1 r
  cases (show u = Value.ref a from ru)
  obtain ⟨mA, J, _⟩ := ins_get I.hok ha
  obtain ⟨od, J, _⟩ := J.look
  obtain ⟨m, hF⟩ := I.fr
  refine PySem.W.len_K hF I.ok.mod.kin J hm.at_ hm.fn ?_
  have hl := F.len _ _ _ _ hsp
  have r2 : Vals [V.ref a] [Value.ref a] := .cons rfl .nil
  refine wpAny_call (codeAny_mono (F.run X.A.in1 X.stack s H ⟨[.ref a], []⟩ [.ref a] [.ref a] _ E0 hr.in1 I.env0.in1 (by
    have := hb s [.ref a] I.kIn (by simpa using hl)
    simpa using this) r2 hsp) fun r s' hq => ?_)
  cases r with
  | error e => exact hq.elim
  | ok fl =>
    cases fl with
    | ret w =>
      obtain ⟨z, H', I', rz, n, ez, hn, q⟩ := I.after hq
      subst ez
      obtain ⟨t, rfl⟩ := rz
      have h63 : (n : Int) < 2 ^ 63 := by
        have : sizeLine = 16777216 := sizeLine_eq
        omega
      exact ⟨⟨Int.natCast_nonneg n, h63⟩, .int n, H', I'.tok _, ⟨_, rfl⟩, q⟩
    | next => exact False.elim hq
    | brk => exact False.elim hq
    | cont => exact False.elim hq
end
end OwnI
namespace OwnI
open PySem PySem.Spec PySem.Calls PyProof.Rows L2
theorem funD_ok {P : Program} {w : World} {K : PySem.W.Frag} {mg : Str → Option Value} {base : Heap} {x qual : Str} {params : Arguments} {body : List Stmt} {scope : Scope} {dvs : List V} {kws : List (Str × V)} {f : Addr} {fd : FuncData} {N ps : List Str} {k : Nat} {sp : Sp} (F : FunD K x qual params body scope dvs kws f fd) (S : FnScope N ps scope) (len : ∀ vs H Q E, sp vs H Q E → vs.length = ps.length)
    (hbody : ∀ (cdv : Value) (A : Around) (outer : List Env) (s : Shared) (H : Hp) (vs : List V) (Q : VK) (E : XK), Room k (A.deeper (envOfC qual scope s.heap.objs.size f cdv)) → sp vs H Q E →
      ∃ t, PSs (cxOf CX0 P w K mg base N qual scope f cdv A outer s H E).nox body t ∧ t { nx := fun _ H' => Q .non H', rt := Q } (start N vs) H) : FnOk P w K mg base CX0 (k + 1) f fd ps sp :=
  FunD.ok F S len fun cdv A outer s H vs Q E hr hsp => by
    obtain ⟨t, h, q⟩ := hbody cdv A outer s H vs Q E hr hsp
    exact ⟨t, h.nox, q⟩
end OwnI
/-! ### tuples whose object is known: their methods may be called -/
namespace OwnI
open PySem PySem.Spec PySem.Calls PyProof.Rows L2
def PlainT (o : Obj) : Prop := o.cls = .type "tuple" ∧ o.dict = none
section
variable {X : Cx}
def rTupFrz (K : PySem.W.Frag) : List V → Hp → VK → Prop := fun xs H Q => ∃ p ys, xs = [.ref p] ∧ SqL K H p ys ∧ ∀ l o, PlainT o → H l = none → Q (.ref l) (upd H l (.frz o (.tup ys)))
theorem call_tuple_frz : CallR X (.type "tuple") (rTupFrz X.K) := by
  intro pins s σ H xs us Q I r h
  obtain ⟨p, ys, rfl, hq, q⟩ := h
  obtain ⟨u, rfl, rx⟩ := vals1 r
  cases rx
  obtain ⟨its, r', pl, hz⟩ := I.list hq
  have hlen := r'.length
  refine call_tuple_list pl.isList (fun h' kp => ?_) (by simp only [List.size_toArray] <;> omega)
  have I1 : Inv X pins σ H { s with heap := h' } := I.kept (t' := s.toks) kp
  have I2 : Inv X pins σ (upd H h'.objs.size (.frz { cls := .type "tuple", data := .seq its.toArray } (.tup ys))) { s with heap := h'.push { cls := .type "tuple", data := .seq its.toArray } } :=
    I1.laid (t' := s.toks) (fun b o e => Heap.get?_push_of_some _ e) (Nat.le_refl _) (show ObjOk X.prog X.w _ _ _ (.frz _ (.tup ys)) from ⟨Heap.get?_push_size _ rfl, hz, its, r', IsTup.new _ _⟩)
  exact ⟨.ref h'.objs.size, _, I2, rfl, q _ _ ⟨rfl, rfl⟩ (I1.hok.fresh (Nat.le_refl _))⟩
def tBMF (r : V → List V → Hp → VK → Prop) (to : TE) (t : TA) : TE := fun σ H Q => to σ H fun x H1 => (∃ p o u, x = .ref p ∧ H1 p = some (.frz o u) ∧ PlainT o) ∧ t σ H1 fun xs H2 => r x xs H2 Q
variable {o e : Expr} {es : List Expr} {to : TE} {t : TA} {name : Str} {apos cpos : Pos} {id : String} {r : V → List V → Hp → VK → Prop}
theorem pe_bmF (pa : PlainAttrs "tuple") (slot : Slot "tuple" name id) (hty : typeOf (.builtin id) = pure (.type "method_descriptor")) (hm : MtR X id r) (ho : PE X o to) (ha : PA X (e :: es) t)
    (hbase : attributeBase o name X.env (eval o X.env) = eval o X.env := by rfl)
    (hfew : ((backTo cpos (starEach (e :: es) X.env)).all (fun x => !x.1) && (backToKw cpos (keywordEach [] X.env)).all (fun x => x.1.isSome)
      && decide ((e :: es).length + ([] : List Keyword).length + (if ([] : List Keyword).isEmpty then 0 else 1) < 30)) = true := by rfl)
    (hline : (apos.endLine == cpos.line) = true := by rfl) (hs : starEach (e :: es) X.env = (false, eval e X.env) :: starEach es X.env := by rfl) (hplain : (backTo cpos (starEach es X.env)).any (·.1) = false := by rfl) :
    PE X (.Call (.Attribute o name apos) (e :: es) [] cpos) (tBMF r to t) := by
  refine ⟨fun pins s σ H Q I h => ?_⟩
  refine wpAny_Call_method_late hbase hfew hline rfl (thn (ho.run pins s σ H _ I h) fun v s1 ⟨x, H1, I1, r1, ty, q1⟩ => ?_)
  obtain ⟨p, ob, u, rfl, hp, hc, hd⟩ := ty
  have ev : v = .ref p := r1
  subst ev
  have hg := (I1.hok p _ hp).1
  refine ⟨"tuple", id, pa, slot, hty, ⟨_, hg, hc⟩, (fun a e => by cases e; exact ⟨ob, hg, hd⟩), ?_⟩
  have hA := ha.run cpos pins s1 σ H1 _ I1 q1
  rw [hs] at hA ⊢
  refine Calls.callWith_builtin (by show (false || (backTo cpos (starEach es X.env)).any (·.1)) = false; rw [hplain] <;> rfl) (Calls.evalArgs_plain ?_)
  exact thn hA fun us s2 ⟨vs, H2, I2, r2, q2⟩ => hm pins s2 σ H2 _ vs _ us Q I2 r1 r2 q2
end
end OwnI
/-! ### names unpacked from a list or a tuple; comprehensions with two fors -/
namespace SeqW
open PySem PySem.Spec PySem.Calls PyProof.Rows L2
def gAny (K : PySem.W.Frag) (n : Nat) (t : TGs) : TG := fun v σ H Q => ∃ a xs, v = .ref a ∧ (SqL K H a xs ∨ SqT K H a xs) ∧ xs.length = n ∧ t xs σ H Q
theorem pg_any {X : Cx} {pos : Pos} {es : List Expr} {k : Nat} {t : TGs} {n : Nat} (hc : X.calm = true) (h : PGs X es t)
    (hn : (assignEach es X.env).length = n := by rfl) (hst : (assignEach es X.env).findIdx? (·.1) = none := by rfl) : PG X (.Tuple es k pos) (gAny X.K n t) := by
  refine ⟨fun pins s σ H v u Q I r hw => ?_⟩
  obtain ⟨a, xs, e1, hq, hl, hw⟩ := hw
  rcases hq with hq | hq
  · exact (pg_unl hc h hn hst).run pins s σ H v u Q I r ⟨a, xs, e1, hq, hl, hw⟩
  · exact (pg_tup hc h hn hst).run pins s σ H v u Q I r ⟨a, xs, e1, hq, hl, hw⟩
section
variable {J J1 : It} {n n1 : Nat} {G G1 : Hp → Prop} {Y Y1 : Nat → Hp → V → Hp → Prop} {g g1 : TG} {tt tt1 : TT} {te : TE} {wi1 : TI} {vs vs1 : List Nat} {σ σ2 : L2.St} {H1 H4 : Hp} {D : Addr} {Qd : Hp → Prop}
theorem lc2_it (w : Walk J n G Y) (Pv : Nat → Hp → Prop) (h0 : Pv 0 (upd H1 D (.lst []))) (hG : ∀ i H, i ≤ n → Pv i H → G H)
    (hs : ∀ i x H H', i < n → Pv i H → Y i H x H' → g x (wipe σ vs) H' fun σ2 H2 => wipe σ2 vs = wipe σ vs ∧ tt σ2 H2 fun b H3 =>
      if b = true then wi1 σ2 H3 fun J1 H4 => ∃ W1 : Nat → Nat → Hp → Prop, (∃ m, W1 0 m H4) ∧ ∀ j k H, W1 j k H →
      (J1.stop j H ∧ Pv (i + 1) H) ∨ (J1.go j H ∧ ∃ Nx1 : Hp → Prop, (∀ H', Nx1 H' → ∃ k', k' < k ∧ W1 (j + 1) k' H') ∧ ∀ x H', J1.yld j H x H' → g1 x (wipe σ2 vs1) H' fun σ3 H5 => wipe σ3 vs1 = wipe σ2 vs1 ∧ tt1 σ3 H5 fun b H6 =>
        if b = true then te σ3 H6 fun y H7 => ∃ acc, H7 D = some (.lst acc) ∧ acc.length < sizeLine ∧ Nx1 (upd H7 D (.lst (acc ++ [y]))) else Nx1 H6)
      else Pv (i + 1) H3) (hd : ∀ H, Pv n H → Qd H) :
    ∃ W : Nat → Nat → Hp → Prop, (∃ m, W 0 m (upd H1 D (.lst []))) ∧ ∀ i m H, W i m H →
  (J.stop i H ∧ Qd H) ∨ (J.go i H ∧ ∃ Nx : Hp → Prop, (∀ H', Nx H' → ∃ m', m' < m ∧ W (i + 1) m' H') ∧ ∀ x H', J.yld i H x H' → g x (wipe σ vs) H' fun σ2 H2 => wipe σ2 vs = wipe σ vs ∧ tt σ2 H2 fun b H3 =>
    if b = true then wi1 σ2 H3 fun J1 H4 => ∃ W1 : Nat → Nat → Hp → Prop, (∃ m, W1 0 m H4) ∧ ∀ j k H, W1 j k H →
      (J1.stop j H ∧ Nx H) ∨ (J1.go j H ∧ ∃ Nx1 : Hp → Prop, (∀ H', Nx1 H' → ∃ k', k' < k ∧ W1 (j + 1) k' H') ∧ ∀ x H', J1.yld j H x H' → g1 x (wipe σ2 vs1) H' fun σ3 H5 => wipe σ3 vs1 = wipe σ2 vs1 ∧ tt1 σ3 H5 fun b H6 =>
        if b = true then te σ3 H6 fun y H7 => ∃ acc, H7 D = some (.lst acc) ∧ acc.length < sizeLine ∧ Nx1 (upd H7 D (.lst (acc ++ [y]))) else Nx1 H6)
    else Nx H3) := by
  refine ⟨fun i m H => m = n - i ∧ i ≤ n ∧ Pv i H, ⟨n, by simp, Nat.zero_le _, h0⟩, ?_⟩
  rintro i m H ⟨rfl, hi, p⟩
  have q := hG i H hi p
  by_cases hlt : i < n
  · exact .inr ⟨w.goes i H hlt q, Pv (i + 1), fun H' p' => ⟨n - (i + 1), by omega, rfl, hlt, p'⟩, fun x H' y => hs i x H H' hlt p (w.yields i H x H' hlt q y)⟩
  · have e : i = n := by omega
    subst e
    exact .inl ⟨w.stops H q, hd H p⟩
theorem lc2_in (w : Walk J1 n1 G1 Y1) (Pv : Nat → Hp → Prop) (h0 : Pv 0 H4) (hG : ∀ i H, i ≤ n1 → Pv i H → G1 H)
    (hs : ∀ j x H H', j < n1 → Pv j H → Y1 j H x H' → g1 x (wipe σ2 vs1) H' fun σ3 H5 => wipe σ3 vs1 = wipe σ2 vs1 ∧ tt1 σ3 H5 fun b H6 =>
        if b = true then te σ3 H6 fun y H7 => ∃ acc, H7 D = some (.lst acc) ∧ acc.length < sizeLine ∧ Pv (j + 1) (upd H7 D (.lst (acc ++ [y]))) else Pv (j + 1) H6) (hd : ∀ H, Pv n1 H → Qd H) :
    ∃ W1 : Nat → Nat → Hp → Prop, (∃ m, W1 0 m H4) ∧ ∀ j k H, W1 j k H →
      (J1.stop j H ∧ Qd H) ∨ (J1.go j H ∧ ∃ Nx1 : Hp → Prop, (∀ H', Nx1 H' → ∃ k', k' < k ∧ W1 (j + 1) k' H') ∧ ∀ x H', J1.yld j H x H' → g1 x (wipe σ2 vs1) H' fun σ3 H5 => wipe σ3 vs1 = wipe σ2 vs1 ∧ tt1 σ3 H5 fun b H6 =>
        if b = true then te σ3 H6 fun y H7 => ∃ acc, H7 D = some (.lst acc) ∧ acc.length < sizeLine ∧ Nx1 (upd H7 D (.lst (acc ++ [y]))) else Nx1 H6) := by
  refine ⟨fun i m H => m = n1 - i ∧ i ≤ n1 ∧ Pv i H, ⟨n1, by simp, Nat.zero_le _, h0⟩, ?_⟩
  rintro i m H ⟨rfl, hi, p⟩
  have q := hG i H hi p
  by_cases hlt : i < n1
  · exact .inr ⟨w.goes i H hlt q, Pv (i + 1), fun H' p' => ⟨n1 - (i + 1), by omega, rfl, hlt, p'⟩, fun x H' y => hs i x H H' hlt p (w.yields i H x H' hlt q y)⟩
  · have e : i = n1 := by omega
    subst e
    exact .inl ⟨w.stops H q, hd H p⟩
end
end SeqW
namespace SeqW
open PySem PySem.Spec PySem.Calls PyProof.Rows L2
/-- xs[i], as xs[i] += e reads it -/
theorem get_list {X : Cx} : PGet X (fun x y H Q => ∃ p xs i v, x = .ref p ∧ y = .int (i : Nat) ∧ SqL X.K H p xs ∧ xs[i]? = some v ∧ Q v H) := by
  intro pins s σ H x y v u Q I rx ry h
  obtain ⟨p, xs, i, z, rfl, rfl, hq, he, q⟩ := h
  cases rx
  obtain ⟨t, rfl⟩ := ry
  obtain ⟨its, r, pl, hz⟩ := I.list hq
  obtain ⟨w, ew, rw'⟩ := r.get he
  have hl := r.length
  have hn := line63
  have hi := (List.getElem?_eq_some_iff.mp he).1
  exact wpAny_getItem_list pl.isList (Int.natCast_nonneg i) (by omega) (by rw [Int.toNat_natCast]; simpa using ew) ⟨z, H, I, rw', q⟩
end SeqW
namespace SeqW
open PySem PySem.Spec PySem.Calls PyProof.Rows L2
theorem notIn_K {X : Cx} {K : PySem.W.Frag} (h : X.K = K) : OpR X (compareOp .NotIn) (rIn K true) := by
  subst h
  exact op_notIn_seq
theorem in_K {X : Cx} {K : PySem.W.Frag} (h : X.K = K) : OpR X (compareOp .In) (rIn K false) := by
  subst h
  exact op_in_seq
end SeqW
/-! ### rules for what stands in a comprehension within another one -/
namespace SeqK
open PySem PySem.Spec PyProof.Rows L2
theorem pi_seqK {X : Cx} {K : PySem.W.Frag} {tg l : Expr} {tl : TE} (h : X.K = K) (hl : PE X l tl) : PI X tg l (SeqW.iSeq K tl) := by
  subst h
  exact SeqW.pi_seq hl
def rJoin (K : PySem.W.Frag) : V → List V → Hp → VK → Prop := fun x xs H Q => ∃ a p, ∃ ys : List Str, x = .str a ∧ xs = [.ref p] ∧ (SqL K H p (ys.map V.str) ∨ SqT K H p (ys.map V.str)) ∧ (ys.map (·.length)).sum + ys.length * a.length ≤ 16777216 ∧ Q (.str (Txt.join a ys)) H
theorem joinK {X : Cx} {K : PySem.W.Frag} (h : X.K = K) : MtR X "str.join" (rJoin K) := by
  subst h
  exact mt_join
section
variable {X : Cx} {K : PySem.W.Frag} {T id : String} {name : Str} {o e : Expr} {es : List Expr} {apos cpos : Pos} {r : V → List V → Hp → VK → Prop} {to : TE} {t : TA}
theorem pe_bmK (h : X.K = K) (pa : PlainAttrs T) (slot : Slot T name id) (hty : typeOf (.builtin id) = pure (.type "method_descriptor")) (hm : MtR X id r) (ho : PE X o to) (ha : PA X [e] t) (hbase : attributeBase o name X.env (eval o X.env) = eval o X.env := by rfl)
    (few : ((backTo cpos (starEach [e] X.env)).all (fun x => !x.1) && (backToKw cpos (keywordEach [] X.env)).all (fun x => x.1.isSome) && decide (([e] : List Expr).length + ([] : List Keyword).length + (if ([] : List Keyword).isEmpty then 0 else 1) < 30)) = true := by rfl)
    (line : (apos.endLine == cpos.line) = true := by rfl) (stars : starEach [e] X.env = (false, eval e X.env) :: starEach [] X.env := by rfl) (plain : (backTo cpos (starEach [] X.env)).any (·.1) = false := by rfl) : PE X (.Call (.Attribute o name apos) [e] [] cpos) (tBM K T r to t) := by
  subst h
  exact pe_bm pa slot hty hm ho ha hbase few line stars plain
end
end SeqK
/-! ### sorted(rows): tuples that begin with a text, rows of one text alike behind it -/
namespace SrtSP
open PySem PyProof.Rows Srt SrtO
section
variable {prog : Program} {w : World} {A : Around} {E : Value → Shared → Prop} {s : Shared}
def ltS (x y : Str) : Bool := decide (x.cps.toList < y.cps.toList)
theorem swoS {α : Type} (k : α → Str) : Swo (fun x y => ltS (k x) (k y)) where
  asym := fun x y h => decide_eq_false (List.lt_asymm (of_decide_eq_true h))
  tr := fun x y z h1 h2 => decide_eq_false (List.not_lt.mpr (List.le_trans (List.not_lt.mp (of_decide_eq_false h1)) (List.not_lt.mp (of_decide_eq_false h2))))
theorem ltS_self (x : Str) : ltS x x = false := decide_eq_false (List.lt_irrefl _)
/-- texts and references: each of them is like itself -/
def Flat (u : Value) : Prop := (∃ z t, u = .str z t) ∨ ∃ a, u = .ref a
theorem flat_eq {u : Value} {Q : Bool → Shared → Prop} (f : Flat u) (h : Q true s) : wpAny (model prog w) A (eqBool u u) Q E s := by
  rcases f with ⟨z, t, rfl⟩ | ⟨a, rfl⟩
  · refine SeqAt.EqAt.str_str z t z t prog w _ _ ?_
    rw [beq_self_eq_true z]
    exact h
  · have e : (Value.ref a == Value.ref a) = true := beq_self_eq_true _
    unfold eqBool
    exact wpAny_holding (by rw [e]; exact wpAny_bind (wpAny_rule (wpAny_pure h)))
theorem flat_lex {Q : Bool → Shared → Prop} (hq : Q false s) : ∀ (us : List Value) (i : Nat), (∀ u ∈ us, Flat u) → PySem.W.KatLex prog w A true false Q (us.zip us) i s
  | [], _, _ => PySem.W.kat_nil hq
  | u :: us, i, f => PySem.W.kat_cons (flat_eq (f u List.mem_cons_self) (PySem.W.kat_yes (flat_lex hq us (i + 1) fun v m => f v (List.mem_cons_of_mem _ m))))
/-- the tuple of the text z and of us -/
def RowAt (h : Heap) (v : Value) (z : Str) (us : List Value) : Prop := ∃ a o t n, v = .ref a ∧ h.get? a = some o ∧ o.cls = .type "tuple" ∧ o.data = .seq (Value.str z t :: us).toArray n
structure Rws (h : Heap) (vs : List Value) (k : Value → Str) (r : Value → List Value) : Prop where
  row : ∀ v ∈ vs, RowAt h v (k v) (r v)
  flat : ∀ v ∈ vs, ∀ u ∈ r v, Flat u
  one : ∀ v ∈ vs, ∀ u ∈ vs, k v = k u → r v = r u
variable {vs : List Value} {k : Value → Str} {r : Value → List Value}
theorem Rws.keeps {h h' : Heap} (R : Rws h vs k r) (keep : ∀ b o, h.get? b = some o → o.cls = .type "tuple" → h'.get? b = some o) : Rws h' vs k r where
  row := fun v m => by
    obtain ⟨a, o, t, n, e, ho, hc, hd⟩ := R.row v m
    exact ⟨a, o, t, n, e, keep _ _ ho hc, hc, hd⟩
  flat := R.flat
  one := R.one
theorem row_less {v u : Value} {x y : Str} {us vs : List Value} (h1 : RowAt s.heap v x us) (h2 : RowAt s.heap u y vs) (f : ∀ c ∈ us, Flat c) (one : x = y → us = vs) : wpAny (model prog w) A (keyLt' (tuples' true) v u) (fun z s' => s' = s ∧ z = ltS x y) (fun _ _ => False) s := by
  obtain ⟨a, o, t, n, rfl, ho, -, hd⟩ := h1
  obtain ⟨a', o', t', n', rfl, ho', -, hd'⟩ := h2
  refine PySem.W.kat_lt ho hd ho' hd' (PySem.W.kat_cons (SeqAt.EqAt.str_str x t y t' prog w _ _ ?_))
  cases e : x == y
  · exact PySem.W.kat_no (oneLt_str ⟨rfl, rfl⟩)
  · have alike := eq_of_beq e
    cases alike
    cases one rfl
    refine PySem.W.kat_yes ?_
    simp only [List.size_toArray, List.length_cons, Nat.lt_irrefl, decide_false]
    exact flat_lex ⟨rfl, (ltS_self x).symm⟩ us 1 f
theorem rows_firsts {h : Heap} : ∀ {vs : List Value}, (∀ v ∈ vs, ∃ z us, RowAt h v z us) → ∃ fs : List Value, PySem.W.KatTups h vs fs ∧ fs.length = vs.length ∧ ∀ c ∈ fs, ∃ z t, c = Value.str z t
  | [], _ => ⟨_, .nil, rfl, by simp⟩
  | v :: vs, told => by
    obtain ⟨fs, tups, same, texts⟩ := rows_firsts fun u m => told u (List.mem_cons_of_mem v m)
    obtain ⟨z, us, a, o, t, n, rfl, ho, hc, hd⟩ := told v List.mem_cons_self
    exact ⟨_, .cons ho hc hd rfl tups, congrArg Nat.succ same, fun c m => (List.mem_cons.mp m).elim (fun e => ⟨z, t, e⟩) (texts c)⟩
theorem rows_sortable {a : Addr} (some_ : 0 < vs.length) (R : Rws s.heap vs k r) (ha : ∀ o, s.heap.get? a = some o → o.cls ≠ .type "tuple") : SortableO prog w A s a vs fun v u => ltS (k v) (k u) := fun h' keep => by
  have R' : Rws h' vs k r := R.keeps fun b o e c => keep b o (fun z => ha o (z ▸ e) c) e
  obtain ⟨fs, tups, same, texts⟩ := rows_firsts fun v m => ⟨_, _, R'.row v m⟩
  refine ⟨tuples' true, fun Q E hq => PySem.W.kat_kind (T := .type "str") tups (by omega) (fun c m => ?_) (by rfl) ?_, fun p q mp mq => row_less (R'.row _ mp) (R'.row _ mq) (R'.flat _ mp) (R'.one _ mp _ mq)⟩
  · obtain ⟨z, t, rfl⟩ := texts c m
    exact PySem.W.Looks.now
  · have e : (Value.type "str" != Value.type "tuple") = true := by first | decide +kernel | rfl | decide
    exact e ▸ hq
theorem sorted_rows {l : Addr} {Q : Value → Shared → Prop} (hl : s.heap.IsList l vs.toArray) (hz : vs.length ≤ sizeLine) (R : Rws s.heap vs k r)
    (done : ∀ (h' : Heap) (d : Addr) (out : List Value), Srtd (fun v u => ltS (k v) (k u)) out → Stb (fun v u => ltS (k v) (k u)) out vs → (∀ b o, s.heap.get? b = some o → h'.get? b = some o) → s.heap.objs.size ≤ d → (∃ n, h'.get? d = some (seqObj "list" out.toArray n)) → Q (.ref d) { s with heap := h' }) :
    wpAny (model prog w) A (call (.builtin "sorted") [.ref l]) Q E s := by
  refine sorted_ord (swoS k) hl hz (fun two h₁ a at_ keep => rows_sortable (r := r) (s := { s with heap := h₁ }) (by omega) (R.keeps fun b o e _ => (keep b o e).2) fun o e c => ?_) fun out hs hb => done _ _ out hs hb (fun _ _ => sortedAll_old) (Nat.le_succ _) (sortedAll_at s.heap vs out.toArray)
  cases (e.symm.trans at_ : some o = some (seqObj "list" vs.toArray 0))
  exact absurd (Value.type.inj c) (by decide)
end
/-- what stands behind the first thing of the tuple at v -/
def restOf (h : Heap) (v : Value) : List Value := match v with
  | .ref a => match h.get? a with
    | some o => match o.data with
      | .seq its _ => its.toList.tail
      | _ => []
    | none => []
  | _ => []
theorem restOf_at {h : Heap} {a : Addr} {o : Obj} {c : Value} {us : List Value} {n : Nat} (ho : h.get? a = some o) (hd : o.data = .seq (c :: us).toArray n) : restOf h (.ref a) = us := by simp [restOf, ho, hd]
end SrtSP
namespace L2
open PySem PySem.Spec PyProof.Rows
def FlatV (y : V) : Prop := (∃ z, y = V.str z) ∨ ∃ a, y = V.ref a
theorem vals_flat {ys : List V} {us : List Value} (r : Vals ys us) (f : ∀ y ∈ ys, FlatV y) : ∀ u ∈ us, SrtSP.Flat u := by
  induction r with
  | nil => simp
  | @cons y u ys us here _ ih =>
    intro c m
    rcases List.mem_cons.mp m with e | m
    · subst e
      rcases f y List.mem_cons_self with ⟨z, e⟩ | ⟨a, e⟩ <;> subst e
      · obtain ⟨t, e⟩ := here
        exact .inl ⟨z, t, e⟩
      · exact .inr ⟨a, here⟩
    · exact ih (fun y m => f y (List.mem_cons_of_mem _ m)) c m
/-- sorted of rows in our own heap: k tells the text that each begins with, g what stands behind it -/
theorem sorted_by {X : Cx} {pins : List (Addr × Obj)} {σ : St} {H : Hp} {s : Shared} {a : Addr} {xs : List V} {k : V → Str} {g : V → List V} {Q : VK} (I : Inv X pins σ H s) (hs : SqL X.K H a xs)
    (row : ∀ x ∈ xs, ∃ t, x = V.ref t ∧ H t = some (.tup (V.str (k x) :: g x))) (flat : ∀ x ∈ xs, ∀ y ∈ g x, FlatV y) (one : ∀ x ∈ xs, ∀ y ∈ xs, k x = k y → x = y ∨ ∃ b, g x = [.ref b] ∧ g y = [.ref b])
    (q : ∀ ys p, SrtO.Srtd (fun x y => SrtSP.ltS (k x) (k y)) ys → ys.Perm xs → H p = none → Q (.ref p) (upd H p (.lst ys))) : wpAny (model X.prog X.w) X.A (call (.builtin "sorted") [.ref a]) (EP X pins σ Q) X.xe s := by
  obtain ⟨its, rv, there, small⟩ := I.list hs
  obtain ⟨back, refs⟩ := refs_back rv fun x m => (row x m).imp fun _ p => p.1
  have mem : ∀ v ∈ its, backV v ∈ xs := fun v m => back ▸ List.mem_map_of_mem m
  have at_ : ∀ v ∈ its, ∃ c o t us n, v = Value.ref c ∧ backV v = V.ref c ∧ s.heap.get? c = some o ∧ o.cls = .type "tuple" ∧ o.data = .seq (Value.str (k (backV v)) t :: us).toArray n ∧ Vals (g (backV v)) us ∧ SrtSP.restOf s.heap v = us := fun v m => by
    obtain ⟨c, e⟩ := refs v m
    subst e
    obtain ⟨t, e, told⟩ := row _ (mem _ m)
    cases e
    obtain ⟨_, all, rr, o, ho, hc, n, hd⟩ := I.hok _ _ told
    cases (show Vals (V.str _ :: g _) all from rr) with
    | cons r1 rs =>
      obtain ⟨tk, e⟩ := r1
      subst e
      exact ⟨c, o, tk, _, n, rfl, rfl, ho, hc, hd, rs, SrtSP.restOf_at ho hd⟩
  refine SrtSP.sorted_rows (k := fun v => k (backV v)) (r := SrtSP.restOf s.heap) there.isList (rv.length ▸ small) ⟨fun v m => ?_, fun v m => ?_, fun v m u m' e => ?_⟩ fun h' d out srt stb old new made => ?_
  · obtain ⟨c, o, t, us, n, e, _, ho, hc, hd, _, er⟩ := at_ v m
    exact ⟨c, o, t, n, e, ho, hc, er ▸ hd⟩
  · obtain ⟨c, o, t, us, n, _, _, _, _, _, rs, er⟩ := at_ v m
    exact er ▸ vals_flat rs (flat _ (mem v m))
  · obtain ⟨c, _, _, us, _, e1, b1, _, _, _, r1, er1⟩ := at_ v m
    obtain ⟨c', _, _, us', _, e2, b2, _, _, _, r2, er2⟩ := at_ u m'
    rcases one _ (mem v m) _ (mem u m') e with z | ⟨b, z1, z2⟩
    · rw [b1, b2] at z
      cases z
      rw [e1, e2]
    · rw [z1] at r1
      rw [z2] at r2
      obtain ⟨_, w1, x1⟩ := vals1 r1
      obtain ⟨_, w2, x2⟩ := vals1 r2
      rw [er1, er2, w1, w2, x1, x2]
  · obtain ⟨n, hn⟩ := made
    have prm : (out.map backV).Perm xs := back ▸ stb.perm.map backV
    exact ⟨.ref d, upd H d (.lst (out.map backV)), I.laid (t' := s.toks) old new ⟨prm.length_eq ▸ small, out, n, vals_back fun u m => refs u (stb.perm.mem_iff.mp m), hn⟩, rfl, q _ d (List.pairwise_map.mpr srt) prm (I.hok.fresh new)⟩
/-- rows of a text and something else: g where it stands -/
def rSortedSP (K : PySem.W.Frag) : List V → Hp → VK → Prop := fun vs H Q => ∃ (a : Addr) (xs : List V) (k : V → Str) (g : V → Addr), vs = [V.ref a] ∧ SqL K H a xs ∧ (∀ x ∈ xs, ∃ t, x = V.ref t ∧ H t = some (.tup [.str (k x), .ref (g x)])) ∧ (∀ x ∈ xs, ∀ y ∈ xs, k x = k y → g x = g y) ∧
  ∀ ys p, SrtO.Srtd (fun x y => SrtSP.ltS (k x) (k y)) ys → ys.Perm xs → H p = none → Q (.ref p) (upd H p (.lst ys))
theorem cr_sortedSP {X : Cx} : CallR X (.builtin "sorted") (rSortedSP X.K) := fun _ _ _ _ _ _ _ I rv ⟨_, xs, k, g, e, hs, row, one, q⟩ => by
  subst e
  obtain ⟨_, rfl, rfl⟩ := vals1 rv
  exact sorted_by (g := fun x => [.ref (g x)]) I hs row (fun x _ y m => .inr ⟨_, List.mem_singleton.mp m⟩) (fun x m y m' e => .inr ⟨g x, rfl, by rw [one x m y m' e]⟩) q
end L2
/-! ### sorted(groups): tuples of texts, their first texts unlike -/
namespace L2
open PySem PySem.Spec PyProof.Rows
/-- k tells each group's first text -/
def rSortedTS (K : PySem.W.Frag) : List V → Hp → VK → Prop := fun vs H Q => ∃ (a : Addr) (xs : List V) (k : V → Str), vs = [V.ref a] ∧ SqL K H a xs ∧ (∀ x ∈ xs, ∃ t zs, x = V.ref t ∧ H t = some (.tup ((k x :: zs).map V.str))) ∧ (∀ x ∈ xs, ∀ y ∈ xs, k x = k y → x = y) ∧
  ∀ ys p, SrtO.Srtd (fun x y => SrtSP.ltS (k x) (k y)) ys → ys.Perm xs → H p = none → Q (.ref p) (upd H p (.lst ys))
theorem cr_sortedTS {X : Cx} : CallR X (.builtin "sorted") (rSortedTS X.K) := fun _ _ _ H _ _ _ I rv ⟨_, xs, k, e, hs, row, one, q⟩ => by
  subst e
  obtain ⟨_, rfl, rfl⟩ := vals1 rv
  -- the texts behind the first one of each group
  have more : ∀ x, ∃ zs : List Str, x ∈ xs → ∃ t, x = V.ref t ∧ H t = some (.tup ((k x :: zs).map V.str)) := fun x => by
    by_cases m : x ∈ xs
    · obtain ⟨t, zs, e, told⟩ := row x m
      exact ⟨zs, fun _ => ⟨t, e, told⟩⟩
    · exact ⟨[], fun m' => absurd m' m⟩
  exact sorted_by (g := fun x => ((more x).choose).map V.str) I hs (fun x m => (more x).choose_spec m)
    (fun x _ y m => by obtain ⟨z, _, e⟩ := List.mem_map.mp m; exact .inl ⟨z, e.symm⟩) (fun x m y m' e => .inl (one x m y m' e)) q
end L2
/-! ### slices and counts of what is a list or a tuple -/
namespace OwnI
open PySem PySem.Spec PySem.Calls PyProof.Rows L2
/-- a list, or a tuple whose object is known -/
def Cnt (K : PySem.W.Frag) (H : Hp) (p : Addr) (ys : List V) : Prop := SqL K H p ys ∨ ∃ o, H p = some (.frz o (.tup ys)) ∧ PlainT o
theorem Cnt.same {K : PySem.W.Frag} {H H' : Hp} {p : Addr} {ys : List V} (h : Cnt K H p ys) (s : Same H H') : Cnt K H' p ys := h.elim (fun h => .inl (s.seq h)) (fun ⟨o, h1, h2⟩ => .inr ⟨o, s _ _ h1, h2⟩)
section
variable {X : Cx}
/-- xs[lo:hi], not the whole of a tuple -/
def rSlC (K : PySem.W.Frag) : V → Option Int → Option Int → Hp → VK → Prop := fun x lo hi H Q => ∃ a xs, x = .ref a ∧ ((SqL K H a xs ∧ ∀ p, H p = none → Q (.ref p) (upd H p (.lst (cutV xs lo hi)))) ∨
  (SqT K H a xs ∧ ¬ (HT.sIx xs.length 0 lo = 0 ∧ HT.sIx xs.length xs.length hi = xs.length) ∧ ∀ p o, PlainT o → H p = none → Q (.ref p) (upd H p (.frz o (.tup (cutV xs lo hi))))))
theorem sl_cnt : SlR X (rSlC X.K) := by
  intro pins s σ H x v vl vu lo hi sl Q I rx hs pl pu h
  obtain ⟨a, xs, rfl, h⟩ := h
  rcases h with ⟨hx, q⟩ | ⟨hx, hw, q⟩
  · exact sl_list pins s σ H _ v vl vu lo hi sl Q I rx hs pl pu ⟨a, xs, rfl, hx, q⟩
  · cases rx
    obtain ⟨its, r, ht, hz⟩ := I.tuple hx
    have hlen : its.toArray.size = xs.length := by rw [List.size_toArray]; exact r.length.symm
    refine ⟨"tuple", _, PyProof.Rows.slot_tuple_getitem.lookup, ht.typeIs, ?_⟩
    refine HT.getItem_tuple_cut ht hs pl pu (by rw [hlen]; exact hw) ?_ (by rw [hlen]; exact hz)
    rw [hlen]
    refine ⟨.ref s.heap.objs.size, _, I.laid (t' := s.toks) (o := .frz { cls := .type "tuple", data := .seq (((its.drop (HT.sIx xs.length 0 lo)).take (HT.sIx xs.length xs.length hi - HT.sIx xs.length 0 lo))).toArray } (.tup (cutV xs lo hi))) (fun b ob q => Heap.get?_push_of_some _ q) (Nat.le_refl _) ?_, rfl, q _ _ ⟨rfl, rfl⟩ (I.hok.fresh (Nat.le_refl _))⟩
    exact ⟨Heap.get?_push_size _ rfl, Nat.le_trans (cutV_length xs lo hi) hz, _, (r.drop (HT.sIx xs.length 0 lo)).take (HT.sIx xs.length xs.length hi - HT.sIx xs.length 0 lo), IsTup.new _ _⟩
theorem count_valsO {y : V} : ∀ {ys : List V} {us : List Value}, Vals ys us → ys.all flatV = true → us.countP (eqU y) = ys.countP (fun z => eqV z y)
  | _, _, .nil, _ => rfl
  | _, _, .cons r rs, h => by
    rw [List.all_cons] at h
    obtain ⟨h1, h2⟩ := Bool.and_eq_true_iff.mp h
    rw [List.countP_cons, List.countP_cons, count_valsO rs h2, eqU_of r h1]
def endC (ys : List V) (Q : VK) (S : Hp → Prop) : List V → Hp → Prop := fun vs H2 => ∃ y, vs = [y] ∧ S H2 ∧ flatV y = true ∧ ys.all flatV = true ∧ Q (.int (ys.countP (fun z => eqV z y) : Nat)) H2
def tCnt (K : PySem.W.Frag) (to : TE) (t : TA) : TE := fun σ H Q => to σ H fun x H1 => ∃ p ys, x = .ref p ∧ ((SqL K H1 p ys ∧ t σ H1 (endC ys Q fun H2 => SqL K H2 p ys)) ∨ ((∃ o, H1 p = some (.frz o (.tup ys)) ∧ PlainT o) ∧ t σ H1 (endC ys Q fun H2 => SqT K H2 p ys)))
variable {o e : Expr} {to : TE} {t : TA} {apos cpos : Pos} {name : Str}
/-- xs.count(e) -/
theorem pe_cnt {K : PySem.W.Frag} (hK : X.K = K) (ho : PE X o to) (ha : PA X [e] t)
    (hbase : attributeBase o name X.env (eval o X.env) = eval o X.env := by rfl) (hname : name = "count" := by rfl)
    (hfew : ((backTo cpos (starEach [e] X.env)).all (fun x => !x.1) && (backToKw cpos (keywordEach [] X.env)).all (fun x => x.1.isSome)
      && decide (([e] : List Expr).length + ([] : List Keyword).length + (if ([] : List Keyword).isEmpty then 0 else 1) < 30)) = true := by rfl)
    (hline : (apos.endLine == cpos.line) = true := by rfl) (hs : starEach [e] X.env = (false, eval e X.env) :: starEach [] X.env := by rfl) (hplain : (backTo cpos (starEach [] X.env)).any (·.1) = false := by rfl) :
    PE X (.Call (.Attribute o name apos) [e] [] cpos) (tCnt K to t) := by
  subst hname hK
  refine ⟨fun pins s σ H Q I h => ?_⟩
  refine wpAny_Call_method_late hbase hfew hline rfl (thn (ho.run pins s σ H _ I h) fun v s1 ⟨x, H1, I1, r1, q1⟩ => ?_)
  obtain ⟨p, ys, rfl, hc⟩ := q1
  have ev : v = .ref p := r1
  subst ev
  rcases hc with ⟨hq, q1⟩ | ⟨⟨ob, hq, hc1, hd1⟩, q1⟩
  · have hA := ha.run cpos pins s1 σ H1 _ I1 q1
    obtain ⟨h1, h2⟩ := tyV_is (T := "list") I1 (show RelV (.ref p) (.ref p) from rfl) (.inl ⟨rfl, ys, hq⟩)
    refine ⟨"list", "list.count", PySem.F.plainAttrs_list, PySem.F.slot_list_count, PySem.F.type_list_count, h1, h2, ?_⟩
    rw [hs] at hA ⊢
    refine Calls.callWith_builtin (by show (false || (backTo cpos (starEach [] X.env)).any (·.1)) = false; rw [hplain] <;> rfl) (Calls.evalArgs_plain ?_)
    refine thn hA fun us s2 ⟨vs, H2, I2, r2, q2⟩ => ?_
    obtain ⟨y, rfl, hs2, fy, fys, q⟩ := q2
    obtain ⟨u, rfl, ru⟩ := r2.one
    obtain ⟨its, rv, ⟨⟨cls, dd, data, sl⟩, n, ho, hc, hdn, hd⟩, hlen⟩ := I2.list hs2
    simp only at hc hd
    subst hc hd
    refine call_meets PySem.F.slot_list_count ⟨_, ho, rfl⟩ PySem.F.entry_list_count (PySem.F.args_list_count_2 _ _) (SeqAt.list_countAt p its.toArray n dd sl u (eqU y)) ⟨ho, fun z hz => mem_eqAt ru fy rv fys z (by simpa using hz), ?_⟩
    refine ⟨.int (ys.countP (fun z => eqV z y) : Nat), H2, I2.tok _, ⟨s2.toks, ?_⟩, q⟩
    show Value.int ((its.toArray.toList.countP (eqU y) : Nat) : Int) s2.toks = _
    rw [show its.toArray.toList = its from rfl, count_valsO rv fys]
  · have hA := ha.run cpos pins s1 σ H1 _ I1 q1
    have hg := (I1.hok p _ hq).1
    refine ⟨"tuple", "tuple.count", PySem.F.plainAttrs_tuple, PySem.F.slot_tuple_count, PySem.F.type_tuple_count, ⟨_, hg, hc1⟩, (fun a e => by cases e; exact ⟨ob, hg, hd1⟩), ?_⟩
    rw [hs] at hA ⊢
    refine Calls.callWith_builtin (by show (false || (backTo cpos (starEach [] X.env)).any (·.1)) = false; rw [hplain] <;> rfl) (Calls.evalArgs_plain ?_)
    refine thn hA fun us s2 ⟨vs, H2, I2, r2, q2⟩ => ?_
    obtain ⟨y, rfl, hs2, fy, fys, q⟩ := q2
    obtain ⟨u, rfl, ru⟩ := r2.one
    obtain ⟨its, rv, pl, hz⟩ := I2.tuple hs2
    obtain ⟨⟨cls, dd, data, sl⟩, ho, hc, n, hd⟩ := pl
    simp only at hc hd
    subst hc hd
    refine call_meets PySem.F.slot_tuple_count ⟨_, ho, rfl⟩ PySem.F.entry_tuple_count (PySem.F.args_tuple_count_2 _ _) (SeqAt.tuple_countAt p its.toArray n dd sl u (eqU y)) ⟨ho, fun z hz => mem_eqAt ru fy rv fys z (by simpa using hz), ?_⟩
    refine ⟨.int (ys.countP (fun z => eqV z y) : Nat), H2, I2.tok _, ⟨s2.toks, ?_⟩, q⟩
    show Value.int ((its.toArray.toList.countP (eqU y) : Nat) : Int) s2.toks = _
    rw [show its.toArray.toList = its from rfl, count_valsO rv fys]
end
end OwnI
/-! ### zip of what are lists or tuples, each for itself -/
namespace ZipG
open PySem PySem.Spec PyProof.Rows L2
abbrev SqV := @PairW.SqV
def PrZ (t1 t2 : Bool) (K : PySem.W.Frag) (a b : Addr) : PairW.Prs where
  go := fun i H => ∃ xs ys : List V, SqV t1 K H a xs ∧ SqV t2 K H b ys ∧ i < min xs.length ys.length
  are := fun i H x y => (∀ xs, SqV t1 K H a xs → xs[i]? = some x) ∧ ∀ ys, SqV t2 K H b ys → ys[i]? = some y
  stop := fun i H => ∃ xs ys : List V, SqV t1 K H a xs ∧ SqV t2 K H b ys ∧ i = min xs.length ys.length
def TnZ (t1 t2 : Bool) (a b z TI TO i1 i2 : Addr) (i : Nat) (h : Heap) : Prop :=
  IsZip h z TI TO .none ∧ IsTupOf2 h TI (.ref i1) (.ref i2) ∧ (∃ x y, IsTupOf2 h TO x y) ∧ PairW.ItB t1 h i1 a i ∧ PairW.ItB t2 h i2 b i
theorem turn_z {P : Program} {w : World} {K : PySem.W.Frag} {elts : List Expr} {kk : Nat} {tpos : Pos} {t1 t2 : Bool} {a b z TI TO i1 i2 : Addr} (S : ZipSep2 z TI TO i1 i2 [i1, a] [i2, b]) (ha : a ≠ i1) (hb : b ≠ i2) :
    Turn P w K (.Tuple elts kk tpos) (PrZ t1 t2 K a b).it [z, TI, TO, i1, i2] z (TnZ t1 t2 a b z TI TO i1 i2) := by
  refine PairW.turn_prs (wr := [z, TO, i1, i2]) _ (by simp) (fun c m => ?_) (fun i h st c m => ?_) (fun i h h' st k => ?_) (fun A i s Q E st q => wpAny_pyIter_zip st.1 q) fun X e1 e2 e3 calm i pins s σ H I st told => ?_
  · simp only [List.mem_cons, List.not_mem_nil, or_false] at m ⊢
    rcases m with q | q | q | q <;> simp [q]
  · obtain ⟨hz, hI, ⟨x, y, hO⟩, g1, g2⟩ := st
    simp only [List.mem_cons, List.not_mem_nil, or_false] at m
    rcases m with q | q | q | q | q <;> subst q
    · exact ⟨_, hz, fun _ q => nomatch q⟩
    · exact ⟨_, hI, fun _ q => nomatch q⟩
    · exact ⟨_, hO, fun _ q => nomatch q⟩
    · exact g1.obj
    · exact g2.obj
  · obtain ⟨hz, hI, ⟨x, y, hO⟩, g1, g2⟩ := st
    exact ⟨k _ (by simp) _ hz, k _ (by simp) _ hI, ⟨x, y, k _ (by simp) _ hO⟩, g1.at fun o => k _ (by simp) o, g2.at fun o => k _ (by simp) o⟩
  · subst e1 e2 e3
    obtain ⟨xs, ys, hx, hy⟩ : ∃ xs ys : List V, SqV t1 X.K H a xs ∧ SqV t2 X.K H b ys := told.elim (fun ⟨xs, ys, p, q, _⟩ => ⟨xs, ys, p, q⟩) fun ⟨xs, ys, p, q, _⟩ => ⟨xs, ys, p, q⟩
    obtain ⟨its1, r1, th1⟩ := PairW.sqv_get I hx
    obtain ⟨its2, r2, th2⟩ := PairW.sqv_get I hy
    have many : min xs.length ys.length = min its1.toArray.size its2.toArray.size := by simp only [List.size_toArray]; rw [r1.length, r2.length]
    obtain ⟨hz, hI, hO, g1, g2⟩ := st
    have D1 := PairW.draws (prog := X.prog) (w := X.w) (A := X.A.in1) (I.ok.hd calm) t1 ha its1.toArray
    have D2 := PairW.draws (prog := X.prog) (w := X.w) (A := X.A.in1) (I.ok.hd calm) t2 hb its2.toArray
    refine ⟨_, _, _, _, GoesN.zip2 S D1 D2, ⟨hz, hI, hO, ⟨g1, th1⟩, ⟨g2, th2⟩⟩, fun h ⟨n1, n2, n3, n4, n5⟩ => ⟨n1, n2, n3, n4.1, n5.1⟩, ?_, ?_⟩
    · rintro ⟨xs', ys', p, q, n⟩
      rw [n, PairW.sqv_inj I p hx, PairW.sqv_inj I q hy, many]
    · rintro ⟨xs', ys', p, q, n⟩
      rw [PairW.sqv_inj I p hx, PairW.sqv_inj I q hy] at n
      refine ⟨many ▸ n, ?_⟩
      rintro h0 v h ⟨T, u1, u2, rfl, new, hu1, hu2, tup⟩
      have l1 : i < xs.length := by omega
      have l2 : i < ys.length := by omega
      obtain ⟨w1, hw1, rr1⟩ := r1.get (List.getElem?_eq_getElem l1)
      obtain ⟨w2, hw2, rr2⟩ := r2.get (List.getElem?_eq_getElem l2)
      have s1 : w1 = u1 := Option.some.inj (hw1.symm.trans (by simpa using hu1))
      have s2 : w2 = u2 := Option.some.inj (hw2.symm.trans (by simpa using hu2))
      exact ⟨T, u1, u2, xs[i], ys[i], rfl, new, tup, s1 ▸ rr1, s2 ▸ rr2, fun zs hz => by rw [PairW.sqv_inj I hz hx]; exact List.getElem?_eq_getElem l1, fun zs hz => by rw [PairW.sqv_inj I hz hy]; exact List.getElem?_eq_getElem l2⟩
def iZipG (K : PySem.W.Frag) (ta : TA) : TI := fun σ H R => ta σ H fun vs H1 => ∃ a b xs ys, vs = [.ref a, .ref b] ∧ ∃ (t1 t2 : Bool), SqV t1 K H1 a xs ∧ SqV t2 K H1 b ys ∧ R (PrZ t1 t2 K a b).it H1
theorem pi_zipG {X : Cx} {e e2 : Expr} {ta : TA} {p pos tpos : Pos} {elts : List Expr} {kk : Nat} (hg : Gl X "zip") (hm : X.mg "zip" = none) (ha : PA X [e, e2] ta)
    (hs : (starEach [e, e2] X.env = (false, eval e X.env) :: starEach [e2] X.env) := by rfl) (hpl : (backTo pos (starEach [e2] X.env)).any (·.1) = false := by rfl) :
    PI X (.Tuple elts kk tpos) (.Call (.Name "zip" p) [e, e2] [] pos) (iZipG X.K ta) where
  run := fun pins s σ H R I h => Call_ (ld_blt I hg hm PyProof.Rows.boot_zip (PyProof.Rows.callWith_type1 (thn (ha.run pos pins s σ H _ I h) fun us s1 ⟨vs, H1, I1, rv, a, b, xs, ys, ev, t1, t2, hx, hy, q⟩ => by
    subst ev
    obtain ⟨_, _, rfl, ru1, ru2⟩ := vals2 rv
    cases ru1
    cases ru2
    obtain ⟨its1, _, th1⟩ := PairW.sqv_get I1 hx
    obtain ⟨its2, _, th2⟩ := PairW.sqv_get I1 hy
    have below : ∀ {c d : Addr}, c < s1.heap.objs.size → d ∈ [c] → d < s1.heap.objs.size := fun l m => List.mem_singleton.mp m ▸ l
    refine zip_begins2 (PairW.begins t1 a its1.toArray) (PairW.begins t2 b its2.toArray) th1 th2 fun h' hz hI hO h1 h2 _ old => wpAny_pyIter_zip hz ?_
    refine PairW.begun I1 old (turn_z (zip_sep2 (fp1 := [a]) (fp2 := [b]) (fun _ => below th1.lt) fun _ => below th2.lt) (Nat.ne_of_lt th1.lt) (Nat.ne_of_lt (Nat.lt_succ_of_lt th2.lt))) ⟨hz, hI, ⟨_, _, hO⟩, PairW.itO_is h1, PairW.itO_is h2⟩ (fun c m => ?_) q
    simp only [List.mem_cons, List.not_mem_nil, or_false] at m
    rcases m with z | z | z | z | z <;> subst z <;> omega) hs hpl))
theorem walk_zipG {t1 t2 : Bool} {K : PySem.W.Frag} {a b : Addr} {xs ys : List V} {n : Nat} (hn : n = min xs.length ys.length) : Walk (PrZ t1 t2 K a b).it n (fun H => SqV t1 K H a xs ∧ SqV t2 K H b ys) (YPair (fun i => xs[i]?) (fun i => ys[i]?)) where
  goes := fun i H lt ⟨p, q⟩ => ⟨xs, ys, p, q, hn ▸ lt⟩
  stops := fun H ⟨p, q⟩ => ⟨xs, ys, p, q, hn⟩
  yields := fun i H v H' _ ⟨p, q⟩ ⟨T, x, y, e1, e2, e3, e4, e5⟩ => ⟨T, x, y, e1, e2, e3, e4 xs p, e5 ys q⟩
end ZipG
/-! ### zip of two sequences, each pair kept whole (one name takes it): the pair given out before may be there still, or be gone -/
namespace ZipW
open PySem PySem.Spec PyProof.Rows L2
/-- a zip of two, with the pair that it gave out last (nothing, or a number), and whether that was seen alive -/
def Zp (h : Heap) (z TI TO : Addr) (own fl : Value) : Prop := h.get? z = some { cls := .type "zip", dict := none, data := .fields #[own, fl, .bool false, .ref TI, .ref TO], slots := #[] }
/-- what it gave out: nothing yet, or the cell T -/
def Gave (own : Value) : Prop := own = .none ∨ ∃ T : Addr, own = rawInt T
section
variable {prog : Program} {w : World} {A : Around} {E : Value → Shared → Prop} {z TI TO i1 i2 : Addr} {fp1 fp2 : List Addr} {n1 n2 : Nat} {P1 P2 : Nat → Value → Prop} {St1 St2 : Nat → Heap → Prop}
theorem Zp.put {s : Shared} {own fl x : Value} {k : Nat} {Q : Unit → Shared → Prop} (hz : Zp s.heap z TI TO own fl) (hk : k < 5)
    (q : ∀ h', h'.get? z = some { cls := .type "zip", dict := none, data := .fields ((#[own, fl, .bool false, .ref TI, .ref TO] : Array Value).setIfInBounds k x), slots := #[] } → Heap.SameBut z s.heap h' → Q () { s with heap := h' }) : wpAny (model prog w) A (setField (.ref z) k x) Q E s :=
  wpAny_setField_rec hz hk q
theorem Zp.look {s : Shared} {own fl x : Value} {k : Nat} {Q : Value → Shared → Prop} (hz : Zp s.heap z TI TO own fl) (e : (#[own, fl, .bool false, .ref TI, .ref TO] : Array Value)[k]? = some x) (q : Q x s) : wpAny (model prog w) A (field (.ref z) k) Q E s :=
  wpAny_field hz rfl e q
/-- is the pair of its own free: yes, or no and that is noted -/
theorem is_free {s : Shared} {own : Value} {f : Bool} {Q : Bool → Shared → Prop} (hz : Zp s.heap z TI TO own (.bool f)) (g : Gave own)
    (yes : Q true s) (no : ∀ h', Zp h' z TI TO own (.bool true) → Heap.SameBut z s.heap h' → Q false { s with heap := h' }) : wpAny (model prog w) A (Builtin.SmallTypes.ownedTupleIsFree (.ref z)) Q E s := by
  rcases g with rfl | ⟨T, rfl⟩ <;> unfold Builtin.SmallTypes.ownedTupleIsFree
  · exact wpAny_bind (hz.look (k := 0) rfl (wpAny_pure yes))
  refine wpAny_bind (hz.look (k := 0) rfl ?_)
  change wpAny _ _ (loadIfAlive ((T : Int).toNat) >>= _) _ _ s
  rw [Int.toNat_natCast]
  have look : ∀ (Q' : Option Obj → Shared → Prop), Q' (s.heap.get? T) s → wpAny (model prog w) A (loadIfAlive T) Q' E s := fun Q' q _ _ _ => q
  refine wpAny_bind (look _ ?_)
  cases s.heap.get? T with
  | none => exact wpAny_pure yes
  | some o =>
    refine wpAny_bind (hz.look (k := 1) rfl ?_)
    cases f with
    | true => exact wpAny_pure (no s.heap hz (Heap.SameBut.refl _ _))
    | false => exact wpAny_bind (hz.put (by decide) fun h' hz' hs => wpAny_pure (no h' hz' hs))
/-- whatever is not of the zip stays -/
def Left (z TO i1 i2 : Addr) (h h' : Heap) : Prop := ∀ c o, c ≠ z → c ≠ TO → c ≠ i1 → c ≠ i2 → h.get? c = some o → h'.get? c = some o
/-- amid a turn that began at h0 -/
structure At (z TI TO i1 i2 : Addr) (St1 St2 : Nat → Heap → Prop) (h0 : Heap) (own fl a1 a2 : Value) (i j : Nat) (h : Heap) : Prop where
  zp : Zp h z TI TO own fl
  ins : IsTupOf2 h TI (.ref i1) (.ref i2)
  out : IsTupOf2 h TO a1 a2
  one : St1 i h
  two : St2 j h
  left : Left z TO i1 i2 h0 h
  size : h.objs.size = h0.objs.size
section
variable {own fl a1 a2 : Value} {i j : Nat} {h0 h h' : Heap} (S : ZipSep2 z TI TO i1 i2 fp1 fp2) (D1 : Draws prog w A i1 fp1 n1 P1 St1) (D2 : Draws prog w A i2 fp2 n2 P2 St2)
include S D1 D2
theorem At.atZ {own' fl' : Value} (a : At z TI TO i1 i2 St1 St2 h0 own fl a1 a2 i j h) (hs : Heap.SameBut z h h') (hz : Zp h' z TI TO own' fl') : At z TI TO i1 i2 St1 St2 h0 own' fl' a1 a2 i j h' where
  zp := hz
  ins := hs.extBut _ _ S.TIz a.ins
  out := hs.extBut _ _ S.TOz a.out
  one := D1.over a.one hs S.zf1
  two := D2.over a.two hs S.zf2
  left := fun c o p q r t e => hs.extBut _ _ p (a.left c o p q r t e)
  size := hs.1.trans a.size
theorem At.at1 (a : At z TI TO i1 i2 St1 St2 h0 own fl a1 a2 i j h) (hs : Heap.SameBut i1 h h') (st : St1 (i + 1) h') : At z TI TO i1 i2 St1 St2 h0 own fl a1 a2 (i + 1) j h' where
  zp := hs.extBut _ _ S.zi1 a.zp
  ins := hs.extBut _ _ S.TIi1 a.ins
  out := hs.extBut _ _ S.Ti1 a.out
  one := st
  two := D2.over a.two hs S.sep1_2
  left := fun c o p q r t e => hs.extBut _ _ r (a.left c o p q r t e)
  size := hs.1.trans a.size
theorem At.at2 (a : At z TI TO i1 i2 St1 St2 h0 own fl a1 a2 i j h) (hs : Heap.SameBut i2 h h') (st : St2 (j + 1) h') : At z TI TO i1 i2 St1 St2 h0 own fl a1 a2 i (j + 1) h' where
  zp := hs.extBut _ _ S.zi2 a.zp
  ins := hs.extBut _ _ S.TIi2 a.ins
  out := hs.extBut _ _ S.Ti2 a.out
  one := D1.over a.one hs S.sep2_1
  two := st
  left := fun c o p q r t e => hs.extBut _ _ t (a.left c o p q r t e)
  size := hs.1.trans a.size
theorem At.atO {b1 b2 : Value} (a : At z TI TO i1 i2 St1 St2 h0 own fl a1 a2 i j h) (hs : Heap.SameBut TO h h') (hT : IsTupOf2 h' TO b1 b2) : At z TI TO i1 i2 St1 St2 h0 own fl b1 b2 i j h' where
  zp := hs.extBut _ _ S.TOz.symm a.zp
  ins := hs.extBut _ _ S.TITO a.ins
  out := hT
  one := D1.over a.one hs S.Tf1
  two := D2.over a.two hs S.Tf2
  left := fun c o p q r t e => hs.extBut _ _ q (a.left c o p q r t e)
  size := hs.1.trans a.size
end
theorem drawn {s : Shared} {it : Addr} {fp : List Addr} {n i : Nat} {Pv : Nat → Value → Prop} {St : Nat → Heap → Prop} {Q : Value → Shared → Prop} (D : Draws prog w A it fp n Pv St) (le : i ≤ n) (st : St i s.heap)
    (got : i < n → ∀ x h' tk, Pv i x → St (i + 1) h' → Heap.SameBut it s.heap h' → Q x { s with heap := h', toks := tk })
    (ends : i = n → ∀ h' e, Heap.ExtBut it s.heap h' → (∃ o, h'.get? e = some o ∧ o.cls = .type "StopIteration") → E (.ref e) { s with heap := h' }) : wpAny (model prog w) A (Builtin.SmallTypes.nextOf (.ref it)) Q E s := by
  rcases Nat.lt_or_eq_of_le le with lt | eq
  · exact D.item i s Q E lt st fun x h' tk p st' hs => got lt x h' tk p st' hs
  · subst eq
    exact D.done s Q E st (ends rfl)
/-- where it stands between two turns -/
def Std (z TI TO i1 i2 : Addr) (St1 St2 : Nat → Heap → Prop) (i : Nat) (h : Heap) : Prop :=
  (∃ own f, Gave own ∧ Zp h z TI TO own (.bool f)) ∧ IsTupOf2 h TI (.ref i1) (.ref i2) ∧ (∃ x y, IsTupOf2 h TO x y) ∧ St1 i h ∧ St2 i h
/-- one turn -/
theorem turn_of {s : Shared} {i : Nat} {Q : Fin → Shared → Prop} (S : ZipSep2 z TI TO i1 i2 fp1 fp2) (D1 : Draws prog w A i1 fp1 n1 P1 St1) (D2 : Draws prog w A i2 fp2 n2 P2 St2) (st : Std z TI TO i1 i2 St1 St2 i s.heap) (h1 : i ≤ n1) (h2 : i ≤ n2)
    (more : i < n1 → i < n2 → ∀ x y h' tk, P1 i x → P2 i y → Std z TI TO i1 i2 St1 St2 (i + 1) h' → IsTupOf2 h' s.heap.objs.size x y → Left z TO i1 i2 s.heap h' → Q (.done (.ret (.ref s.heap.objs.size))) { s with heap := h', toks := tk })
    (last : (i = n1 ∨ i = n2) → ∀ h' tk e, Left z TO i1 i2 s.heap h' → (∃ o, h'.get? e = some o ∧ o.cls = .type "StopIteration") → E (.ref e) { s with heap := h', toks := tk }) :
    wpAny (model prog w) A (Builtin.«zip.__next__» ⟨[.ref z], []⟩) Q E s := by
  obtain ⟨hp, gl, dr, tk0, os⟩ := s
  obtain ⟨⟨own, f, gv, hz⟩, hI, ⟨a1, a2, hO⟩, st1, st2⟩ := st
  have began : ∀ fl, Zp hp z TI TO own fl → At z TI TO i1 i2 St1 St2 hp own fl a1 a2 i i hp := fun fl hz => ⟨hz, hI, hO, st1, st2, fun _ _ _ _ _ _ e => e, rfl⟩
  refine wpAny_bind (m := field (.ref z) 2) (hz.look (k := 2) rfl (wpAny_bind (m := field (.ref z) 3) (hz.look (k := 3) rfl (wpAny_bind (wpAny_seqItems hI rfl (wpAny_bind (m := Builtin.SmallTypes.ownedTupleIsFree (.ref z)) (is_free hz gv ?_ fun h0 hz0 hs0 => ?_)))))))
  · simp only [if_true]
    refine wpAny_bind (wpAny_rule (wpAny_bind (hz.look (k := 4) rfl (wpAny_bind (hz.put (by decide) fun g0 hz0 hs0 => ?_)))))
    have c0 := (began _ hz).atZ S D1 D2 (own' := .ellipsis) hs0 hz0
    refine wpAny_bind ?_
    simp only [List.zipIdx_cons, List.zipIdx_nil, List.forIn_cons, List.forIn_nil]
    refine wpAny_bind (wpAny_bind (wpAny_onRaise ?_))
    show wpAny _ _ (Builtin.SmallTypes.nextOf (.ref i1) >>= _) _ _ ⟨g0, gl, dr, tk0, os⟩
    refine wpAny_bind (drawn D1 h1 c0.one (fun lt1 x p1 tk1 hx t1 e1 => wpAny_pure ?_) fun eq p1 e e1 stop => ?_)
    rotate_left
    · obtain ⟨oe, he, hc⟩ := stop
      have zq : Zp p1 z TI TO .ellipsis (.bool f) := e1 _ _ S.zi1 c0.zp
      exact zq.put (s := ⟨p1, gl, dr, tk0, os⟩) (by decide) fun p2 _ e2 => last (.inl eq) p2 tk0 e (fun c o a b d g l => e2.extBut _ _ a (e1 c o d (c0.left c o a b d g l))) ⟨oe, e2.extBut _ _ (fun q => by rw [q] at he; have := he.symm.trans zq; cases this; simp at hc) he, hc⟩
    have c1 := c0.at1 S D1 D2 e1 t1
    refine wpAny_bind (wpAny_seqItems (s := ⟨p1, gl, dr, tk1, os⟩) c1.out rfl (wpAny_bind (updateSeq_IsTupOf2 (s := ⟨p1, gl, dr, tk1, os⟩) c1.out fun q1 o1 u1 => wpAny_bind (wpAny_letGo (wpAny_pure (wpAny_bind (wpAny_bind (wpAny_onRaise ?_))))))))
    have d1 := c1.atO S D1 D2 u1 (b1 := x) (b2 := a2) o1
    show wpAny _ _ (Builtin.SmallTypes.nextOf (.ref i2) >>= _) _ _ ⟨q1, gl, dr, tk1, os⟩
    refine wpAny_bind (drawn D2 h2 d1.two (fun lt2 y p2 tk2 hy t2 e2 => wpAny_pure ?_) fun eq p2 e e2 stop => ?_)
    rotate_left
    · obtain ⟨oe, he, hc⟩ := stop
      have zq : Zp p2 z TI TO .ellipsis (.bool f) := e2 _ _ S.zi2 d1.zp
      exact zq.put (s := ⟨p2, gl, dr, tk1, os⟩) (by decide) fun p3 _ e3 => last (.inr eq) p3 tk1 e (fun c o a b d g l => e3.extBut _ _ a (e2 c o g (d1.left c o a b d g l))) ⟨oe, e3.extBut _ _ (fun q => by rw [q] at he; have := he.symm.trans zq; cases this; simp at hc) he, hc⟩
    have c2 := d1.at2 S D1 D2 e2 t2
    refine wpAny_bind (wpAny_seqItems (s := ⟨p2, gl, dr, tk2, os⟩) c2.out rfl (wpAny_bind (updateSeq_IsTupOf2 (s := ⟨p2, gl, dr, tk2, os⟩) c2.out fun q2 o2 u2 => wpAny_bind (wpAny_letGo (wpAny_pure (wpAny_pure ?_))))))
    have d2 := c2.atO S D1 D2 u2 (b1 := x) (b2 := y) o2
    refine wpAny_bind (wpAny_seqItems (s := ⟨q2, gl, dr, tk2, os⟩) d2.out rfl (wpAny_bind (wpAny_newTuple ?_)))
    have up : ∀ c o, q2.get? c = some o → (q2.push { cls := .type "tuple", data := .seq #[x, y] }).get? c = some o := fun c o e => Heap.get?_push_of_some _ e
    have zlt : z < q2.objs.size := Heap.lt_size d2.zp
    show wpAny _ _ (Builtin.SmallTypes.ownedTupleHandOut (.ref z) (.ref q2.objs.size) >>= _) _ _ ⟨q2.push { cls := .type "tuple", data := .seq #[x, y] }, gl, dr, tk2, os⟩
    unfold Builtin.SmallTypes.ownedTupleHandOut
    refine wpAny_bind (wpAny_bind (Zp.put (s := ⟨_, gl, dr, tk2, os⟩) (up _ _ d2.zp) (by decide) fun r1 z1 v1 => Zp.put (s := ⟨r1, gl, dr, tk2, os⟩) z1 (by decide) fun r2 z2 v2 => wpAny_pure ?_))
    have on : ∀ c o, c ≠ z → q2.get? c = some o → r2.get? c = some o := fun c o n e => v2.extBut _ _ n (v1.extBut _ _ n (up _ _ e))
    have mine : IsTupOf2 r2 q2.objs.size x y := v2.extBut _ _ (Nat.ne_of_gt zlt) (v1.extBut _ _ (Nat.ne_of_gt zlt) (Heap.get?_push_size _ rfl))
    show Q (.done (.ret (.ref q2.objs.size))) _
    rw [d2.size] at mine z2 ⊢
    exact more lt1 lt2 x y r2 tk2 hx hy ⟨⟨_, false, .inr ⟨_, rfl⟩, z2⟩, on _ _ S.TIz d2.ins, ⟨_, _, on _ _ S.TOz d2.out⟩, D1.frame _ _ _ d2.one fun b m o e => on b o (fun q => S.zf1 (q ▸ m)) e, D2.frame _ _ _ d2.two fun b m o e => on b o (fun q => S.zf2 (q ▸ m)) e⟩ mine fun c o a b d g l => on c o a (d2.left c o a b d g l)
  · simp only [Bool.false_eq_true, if_false]
    have c0 := (began _ hz).atZ S D1 D2 hs0 hz0
    refine wpAny_bind ?_
    rw [← Array.forIn_toList]
    simp only [List.forIn_cons, List.forIn_nil]
    refine wpAny_bind (wpAny_bind (wpAny_holding ?_))
    show wpAny _ _ (Builtin.SmallTypes.nextOf (.ref i1) >>= _) _ _ ⟨h0, gl, dr, tk0, os⟩
    refine wpAny_bind (drawn D1 h1 c0.one (fun lt1 x p1 tk1 hx t1 e1 => wpAny_pure (wpAny_pure (wpAny_bind (wpAny_bind (wpAny_holding ?_))))) fun eq p1 e e1 stop => last (.inl eq) p1 tk0 e (fun c o a b d g l => e1 c o d (c0.left c o a b d g l)) stop)
    have c1 := c0.at1 S D1 D2 e1 t1
    show wpAny _ _ (Builtin.SmallTypes.nextOf (.ref i2) >>= _) _ _ ⟨p1, gl, dr, tk1, os⟩
    refine wpAny_bind (drawn D2 h2 c1.two (fun lt2 y p2 tk2 hy t2 e2 => wpAny_pure (wpAny_pure (wpAny_pure ?_))) fun eq p2 e e2 stop => last (.inr eq) p2 tk1 e (fun c o a b d g l => e2 c o g (c1.left c o a b d g l)) stop)
    have c2 := c1.at2 S D1 D2 e2 t2
    show wpAny _ _ (newTuple [x, y] >>= _) _ _ ⟨p2, gl, dr, tk2, os⟩
    refine wpAny_bind (wpAny_newTuple (wpAny_pure ?_))
    have up : ∀ c o, p2.get? c = some o → (p2.push { cls := .type "tuple", data := .seq #[x, y] }).get? c = some o := fun c o e => Heap.get?_push_of_some _ e
    show Q (.done (.ret (.ref p2.objs.size))) _
    rw [c2.size]
    exact more lt1 lt2 x y _ tk2 hx hy ⟨⟨own, true, gv, up _ _ c2.zp⟩, up _ _ c2.ins, ⟨_, _, up _ _ c2.out⟩, D1.frame _ _ _ c2.one fun b _ o e => up b o e, D2.frame _ _ _ c2.two fun b _ o e => up b o e⟩ (c2.size ▸ Heap.get?_push_size _ rfl) fun c o a b d g l => up c o (c2.left c o a b d g l)
theorem left_of {h h' : Heap} (l : Left z TO i1 i2 h h') : ∀ b o, b ∉ [z, TO, i1, i2] → h.get? b = some o → h'.get? b = some o := fun b o m e => l b o (fun q => m (by simp [q])) (fun q => m (by simp [q])) (fun q => m (by simp [q])) (fun q => m (by simp [q])) e
/-- zip of two whose pairs one name takes -/
theorem goes {x : Str} {pos : Pos} (S : ZipSep2 z TI TO i1 i2 fp1 fp2) (D1 : Draws prog w A.in1 i1 fp1 n1 P1 St1) (D2 : Draws prog w A.in1 i2 fp2 n2 P2 St2) :
    GoesN prog w A (.Name x pos) z (z :: TI :: TO :: (fp1 ++ fp2)) [z, TO, i1, i2] (min n1 n2) (fun i h₀ v h => ∃ T x y, v = .ref T ∧ h₀.objs.size ≤ T ∧ P1 i x ∧ P2 i y ∧ h.IsTuple T #[x, y]) (Std z TI TO i1 i2 St1 St2) where
  sub := fun c m => by
    have := S.mem1
    have := S.mem2
    simp only [List.mem_cons, List.not_mem_nil, or_false] at m
    rcases m with rfl | rfl | rfl | rfl <;> simp [*]
  frame := fun i h h' st k => by
    obtain ⟨⟨own, f, g, hz⟩, hI, ⟨a, b, hO⟩, s1, s2⟩ := st
    exact ⟨⟨own, f, g, k _ (by simp) _ hz⟩, k _ (by simp) _ hI, ⟨a, b, k _ (by simp) _ hO⟩, D1.frame _ _ _ s1 fun c m => k c (by simp [m]), D2.frame _ _ _ s2 fun c m => k c (by simp [m])⟩
  goes := fun i s Q E lt st q => by
    obtain ⟨own, f, _, hz⟩ := st.1
    have is : s.TypeIs (.ref z) "zip" := ⟨_, hz, rfl⟩
    refine wpAny_with_toks (n := s.toks) (Nat.le_refl _) ?_
    unfold pyNext
    refine wpAny_bind (wpAny_attempt (wpAny_callSpecial?_slot (name := Str.ofString "__next__") is F.slot_zip_next (wpAny_call_entry F.slot_zip_next is F.entry_zip_next (turn_of S D1 D2 st (by omega) (by omega) (fun _ _ x y h' tk hx hy st' hT l => ?_) fun e => absurd e (by omega)) (F.args_zip_next_1 _))))
    refine ⟨_, rfl, wpAny_pure ?_⟩
    exact fun le => ⟨_, rfl, wpAny_pure (q _ h' tk ⟨_, x, y, rfl, Nat.le_refl _, hx, hy, ⟨_, hT, rfl, _, rfl⟩⟩ st' (left_of l) le)⟩
  stops := fun s Q E st q => by
    obtain ⟨own, f, _, hz⟩ := st.1
    have is : s.TypeIs (.ref z) "zip" := ⟨_, hz, rfl⟩
    refine wpAny_with_toks (n := s.toks) (Nat.le_refl _) ?_
    unfold pyNext
    refine wpAny_bind (wpAny_attempt (wpAny_callSpecial?_slot (name := Str.ofString "__next__") is F.slot_zip_next (wpAny_call_entry F.slot_zip_next is F.entry_zip_next (turn_of S D1 D2 st (by omega) (by omega) (fun a b => absurd a (by omega)) fun _ h' tk e l stop => ?_) (F.args_zip_next_1 _))))
    obtain ⟨o, ho, hc⟩ := stop
    refine wpAny_bind (wpAny_isInstance (T := "StopIteration") (b := true) ⟨o, ho, hc⟩ isSubtype_stop ?_)
    refine wpAny_pure ?_
    exact fun le => ⟨rfl, q h' tk (left_of l) le⟩
  self := fun i s Q E st q => by
    obtain ⟨own, f, _, hz⟩ := st.1
    have is : s.TypeIs (.ref z) "zip" := ⟨_, hz, rfl⟩
    exact wpAny_pyIter_slot is F.slot_zip_iter (wpAny_call_entry F.slot_zip_iter is F.entry_zip_iter (wpAny_pure ⟨_, rfl, "zip", _, is, F.slot_zip_next.lookup, q⟩) (F.args_zip_iter_1 _))
end
open ZipG in
theorem turn_n {P : Program} {w : World} {K : PySem.W.Frag} {x : Str} {tpos : Pos} {t1 t2 : Bool} {a b z TI TO i1 i2 : Addr} (S : ZipSep2 z TI TO i1 i2 [i1, a] [i2, b]) (ha : a ≠ i1) (hb : b ≠ i2) :
    Turn P w K (.Name x tpos) (PrZ t1 t2 K a b).it [z, TI, TO, i1, i2] z (Std z TI TO i1 i2 (fun i h => PairW.ItB t1 h i1 a i) fun i h => PairW.ItB t2 h i2 b i) := by
  refine PairW.turn_prs (wr := [z, TO, i1, i2]) _ (by simp) (fun c m => ?_) (fun i h st c m => ?_) (fun i h h' st k => ?_) (fun A i s Q E st q => ?_) fun X e1 e2 e3 calm i pins s σ H I st told => ?_
  · simp only [List.mem_cons, List.not_mem_nil, or_false] at m ⊢
    rcases m with q | q | q | q <;> simp [q]
  · obtain ⟨⟨own, f, g, hz⟩, hI, ⟨x, y, hO⟩, g1, g2⟩ := st
    simp only [List.mem_cons, List.not_mem_nil, or_false] at m
    rcases m with q | q | q | q | q <;> subst q
    · exact ⟨_, hz, fun _ q => nomatch q⟩
    · exact ⟨_, hI, fun _ q => nomatch q⟩
    · exact ⟨_, hO, fun _ q => nomatch q⟩
    · exact g1.obj
    · exact g2.obj
  · obtain ⟨⟨own, f, g, hz⟩, hI, ⟨x, y, hO⟩, g1, g2⟩ := st
    exact ⟨⟨own, f, g, k _ (by simp) _ hz⟩, k _ (by simp) _ hI, ⟨x, y, k _ (by simp) _ hO⟩, g1.at fun o => k _ (by simp) o, g2.at fun o => k _ (by simp) o⟩
  · obtain ⟨own, f, _, hz⟩ := st.1
    have is : s.TypeIs (.ref z) "zip" := ⟨_, hz, rfl⟩
    exact wpAny_pyIter_slot is F.slot_zip_iter (wpAny_call_entry F.slot_zip_iter is F.entry_zip_iter (wpAny_pure ⟨_, rfl, "zip", _, is, F.slot_zip_next.lookup, q⟩) (F.args_zip_iter_1 _))
  · subst e1 e2 e3
    obtain ⟨xs, ys, hx, hy⟩ : ∃ xs ys : List V, SqV t1 X.K H a xs ∧ SqV t2 X.K H b ys := told.elim (fun ⟨xs, ys, p, q, _⟩ => ⟨xs, ys, p, q⟩) fun ⟨xs, ys, p, q, _⟩ => ⟨xs, ys, p, q⟩
    obtain ⟨its1, r1, th1⟩ := PairW.sqv_get I hx
    obtain ⟨its2, r2, th2⟩ := PairW.sqv_get I hy
    have many : min xs.length ys.length = min its1.toArray.size its2.toArray.size := by simp only [List.size_toArray]; rw [r1.length, r2.length]
    obtain ⟨hz, hI, hO, g1, g2⟩ := st
    have D1 := PairW.draws (prog := X.prog) (w := X.w) (A := X.A.in1) (I.ok.hd calm) t1 ha its1.toArray
    have D2 := PairW.draws (prog := X.prog) (w := X.w) (A := X.A.in1) (I.ok.hd calm) t2 hb its2.toArray
    refine ⟨_, _, _, _, goes S D1 D2, ⟨hz, hI, hO, ⟨g1, th1⟩, ⟨g2, th2⟩⟩, fun h ⟨n1, n2, n3, n4, n5⟩ => ⟨n1, n2, n3, n4.1, n5.1⟩, ?_, ?_⟩
    · rintro ⟨xs', ys', p, q, n⟩
      rw [n, PairW.sqv_inj I p hx, PairW.sqv_inj I q hy, many]
    · rintro ⟨xs', ys', p, q, n⟩
      rw [PairW.sqv_inj I p hx, PairW.sqv_inj I q hy] at n
      refine ⟨many ▸ n, ?_⟩
      rintro h0 v h ⟨T, u1, u2, rfl, new, hu1, hu2, tup⟩
      have l1 : i < xs.length := by omega
      have l2 : i < ys.length := by omega
      obtain ⟨w1, hw1, rr1⟩ := r1.get (List.getElem?_eq_getElem l1)
      obtain ⟨w2, hw2, rr2⟩ := r2.get (List.getElem?_eq_getElem l2)
      have s1 : w1 = u1 := Option.some.inj (hw1.symm.trans (by simpa using hu1))
      have s2 : w2 = u2 := Option.some.inj (hw2.symm.trans (by simpa using hu2))
      exact ⟨T, u1, u2, xs[i], ys[i], rfl, new, tup, s1 ▸ rr1, s2 ▸ rr2, fun zs hz => by rw [PairW.sqv_inj I hz hx]; exact List.getElem?_eq_getElem l1, fun zs hz => by rw [PairW.sqv_inj I hz hy]; exact List.getElem?_eq_getElem l2⟩
theorem pi_zipN {X : Cx} {e e2 : Expr} {ta : TA} {x : Str} {p pos tpos : Pos} (hg : Gl X "zip") (hm : X.mg "zip" = none) (ha : PA X [e, e2] ta)
    (hs : (starEach [e, e2] X.env = (false, eval e X.env) :: starEach [e2] X.env) := by rfl) (hpl : (backTo pos (starEach [e2] X.env)).any (·.1) = false := by rfl) :
    PI X (.Name x tpos) (.Call (.Name "zip" p) [e, e2] [] pos) (ZipG.iZipG X.K ta) where
  run := fun pins s σ H R I h => Call_ (ld_blt I hg hm PyProof.Rows.boot_zip (PyProof.Rows.callWith_type1 (thn (ha.run pos pins s σ H _ I h) fun us s1 ⟨vs, H1, I1, rv, a, b, xs, ys, ev, t1, t2, hx, hy, q⟩ => by
    subst ev
    obtain ⟨_, _, rfl, ru1, ru2⟩ := vals2 rv
    cases ru1
    cases ru2
    obtain ⟨its1, _, th1⟩ := PairW.sqv_get I1 hx
    obtain ⟨its2, _, th2⟩ := PairW.sqv_get I1 hy
    have below : ∀ {c d : Addr}, c < s1.heap.objs.size → d ∈ [c] → d < s1.heap.objs.size := fun l m => List.mem_singleton.mp m ▸ l
    refine zip_begins2 (PairW.begins t1 a its1.toArray) (PairW.begins t2 b its2.toArray) th1 th2 fun h' hz hI hO h1 h2 _ old => wpAny_pyIter_zip hz ?_
    refine PairW.begun I1 old (turn_n (zip_sep2 (fp1 := [a]) (fp2 := [b]) (fun _ => below th1.lt) fun _ => below th2.lt) (Nat.ne_of_lt th1.lt) (Nat.ne_of_lt (Nat.lt_succ_of_lt th2.lt))) ⟨⟨_, false, .inl rfl, hz⟩, hI, ⟨_, _, hO⟩, PairW.itO_is h1, PairW.itO_is h2⟩ (fun c m => ?_) q
    simp only [List.mem_cons, List.not_mem_nil, or_false] at m
    rcases m with z | z | z | z | z <;> subst z <;> omega) hs hpl))
end ZipW
/-! ### t + u, told as a tuple whose object is known -/
namespace CatF
open PySem PySem.Spec PyProof.Rows L2
variable {X : Cx}
def rCatF (K : PySem.W.Frag) : R2 := fun x y H Q => ∃ (a b : Addr) (xs ys : List V), x = .ref a ∧ y = .ref b ∧ SqT K H a xs ∧ SqT K H b ys ∧ xs.length + ys.length ≤ sizeLine ∧
  (xs = [] → Q (.ref b) H) ∧ (xs ≠ [] → ys = [] → Q (.ref a) H) ∧ (xs ≠ [] → ys ≠ [] → ∀ (p : Addr) (o : Obj), OwnI.PlainT o → H p = none → Q (.ref p) (upd H p (.frz o (.tup (xs ++ ys)))))
theorem op_catF : OpR X (binaryOp .Add) (rCatF X.K) := fun pins s σ H x y v u Q I rx ry ⟨a, b, xs, ys, ex, ey, ta, tb, few, none1, none2, both⟩ => by
  subst ex ey
  obtain rfl : v = Value.ref a := rx
  obtain rfl : u = Value.ref b := ry
  obtain ⟨us, ru, pa, _⟩ := I.tuple ta
  obtain ⟨ws, rw_, pb, _⟩ := I.tuple tb
  by_cases hx : xs = []
  · subst hx
    cases ru
    exact cat_tup0 pa pb ⟨.ref b, H, I, rfl, none1 rfl⟩
  · have len : us.length + ws.length ≤ sizeLine := by rw [← ru.length, ← rw_.length]; exact few
    refine HT.cat_tup pa pb (fun z => hx (ru.nil_iff.mp z)) (fun z => ⟨.ref a, H, I, rfl, none2 hx (rw_.nil_iff.mp z)⟩) (fun z => ?_) len
    have new : H s.heap.objs.size = none := I.hok.fresh (Nat.le_refl _)
    refine ⟨.ref s.heap.objs.size, _, I.laid (t' := s.toks) (o := .frz { cls := .type "tuple", data := .seq (us ++ ws).toArray } (.tup (xs ++ ys))) (fun _ _ q => Heap.get?_push_of_some _ q) (Nat.le_refl _) ?_, rfl, both hx (fun w => z (rw_.nil_iff.mpr w)) _ _ ⟨rfl, rfl⟩ new⟩
    exact ⟨Heap.get?_push_size _ rfl, by rw [List.length_append]; exact few, _, ru.append rw_, IsTup.new _ _⟩
end CatF
namespace SeqK
open PySem PySem.Spec PyProof.Rows L2
theorem indexK {X : Cx} {K : PySem.W.Frag} (h : X.K = K) : MtR X "list.index" (rIndex K) := by
  cases h
  exact mt_index
end SeqK
/-! ### list(zip(a, b)): each pair a new tuple, kept by the list -/
namespace ZipL
open PySem PySem.Spec PyProof.Rows L2 ZipW
/-- an iterator of new pairs: where it stands hangs on fp, it changes nothing but wr -/
structure Hand (prog : Program) (w : World) (A : Around) (I : Addr) (fp wr : List Addr) (n : Nat) (P : Nat → Value → Value → Prop) (St : Nat → Heap → Prop) : Prop where
  sub : ∀ b ∈ wr, b ∈ fp
  frame : ∀ i g g', St i g → (∀ c ∈ fp, ∀ u, g.get? c = some u → g'.get? c = some u) → St i g'
  next : ∀ i (s : Shared) (Q : Option Value → Shared → Prop) (E : Value → Shared → Prop), i < n → St i s.heap →
    (∀ T x y h' tk, s.heap.objs.size ≤ T → P i x y → h'.IsTuple T #[x, y] → St (i + 1) h' → (∀ b o, b ∉ wr → s.heap.get? b = some o → h'.get? b = some o) → Q (some (.ref T)) { s with heap := h', toks := tk }) → wpAny (model prog w) A (pyNext (.ref I)) Q E s
  stop : ∀ (s : Shared) (Q : Option Value → Shared → Prop) (E : Value → Shared → Prop), St n s.heap →
    (∀ g k, (∀ c u, c ∉ wr → s.heap.get? c = some u → g.get? c = some u) → Q none { s with heap := g, toks := k }) → wpAny (model prog w) A (pyNext (.ref I)) Q E s
  self : ∀ i (s : Shared) (Q E : Value → Shared → Prop), St i s.heap → Q (.ref I) s → wpAny (model prog w) A (pyIter (.ref I)) Q E s
/-- what was collected so far -/
structure Got (P : Nat → Value → Value → Prop) (lo : Nat) (h : Heap) (as : List Addr) : Prop where
  rise : as.Pairwise (· < ·)
  above : ∀ a ∈ as, lo ≤ a
  pair : ∀ (j : Nat) (a : Addr), as[j]? = some a → ∃ x y, P j x y ∧ h.IsTuple a #[x, y]
abbrev lob (acc : Array Value) (c : Nat) : Obj := { cls := .type "list", dict := none, data := .seq acc c, slots := #[] }
section
variable {prog : Program} {w : World} {A : Around} {I S : Addr} {fp wr : List Addr} {n lo : Nat} {P : Nat → Value → Value → Prop} {St : Nat → Heap → Prop} {R : Result → Shared → Prop}
theorem tup_size {h : Heap} {T : Addr} {xs : Array Value} (t : h.IsTuple T xs) : T < h.objs.size := by
  obtain ⟨o, e, _⟩ := t
  exact Heap.lt_size e
theorem tup_stay {h h' : Heap} {T : Addr} {xs : Array Value} (t : h.IsTuple T xs) (k : ∀ o, h.get? T = some o → h'.get? T = some o) : h'.IsTuple T xs := by
  obtain ⟨o, e, r⟩ := t
  exact ⟨o, k o e, r⟩
theorem Got.stay {h h' : Heap} {as : List Addr} (g : Got P lo h as) (k : ∀ a o, lo ≤ a → h.get? a = some o → h'.get? a = some o) : Got P lo h' as where
  rise := g.rise
  above := g.above
  pair := fun j a e => by
    obtain ⟨x, y, p, t⟩ := g.pair j a e
    exact ⟨x, y, p, tup_stay t fun o => k a o (g.above a (List.mem_of_getElem? e))⟩
theorem Got.snoc {h : Heap} {as : List Addr} {T : Addr} {x y : Value} (g : Got P lo h as) (new : ∀ a ∈ as, a < T) (up : lo ≤ T) (p : P as.length x y) (t : h.IsTuple T #[x, y]) : Got P lo h (as ++ [T]) where
  rise := List.pairwise_append.mpr ⟨g.rise, List.pairwise_singleton _ _, fun a ha b hb => List.mem_singleton.mp hb ▸ new a ha⟩
  above := fun a m => (List.mem_append.mp m).elim (g.above a) fun m => List.mem_singleton.mp m ▸ up
  pair := fun j a e => by
    by_cases l : j < as.length
    · rw [List.getElem?_append_left l] at e
      exact g.pair j a e
    · have hj : j = as.length := by
        have := (List.getElem?_eq_some_iff.mp e).1
        rw [List.length_append, List.length_singleton] at this
        omega
      subst hj
      rw [List.getElem?_append_right (Nat.le_refl _), Nat.sub_self] at e
      cases e
      exact ⟨x, y, p, t⟩
theorem collects (G : Hand prog w A.in1 I fp wr n P St) (few : n ≤ sizeLine) (out : S ∉ fp) (res : Value) (base : ∀ b ∈ S :: fp, b < lo) {s : Shared} :
    ∀ (k i : Nat) (h : Heap) (tk c : Nat) (acc : Array Value) (as : List Addr), n - i = k → i ≤ n → St i h → lo ≤ h.objs.size → h.get? S = some (lob acc c) → acc.toList = as.map Value.ref → as.length = i → Got P lo h as →
      (∀ h' tk' acc' c' as', (∀ b o, b ∉ S :: wr → h.get? b = some o → h'.get? b = some o) → h'.get? S = some (lob acc' c') → as'.length = n → Got P lo h' as' → acc'.toList = as'.map Value.ref → R (.ok (.ret res)) { s with heap := h', toks := tk' }) →
      codeAny (model prog w) A (.builtin "list.extend.loop" ⟨[.ref S, .ref I, res], []⟩) R { s with heap := h, toks := tk }
  | 0, i, h, tk, c, acc, as, hk, hi, st, hl, hS, ea, el, g, q => by
    obtain rfl : i = n := by omega
    apply codeAny_builtin F.entry_extend_loop
    rw [Around.under_plainId (F.plain_extend_loop)]
    refine wpAny_bind (G.stop _ _ _ st fun h' tk' old => wpAny_pure ?_)
    have k : ∀ b o, b ∉ wr → h.get? b = some o → h'.get? b = some o := old
    exact q h' tk' acc c as (fun b o m e => k b o (fun z => m (List.mem_cons_of_mem _ z)) e) (k _ _ (fun m => out (G.sub _ m)) hS) el (g.stay fun a o l e => k a o (fun z => Nat.not_lt.mpr l (base a (List.mem_cons_of_mem _ (G.sub _ z)))) e) ea
  | k + 1, i, h, tk, c, acc, as, hk, hi, st, hl, hS, ea, el, g, q => by
    have lt : i < n := by omega
    have sz : acc.size = i := by rw [← Array.length_toList, ea, List.length_map, el]
    apply codeAny_builtin F.entry_extend_loop
    rw [Around.under_plainId (F.plain_extend_loop)]
    refine wpAny_bind (G.next i _ _ _ lt st fun T x y h1 tk1 new p tup st1 old => ?_)
    have k1 : ∀ b o, b ∉ wr → h.get? b = some o → h1.get? b = some o := old
    have new : h.objs.size ≤ T := new
    have hS1 := k1 _ _ (fun m => out (G.sub _ m)) hS
    have lT : lo ≤ T := Nat.le_trans hl new
    have TS : T ≠ S := fun z => Nat.not_lt.mpr lT (z ▸ base S List.mem_cons_self)
    have up : ∀ b o, b ≠ S → h1.get? b = some o → (h1.update S (Obj.mapSeq (·.push (Value.ref T)))).get? b = some o := fun b o nb e => (Heap.get?_update_other _ _ (Ne.symm nb)).trans e
    have far : ∀ a o, lo ≤ a → h1.get? a = some o → (h1.update S (Obj.mapSeq (·.push (Value.ref T)))).get? a = some o := fun a o l e => up a o (fun z => Nat.not_lt.mpr l (z ▸ base S List.mem_cons_self)) e
    have there : ∀ a ∈ as, a < T := fun a m => by
      obtain ⟨j, e⟩ := List.mem_iff_getElem?.mp m
      obtain ⟨_, _, _, t⟩ := g.pair j a e
      exact Nat.lt_of_lt_of_le (tup_size t) new
    have g1 := (g.stay (fun a o l e => k1 a o (fun z => Nat.not_lt.mpr l (base a (List.mem_cons_of_mem _ (G.sub _ z)))) e) : Got P lo h1 as).snoc there lT (el ▸ p) tup
    show wpAny _ A.in1 (updateSeq S (·.push (.ref T)) >>= _) _ _ _
    refine wpAny_bind (wpAny_updateSeq hS1 rfl (wpAny_pure ⟨plainId_quiet F.plain_extend_loop _, collects G few out res base k (i + 1) _ tk1 _ (acc.push (.ref T)) (as ++ [T]) (by omega) lt (G.frame _ _ _ st1 fun b m o e => up b o (fun z => out (z ▸ m)) e) ?_ (Heap.get?_update_self _ hS1 rfl) ?_ ?_ (g1.stay far) fun h' tk' acc' c' as' kk e1 e2 e3 e4 => ?_⟩) ?_ ?_)
    · rw [Heap.size_update]
      exact Nat.le_of_lt (Nat.lt_of_le_of_lt lT (tup_size tup))
    · rw [Array.toList_push, ea, List.map_append]
      rfl
    · rw [List.length_append, el]
      rfl
    · exact q h' tk' acc' c' as' (fun b o m e => kk b o m (up b o (fun z => m (z ▸ List.mem_cons_self)) (k1 b o (fun z => m (List.mem_cons_of_mem _ z)) e))) e1 e2 e3 e4
    · rw [sz]
      omega
    · show (acc.push (Value.ref T)).size ≤ sizeLine + 1
      rw [Array.size_push, sz]
      omega
end
theorem no_len : typeLookup (.type "zip") "__len__" = pure none := by rw [typeLookup_type, builtinLookup_eq_fast]; kernel_rfl
theorem no_hint : typeLookup (.type "zip") "__length_hint__" = pure none := by rw [typeLookup_type, builtinLookup_eq_fast]; kernel_rfl
section
variable {prog : Program} {w : World} {A : Around} {E : Value → Shared → Prop} {I : Addr} {fp wr : List Addr} {n : Nat} {P : Nat → Value → Value → Prop} {St : Nat → Heap → Prop} {s : Shared}
theorem call_list (G : Hand prog w A.in1.in1 I fp wr n P St) (few : n ≤ sizeLine) (zip : ∀ i h, St i h → ∃ o, h.get? I = some o ∧ o.cls = .type "zip") (st : St 0 s.heap) (base : ∀ b ∈ fp, b < s.heap.objs.size) (mine : I ∈ fp) {Q : Value → Shared → Prop}
    (q : ∀ h' tk acc c as, (∀ b o, b ∉ wr → s.heap.get? b = some o → h'.get? b = some o) → h'.get? s.heap.objs.size = some (lob acc c) → as.length = n → Got P (s.heap.objs.size + 1) h' as → acc.toList = as.map Value.ref → Q (.ref s.heap.objs.size) { s with heap := h', toks := tk }) : wpAny (model prog w) A (call (.type "list") [.ref I]) Q E s := by
  have out : s.heap.objs.size ∉ fp := fun m => Nat.lt_irrefl _ (base _ m)
  have nI : s.heap.objs.size ≠ I := fun z => out (z ▸ mine)
  refine callType_codes (Q₁ := fun obj s₁ => obj = .ref s.heap.objs.size ∧ s₁ = { s with heap := s.heap.push { cls := .type "list", data := .seq #[] } }) F.called_list (F.typeCall_list_1 _) F.entry_list_init (code_list_new _ ⟨rfl, rfl⟩) fun obj s₁ h₁ => ?_
  obtain ⟨rfl, rfl⟩ := h₁
  generalize eS : s.heap.objs.size = S at *
  have h0 : (s.heap.push { cls := .type "list", data := .seq #[] }).get? S = some (lob #[] 0) := by rw [← eS]; exact Heap.get?_push_size _ rfl
  have up0 : ∀ b o, s.heap.get? b = some o → (s.heap.push { cls := .type "list", data := .seq #[] }).get? b = some o := fun b o e => Heap.get?_push_of_some _ e
  have sz0 : (s.heap.push { cls := .type "list", data := .seq #[] }).objs.size = S + 1 := by rw [Heap.size_push, eS]
  have st0 := G.frame 0 _ _ st fun b _ o e => up0 b o e
  generalize eH : s.heap.push { cls := .type "list", data := .seq #[] } = H0 at *
  refine ⟨⟨_, h0, rfl⟩, F.args_list_init_2 _ _, ?_⟩
  show wpAny _ _ (do let old ← Builtin.List.listItems (.ref S); Builtin.List.listUpdate (.ref S) (fun _ => #[]); letGo old.toList.reverse; Builtin.List.listExtendWith (.ref S) (.ref I) .none) _ _ _
  refine wpAny_bind ?_
  unfold Builtin.List.listItems
  refine wpAny_bind (wpAny_seqItems h0 rfl (wpAny_pure ?_))
  show wpAny _ _ (updateSeq S (fun _ => #[]) >>= fun _ => letGo (#[] : Array Value).toList.reverse >>= fun _ => Builtin.List.listExtendWith (.ref S) (.ref I) .none) _ _ _
  refine wpAny_bind (wpAny_updateSeq h0 rfl (wpAny_bind (wpAny_letGo ?_)))
  have h1 := Heap.get?_update_self (Obj.mapSeq (fun _ => (#[] : Array Value))) h0 rfl
  have oth : ∀ (h : Heap) (f : Obj → Obj) b o, b ≠ S → h.get? b = some o → (h.update S f).get? b = some o := fun h f b o nb e => (Heap.get?_update_other _ _ (Ne.symm nb)).trans e
  have k1 := oth H0 (Obj.mapSeq (fun _ => (#[] : Array Value)))
  have sz1 : (H0.update S (Obj.mapSeq (fun _ => (#[] : Array Value)))).objs.size = S + 1 := by rw [Heap.size_update, sz0]
  have st1 := G.frame 0 _ _ st0 fun b m o e => k1 b o (fun z => out (z ▸ m)) e
  generalize H0.update S (Obj.mapSeq (fun _ => (#[] : Array Value))) = H1 at h1 k1 sz1 st1 ⊢
  unfold Builtin.List.listExtendWith; obtain ⟨oz, ez, cz⟩ := zip 0 _ st1
  refine wpAny_bind (wpAny_typeOf (T := "zip") ⟨oz, ez, cz⟩ ?_)
  have d1 : Builtin.List.listSameRef (.ref S) (.ref I) = false := by simp [Builtin.List.listSameRef, nI]
  have d2 : (Value.type "zip" == Value.type "list") = false := by decide
  have d3 : (Value.type "zip" == Value.type "tuple") = false := by decide
  simp only [d1, d2, d3, Bool.or_false, Bool.false_eq_true, if_false]
  refine wpAny_bind (G.self 0 _ _ _ st1 (wpAny_bind (wpAny_holding ?_)))
  unfold Builtin.List.listLengthHint; refine wpAny_bind (wpAny_specialOf (T := "zip") ⟨oz, ez, cz⟩ no_len ?_)
  show wpAny _ _ (specialOf (Value.ref I) (Str.ofString "__length_hint__") >>= _) _ _ _
  refine wpAny_bind (wpAny_specialOf (T := "zip") ⟨oz, ez, cz⟩ no_hint (wpAny_pure ?_))
  show wpAny _ _ (rule "list.extend.makes-room" >>= fun _ => Builtin.List.listTouch (.ref S) >>= fun _ => again (.builtin "list.extend.loop" ⟨[.ref S, .ref I, .none], []⟩)) _ _ _
  refine wpAny_bind (wpAny_rule (wpAny_bind (show wpAny _ _ (updateSeq S (·.push .none) >>= fun _ => updateSeq S (·.pop)) _ _ _ from ?_)))
  refine wpAny_bind (wpAny_updateSeq h1 rfl ?_)
  have h2 := Heap.get?_update_self (Obj.mapSeq (·.push Value.none)) h1 rfl
  refine wpAny_updateSeq h2 rfl ?_
  have h3 := Heap.get?_update_self (Obj.mapSeq (·.pop)) h2 rfl
  have k3 : ∀ b o, b ≠ S → H1.get? b = some o → ((H1.update S (Obj.mapSeq (·.push Value.none))).update S (Obj.mapSeq (·.pop))).get? b = some o := fun b o nb e => oth _ _ b o nb (oth _ _ b o nb e)
  have sz3 : ((H1.update S (Obj.mapSeq (·.push Value.none))).update S (Obj.mapSeq (·.pop))).objs.size = S + 1 := by rw [Heap.size_update, Heap.size_update, sz1]
  refine wpAny_pure ⟨plainId_quiet F.plain_extend_loop _, collects (lo := S + 1) G few out .none (fun b m => ?_) n 0 _ s.toks _ _ [] rfl (Nat.zero_le _) (G.frame 0 _ _ st1 fun b m o e => k3 b o (fun z => out (z ▸ m)) e) (Nat.le_of_eq sz3.symm) h3 rfl rfl ⟨.nil, (fun _ m => nomatch m), fun j a e => by simp at e⟩ fun h' tk' acc' c' as' kk e1 e2 e3 e4 => ?_⟩
  · rcases List.mem_cons.mp m with z | m
    · exact z ▸ Nat.lt_succ_self S
    · exact Nat.lt_succ_of_lt (base b m)
  · refine ⟨rfl, q h' tk' acc' c' as' (fun b o m e => ?_) e1 e2 e3 e4⟩
    have nb : b ≠ S := fun z => by
      have l := Heap.lt_size e
      rw [z, eS] at l
      exact Nat.lt_irrefl _ l
    exact kk b o (fun z => (List.mem_cons.mp z).elim nb m) (k3 b o nb (k1 b o nb (up0 b o e)))
end
section
variable {prog : Program} {w : World} {A : Around} {z TI TO i1 i2 : Addr} {fp1 fp2 : List Addr} {n1 n2 : Nat} {P1 P2 : Nat → Value → Prop} {St1 St2 : Nat → Heap → Prop}
/-- zip is one of them -/
theorem hand_zip (S : ZipSep2 z TI TO i1 i2 fp1 fp2) (D1 : Draws prog w A.in1 i1 fp1 n1 P1 St1) (D2 : Draws prog w A.in1 i2 fp2 n2 P2 St2) :
    Hand prog w A z (z :: TI :: TO :: (fp1 ++ fp2)) [z, TO, i1, i2] (min n1 n2) (fun i x y => P1 i x ∧ P2 i y) (Std z TI TO i1 i2 St1 St2) where
  sub := (goes (x := ⟨#[]⟩) (pos := default) S D1 D2).sub
  frame := (goes (x := ⟨#[]⟩) (pos := default) S D1 D2).frame
  self := (goes (x := ⟨#[]⟩) (pos := default) S D1 D2).self
  next := fun i s Q E lt st q => by
    obtain ⟨own, f, _, hz⟩ := st.1
    have is : s.TypeIs (.ref z) "zip" := ⟨_, hz, rfl⟩
    refine wpAny_with_toks (n := s.toks) (Nat.le_refl _) ?_
    unfold pyNext
    refine wpAny_bind (wpAny_attempt (wpAny_callSpecial?_slot (name := Str.ofString "__next__") is F.slot_zip_next (wpAny_call_entry F.slot_zip_next is F.entry_zip_next (turn_of S D1 D2 st (by omega) (by omega) (fun _ _ x y h' tk hx hy st' hT l => ?_) fun e => absurd e (by omega)) (F.args_zip_next_1 _))))
    refine ⟨_, rfl, wpAny_pure ?_⟩
    exact fun _ => q _ x y h' tk (Nat.le_refl _) ⟨hx, hy⟩ ⟨_, hT, rfl, _, rfl⟩ st' fun b o m e => left_of l b o m e
  stop := fun s Q E st q => by
    obtain ⟨own, f, _, hz⟩ := st.1
    have is : s.TypeIs (.ref z) "zip" := ⟨_, hz, rfl⟩
    refine wpAny_with_toks (n := s.toks) (Nat.le_refl _) ?_
    unfold pyNext
    refine wpAny_bind (wpAny_attempt (wpAny_callSpecial?_slot (name := Str.ofString "__next__") is F.slot_zip_next (wpAny_call_entry F.slot_zip_next is F.entry_zip_next (turn_of S D1 D2 st (by omega) (by omega) (fun a b => absurd a (by omega)) fun _ h' tk e l stop => ?_) (F.args_zip_next_1 _))))
    obtain ⟨o, ho, hc⟩ := stop
    exact wpAny_bind (wpAny_isInstance (T := "StopIteration") (b := true) ⟨o, ho, hc⟩ isSubtype_stop (wpAny_pure fun _ => q h' tk fun b o m e => left_of l b o m e))
end
/-! as a rule of the layer -/
theorem vals_at {xs : List V} {us : List Value} (r : Vals xs us) : ∀ {j : Nat} {u : Value}, us[j]? = some u → ∃ v, xs[j]? = some v ∧ RelV v u := by
  induction r with
  | nil => exact fun e => nomatch e
  | cons h _ ih =>
    intro j u e
    cases j with
    | zero => cases e; exact ⟨_, rfl, h⟩
    | succ j => exact ih (j := j) e
/-- the pairs tracked -/
def put2 : Hp → List Addr → List V → List V → Hp
  | H, a :: as, x :: xs, y :: ys => put2 (upd H a (.tup [x, y])) as xs ys
  | H, _, _, _ => H
theorem put2_off {b : Addr} : ∀ (as : List Addr) (xs ys : List V) (H : Hp), b ∉ as → put2 H as xs ys b = H b
  | a :: as, x :: xs, y :: ys, H, m => (put2_off as xs ys _ fun z => m (List.mem_cons_of_mem _ z)).trans (upd_ne fun z => m (z ▸ List.mem_cons_self))
  | [], _, _, _, _ => rfl
  | _ :: _, [], _, _, _ => rfl
  | _ :: _, _ :: _, [], _, _ => rfl
theorem put2_at : ∀ (as : List Addr) (xs ys : List V) (H : Hp), as.Nodup → ∀ {j : Nat} {a : Addr} {x y : V}, as[j]? = some a → xs[j]? = some x → ys[j]? = some y → put2 H as xs ys a = some (.tup [x, y])
  | a :: as, x :: xs, y :: ys, H, nd, 0, _, _, _, e1, e2, e3 => by
    cases e1
    cases e2
    cases e3
    exact (put2_off as xs ys _ (List.nodup_cons.mp nd).1).trans upd_same
  | a :: as, x :: xs, y :: ys, H, nd, j + 1, _, _, _, e1, e2, e3 => put2_at as xs ys _ (List.nodup_cons.mp nd).2 (j := j) e1 e2 e3
  | [], _, _, _, _, _, _, _, _, e, _, _ => nomatch e
  | _ :: _, [], _, _, _, _, _, _, _, _, e, _ => nomatch e
  | _ :: _, _ :: _, [], _, _, _, _, _, _, _, _, e => nomatch e
theorem refs_vals : ∀ as : List Addr, Vals (as.map V.ref) (as.map Value.ref)
  | [] => .nil
  | _ :: as => .cons rfl (refs_vals as)
section
variable {H : Hp} {s : Shared} {X : Cx} {σ : L2.St} {pins : List (Addr × Obj)}
theorem laid {S lo tk c : Nat} {h' : Heap} {acc : Array Value} {as : List Addr} {P : Nat → Value → Value → Prop} {xs ys : List V} (I : Inv X pins σ H s) (old : ∀ b o, s.heap.get? b = some o → h'.get? b = some o) (hS : h'.get? S = some (lob acc c)) (new : s.heap.objs.size ≤ S) (above : S < lo)
    (few : as.length ≤ sizeLine) (ea : acc.toList = as.map Value.ref) (g : Got P lo h' as) (rel : ∀ j x y, P j x y → ∃ v u, xs[j]? = some v ∧ ys[j]? = some u ∧ RelV v x ∧ RelV u y) :
    ∃ H', (∀ b o, H b = some o → H' b = some o) ∧ H S = none ∧ (∀ t ∈ as, H t = none) ∧ H' S = some (.lst (as.map V.ref)) ∧ (∀ (j : Nat) (t : Addr), as[j]? = some t → ∃ v u, xs[j]? = some v ∧ ys[j]? = some u ∧ H' t = some (.tup [v, u])) ∧ Inv X pins σ H' { s with heap := h', toks := tk } := by
  have nd : as.Nodup := g.rise.imp fun {a b} z => Nat.ne_of_lt z
  have big : ∀ t ∈ as, S < t := fun t m => Nat.lt_of_lt_of_le above (g.above t m)
  have noS : S ∉ as := fun m => Nat.lt_irrefl _ (big _ m)
  have free : ∀ b, s.heap.objs.size ≤ b → H b = none := fun b l => I.hok.fresh l
  have freeT : ∀ t ∈ as, H t = none := fun t m => free t (Nat.le_trans new (Nat.le_of_lt (big t m)))
  have far : ∀ b, b ∉ as → b ≠ S → put2 (upd H S (.lst (as.map V.ref))) as xs ys b = H b := fun b m n => (put2_off as xs ys _ m).trans (upd_ne n)
  have kp : ∀ b o, H b = some o → put2 (upd H S (.lst (as.map V.ref))) as xs ys b = some o := fun b o e => (far b (fun m => by rw [freeT b m] at e; cases e) (fun z => by rw [z, free S new] at e; cases e)).trans e
  have atS : put2 (upd H S (.lst (as.map V.ref))) as xs ys S = some (.lst (as.map V.ref)) := (put2_off as xs ys _ noS).trans upd_same
  have pr : ∀ (j : Nat) (t : Addr), as[j]? = some t → ∃ x y v u, h'.IsTuple t #[x, y] ∧ xs[j]? = some v ∧ ys[j]? = some u ∧ RelV v x ∧ RelV u y ∧ put2 (upd H S (.lst (as.map V.ref))) as xs ys t = some (.tup [v, u]) := fun j t e => by
    obtain ⟨x, y, p, tup⟩ := g.pair j t e
    obtain ⟨v, u, e1, e2, r1, r2⟩ := rel j x y p
    exact ⟨x, y, v, u, tup, e1, e2, r1, r2, put2_at as xs ys _ nd e e1 e2⟩
  refine ⟨_, kp, free S new, freeT, atS, fun j t e => ?_, ?_⟩
  · obtain ⟨_, _, v, u, _, e1, e2, _, _, e3⟩ := pr j t e
    exact ⟨v, u, e1, e2, e3⟩
  have low : ∀ b o, s.heap.get? b = some o → b ∉ as ∧ b ≠ S := fun b o e => by
    have l := Heap.lt_size e
    exact ⟨fun m => Nat.lt_irrefl _ (Nat.lt_of_lt_of_le (Nat.lt_trans l (Nat.lt_of_le_of_lt new (big b m))) (Nat.le_refl _)), fun z => Nat.not_lt.mpr new (z ▸ l)⟩
  refine I.call' (ch := []) rfl ⟨fun b o e _ _ _ => old b o e, fun b o e _ _ _ => ⟨o.slots, old b o e⟩, fun b o e n _ => ?_, fun b o e _ => ⟨o, old b o e⟩, fun b _ e => kp b _ e, fun b _ _ e => kp b _ e, fun b _ e => ⟨#[], by rw [kp b _ e]; simp⟩⟩ (fun b u e => ?_) I.bare fun b m => by simp at m
  · obtain ⟨n1, n2⟩ := low b o e
    rw [far b n1 n2]
    exact n
  · by_cases m : b ∈ as
    · obtain ⟨j, ej⟩ := List.mem_iff_getElem?.mp m
      obtain ⟨x, y, v, u', tup, _, _, r1, r2, e3⟩ := pr j b ej
      rw [e3] at e
      cases e
      exact ⟨by show 2 ≤ sizeLine; decide, [x, y], .cons r1 (.cons r2 .nil), tup⟩
    · by_cases z : b = S
      · rw [z, atS] at e
        cases e
        refine ⟨by rw [List.length_map]; exact few, acc.toList, c, by rw [ea]; exact refs_vals as, ?_⟩
        rw [z, Array.toArray_toList]
        exact hS
      · rw [far b m z] at e
        exact (I.hok b u e).stay (fun d v _ y => old d v y) (fun d y => kp d _ y) fun d _ y => kp d _ y
theorem within (n m : Nat) (h : m = n + 4 ∨ m = n + 2 ∨ m = n + 3 ∨ m = n ∨ m = n + 1 ∨ m < n) : m < n + 5 := by omega
theorem beyond (n b : Nat) (l : b < n) : ¬ (b = n + 4 ∨ b = n + 3 ∨ b = n ∨ b = n + 1) := by omega
/-- list(zip(a, b)) of what are lists or tuples -/
def tListZip (K : PySem.W.Frag) (ta : TA) : TE := fun σ H Q => ta σ H fun vs H1 => ∃ a b xs ys, vs = [.ref a, .ref b] ∧ ∃ (t1 t2 : Bool), PairW.SqV t1 K H1 a xs ∧ PairW.SqV t2 K H1 b ys ∧ min xs.length ys.length ≤ sizeLine ∧
  ∀ (H' : Hp) (D : Addr) (ts : List Addr), (∀ b o, H1 b = some o → H' b = some o) → H1 D = none → (∀ t ∈ ts, H1 t = none) → ts.length = min xs.length ys.length → H' D = some (.lst (ts.map V.ref)) → (∀ (j : Nat) (t : Addr), ts[j]? = some t → ∃ x y, xs[j]? = some x ∧ ys[j]? = some y ∧ H' t = some (.tup [x, y])) → Q (.ref D) H'
theorem pe_listZip {e e2 : Expr} {ta : TA} {p p' pos pos' : Pos} (hc : X.calm = true) (hgl : Gl X "list") (hml : X.mg "list" = none) (hvl : bootBuiltins "list" = some (.type "list")) (hg : Gl X "zip") (hm : X.mg "zip" = none) (ha : PA X [e, e2] ta)
    (hs : (starEach [e, e2] X.env = (false, eval e X.env) :: starEach [e2] X.env) := by rfl) (hpl : (backTo pos' (starEach [e2] X.env)).any (·.1) = false := by rfl)
    (hz : starEach [.Call (.Name "zip" p') [e, e2] [] pos'] X.env = (false, eval (.Call (.Name "zip" p') [e, e2] [] pos') X.env) :: starEach [] X.env := by rfl) :
    PE X (.Call (.Name "list" p) [.Call (.Name "zip" p') [e, e2] [] pos'] [] pos) (tListZip X.K ta) := by
  refine ⟨fun pins s σ H Q I h => ?_⟩
  refine Call_ (ld_blt I hgl hml hvl (PyProof.Rows.callWith_type1 ?_ hz rfl))
  rw [hz]
  show wpAny _ _ (spliced ((false, eval (.Call (.Name "zip" p') [e, e2] [] pos') X.env) :: backTo pos (starEach [] X.env))) _ _ s
  refine Calls.spliced_cons (Call_ (ld_blt I hg hm PyProof.Rows.boot_zip (PyProof.Rows.callWith_type1 (thn (ha.run pos' pins s σ H _ I h) fun us s1 ⟨vs, H1, I1, rv, a, b, xs, ys, ev, t1, t2, hx, hy, few, q⟩ => ?_) hs hpl)))
  subst ev
  obtain ⟨_, _, rfl, ru1, ru2⟩ := vals2 rv
  cases ru1
  cases ru2
  obtain ⟨its1, r1, th1⟩ := PairW.sqv_get I1 hx
  obtain ⟨its2, r2, th2⟩ := PairW.sqv_get I1 hy
  have la := th1.lt
  have lb := th2.lt
  refine zip_begins2 (PairW.begins t1 a its1.toArray) (PairW.begins t2 b its2.toArray) th1 th2 fun h0 hz0 hI hO g1 g2 sz old => Calls.spliced_nil ?_
  have D1 := PairW.draws (prog := X.prog) (w := X.w) (A := X.A.in1.in1.in1) (I1.ok.hd hc) t1 (it := s1.heap.objs.size) (Nat.ne_of_lt la) its1.toArray
  have D2 := PairW.draws (prog := X.prog) (w := X.w) (A := X.A.in1.in1.in1) (I1.ok.hd hc) t2 (it := s1.heap.objs.size + 1) (Nat.ne_of_lt (Nat.lt_succ_of_lt lb)) its2.toArray
  have SP : ZipSep2 (s1.heap.objs.size + 4) (s1.heap.objs.size + 2) (s1.heap.objs.size + 3) s1.heap.objs.size (s1.heap.objs.size + 1) [s1.heap.objs.size, a] [s1.heap.objs.size + 1, b] := zip_sep2 (fp1 := [a]) (fp2 := [b]) (fun _ m => List.mem_singleton.mp m ▸ la) fun _ m => List.mem_singleton.mp m ▸ lb
  have G := hand_zip (A := X.A.in1.in1) SP D1 D2
  have th1' : PairW.SqB t1 h0 a its1.toArray := by cases t1 <;> (obtain ⟨o, eo, r⟩ := th1; exact ⟨o, old _ _ eo, r⟩)
  have th2' : PairW.SqB t2 h0 b its2.toArray := by cases t2 <;> (obtain ⟨o, eo, r⟩ := th2; exact ⟨o, old _ _ eo, r⟩)
  have many : min its1.toArray.size its2.toArray.size = min xs.length ys.length := by simp only [List.size_toArray]; rw [r1.length, r2.length]
  refine call_list (s := { s1 with heap := h0 }) G (by rw [many]; exact few) (fun i h st => ⟨_, st.1.choose_spec.choose_spec.2, rfl⟩) ⟨⟨_, false, .inl rfl, hz0⟩, hI, ⟨_, _, hO⟩, ⟨PairW.itO_is g1, th1'⟩, ⟨PairW.itO_is g2, th2'⟩⟩ (fun c m => ?_) (by simp) fun h' tk acc c as kk hS el g ea => ?_
  · show c < h0.objs.size
    rw [sz]
    simp only [List.mem_cons, List.mem_append, List.not_mem_nil, or_false] at m
    exact within _ _ (by
      rcases m with y | y | y | (y | y) | y | y
      · exact .inl y
      · exact .inr (.inl y)
      · exact .inr (.inr (.inl y))
      · exact .inr (.inr (.inr (.inl y)))
      · exact .inr (.inr (.inr (.inr (.inr (y ▸ la)))))
      · exact .inr (.inr (.inr (.inr (.inl y))))
      · exact .inr (.inr (.inr (.inr (.inr (y ▸ lb))))))
  · have kk : ∀ b o, b ∉ [s1.heap.objs.size + 4, s1.heap.objs.size + 3, s1.heap.objs.size, s1.heap.objs.size + 1] → h0.get? b = some o → h'.get? b = some o := kk
    have old' : ∀ b o, s1.heap.get? b = some o → h'.get? b = some o := fun b o eb => by
      have l := Heap.lt_size eb
      refine kk b o (fun m => ?_) (old b o eb)
      simp only [List.mem_cons, List.not_mem_nil, or_false] at m
      exact beyond _ _ l m
    have hS : h'.get? h0.objs.size = some (lob acc c) := hS
    have g : Got (fun i x y => its1.toArray[i]? = some x ∧ its2.toArray[i]? = some y) (h0.objs.size + 1) h' as := g
    have el : as.length = min xs.length ys.length := el.trans many
    obtain ⟨H', k1, k2, k3, k4, k5, J⟩ := laid (tk := tk) (xs := xs) (ys := ys) I1 old' hS (by omega) (Nat.lt_succ_self _) (by rw [el]; exact few) ea g fun j x y ⟨e1, e2⟩ => by
      have e1 : its1[j]? = some x := by simpa using e1
      have e2 : its2[j]? = some y := by simpa using e2
      obtain ⟨v, hv, rv⟩ := vals_at r1 e1
      obtain ⟨u, hu, ru⟩ := vals_at r2 e2
      exact ⟨v, u, hv, hu, rv, ru⟩
    exact ⟨.ref _, H', J, rfl, q H' _ as k1 k2 k3 el k4 k5⟩
end
end ZipL
/-! ### sorted(groups): groups in a list or in a tuple, each a tuple of texts, however it is known -/
namespace SrtTA
open PySem PySem.Spec PyProof.Rows L2 SrtO SrtSP
theorem of_seq {prog : Program} {w : World} {A : Around} {E : Value → Shared → Prop} {s : Shared} {l : Addr} {T : String} {o : Obj} {n : Nat} {vs : List Value} {ltv : Value → Value → Bool} {Q : Value → Shared → Prop} (O : Swo ltv)
    (kind : T = "list" ∨ T = "tuple") (ho : s.heap.get? l = some o) (hc : o.cls = .type T) (hd : o.data = .seq vs.toArray n) (few : vs.length ≤ sizeLine)
    (cmp : 2 ≤ vs.length → ∀ (h : Heap) (a : Addr), h.get? a = some (seqObj "list" vs.toArray 0) → (∀ b u, s.heap.get? b = some u → b ≠ a ∧ h.get? b = some u) → SortableO prog w A.in1.in1 { s with heap := h } a vs ltv)
    (done : ∀ (h1 h' : Heap) (d : Addr) (out : List Value), Srtd ltv out → Stb ltv out vs → (∀ b u, s.heap.get? b = some u → h1.get? b = some u) → (∀ b u, h1.get? b = some u → h'.get? b = some u) → h1.objs.size ≤ d → (∃ c, h'.get? d = some (seqObj "list" out.toArray c)) → Q (.ref d) { s with heap := h' }) : wpAny (model prog w) A (call (.builtin "sorted") [.ref l]) Q E s := by
  apply Calls.call_function_entry kind_sorted plain_sorted entry_sorted (args_sorted1 _)
  unfold Builtin.«sorted»
  refine wpAny_bind (m := checkCount "sorted" 1 1 _) (wpAny_pure (wpAny_bind (wpAny_collect_seq l kind ho hc hd (fun h1 old => ?_) (by rw [List.size_toArray]; exact few))))
  rw [List.toList_toArray]
  refine wpAny_bind (wpAny_newList ?_ few)
  have mine : (h1.push (seqObj "list" vs.toArray 0)).get? h1.objs.size = some (seqObj "list" vs.toArray 0) := Heap.get?_push_size _ rfl
  have up : ∀ b u, h1.get? b = some u → b ≠ h1.objs.size ∧ (h1.push (seqObj "list" vs.toArray 0)).get? b = some u := fun b u e => ⟨Nat.ne_of_lt (Heap.lt_size e), Heap.get?_push_of_some _ e⟩
  refine wpAny_bind (wpAny_holding (wpAny_call_entry slot_list_sort ⟨_, mine, rfl⟩ entry_list_sort (list_sort_ord O mine few (fun two => cmp two _ _ mine fun b u e => up b u (old b u e)) fun out srt stb => ⟨_, rfl, ?_⟩) (args_list_sort _)))
  refine wpAny_pure ⟨_, rfl, done h1 _ _ out srt stb old (fun b u e => ?_) (Nat.le_refl _) (sortedHeap_at mine)⟩
  obtain ⟨ne, e1⟩ := up b u e
  exact (sortedHeap_old ne (Heap.lt_size e1)).trans e1
end SrtTA
namespace L2
open PySem PySem.Spec PyProof.Rows
/-- k tells each group's first text -/
def rSortedTA (K : PySem.W.Frag) : List V → Hp → VK → Prop := fun vs H Q => ∃ (a : Addr) (xs : List V) (k : V → Str), vs = [V.ref a] ∧ (SqL K H a xs ∨ SqT K H a xs) ∧ (∀ x ∈ xs, ∃ t zs, x = V.ref t ∧ SqT K H t ((k x :: zs).map V.str)) ∧ (∀ x ∈ xs, ∀ y ∈ xs, k x = k y → x = y) ∧
  ∀ ys p, SrtO.Srtd (fun x y => SrtSP.ltS (k x) (k y)) ys → ys.Perm xs → H p = none → Q (.ref p) (upd H p (.lst ys))
theorem cr_sortedTA {X : Cx} {K : PySem.W.Frag} (hK : X.K = K) : CallR X (.builtin "sorted") (rSortedTA K) := fun pins s σ H vs us Q I rv ⟨a, xs, k, e, hs, row, one, q⟩ => by
  subst e hK
  obtain ⟨_, rfl, ru⟩ := vals1 rv
  cases ru
  obtain ⟨its, T, o, n, rx, kind, ho, hc, hd, small⟩ : ∃ (its : List Value) (T : String) (o : Obj) (n : Nat), Vals xs its ∧ (T = "list" ∨ T = "tuple") ∧ s.heap.get? a = some o ∧ o.cls = .type T ∧ o.data = .seq its.toArray n ∧ xs.length ≤ sizeLine := by
    rcases hs with h | h
    · obtain ⟨its, r, there, z⟩ := I.list h
      obtain ⟨o, ho, hc, n, hd⟩ := there.isList
      exact ⟨its, "list", o, n, r, .inl rfl, ho, hc, hd, z⟩
    · obtain ⟨its, r, ⟨o, ho, hc, n, hd⟩, z⟩ := I.tuple h
      exact ⟨its, "tuple", o, n, r, .inr rfl, ho, hc, hd, z⟩
  obtain ⟨back, refs⟩ := refs_back rx fun x m => by
    obtain ⟨t, _, e, _⟩ := row x m
    exact ⟨t, e⟩
  have mem : ∀ v ∈ its, backV v ∈ xs := fun v m => back ▸ List.mem_map_of_mem m
  have at_ : ∀ v ∈ its, ∃ c o t us n, v = Value.ref c ∧ backV v = V.ref c ∧ s.heap.get? c = some o ∧ o.cls = .type "tuple" ∧ o.data = .seq (Value.str (k (backV v)) t :: us).toArray n ∧ (∀ u ∈ us, SrtSP.Flat u) ∧ SrtSP.restOf s.heap v = us := fun v m => by
    obtain ⟨c, e⟩ := refs v m
    subst e
    obtain ⟨t, zs, e, told⟩ := row _ (mem _ m)
    cases e
    obtain ⟨all, rr, ⟨o, ho, hc, n, hd⟩, _⟩ := I.tuple told
    cases (show Vals (V.str (k (V.ref c)) :: zs.map V.str) all from rr) with
    | cons r1 rs =>
      obtain ⟨tk, e⟩ := r1
      subst e
      exact ⟨c, o, tk, _, n, rfl, rfl, ho, hc, hd, vals_flat rs fun y m => by obtain ⟨z, _, e⟩ := List.mem_map.mp m; exact .inl ⟨z, e.symm⟩, SrtSP.restOf_at ho hd⟩
  have R : SrtSP.Rws s.heap its (fun v => k (backV v)) (SrtSP.restOf s.heap) := ⟨fun v m => by
    obtain ⟨c, o, t, us, n, e, _, ho, hc, hd, _, er⟩ := at_ v m
    exact ⟨c, o, t, n, e, ho, hc, er ▸ hd⟩, fun v m => by
    obtain ⟨_, _, _, us, _, _, _, _, _, _, f, er⟩ := at_ v m
    exact er ▸ f, fun v m u m' e => by
    obtain ⟨c, e1⟩ := refs v m
    obtain ⟨c', e2⟩ := refs u m'
    have same := one _ (mem v m) _ (mem u m') e
    subst e1 e2
    cases (show V.ref c = V.ref c' from same)
    rfl⟩
  refine SrtTA.of_seq (SrtSP.swoS fun v => k (backV v)) kind ho hc hd (rx.length ▸ small) (fun two h1 b at1 keep => SrtSP.rows_sortable (r := SrtSP.restOf s.heap) (s := { s with heap := h1 }) (by omega) (R.keeps fun b o e _ => (keep b o e).2) fun u e c => ?_) fun h1 h' d out srt stb old1 old2 new made => ?_
  · cases (e.symm.trans at1 : some u = some (seqObj "list" its.toArray 0))
    exact absurd (Value.type.inj c) (by decide : ¬ (("list" : String) = "tuple"))
  · obtain ⟨c, hn⟩ := made
    have prm : (out.map backV).Perm xs := back ▸ stb.perm.map backV
    have I1 : Inv X pins σ H { s with heap := h1 } := I.kept (t' := s.toks) old1
    exact ⟨.ref d, upd H d (.lst (out.map backV)), I1.laid (t' := s.toks) old2 new ⟨prm.length_eq ▸ small, out, c, vals_back fun u m => refs u (stb.perm.mem_iff.mp m), hn⟩, rfl, q _ d (List.pairwise_map.mpr srt) prm (I1.hok.fresh new)⟩
end L2
namespace M
open PySem PySem.Spec PyProof.Rows L2
def topS (i : Nat) : Stmt := PySem.Challenge.pw_wayneedle_k24_whole_atlases_by_names.main.body.getD i (.Pass ⟨0, 0, 0, 0⟩)
abbrev s_is_whole : Stmt := topS 1
theorem sc_is_whole : FnScope ["thing"] ["thing"] (defScope s_is_whole) := ⟨rfl, rfl, rfl, by decide +kernel, rfl, by decide +kernel, by decide +kernel⟩
abbrev s_is_row : Stmt := topS 2
theorem sc_is_row : FnScope ["thing"] ["thing"] (defScope s_is_row) := ⟨rfl, rfl, rfl, by decide +kernel, rfl, by decide +kernel, by decide +kernel⟩
abbrev s_is_letter : Stmt := topS 17
theorem sc_is_letter : FnScope ["thing"] ["thing"] (defScope s_is_letter) := ⟨rfl, rfl, rfl, by decide +kernel, rfl, by decide +kernel, by decide +kernel⟩
abbrev s_step : Stmt := topS 18
theorem sc_step : FnScope ["letter"] ["letter"] (defScope s_step) := ⟨rfl, rfl, rfl, by decide +kernel, rfl, by decide +kernel, by decide +kernel⟩
abbrev s_way_of : Stmt := topS 19
theorem sc_way_of : FnScope ["place", "letter", "east", "north"] ["place", "letter"] (defScope s_way_of) := ⟨rfl, rfl, rfl, by decide +kernel, rfl, by decide +kernel, by decide +kernel⟩
abbrev s_is_lot : Stmt := topS 20
theorem sc_is_lot : FnScope ["thing"] ["thing"] (defScope s_is_lot) := ⟨rfl, rfl, rfl, by decide +kernel, rfl, by decide +kernel, by decide +kernel⟩
abbrev s_refuse_unless_lot : Stmt := topS 21
theorem sc_refuse_unless_lot : FnScope ["thing"] ["thing"] (defScope s_refuse_unless_lot) := ⟨rfl, rfl, rfl, by decide +kernel, rfl, by decide +kernel, by decide +kernel⟩
abbrev s_mirrors : Stmt := topS 22
theorem sc_mirrors : FnScope ["lot"] ["lot"] (defScope s_mirrors) := ⟨rfl, rfl, rfl, by decide +kernel, rfl, by decide +kernel, by decide +kernel⟩
abbrev s_true : Stmt := topS 23
theorem sc_true : FnScope ["lot", "letter", "at"] ["lot", "letter"] (defScope s_true) := ⟨rfl, rfl, rfl, by decide +kernel, rfl, by decide +kernel, by decide +kernel⟩
abbrev s_is_short_text : Stmt := topS 30
theorem sc_is_short_text : FnScope ["thing"] ["thing"] (defScope s_is_short_text) := ⟨rfl, rfl, rfl, by decide +kernel, rfl, by decide +kernel, by decide +kernel⟩
abbrev s_are_small : Stmt := topS 31
theorem sc_are_small : FnScope ["text", "letter"] ["text"] (defScope s_are_small) := ⟨rfl, rfl, rfl, by decide +kernel, rfl, by decide +kernel, by decide +kernel⟩
abbrev s_is_name : Stmt := topS 32
theorem sc_is_name : FnScope ["thing"] ["thing"] (defScope s_is_name) := ⟨rfl, rfl, rfl, by decide +kernel, rfl, by decide +kernel, by decide +kernel⟩
abbrev s_is_lone : Stmt := topS 33
theorem sc_is_lone : FnScope ["thing"] ["thing"] (defScope s_is_lone) := ⟨rfl, rfl, rfl, by decide +kernel, rfl, by decide +kernel, by decide +kernel⟩
abbrev s_is_sign : Stmt := topS 34
theorem sc_is_sign : FnScope ["thing"] ["thing"] (defScope s_is_sign) := ⟨rfl, rfl, rfl, by decide +kernel, rfl, by decide +kernel, by decide +kernel⟩
abbrev s_is_many : Stmt := topS 35
theorem sc_is_many : FnScope ["thing"] ["thing"] (defScope s_is_many) := ⟨rfl, rfl, rfl, by decide +kernel, rfl, by decide +kernel, by decide +kernel⟩
abbrev s_is_pair_entry : Stmt := topS 36
theorem sc_is_pair_entry : FnScope ["word", "part"] ["word", "part"] (defScope s_is_pair_entry) := ⟨rfl, rfl, rfl, by decide +kernel, rfl, by decide +kernel, by decide +kernel⟩
abbrev s_is_entry : Stmt := topS 37
theorem sc_is_entry : FnScope ["thing"] ["thing"] (defScope s_is_entry) := ⟨rfl, rfl, rfl, by decide +kernel, rfl, by decide +kernel, by decide +kernel⟩
abbrev s_held_log : Stmt := topS 38
theorem sc_held_log : FnScope ["entries", "faced", "log", "at", "thing"] ["entries"] (defScope s_held_log) := ⟨rfl, rfl, rfl, by decide +kernel, rfl, by decide +kernel, by decide +kernel⟩
abbrev s_legs_in : Stmt := topS 39
theorem sc_legs_in : FnScope ["log", "entry"] ["log"] (defScope s_legs_in) := ⟨rfl, rfl, rfl, by decide +kernel, rfl, by decide +kernel, by decide +kernel⟩
abbrev s_refuse_unless_lots : Stmt := topS 43
theorem sc_refuse_unless_lots : FnScope ["log", "lots", "legs", "at", "thing"] ["log", "lots"] (defScope s_refuse_unless_lots) := ⟨rfl, rfl, rfl, by decide +kernel, rfl, by decide +kernel, by decide +kernel⟩
abbrev s_gone : Stmt := topS 44
theorem sc_gone : FnScope ["place", "letter", "many", "east", "north"] ["place", "letter", "many"] (defScope s_gone) := ⟨rfl, rfl, rfl, by decide +kernel, rfl, by decide +kernel, by decide +kernel⟩
abbrev s_look_behind : Stmt := topS 45
theorem sc_look_behind : FnScope ["entry", "lot", "look", "word"] ["entry", "lot", "look"] (defScope s_look_behind) := ⟨rfl, rfl, rfl, by decide +kernel, rfl, by decide +kernel, by decide +kernel⟩
abbrev s_track : Stmt := topS 46
theorem sc_track : FnScope ["log", "lots", "place", "look", "leg", "stands", "entry"] ["log", "lots"] (defScope s_track) := ⟨rfl, rfl, rfl, by decide +kernel, rfl, by decide +kernel, by decide +kernel⟩
abbrev s_way_fact : Stmt := topS 47
theorem sc_way_fact : FnScope ["at", "word", "place", "look", "east", "north", "side"] ["at", "word", "place", "look"] (defScope s_way_fact) := ⟨rfl, rfl, rfl, by decide +kernel, rfl, by decide +kernel, by decide +kernel⟩
abbrev s_facts_of_entry : Stmt := topS 48
theorem sc_facts_of_entry : FnScope ["at", "entry", "place", "look", "word", "done"] ["at", "entry", "place", "look"] (defScope s_facts_of_entry) := ⟨rfl, rfl, rfl, by decide +kernel, rfl, by decide +kernel, by decide +kernel⟩
abbrev s_facts : Stmt := topS 49
theorem sc_facts : FnScope ["log", "lots", "behind", "ahead", "found", "at", "entry", "place", "look"] ["log", "lots"] (defScope s_facts) := ⟨rfl, rfl, rfl, by decide +kernel, rfl, by decide +kernel, by decide +kernel⟩
abbrev s_held_box : Stmt := topS 52
theorem sc_held_box : FnScope ["box", "at", "thing"] ["box"] (defScope s_held_box) := ⟨rfl, rfl, rfl, by decide +kernel, rfl, by decide +kernel, by decide +kernel⟩
abbrev s_held_log_of : Stmt := topS 53
theorem sc_held_log_of : FnScope ["name", "log", "why"] ["name", "log"] (defScope s_held_log_of) := ⟨rfl, rfl, rfl, by decide +kernel, rfl, by decide +kernel, by decide +kernel⟩
abbrev s_lots_left_in : Stmt := topS 55
theorem sc_lots_left_in : FnScope ["box", "lots", "lot"] ["box", "lots"] (defScope s_lots_left_in) := ⟨rfl, rfl, rfl, by decide +kernel, rfl, by decide +kernel, by decide +kernel⟩
abbrev s_first_not_dealt : Stmt := topS 56
theorem sc_first_not_dealt : FnScope ["box", "lots", "at", "thing"] ["box", "lots"] (defScope s_first_not_dealt) := ⟨rfl, rfl, rfl, by decide +kernel, rfl, by decide +kernel, by decide +kernel⟩
abbrev s_refuse_unless_dealt : Stmt := topS 57
theorem sc_refuse_unless_dealt : FnScope ["atlas", "dealing", "at"] ["atlas", "dealing"] (defScope s_refuse_unless_dealt) := ⟨rfl, rfl, rfl, by decide +kernel, rfl, by decide +kernel, by decide +kernel⟩
abbrev s_is_dealt : Stmt := topS 58
theorem sc_is_dealt : FnScope ["atlas", "dealing"] ["atlas", "dealing"] (defScope s_is_dealt) := ⟨rfl, rfl, rfl, by decide +kernel, rfl, by decide +kernel, by decide +kernel⟩
abbrev s_told : Stmt := topS 59
theorem sc_told : FnScope ["atlas", "dealing", "name", "log", "leg", "lot"] ["atlas", "dealing", "name"] (defScope s_told) := ⟨rfl, rfl, rfl, by decide +kernel, rfl, by decide +kernel, by decide +kernel⟩
abbrev s_lone_signs : Stmt := topS 60
theorem sc_lone_signs : FnScope ["log", "entry"] ["log"] (defScope s_lone_signs) := ⟨rfl, rfl, rfl, by decide +kernel, rfl, by decide +kernel, by decide +kernel⟩
abbrev s_groups : Stmt := topS 61
theorem sc_groups : FnScope ["atlas", "parted", "name", "log", "names", "signs", "aside", "others", "others_signs", "sign"] ["atlas"] (defScope s_groups) := ⟨rfl, rfl, rfl, by decide +kernel, rfl, by decide +kernel, by decide +kernel⟩
abbrev s_Lpool : Stmt := topS 63
theorem sc_Lpool : FnScope ["_law_script", "_law_k", "_law_cell", "_law_left"] ["_law_script", "_law_k"] (defScope s_Lpool) := ⟨rfl, rfl, rfl, by decide +kernel, rfl, by decide +kernel, by decide +kernel⟩
abbrev s_Ltake : Stmt := topS 64
theorem sc_Ltake : FnScope ["_law_pool_here", "_law_wide", "_law_found", "_law_primes", "_law_one", "_law_two"] ["_law_pool_here", "_law_wide"] (defScope s_Ltake) := ⟨rfl, rfl, rfl, by decide +kernel, rfl, by decide +kernel, by decide +kernel⟩
abbrev s_Lmix : Stmt := topS 65
theorem sc_Lmix : FnScope ["_law_pool_here", "_law_things", "_law_found", "_law_thing"] ["_law_pool_here", "_law_things"] (defScope s_Lmix) := ⟨rfl, rfl, rfl, by decide +kernel, rfl, by decide +kernel, by decide +kernel⟩
abbrev s_Ltrue : Stmt := topS 66
theorem sc_Ltrue : FnScope ["_law_lot", "_law_letter", "_law_at"] ["_law_lot", "_law_letter"] (defScope s_Ltrue) := ⟨rfl, rfl, rfl, by decide +kernel, rfl, by decide +kernel, by decide +kernel⟩
abbrev s_Loff : Stmt := topS 67
theorem sc_Loff : FnScope ["_law_place", "_law_letter", "_law_many", "_law_east", "_law_north"] ["_law_place", "_law_letter", "_law_many"] (defScope s_Loff) := ⟨rfl, rfl, rfl, by decide +kernel, rfl, by decide +kernel, by decide +kernel⟩
abbrev s_Lside : Stmt := topS 68
theorem sc_Lside : FnScope ["_law_place", "_law_letter"] ["_law_place", "_law_letter"] (defScope s_Lside) := ⟨rfl, rfl, rfl, by decide +kernel, rfl, by decide +kernel, by decide +kernel⟩
abbrev s_Lname : Stmt := topS 69
theorem sc_Lname : FnScope ["_law_pool_here", "_law_letters", "_law_k"] ["_law_pool_here"] (defScope s_Lname) := ⟨rfl, rfl, rfl, by decide +kernel, rfl, by decide +kernel, by decide +kernel⟩
abbrev s_Lnames : Stmt := topS 70
theorem sc_Lnames : FnScope ["_law_pool_here", "_law_many", "_law_found", "_law_k", "_law_name_here", "_law_letter"] ["_law_pool_here", "_law_many"] (defScope s_Lnames) := ⟨rfl, rfl, rfl, by decide +kernel, rfl, by decide +kernel, by decide +kernel⟩
abbrev s_Lland : Stmt := topS 71
theorem sc_Lland : FnScope ["_law_pool_here", "_law_many", "_law_signs_here", "_law_name_here", "_law_place", "_law_k", "_law_shuts"] ["_law_pool_here", "_law_many"] (defScope s_Lland) := ⟨rfl, rfl, rfl, by decide +kernel, rfl, by decide +kernel, by decide +kernel⟩
abbrev s_Lentry : Stmt := topS 72
theorem sc_Lentry : FnScope ["_law_pool_here", "_law_land_here", "_law_pick", "_law_place", "_law_look", "_law_signs_here", "_law_shuts", "_law_word", "_law_goal", "_law_many", "_law_far"] ["_law_pool_here", "_law_land_here", "_law_pick", "_law_place", "_law_look"] (defScope s_Lentry) := ⟨rfl, rfl, rfl, by decide +kernel, rfl, by decide +kernel, by decide +kernel⟩
abbrev s_Lwritten : Stmt := topS 73
theorem sc_Lwritten : FnScope ["_law_pool_here", "_law_land_here", "_law_many", "_law_lots", "_law_place", "_law_log", "_law_look", "_law_leg", "_law_k", "_law_pick", "_law_entry_here"] ["_law_pool_here", "_law_land_here", "_law_many", "_law_lots", "_law_place"] (defScope s_Lwritten) := ⟨rfl, rfl, rfl, by decide +kernel, rfl, by decide +kernel, by decide +kernel⟩
abbrev s_Lworld : Stmt := topS 74
theorem sc_Lworld : FnScope ["_law_pool_here", "_law_walkers", "_law_extra", "_law_many", "_law_land_here", "_law_names_here", "_law_legs", "_law_k", "_law_rows", "_law_dealing", "_law_name_here", "_law_size", "_law_lots", "_law_place", "_law_box", "_law_lot"] ["_law_pool_here", "_law_walkers", "_law_extra", "_law_many"] (defScope s_Lworld) := ⟨rfl, rfl, rfl, by decide +kernel, rfl, by decide +kernel, by decide +kernel⟩
abbrev s_Lsigns : Stmt := topS 75
theorem sc_Lsigns : FnScope ["_law_rows", "_law_group", "_law_found", "_law_name_here", "_law_log", "_law_sign", "_law_entry_here"] ["_law_rows", "_law_group"] (defScope s_Lsigns) := ⟨rfl, rfl, rfl, by decide +kernel, rfl, by decide +kernel, by decide +kernel⟩
abbrev s_Lflat : Stmt := topS 76
theorem sc_Lflat : FnScope ["_law_rows", "_law_found", "_law_row"] ["_law_rows"] (defScope s_Lflat) := ⟨rfl, rfl, rfl, by decide +kernel, rfl, by decide +kernel, by decide +kernel⟩
abbrev s_Lcalled : Stmt := topS 77
theorem sc_Lcalled : FnScope ["_law_rows", "_law_names_here", "_law_others", "_law_row", "_law_name_here"] ["_law_rows", "_law_names_here", "_law_others"] (defScope s_Lcalled) := ⟨rfl, rfl, rfl, by decide +kernel, rfl, by decide +kernel, by decide +kernel⟩
abbrev s_law : Stmt := topS 78
theorem sc_law : FnScope ["_law_script", "_law_pool_here", "_law_land_here", "_law_box", "_law_rows", "_law_dealing", "_law_atlas", "_law_log", "_law_names_here", "_law_others", "_law_other", "_law_fresh", "_law_alone", "_law_near", "_law_wider", "_law_due", "_law_name_here", "_law_group", "_law_its"] ["_law_script"] (defScope s_law) := ⟨rfl, rfl, rfl, by decide +kernel, rfl, by decide +kernel, by decide +kernel⟩
abbrev s_Atlas_init : Stmt := inClass (topS 54) 0
theorem sc_Atlas_init : FnScope ["self", "box", "logs", "held", "name", "log"] ["self", "box", "logs"] (defScope s_Atlas_init) := ⟨rfl, rfl, rfl, by decide +kernel, rfl, by decide +kernel, by decide +kernel⟩
abbrev s_Atlas_log : Stmt := inClass (topS 54) 1
theorem sc_Atlas_log : FnScope ["self", "name"] ["self", "name"] (defScope s_Atlas_log) := ⟨rfl, rfl, rfl, by decide +kernel, rfl, by decide +kernel, by decide +kernel⟩
abbrev s_Atlas_legs : Stmt := inClass (topS 54) 2
theorem sc_Atlas_legs : FnScope ["self", "name", "log", "leg"] ["self"] (defScope s_Atlas_legs) := ⟨rfl, rfl, rfl, by decide +kernel, rfl, by decide +kernel, by decide +kernel⟩
abbrev s_Atlas_with_log : Stmt := inClass (topS 54) 3
theorem sc_Atlas_with_log : FnScope ["self", "name", "log", "others", "pair"] ["self", "name", "log"] (defScope s_Atlas_with_log) := ⟨rfl, rfl, rfl, by decide +kernel, rfl, by decide +kernel, by decide +kernel⟩
abbrev s_Atlas_without : Stmt := inClass (topS 54) 4
theorem sc_Atlas_without : FnScope ["self", "name", "pair"] ["self", "name"] (defScope s_Atlas_without) := ⟨rfl, rfl, rfl, by decide +kernel, rfl, by decide +kernel, by decide +kernel⟩
abbrev s_Atlas_len : Stmt := inClass (topS 54) 6
theorem sc_Atlas_len : FnScope ["self"] ["self"] (defScope s_Atlas_len) := ⟨rfl, rfl, rfl, by decide +kernel, rfl, by decide +kernel, by decide +kernel⟩
/-- what the top has left -/
structure Top (w : World) (K : PySem.W.Frag) (mg : Str → Option Value) where
  a_Atlas : Addr
  g_Atlas : mg "Atlas" = some (.ref a_Atlas)
  cl_Atlas : Cls K a_Atlas
  nf_Atlas_box : NoAttr K a_Atlas "box"
  nf_Atlas_names : NoAttr K a_Atlas "names"
  nf_Atlas_logs : NoAttr K a_Atlas "logs"
  a_is_whole : Addr
  fd_is_whole : FuncData
  F_is_whole : Fun K "is_whole" "is_whole" s_is_whole a_is_whole fd_is_whole
  b_is_whole : Binds K fd_is_whole ["thing"] []
  g_is_whole : mg "is_whole" = some (.ref a_is_whole)
  a_is_row : Addr
  fd_is_row : FuncData
  F_is_row : Fun K "is_row" "is_row" s_is_row a_is_row fd_is_row
  b_is_row : Binds K fd_is_row ["thing"] []
  g_is_row : mg "is_row" = some (.ref a_is_row)
  a_is_letter : Addr
  fd_is_letter : FuncData
  F_is_letter : Fun K "is_letter" "is_letter" s_is_letter a_is_letter fd_is_letter
  b_is_letter : Binds K fd_is_letter ["thing"] []
  g_is_letter : mg "is_letter" = some (.ref a_is_letter)
  a_step : Addr
  fd_step : FuncData
  F_step : Fun K "step" "step" s_step a_step fd_step
  b_step : Binds K fd_step ["letter"] []
  g_step : mg "step" = some (.ref a_step)
  a_way_of : Addr
  fd_way_of : FuncData
  F_way_of : Fun K "way_of" "way_of" s_way_of a_way_of fd_way_of
  b_way_of : Binds K fd_way_of ["place", "letter"] []
  g_way_of : mg "way_of" = some (.ref a_way_of)
  a_is_lot : Addr
  fd_is_lot : FuncData
  F_is_lot : Fun K "is_lot" "is_lot" s_is_lot a_is_lot fd_is_lot
  b_is_lot : Binds K fd_is_lot ["thing"] []
  g_is_lot : mg "is_lot" = some (.ref a_is_lot)
  a_refuse_unless_lot : Addr
  fd_refuse_unless_lot : FuncData
  F_refuse_unless_lot : Fun K "refuse_unless_lot" "refuse_unless_lot" s_refuse_unless_lot a_refuse_unless_lot fd_refuse_unless_lot
  b_refuse_unless_lot : Binds K fd_refuse_unless_lot ["thing"] []
  g_refuse_unless_lot : mg "refuse_unless_lot" = some (.ref a_refuse_unless_lot)
  a_mirrors : Addr
  fd_mirrors : FuncData
  F_mirrors : Fun K "mirrors" "mirrors" s_mirrors a_mirrors fd_mirrors
  b_mirrors : Binds K fd_mirrors ["lot"] []
  g_mirrors : mg "mirrors" = some (.ref a_mirrors)
  a_true : Addr
  fd_true : FuncData
  F_true : Fun K "true" "true" s_true a_true fd_true
  b_true : Binds K fd_true ["lot", "letter"] []
  g_true : mg "true" = some (.ref a_true)
  a_is_short_text : Addr
  fd_is_short_text : FuncData
  F_is_short_text : Fun K "is_short_text" "is_short_text" s_is_short_text a_is_short_text fd_is_short_text
  b_is_short_text : Binds K fd_is_short_text ["thing"] []
  g_is_short_text : mg "is_short_text" = some (.ref a_is_short_text)
  a_are_small : Addr
  fd_are_small : FuncData
  F_are_small : Fun K "are_small" "are_small" s_are_small a_are_small fd_are_small
  b_are_small : Binds K fd_are_small ["text"] []
  g_are_small : mg "are_small" = some (.ref a_are_small)
  a_is_name : Addr
  fd_is_name : FuncData
  F_is_name : Fun K "is_name" "is_name" s_is_name a_is_name fd_is_name
  b_is_name : Binds K fd_is_name ["thing"] []
  g_is_name : mg "is_name" = some (.ref a_is_name)
  a_is_lone : Addr
  fd_is_lone : FuncData
  F_is_lone : Fun K "is_lone" "is_lone" s_is_lone a_is_lone fd_is_lone
  b_is_lone : Binds K fd_is_lone ["thing"] []
  g_is_lone : mg "is_lone" = some (.ref a_is_lone)
  a_is_sign : Addr
  fd_is_sign : FuncData
  F_is_sign : Fun K "is_sign" "is_sign" s_is_sign a_is_sign fd_is_sign
  b_is_sign : Binds K fd_is_sign ["thing"] []
  g_is_sign : mg "is_sign" = some (.ref a_is_sign)
  a_is_many : Addr
  fd_is_many : FuncData
  F_is_many : Fun K "is_many" "is_many" s_is_many a_is_many fd_is_many
  b_is_many : Binds K fd_is_many ["thing"] []
  g_is_many : mg "is_many" = some (.ref a_is_many)
  a_is_pair_entry : Addr
  fd_is_pair_entry : FuncData
  F_is_pair_entry : Fun K "is_pair_entry" "is_pair_entry" s_is_pair_entry a_is_pair_entry fd_is_pair_entry
  b_is_pair_entry : Binds K fd_is_pair_entry ["word", "part"] []
  g_is_pair_entry : mg "is_pair_entry" = some (.ref a_is_pair_entry)
  a_is_entry : Addr
  fd_is_entry : FuncData
  F_is_entry : Fun K "is_entry" "is_entry" s_is_entry a_is_entry fd_is_entry
  b_is_entry : Binds K fd_is_entry ["thing"] []
  g_is_entry : mg "is_entry" = some (.ref a_is_entry)
  a_held_log : Addr
  fd_held_log : FuncData
  F_held_log : Fun K "held_log" "held_log" s_held_log a_held_log fd_held_log
  b_held_log : Binds K fd_held_log ["entries"] []
  g_held_log : mg "held_log" = some (.ref a_held_log)
  a_legs_in : Addr
  fd_legs_in : FuncData
  F_legs_in : Fun K "legs_in" "legs_in" s_legs_in a_legs_in fd_legs_in
  b_legs_in : Binds K fd_legs_in ["log"] []
  g_legs_in : mg "legs_in" = some (.ref a_legs_in)
  a_refuse_unless_lots : Addr
  fd_refuse_unless_lots : FuncData
  F_refuse_unless_lots : Fun K "refuse_unless_lots" "refuse_unless_lots" s_refuse_unless_lots a_refuse_unless_lots fd_refuse_unless_lots
  b_refuse_unless_lots : Binds K fd_refuse_unless_lots ["log", "lots"] []
  g_refuse_unless_lots : mg "refuse_unless_lots" = some (.ref a_refuse_unless_lots)
  a_gone : Addr
  fd_gone : FuncData
  F_gone : Fun K "gone" "gone" s_gone a_gone fd_gone
  b_gone : Binds K fd_gone ["place", "letter", "many"] []
  g_gone : mg "gone" = some (.ref a_gone)
  a_look_behind : Addr
  fd_look_behind : FuncData
  F_look_behind : Fun K "look_behind" "look_behind" s_look_behind a_look_behind fd_look_behind
  b_look_behind : Binds K fd_look_behind ["entry", "lot", "look"] []
  g_look_behind : mg "look_behind" = some (.ref a_look_behind)
  a_track : Addr
  fd_track : FuncData
  F_track : Fun K "track" "track" s_track a_track fd_track
  b_track : Binds K fd_track ["log", "lots"] []
  g_track : mg "track" = some (.ref a_track)
  a_way_fact : Addr
  fd_way_fact : FuncData
  F_way_fact : Fun K "way_fact" "way_fact" s_way_fact a_way_fact fd_way_fact
  b_way_fact : Binds K fd_way_fact ["at", "word", "place", "look"] []
  g_way_fact : mg "way_fact" = some (.ref a_way_fact)
  a_facts_of_entry : Addr
  fd_facts_of_entry : FuncData
  F_facts_of_entry : Fun K "facts_of_entry" "facts_of_entry" s_facts_of_entry a_facts_of_entry fd_facts_of_entry
  b_facts_of_entry : Binds K fd_facts_of_entry ["at", "entry", "place", "look"] []
  g_facts_of_entry : mg "facts_of_entry" = some (.ref a_facts_of_entry)
  a_facts : Addr
  fd_facts : FuncData
  F_facts : Fun K "facts" "facts" s_facts a_facts fd_facts
  b_facts : Binds K fd_facts ["log", "lots"] []
  g_facts : mg "facts" = some (.ref a_facts)
  a_held_box : Addr
  fd_held_box : FuncData
  F_held_box : Fun K "held_box" "held_box" s_held_box a_held_box fd_held_box
  b_held_box : Binds K fd_held_box ["box"] []
  g_held_box : mg "held_box" = some (.ref a_held_box)
  a_held_log_of : Addr
  fd_held_log_of : FuncData
  F_held_log_of : Fun K "held_log_of" "held_log_of" s_held_log_of a_held_log_of fd_held_log_of
  b_held_log_of : Binds K fd_held_log_of ["name", "log"] []
  g_held_log_of : mg "held_log_of" = some (.ref a_held_log_of)
  a_lots_left_in : Addr
  fd_lots_left_in : FuncData
  F_lots_left_in : Fun K "lots_left_in" "lots_left_in" s_lots_left_in a_lots_left_in fd_lots_left_in
  b_lots_left_in : Binds K fd_lots_left_in ["box", "lots"] []
  g_lots_left_in : mg "lots_left_in" = some (.ref a_lots_left_in)
  a_first_not_dealt : Addr
  fd_first_not_dealt : FuncData
  F_first_not_dealt : Fun K "first_not_dealt" "first_not_dealt" s_first_not_dealt a_first_not_dealt fd_first_not_dealt
  b_first_not_dealt : Binds K fd_first_not_dealt ["box", "lots"] []
  g_first_not_dealt : mg "first_not_dealt" = some (.ref a_first_not_dealt)
  a_refuse_unless_dealt : Addr
  fd_refuse_unless_dealt : FuncData
  F_refuse_unless_dealt : Fun K "refuse_unless_dealt" "refuse_unless_dealt" s_refuse_unless_dealt a_refuse_unless_dealt fd_refuse_unless_dealt
  b_refuse_unless_dealt : Binds K fd_refuse_unless_dealt ["atlas", "dealing"] []
  g_refuse_unless_dealt : mg "refuse_unless_dealt" = some (.ref a_refuse_unless_dealt)
  a_is_dealt : Addr
  fd_is_dealt : FuncData
  F_is_dealt : Fun K "is_dealt" "is_dealt" s_is_dealt a_is_dealt fd_is_dealt
  b_is_dealt : Binds K fd_is_dealt ["atlas", "dealing"] []
  g_is_dealt : mg "is_dealt" = some (.ref a_is_dealt)
  a_told : Addr
  fd_told : FuncData
  F_told : Fun K "told" "told" s_told a_told fd_told
  b_told : Binds K fd_told ["atlas", "dealing", "name"] []
  g_told : mg "told" = some (.ref a_told)
  a_lone_signs : Addr
  fd_lone_signs : FuncData
  F_lone_signs : Fun K "lone_signs" "lone_signs" s_lone_signs a_lone_signs fd_lone_signs
  b_lone_signs : Binds K fd_lone_signs ["log"] []
  g_lone_signs : mg "lone_signs" = some (.ref a_lone_signs)
  a_groups : Addr
  fd_groups : FuncData
  F_groups : Fun K "groups" "groups" s_groups a_groups fd_groups
  b_groups : Binds K fd_groups ["atlas"] []
  g_groups : mg "groups" = some (.ref a_groups)
  a_Lpool : Addr
  fd_Lpool : FuncData
  F_Lpool : Fun K "_law_pool" "_law_pool" s_Lpool a_Lpool fd_Lpool
  b_Lpool : Binds K fd_Lpool ["_law_script", "_law_k"] []
  g_Lpool : mg "_law_pool" = some (.ref a_Lpool)
  a_Ltake : Addr
  fd_Ltake : FuncData
  F_Ltake : Fun K "_law_take" "_law_take" s_Ltake a_Ltake fd_Ltake
  b_Ltake : Binds K fd_Ltake ["_law_pool_here", "_law_wide"] []
  g_Ltake : mg "_law_take" = some (.ref a_Ltake)
  a_Lmix : Addr
  fd_Lmix : FuncData
  F_Lmix : Fun K "_law_mix" "_law_mix" s_Lmix a_Lmix fd_Lmix
  b_Lmix : Binds K fd_Lmix ["_law_pool_here", "_law_things"] []
  g_Lmix : mg "_law_mix" = some (.ref a_Lmix)
  a_Ltrue : Addr
  fd_Ltrue : FuncData
  F_Ltrue : Fun K "_law_true" "_law_true" s_Ltrue a_Ltrue fd_Ltrue
  b_Ltrue : Binds K fd_Ltrue ["_law_lot", "_law_letter"] []
  g_Ltrue : mg "_law_true" = some (.ref a_Ltrue)
  a_Loff : Addr
  fd_Loff : FuncData
  F_Loff : Fun K "_law_off" "_law_off" s_Loff a_Loff fd_Loff
  b_Loff : Binds K fd_Loff ["_law_place", "_law_letter", "_law_many"] []
  g_Loff : mg "_law_off" = some (.ref a_Loff)
  a_Lside : Addr
  fd_Lside : FuncData
  F_Lside : Fun K "_law_side" "_law_side" s_Lside a_Lside fd_Lside
  b_Lside : Binds K fd_Lside ["_law_place", "_law_letter"] []
  g_Lside : mg "_law_side" = some (.ref a_Lside)
  a_Lname : Addr
  fd_Lname : FuncData
  F_Lname : Fun K "_law_name" "_law_name" s_Lname a_Lname fd_Lname
  b_Lname : Binds K fd_Lname ["_law_pool_here"] []
  g_Lname : mg "_law_name" = some (.ref a_Lname)
  a_Lnames : Addr
  fd_Lnames : FuncData
  F_Lnames : Fun K "_law_names" "_law_names" s_Lnames a_Lnames fd_Lnames
  b_Lnames : Binds K fd_Lnames ["_law_pool_here", "_law_many"] []
  g_Lnames : mg "_law_names" = some (.ref a_Lnames)
  a_Lland : Addr
  fd_Lland : FuncData
  F_Lland : Fun K "_law_land" "_law_land" s_Lland a_Lland fd_Lland
  b_Lland : Binds K fd_Lland ["_law_pool_here", "_law_many"] []
  g_Lland : mg "_law_land" = some (.ref a_Lland)
  a_Lentry : Addr
  fd_Lentry : FuncData
  F_Lentry : Fun K "_law_entry" "_law_entry" s_Lentry a_Lentry fd_Lentry
  b_Lentry : Binds K fd_Lentry ["_law_pool_here", "_law_land_here", "_law_pick", "_law_place", "_law_look"] []
  g_Lentry : mg "_law_entry" = some (.ref a_Lentry)
  a_Lwritten : Addr
  fd_Lwritten : FuncData
  F_Lwritten : Fun K "_law_written" "_law_written" s_Lwritten a_Lwritten fd_Lwritten
  b_Lwritten : Binds K fd_Lwritten ["_law_pool_here", "_law_land_here", "_law_many", "_law_lots", "_law_place"] []
  g_Lwritten : mg "_law_written" = some (.ref a_Lwritten)
  a_Lworld : Addr
  fd_Lworld : FuncData
  F_Lworld : Fun K "_law_world" "_law_world" s_Lworld a_Lworld fd_Lworld
  b_Lworld : Binds K fd_Lworld ["_law_pool_here", "_law_walkers", "_law_extra", "_law_many"] []
  g_Lworld : mg "_law_world" = some (.ref a_Lworld)
  a_Lsigns : Addr
  fd_Lsigns : FuncData
  F_Lsigns : Fun K "_law_signs" "_law_signs" s_Lsigns a_Lsigns fd_Lsigns
  b_Lsigns : Binds K fd_Lsigns ["_law_rows", "_law_group"] []
  g_Lsigns : mg "_law_signs" = some (.ref a_Lsigns)
  a_Lflat : Addr
  fd_Lflat : FuncData
  F_Lflat : Fun K "_law_flat" "_law_flat" s_Lflat a_Lflat fd_Lflat
  b_Lflat : Binds K fd_Lflat ["_law_rows"] []
  g_Lflat : mg "_law_flat" = some (.ref a_Lflat)
  a_Lcalled : Addr
  fd_Lcalled : FuncData
  F_Lcalled : Fun K "_law_called" "_law_called" s_Lcalled a_Lcalled fd_Lcalled
  b_Lcalled : Binds K fd_Lcalled ["_law_rows", "_law_names_here", "_law_others"] []
  g_Lcalled : mg "_law_called" = some (.ref a_Lcalled)
  a_law : Addr
  fd_law : FuncData
  F_law : Fun K "law" "law" s_law a_law fd_law
  b_law : Binds K fd_law ["_law_script"] []
  g_law : mg "law" = some (.ref a_law)
  a_Atlas_init : Addr
  fd_Atlas_init : FuncData
  e_Atlas_init : Addr
  ee_Atlas_init : ∀ H, SqT K H e_Atlas_init []
  F_Atlas_init : FunD K "__init__" "Atlas.__init__" (defArgs s_Atlas_init) (defBody s_Atlas_init) (defScope s_Atlas_init) [.ref e_Atlas_init] [] a_Atlas_init fd_Atlas_init
  b1_Atlas_init : ∃ ds, Vals [.ref e_Atlas_init] ds ∧ Binds K fd_Atlas_init ["self", "box", "logs"] ds
  b_Atlas_init : Binds K fd_Atlas_init ["self", "box", "logs"] []
  mk_Atlas : Mk K a_Atlas a_Atlas_init
  a_Atlas_log : Addr
  fd_Atlas_log : FuncData
  F_Atlas_log : Fun K "log" "Atlas.log" s_Atlas_log a_Atlas_log fd_Atlas_log
  b_Atlas_log : Binds K fd_Atlas_log ["self", "name"] []
  me_Atlas_log : Meth K a_Atlas "log" a_Atlas_log
  a_Atlas_legs : Addr
  fd_Atlas_legs : FuncData
  F_Atlas_legs : Fun K "legs" "Atlas.legs" s_Atlas_legs a_Atlas_legs fd_Atlas_legs
  b_Atlas_legs : Binds K fd_Atlas_legs ["self"] []
  me_Atlas_legs : Meth K a_Atlas "legs" a_Atlas_legs
  a_Atlas_with_log : Addr
  fd_Atlas_with_log : FuncData
  F_Atlas_with_log : Fun K "with_log" "Atlas.with_log" s_Atlas_with_log a_Atlas_with_log fd_Atlas_with_log
  b_Atlas_with_log : Binds K fd_Atlas_with_log ["self", "name", "log"] []
  me_Atlas_with_log : Meth K a_Atlas "with_log" a_Atlas_with_log
  a_Atlas_without : Addr
  fd_Atlas_without : FuncData
  F_Atlas_without : Fun K "without" "Atlas.without" s_Atlas_without a_Atlas_without fd_Atlas_without
  b_Atlas_without : Binds K fd_Atlas_without ["self", "name"] []
  me_Atlas_without : Meth K a_Atlas "without" a_Atlas_without
  a_Atlas_len : Addr
  fd_Atlas_len : FuncData
  F_Atlas_len : Fun K "__len__" "Atlas.__len__" s_Atlas_len a_Atlas_len fd_Atlas_len
  b_Atlas_len : Binds K fd_Atlas_len ["self"] []
  me_Atlas_len : Meth K a_Atlas "__len__" a_Atlas_len
  g_LETTERS : ∃ t, mg "LETTERS" = some (.str "nesw" t)
  a_STEPS : Addr
  g_STEPS : mg "STEPS" = some (.ref a_STEPS)
  es_STEPS : Array DictEntry
  n_STEPS : Nat
  kd_STEPS : KDict K w a_STEPS es_STEPS n_STEPS
  ns_STEPS : ∀ z : Str, ∃ r, PySem.W.nsIn K a_STEPS z = some r ∧ r.isSome = ((["n", "e", "s", "w"] : List Str).any fun s => s == z)
  v_STEPS_0 : ∃ q, KDct K w a_STEPS "n" (.ref q) ∧ ∀ H, SqT K H q [.int (0), .int (1)]
  v_STEPS_1 : ∃ q, KDct K w a_STEPS "e" (.ref q) ∧ ∀ H, SqT K H q [.int (1), .int (0)]
  v_STEPS_2 : ∃ q, KDct K w a_STEPS "s" (.ref q) ∧ ∀ H, SqT K H q [.int (0), .int (-1)]
  v_STEPS_3 : ∃ q, KDct K w a_STEPS "w" (.ref q) ∧ ∀ H, SqT K H q [.int (-1), .int (0)]
  g_SMALL : ∃ t, mg "SMALL" = some (.str "abcdefghijklmnopqrstuvwxyz" t)
  g_GREAT : ∃ t, mg "GREAT" = some (.str "ABCDEFGHIJKLMNOPQRSTUVWXYZ" t)
  g_LONGEST : ∃ t, mg "LONGEST" = some (.int 8 t)
  a_WORDS_ALONE : Addr
  g_WORDS_ALONE : mg "WORDS_ALONE" = some (.ref a_WORDS_ALONE)
  v_WORDS_ALONE : ∀ H, SqT K H a_WORDS_ALONE [.str "left", .str "right", .str "back", .str "bump", .str "bare", .str "swap"]
  a_WORDS_BEHIND_A_FACE : Addr
  g_WORDS_BEHIND_A_FACE : mg "WORDS_BEHIND_A_FACE" = some (.ref a_WORDS_BEHIND_A_FACE)
  v_WORDS_BEHIND_A_FACE : ∀ H, SqT K H a_WORDS_BEHIND_A_FACE [.str "left", .str "right", .str "back", .str "go", .str "bump", .str "spy"]
  a_QUARTERS : Addr
  g_QUARTERS : mg "QUARTERS" = some (.ref a_QUARTERS)
  es_QUARTERS : Array DictEntry
  n_QUARTERS : Nat
  kd_QUARTERS : KDict K w a_QUARTERS es_QUARTERS n_QUARTERS
  ns_QUARTERS : ∀ z : Str, ∃ r, PySem.W.nsIn K a_QUARTERS z = some r ∧ r.isSome = ((["right", "back", "left"] : List Str).any fun s => s == z)
  v_QUARTERS_0 : KDct K w a_QUARTERS "right" (.int 1)
  v_QUARTERS_1 : KDct K w a_QUARTERS "back" (.int 2)
  v_QUARTERS_2 : KDct K w a_QUARTERS "left" (.int 3)
  a_START : Addr
  g_START : mg "START" = some (.ref a_START)
  v_START : ∃ q0, (∀ H, SqT K H a_START [.ref q0, .str ""]) ∧ (∀ H, SqT K H q0 [.int (0), .int (0)])
  g_HOW_MANY_LOTS : ∃ t, mg "HOW_MANY_LOTS" = some (.int 8 t)
  m_abs : mg "abs" = none
  m_all : mg "all" = none
  m_any : mg "any" = none
  m_bool : mg "bool" = none
  m_enumerate : mg "enumerate" = none
  m_int : mg "int" = none
  m_isinstance : mg "isinstance" = none
  m_len : mg "len" = none
  m_list : mg "list" = none
  m_range : mg "range" = none
  m_sorted : mg "sorted" = none
  m_str : mg "str" = none
  m_tuple : mg "tuple" = none
  m_zip : mg "zip" = none
/-! ### heaps, pools -/
/-- all but what stands at p is as it was -/
def But (p : Addr) (H H' : Hp) : Prop := ∀ b o, b ≠ p → H b = some o → H' b = some o
theorem But.refl (p : Addr) (H : Hp) : But p H H := fun _ _ _ h => h
theorem But.trans {p : Addr} {H H1 H2 : Hp} (a : But p H H1) (b : But p H1 H2) : But p H H2 := fun c o hc h => b c o hc (a c o hc h)
theorem But.of {p : Addr} {H H' : Hp} (a : Same H H') : But p H H' := fun b o _ h => a b o h
theorem But.upd {p : Addr} {H H' : Hp} {o : HO} (a : But p H H') : But p H (upd H' p o) := fun b u hb h => by
  rw [upd_ne hb]
  exact a b u hb h
theorem same_upd {H : Hp} {p : Addr} {o : HO} (h : H p = none) : Same H (upd H p o) := fun b x e => by
  rw [upd_ne (ne_of_none e h)]
  exact e
/-- changed at a new place alone -/
theorem But.same {p : Addr} {H H1 H2 : Hp} (n : H p = none) (a : Same H H1) (b : But p H1 H2) : Same H H2 := fun c o h => b c o (ne_of_none h n) (a c o h)
theorem But.free {p l : Addr} {H H1 : Hp} (a : But p H H1) (n : l ≠ p) (h : H1 l = none) : H l = none := by
  cases e : H l with
  | none => rfl
  | some o =>
    rw [a l o n e] at h
    cases h
/-- a change at a place that H doesn't know -/
theorem But.mut {p l : Addr} {H H1 : Hp} {o : HO} (a : But p H H1) (n : H l = none) : But p H (L2.upd H1 l o) := fun b u hb h => by
  rw [upd_ne (ne_of_none h n)]
  exact a b u hb h
/-- the spring of draws: four whole numbers, the first not below nought -/
def Pool (H : Hp) (p : Addr) : Prop := ∃ l c k n : Int, 0 ≤ l ∧ H p = some (.lst [.int l, .int c, .int k, .int n])
theorem Pool.same {H H' : Hp} {p : Addr} (h : Pool H p) (e : Same H H') : Pool H' p := by
  obtain ⟨l, c, k, n, h0, h1⟩ := h
  exact ⟨l, c, k, n, h0, e _ _ h1⟩
theorem Pool.ne_tup {H : Hp} {p q : Addr} {xs : List V} (h : Pool H p) (e : H q = some (.tup xs)) : q ≠ p := by
  obtain ⟨l, c, k, n, h0, h1⟩ := h
  exact ne_of e h1 (by intro z; cases z)
theorem Pool.ne_new {H : Hp} {p q : Addr} (h : Pool H p) (e : H q = none) : q ≠ p := by
  obtain ⟨l, c, k, n, h0, h1⟩ := h
  intro z
  rw [z, h1] at e
  cases e
theorem Pool.upd {H : Hp} {p q : Addr} {o : HO} (h : Pool H p) (e : q ≠ p) : Pool (L2.upd H q o) p := by
  obtain ⟨l, c, k, n, h0, h1⟩ := h
  refine ⟨l, c, k, n, h0, ?_⟩
  rw [upd_ne (Ne.symm e)]
  exact h1
theorem seq_but {K : PySem.W.Frag} {H H' : Hp} {p a : Addr} {xs : List V} (e : But p H H') (n : a ≠ p) (h : SqL K H a xs) : SqL K H' a xs := by
  rcases h with (h | ⟨o, h⟩) | h
  · exact .inl (.inl (e _ _ n h))
  · exact .inl (.inr ⟨o, e _ _ n h⟩)
  · exact .inr h
theorem abs_if (n : Int) : 0 ≤ (if n < 0 then -n else n) := by
  split <;> omega
local macro_rules | `(tactic| walk_at "go") => `(tactic| repeat (first
  | (with_reducible exact rfl)
  | (refine ⟨_, _, rfl, rfl, ?_⟩)
  | (refine ⟨_, rfl, ?_⟩)
  | (refine ⟨rfl, ?_⟩)))
def spPool (K : PySem.W.Frag) : Sp := fun vs H Q _ => ∃ (a : Addr) (ns : List Int) (k : Int), vs = [.ref a, .int k] ∧ SqL K H a (ns.map V.int) ∧ ns.length ≤ 63 ∧ 0 ≤ k ∧ ∀ H' p, Same H H' → H p = none → Pool H' p → Q (.ref p) H'
def spTake : Sp := fun vs H Q _ => ∃ (p : Addr) (m : Int), vs = [.ref p, .int m] ∧ 0 < m ∧ m < 2 ^ 200 ∧ Pool H p ∧ ∀ H' (r : Int), But p H H' → Pool H' p → 0 ≤ r → r < m → Q (.int r) H'
theorem iteY {c A B : Prop} [Decidable c] (hc : c) (h : A) : if decide c = true then A else B := by
  rw [if_pos (decide_eq_true hc)]
  exact h
theorem iteYn {c A B : Prop} [Decidable c] (hc : c) (h : B) : if (!decide c) = true then A else B := by
  rw [decide_eq_true hc]
  exact h
theorem iteDN {b : Bool} {A B : Prop} (hb : b = false) (h : B) : if b = true then A else B := by
  rw [hb]
  exact h
theorem iteDY {b : Bool} {A B : Prop} (hb : b = true) (h : A) : if b = true then A else B := by
  rw [hb]
  exact h
theorem iteNE {d e : PyData} {A B : Prop} (h : d = e) (hs : SeqAt.shaped d = true) (hB : B) : if (!PyData.eqv d e) = true then A else B := by
  subst h
  rw [SeqAt.eqv_refl d (SeqAt.canLay_of_shaped hs)]
  exact hB
theorem ne_no {x y : V} (e : x = y) : (!decide (x = y)) = false := by
  rw [decide_eq_true e]
  rfl
theorem iteN {x y : V} {A B : Prop} (e : x = y) (h : B) : if (!decide (x = y)) = true then A else B := by
  rw [ne_no e, if_neg Bool.false_ne_true]
  exact h
section
variable {P : Program} {w : World} {K : PySem.W.Frag} {mg : Str → Option Value} {base : Heap}
theorem ok_Lpool (T : Top w K mg) : FnOk P w K mg base CX0 1 T.a_Lpool T.fd_Lpool ["_law_script", "_law_k"] (spPool K) := by
  refine T.F_Lpool.ok sc_Lpool (fun vs H Q E h => ?_) (fun cdv A outer s H vs Q E hr h => ?_)
  · obtain ⟨a, ns, k, rfl, _⟩ := h
    rfl
  · obtain ⟨a, ns, k, rfl, hS, hlen, hk, q⟩ := h
    refine ⟨_, (pss_cons (ps_set (i := 2) sc_Lpool.nd rfl (.inl rfl) pe_int)
      (Evl.pss_cut (ps_if (pt_cmpR op_gt (pe_callB call_len_seq (by rfl) T.m_len (by decide +kernel) (pa_cons (pv 0) pa_nil)) pe_int (nomark _)) (pss_one (ps_set (i := 2) sc_Lpool.nd rfl (.inl rfl) (pe_ix ix_list (pv 0) (pe_op op_mod (pv 1) (pe_callB call_len_seq (by rfl) T.m_len (by decide +kernel) (pa_cons (pv 0) pa_nil))) (fun _ _ => rfl)))) pss_nil)
      (pss_cons (ps_set (i := 3) sc_Lpool.nd rfl (.inl rfl) pe_int)
      (pss_cons (ps_if (PW.pt (pw_and (pt_cmpR op_lt (pv 1) (pe_callB call_len_seq (by rfl) T.m_len (by decide +kernel) (pa_cons (pv 0) pa_nil)) (nomark _)) (pw_and1 (pt_cmpR op_ge (pe_callB call_abs (by rfl) T.m_abs (by decide +kernel) (pa_cons (pv 2) pa_nil)) (pe_op op_pow pe_int pe_int) (nomark _))))) (pss_one (ps_set (i := 3) sc_Lpool.nd rfl (.inl rfl) (pe_callB call_abs (by rfl) T.m_abs (by decide +kernel) (pa_cons (pv 2) pa_nil)))) pss_nil)
      (pss_one (ps_ret (pe_lst (pa_cons (pv 3) (pa_cons (pv 2) (pa_cons (pv 1) (pa_cons pe_int pa_nil))))))))))), ?_⟩
    have hL : ((ns.map V.int).length : Int) = ns.length := by rw [List.length_map]
    have fin : ∀ (l c : Int), 0 ≤ l → ∀ p, H p = none → Q (.ref p) (upd H p (.lst [.int l, .int c, .int k, .int 0])) := fun l c hl p hp =>
      q _ p (same_upd hp) hp ⟨l, c, k, 0, hl, upd_same⟩
    refine ⟨fun σ H' => H' = H ∧ ∃ c : Int, σ = [some (.ref a), some (.int k), some (.int c), none], ?_, ?_⟩
    · refine ⟨.ref a, rfl, a, ns.map V.int, rfl, .inl hS, _, _, rfl, rfl, _, rfl, ite2 (fun e => ?_) (fun e => ?_)⟩
      · have e0 : (0 : Int) < ((ns.map V.int).length : Int) := of_decide_eq_true e
        refine ⟨.ref a, rfl, .int k, rfl, .ref a, rfl, a, ns.map V.int, rfl, .inl hS, k, _, rfl, rfl, e0, ?_⟩
        have h1 := Int.emod_nonneg k (show ((ns.map V.int).length : Int) ≠ 0 by omega)
        have h2 := Int.emod_lt_of_pos k e0
        obtain ⟨j, hj⟩ : ∃ j : Nat, k % ((ns.map V.int).length : Int) = j := ⟨(k % ((ns.map V.int).length : Int)).toNat, by omega⟩
        have hj2 : j < ns.length := by omega
        have g : (ns.map V.int)[j]? = some (.int ns[j]) := by
          rw [List.getElem?_map, List.getElem?_eq_getElem hj2]
          rfl
        have gi : atI (ns.map V.int) (k % ((ns.map V.int).length : Int)) = some (.int ns[j]) := by
          rw [hj]
          exact atI_nat g
        exact ⟨a, _, _, _, rfl, rfl, hS, gi, rfl, _, rfl⟩
      · exact ⟨rfl, 0, rfl⟩
    · rintro σ H' ⟨rfl, c, rfl⟩
      refine ⟨.int k, rfl, .ref a, rfl, a, ns.map V.int, rfl, .inl hS, _, _, rfl, rfl, _, rfl, ite2 (fun e => ?_) (fun e => ?_)⟩
      · refine ⟨.int c, rfl, c, rfl, _, _, rfl, rfl, ⟨by decide, by decide, by decide⟩, _, _, rfl, rfl, _, rfl, ite2 (fun e => ?_) (fun e => ?_)⟩
        · exact ⟨.int c, rfl, c, rfl, _, rfl, _, rfl, _, rfl, by show 4 ≤ sizeLine; decide, fin _ c (abs_if c)⟩
        · exact ⟨_, rfl, _, rfl, _, rfl, by show 4 ≤ sizeLine; decide, fin 0 c (by decide)⟩
      · refine ite2 (fun e2 => by cases e2) (fun _ => ?_)
        exact ⟨_, rfl, _, rfl, _, rfl, by show 4 ≤ sizeLine; decide, fin 0 c (by decide)⟩
def primes : List Int := [2147483629, 2147483587, 2147483579, 2147483563, 2147483549, 2147483543, 2147483497, 2147483489]
theorem primes_at {i : Int} (h0 : 0 ≤ i) (h1 : i < 8) : ∃ p : Int, atI (primes.map V.int) i = some (.int p) ∧ 0 < p ∧ p < 2147483647 := by
  obtain rfl | rfl | rfl | rfl | rfl | rfl | rfl | rfl : i = 0 ∨ i = 1 ∨ i = 2 ∨ i = 3 ∨ i = 4 ∨ i = 5 ∨ i = 6 ∨ i = 7 := by omega
  all_goals exact ⟨_, rfl, by decide, by decide⟩
theorem pow_ok (a : Int) : CPow (a % 2147483647) 5 := by
  have h1 := Int.emod_nonneg a (show (2147483647 : Int) ≠ 0 by decide)
  have h2 := Int.emod_lt_of_pos a (show (0 : Int) < 2147483647 by decide)
  exact ⟨by decide, by decide, by omega⟩
theorem ok_Ltake (T : Top w K mg) : FnOk P w K mg base CX0 1 T.a_Ltake T.fd_Ltake ["_law_pool_here", "_law_wide"] spTake := by
  refine T.F_Ltake.ok sc_Ltake (fun vs H Q E h => ?_) (fun cdv A outer s H vs Q E hr h => ?_)
  · obtain ⟨p, m, rfl, _⟩ := h
    rfl
  · obtain ⟨p, m, rfl, hm, hb, ⟨l, c, k, n, hl, hp⟩, q⟩ := h
    refine ⟨_, (pss_cons (ps_if (pt_cmpR op_gt (pe_ix ix_list (pv 0) pe_int (fun _ _ => rfl)) pe_int (nomark _)) (pss_cons (ps_set (i := 2) sc_Ltake.nd rfl (.inl rfl) (pe_op op_mod (pe_ix ix_list (pv 0) pe_int (fun _ _ => rfl)) (pv 1)))
      (pss_cons (ps_asg (pe_op op_fdivW (pe_ix ix_list (pv 0) pe_int (fun _ _ => rfl)) (pv 1)) (pg_sub (pv 0) pe_int set_list))
      (pss_one (ps_ret (pv 2))))) pss_nil)
      (pss_cons (ps_asg (pe_op op_add (pe_ix ix_list (pv 0) pe_int (fun _ _ => rfl)) pe_int) (pg_sub (pv 0) pe_int set_list))
      (pss_cons (ps_set (i := 3) sc_Ltake.nd rfl (.inl rfl) (pe_lst (pa_cons pe_int (pa_cons pe_int (pa_cons pe_int (pa_cons pe_int (pa_cons pe_int (pa_cons pe_int (pa_cons pe_int (pa_cons pe_int pa_nil))))))))))
      (pss_cons (ps_set (i := 4) sc_Ltake.nd rfl (.inl rfl) (pe_op op_mod (pe_op op_add (pe_op op_add (pe_op op_add (pe_ix ix_list (pv 0) pe_int (fun _ _ => rfl)) (pe_op op_mul pe_int (pe_ix ix_list (pv 0) pe_int (fun _ _ => rfl)))) (pe_op op_mul pe_int (pe_ix ix_list (pv 0) pe_int (fun _ _ => rfl)))) pe_int) pe_int))
      (pss_cons (ps_set (i := 4) sc_Ltake.nd rfl (.inl rfl) (pe_op op_mod (pe_op op_pow (pv 4) pe_int) (pe_ix ix_list (pv 3) (pe_op op_mod (pe_ix ix_list (pv 0) pe_int (fun _ _ => rfl)) pe_int) (fun _ _ => rfl))))
      (pss_cons (ps_set (i := 5) sc_Ltake.nd rfl (.inl rfl) (pe_op op_mod (pe_op op_add (pe_op op_add (pv 4) (pe_op op_mul pe_int (pe_ix ix_list (pv 0) pe_int (fun _ _ => rfl)))) (pe_ix ix_list (pv 0) pe_int (fun _ _ => rfl))) pe_int))
      (pss_one (ps_ret (pe_op op_mod (pe_op op_add (pe_op op_mul (pe_op op_mod (pe_op op_pow (pv 5) pe_int) pe_int) pe_int) (pv 4)) (pv 1)))))))))), ?_⟩
    refine ⟨.ref p, rfl, p, _, 0, .int l, rfl, rfl, .inl (.inl hp), rfl, _, _, rfl, rfl, _, rfl, ite2 (fun e => ?_) (fun e => ?_)⟩
    · refine ⟨.ref p, rfl, p, _, 0, .int l, rfl, rfl, .inl (.inl hp), rfl, .int m, rfl, l, m, rfl, rfl, hm, ?_⟩
      refine ⟨.ref p, rfl, p, _, 0, .int l, rfl, rfl, .inl (.inl hp), rfl, .int m, rfl, l, m, rfl, rfl, wide_div (b := 200) hm (by omega) (by decide) (by decide), ?_⟩
      refine ⟨.ref p, rfl, p, _, 0, 0, rfl, rfl, hp, rfl, ?_⟩
      refine ⟨_, rfl, q _ _ (But.refl p H).upd ⟨l / m, c, k, n, Int.ediv_nonneg hl (by omega), ?_⟩ (Int.emod_nonneg l (by omega)) (Int.emod_lt_of_pos l hm)⟩
      exact upd_same
    · refine ⟨.ref p, rfl, p, _, 3, .int n, rfl, rfl, .inl (.inl hp), rfl, n, 1, rfl, rfl, .ref p, rfl, p, _, 3, 3, rfl, rfl, hp, rfl, ?_⟩
      refine ⟨by show 8 ≤ sizeLine; decide, fun o no => ?_⟩
      have hop : o ≠ p := fun z => by
        rw [z, upd_same] at no
        cases no
      have h3 : (upd (upd H p (.lst [.int l, .int c, .int k, .int (n + 1)])) o (.lst (primes.map V.int))) p = some (.lst [.int l, .int c, .int k, .int (n + 1)]) := by
        rw [upd_ne (Ne.symm hop), upd_same]
      have h4 : (upd (upd H p (.lst [.int l, .int c, .int k, .int (n + 1)])) o (.lst (primes.map V.int))) o = some (.lst (primes.map V.int)) := upd_same
      have bt : But p H (upd (upd H p (.lst [.int l, .int c, .int k, .int (n + 1)])) o (.lst (primes.map V.int))) := fun b u hb h => by
        have nb : b ≠ o := fun z => by
          have : (upd H p (.lst [.int l, .int c, .int k, .int (n + 1)])) b = some u := by
            rw [upd_ne hb]
            exact h
          rw [z] at this
          exact absurd (this.symm.trans no) (by intro z; cases z)
        rw [upd_ne nb, upd_ne hb]
        exact h
      have i8 : 0 ≤ (n + 1) % 8 := Int.emod_nonneg _ (by decide)
      have j8 : (n + 1) % 8 < 8 := Int.emod_lt_of_pos _ (by decide)
      obtain ⟨pr, hpr, pr0, pr1⟩ := primes_at i8 j8
      refine ⟨.ref p, rfl, p, _, 1, .int c, rfl, rfl, .inl (.inl h3), rfl, .ref p, rfl, p, _, 2, .int k, rfl, rfl, .inl (.inl h3), rfl, 7919, k, rfl, rfl, .inl ⟨by decide, by decide⟩, _, _, rfl, rfl, .ref p, rfl, p, _, 3, .int (n + 1), rfl, rfl, .inl (.inl h3), rfl, 104729, n + 1, rfl, rfl, .inl ⟨by decide, by decide⟩, _, _, rfl, rfl, _, _, rfl, rfl, _, _, rfl, rfl, (by show (0 : Int) < 2147483647; decide), ?_⟩
      refine ⟨_, rfl, _, _, rfl, rfl, pow_ok _, .ref o, rfl, .ref p, rfl, p, _, 3, .int (n + 1), rfl, rfl, .inl (.inl h3), rfl, _, _, rfl, rfl, (by show (0 : Int) < 8; decide), o, _, _, .int pr, rfl, rfl, .inl (.inl h4), hpr, _, _, rfl, rfl, pr0, ?_⟩
      refine ⟨_, rfl, .ref p, rfl, p, _, 2, .int k, rfl, rfl, .inl (.inl h3), rfl, 40692, k, rfl, rfl, .inl ⟨by decide, by decide⟩, _, _, rfl, rfl, .ref p, rfl, p, _, 3, .int (n + 1), rfl, rfl, .inl (.inl h3), rfl, _, _, rfl, rfl, _, _, rfl, rfl, (by show (0 : Int) < 2147483647; decide), ?_⟩
      refine ⟨_, rfl, _, _, rfl, rfl, pow_ok _, _, _, rfl, rfl, (by show (0 : Int) < 2147483647; decide), _, _, rfl, rfl, .inr ⟨by decide, by decide⟩, _, rfl, _, _, rfl, rfl, .int m, rfl, _, _, rfl, rfl, hm, ?_⟩
      exact q _ _ bt ⟨l, c, k, n + 1, hl, h3⟩ (Int.emod_nonneg _ (by omega)) (Int.emod_lt_of_pos _ hm)
/-! ### data alike -/
theorem sqt_same {K : PySem.W.Frag} {H H' : Hp} {a : Addr} {xs : List V} (e : Same H H') (h : SqT K H a xs) : SqT K H' a xs := Evl.ex_t (show Evl.Ex H H' from e) h
mutual
theorem dp_same {K : PySem.W.Frag} {H H' : Hp} (e : Same H H') : ∀ (d : PyData) (v : V), Dp K H v d → Dp K H' v d
  | .none, _, h => by cases h; exact .non
  | .bool b, _, h => by cases h; exact .bl b
  | .int i, _, h => by cases h; exact .int i
  | .str x, _, h => by cases h; exact .str x
  | .list ds, _, h => by
    cases h with
    | lst hs ha => exact .lst (e.seq hs) (dpa_same e ds _ ha)
  | .tuple ds, _, h => by
    cases h with
    | tup hs ha => exact .tup (sqt_same e hs) (dpa_same e ds _ ha)
  | .dict _, _, h => by cases h
theorem dpa_same {K : PySem.W.Frag} {H H' : Hp} (e : Same H H') : ∀ (ds : List PyData) (vs : List V), DpAll K H vs ds → DpAll K H' vs ds
  | [], _, h => by cases h; exact .nil
  | d :: ds, _, h => by
    cases h with
    | cons h1 h2 => exact .cons (dp_same e d _ h1) (dpa_same e ds _ h2)
end
theorem dpa_len {K : PySem.W.Frag} {H : Hp} : ∀ (ds : List PyData) (vs : List V), DpAll K H vs ds → vs.length = ds.length
  | [], _, h => by cases h; rfl
  | d :: ds, _, h => by
    cases h with
    | cons h1 h2 =>
      rw [List.length_cons, List.length_cons, dpa_len ds _ h2]
theorem dpa_at {K : PySem.W.Frag} {H : Hp} : ∀ (ds : List PyData) (vs : List V), DpAll K H vs ds → ∀ (i : Nat) (v : V), vs[i]? = some v → ∃ d, ds[i]? = some d ∧ Dp K H v d
  | [], _, h, i, v, e => by cases h; cases e
  | d :: ds, _, h, i, v, e => by
    cases h with
    | cons h1 h2 =>
      cases i with
      | zero =>
        cases e
        exact ⟨d, rfl, h1⟩
      | succ j => exact dpa_at ds _ h2 j v e
theorem ty_tup {K : PySem.W.Frag} {H : Hp} {a : Addr} {xs : List V} (h : SqT K H a xs) : TyX K H (.ref a) (.type "tuple") := by
  rcases h with (h | ⟨o, h⟩) | ⟨o, its, n, lk, hc, _⟩
  · exact .base (.tup h)
  · exact .fTuple h
  · exact .kTuple lk hc
/-- none, truths, whole numbers, texts, and tuples of these, at most n deep -/
def okD : Nat → PyData → Bool
  | _, .none => true
  | _, .bool _ => true
  | _, .int _ => true
  | _, .str _ => true
  | n + 1, .tuple ds => decide (ds.length ≤ 1000) && ds.all fun d => okD n d
  | _, _ => false
theorem walk_zipT {K : PySem.W.Frag} {a b : Addr} {xs ys : List V} {n : Nat} (hn : n = min xs.length ys.length) : Walk (RZ.ItzT K a b) n (fun H => SqT K H a xs ∧ SqT K H b ys) (YPair (fun i => xs[i]?) (fun i => ys[i]?)) where
  goes := fun i H lt ⟨p, q⟩ => ⟨xs, ys, _, _, p, q, List.getElem?_eq_getElem (by omega), List.getElem?_eq_getElem (by omega)⟩
  stops := fun H ⟨p, q⟩ => ⟨xs, ys, p, q, by omega⟩
  yields := fun i H v H' _ ⟨p, q⟩ ⟨T, x, y, e1, e2, e3, e4, e5⟩ => ⟨T, x, y, e1, e2, e3, e4 xs p, e5 ys q⟩
theorem all_true : ∀ n : Nat, (List.replicate n true).all id = true
  | 0 => rfl
  | n + 1 => by rw [List.replicate_succ, List.all_cons, all_true n]; rfl
def spWhole : Sp := fun vs H Q _ => ∃ i : Int, vs = [.int i] ∧ Q (.bl true) H
/-! ### data, whatever else stands in the heap -/
def isSeq : HO → Bool
  | .lst _ => true
  | .tup _ => true
  | .frz _ _ => true
  | _ => false
/-- all lists and tuples as they were -/
def Seqs (H H' : Hp) : Prop := ∀ b o, isSeq o = true → H b = some o → H' b = some o
theorem Seqs.of {H H' : Hp} (e : Same H H') : Seqs H H' := fun b o _ h => e b o h
theorem Seqs.trans {H H1 H2 : Hp} (a : Seqs H H1) (b : Seqs H1 H2) : Seqs H H2 := fun c o z h => b c o z (a c o z h)
theorem Seqs.upd {H : Hp} {a : Addr} {o u : HO} (e : H a = some u) (n : isSeq u = false) : Seqs H (L2.upd H a o) := fun b v z h => by
  rw [upd_ne (fun y => by rw [y, e] at h; cases h; rw [n] at z; cases z)]
  exact h
theorem Seqs.new {H : Hp} {a : Addr} {o : HO} (e : H a = none) : Seqs H (L2.upd H a o) := Seqs.of (same_upd e)
theorem seqs_l {K : PySem.W.Frag} {H H' : Hp} {a : Addr} {xs : List V} (e : Seqs H H') (h : SqL K H a xs) : SqL K H' a xs := by
  rcases h with (h | ⟨o, h⟩) | h
  · exact .inl (.inl (e _ _ rfl h))
  · exact .inl (.inr ⟨o, e _ _ rfl h⟩)
  · exact .inr h
theorem seqs_t {K : PySem.W.Frag} {H H' : Hp} {a : Addr} {xs : List V} (e : Seqs H H') (h : SqT K H a xs) : SqT K H' a xs := by
  rcases h with (h | ⟨o, h⟩) | h
  · exact .inl (.inl (e _ _ rfl h))
  · exact .inl (.inr ⟨o, e _ _ rfl h⟩)
  · exact .inr h
mutual
theorem dp_seqs {K : PySem.W.Frag} {H H' : Hp} (e : Seqs H H') : ∀ (d : PyData) (v : V), Dp K H v d → Dp K H' v d
  | .none, _, h => by cases h; exact .non
  | .bool b, _, h => by cases h; exact .bl b
  | .int i, _, h => by cases h; exact .int i
  | .str x, _, h => by cases h; exact .str x
  | .list ds, _, h => by
    cases h with
    | lst hs ha => exact .lst (seqs_l e hs) (dpa_seqs e ds _ ha)
  | .tuple ds, _, h => by
    cases h with
    | tup hs ha => exact .tup (seqs_t e hs) (dpa_seqs e ds _ ha)
  | .dict _, _, h => by cases h
theorem dpa_seqs {K : PySem.W.Frag} {H H' : Hp} (e : Seqs H H') : ∀ (ds : List PyData) (vs : List V), DpAll K H vs ds → DpAll K H' vs ds
  | [], _, h => by cases h; exact .nil
  | d :: ds, _, h => by
    cases h with
    | cons h1 h2 => exact .cons (dp_seqs e d _ h1) (dpa_seqs e ds _ h2)
end
theorem dpa_snoc {K : PySem.W.Frag} {H : Hp} {v : V} {d : PyData} (h : Dp K H v d) : ∀ (ds : List PyData) (vs : List V), DpAll K H vs ds → DpAll K H (vs ++ [v]) (ds ++ [d])
  | [], _, a => by cases a; exact .cons h .nil
  | x :: ds, _, a => by
    cases a with
    | cons h1 h2 => exact .cons h1 (dpa_snoc h ds _ h2)
/-- the heap without the places of X -/
noncomputable def wo (H : Hp) (X : Addr → Prop) : Hp := fun b => by
  classical
  exact if X b then none else H b
theorem wo_in {H : Hp} {X : Addr → Prop} {b : Addr} (h : ¬ X b) : wo H X b = H b := by
  unfold wo
  exact if_neg h
theorem wo_some {H : Hp} {X : Addr → Prop} {b : Addr} {o : HO} (h : wo H X b = some o) : ¬ X b ∧ H b = some o := by
  unfold wo at h
  by_cases hx : X b
  · rw [if_pos hx] at h
    cases h
  · rw [if_neg hx] at h
    exact ⟨hx, h⟩
theorem wo_same {H : Hp} {X : Addr → Prop} : Same (wo H X) H := fun b o h => (wo_some h).2
theorem wo_none {H : Hp} : wo H (fun _ => False) = H := by
  funext b
  exact wo_in (fun h => h)
/-! ### kinds of things -/
theorem ty_lst {K : PySem.W.Frag} {H : Hp} {a : Addr} {xs : List V} (h : SqL K H a xs) : TyX K H (.ref a) (.type "list") := by
  rcases h with (h | ⟨o, h⟩) | ⟨o, its, n, lk, hc, _⟩
  · exact .base (.lst h)
  · exact .base (.frz h)
  · exact .kList lk hc
theorem kit_any2 {K : PySem.W.Frag} {t a b : String} {x y : Bool} (h1 : kitB t a = some x) (h2 : kitB t b = some y) : PySem.W.kitAny K (.type t) [.type a, .type b] = some (x || y) := by
  unfold PySem.W.kitAny
  rw [kit_ty h1]
  cases x with
  | true => rfl
  | false =>
    unfold PySem.W.kitAny
    rw [kit_ty h2]
    cases y <;> rfl
/-- the type's name -/
def tyD : PyData → String
  | .none => "NoneType"
  | .bool _ => "bool"
  | .int _ => "int"
  | .str _ => "str"
  | .list _ => "list"
  | .tuple _ => "tuple"
  | .dict _ => "dict"
theorem ty_dp {K : PySem.W.Frag} {H : Hp} {v : V} {d : PyData} (h : Dp K H v d) : TyX K H v (.type (tyD d)) := by
  cases h with
  | non => exact .base .non
  | bl b => exact .base (.bl b)
  | int i => exact .base (.int i)
  | str z => exact .base (.str z)
  | lst h _ => exact ty_lst h
  | tup h _ => exact ty_tup h
def seqD : PyData → Option (List PyData)
  | .list ds => some ds
  | .tuple ds => some ds
  | _ => none
def strD : PyData → Bool
  | .str _ => true
  | _ => false
theorem kit_seq (d : PyData) : ∃ x y, kitB (tyD d) "tuple" = some x ∧ kitB (tyD d) "list" = some y ∧ (x || y) = (seqD d).isSome := by
  cases d with
  | list ds => exact ⟨false, true, by show kitB "list" "tuple" = some false; decide +kernel, by show kitB "list" "list" = some true; decide +kernel, rfl⟩
  | tuple ds => exact ⟨true, false, by show kitB "tuple" "tuple" = some true; decide +kernel, by show kitB "tuple" "list" = some false; decide +kernel, rfl⟩
  | none => exact ⟨false, false, by show kitB "NoneType" "tuple" = some false; decide +kernel, by show kitB "NoneType" "list" = some false; decide +kernel, rfl⟩
  | bool b => exact ⟨false, false, by show kitB "bool" "tuple" = some false; decide +kernel, by show kitB "bool" "list" = some false; decide +kernel, rfl⟩
  | int i => exact ⟨false, false, by show kitB "int" "tuple" = some false; decide +kernel, by show kitB "int" "list" = some false; decide +kernel, rfl⟩
  | str z => exact ⟨false, false, by show kitB "str" "tuple" = some false; decide +kernel, by show kitB "str" "list" = some false; decide +kernel, rfl⟩
  | dict z => exact ⟨false, false, by show kitB "dict" "tuple" = some false; decide +kernel, by show kitB "dict" "list" = some false; decide +kernel, rfl⟩
theorem kit_str (d : PyData) : kitB (tyD d) "str" = some (strD d) := by
  cases d with
  | list ds => show kitB "list" "str" = some false; decide +kernel
  | tuple ds => show kitB "tuple" "str" = some false; decide +kernel
  | none => show kitB "NoneType" "str" = some false; decide +kernel
  | bool b => show kitB "bool" "str" = some false; decide +kernel
  | int i => show kitB "int" "str" = some false; decide +kernel
  | str z => show kitB "str" "str" = some true; decide +kernel
  | dict z => show kitB "dict" "str" = some false; decide +kernel
def SqA (K : PySem.W.Frag) (H : Hp) (a : Addr) (xs : List V) : Prop := SqL K H a xs ∨ SqT K H a xs
theorem SqA.same {K : PySem.W.Frag} {H H' : Hp} {a : Addr} {xs : List V} (e : Same H H') (h : SqA K H a xs) : SqA K H' a xs := h.elim (fun h => .inl (e.seq h)) (fun h => .inr (sqt_same e h))
theorem seq_dp {K : PySem.W.Frag} {H : Hp} {v : V} {d : PyData} {ds : List PyData} (h : Dp K H v d) (e : seqD d = some ds) : ∃ a xs, v = .ref a ∧ SqA K H a xs ∧ DpAll K H xs ds := by
  cases h with
  | lst h a => cases e; exact ⟨_, _, rfl, .inl h, a⟩
  | tup h a => cases e; exact ⟨_, _, rfl, .inr h, a⟩
  | _ => cases e
theorem ixA {K : PySem.W.Frag} {H : Hp} {a : Addr} {xs : List V} {j : Nat} {v : V} {Q : VK} (h : SqA K H a xs) (hj : xs[j]? = some v) (q : Q v H) : rIx K (.ref a) (.int (j : Int)) H Q :=
  h.elim (fun h => .inl ⟨a, xs, j, v, rfl, rfl, h, atI_nat hj, q⟩) (fun h => .inr (.inl ⟨a, xs, j, v, rfl, rfl, h, atI_nat hj, q⟩))
theorem kpA {K : PySem.W.Frag} {H : Hp} {a : Addr} {xs : List V} (h : SqA K H a xs) : (∀ H', Same H H' → SqL K H' a xs) ∨ (∀ H', Same H H' → SqT K H' a xs) := h.elim (fun h => .inl fun _ s => s.seq h) (fun h => .inr fun _ s => sqt_same s h)
/-! ### texts -/
abbrev SMALLs : Str := PySem.Str.ofString "abcdefghijklmnopqrstuvwxyz"
abbrev GREATs : Str := PySem.Str.ofString "ABCDEFGHIJKLMNOPQRSTUVWXYZ"
def smC (c : Nat) : Bool := decide (c ∈ SMALLs.cps.toList)
def grC (c : Nat) : Bool := decide (c ∈ GREATs.cps.toList)
def shL (cs : List Nat) : Bool := decide (1 ≤ (cs.length : Int)) && decide ((cs.length : Int) ≤ 8)
def nmL (cs : List Nat) : Bool := shL cs && cs.all smC
def loL : List Nat → Bool
  | [] => false
  | c :: r => shL (c :: r) && (grC c && r.all smC)
def nmV : V → Bool
  | .str z => nmL z.cps.toList
  | _ => false
def loV : V → Bool
  | .str z => loL z.cps.toList
  | _ => false
def sgV (v : V) : Bool := nmV v || loV v
def shV : V → Bool
  | .str z => shL z.cps.toList
  | _ => false
/-- a thing: a text that is not too long, or no text -/
def Th (K : PySem.W.Frag) (H : Hp) (v : V) : Prop := (∃ z : Str, v = .str z ∧ z.length ≤ 1000) ∨ ((∀ z, v ≠ .str z) ∧ ∃ t, TyX K H v (.type t) ∧ kitB t "str" = some false)
theorem tyx_same {K : PySem.W.Frag} {H H' : Hp} {v : V} {t : Value} (e : Same H H') (h : TyX K H v t) : TyX K H' v t := by
  cases h with
  | base b =>
    cases b with
    | non => exact .base .non
    | bl x => exact .base (.bl x)
    | int i => exact .base (.int i)
    | str x => exact .base (.str x)
    | flt x => exact .base (.flt x)
    | lst h => exact .base (.lst (e _ _ h))
    | frz h => exact .base (.frz (e _ _ h))
    | tup h => exact .base (.tup (e _ _ h))
    | dK h => exact .base (.dK (e _ _ h))
    | dT h => exact .base (.dT (e _ _ h))
    | ins h a b c d f => exact .base (.ins (e _ _ h) a b c d f)
  | byt b => exact .byt b
  | set h => exact .set (e _ _ h)
  | kList h c => exact .kList h c
  | kTuple h c => exact .kTuple h c
  | kDict h c => exact .kDict h c
  | fTuple h => exact .fTuple (e _ _ h)
  | fDict h => exact .fDict (e _ _ h)
theorem Th.same {K : PySem.W.Frag} {H H' : Hp} {v : V} (e : Same H H') (h : Th K H v) : Th K H' v := by
  rcases h with h | ⟨n, t, ty, k⟩
  · exact .inl h
  · exact .inr ⟨n, t, tyx_same e ty, k⟩
theorem nmV_no {v : V} (h : ∀ z, v ≠ .str z) : nmV v = false ∧ loV v = false ∧ shV v = false := by
  cases v with
  | str z => exact absurd rfl (h z)
  | _ => exact ⟨rfl, rfl, rfl⟩
theorem len_toList (z : Str) : z.cps.toList.length = z.length := Array.length_toList
theorem thou {n : Nat} (h : n ≤ 1000) : n ≤ sizeLine := Nat.le_trans h (by decide)
def spShort (K : PySem.W.Frag) : Sp := fun vs H Q _ => ∃ v, vs = [v] ∧ Th K H v ∧ Q (.bl (shV v)) H
theorem s0 : PySem.Str.ofString "" = (⟨#[]⟩ : Str) := by decide +kernel
theorem ok_is_short_text (T : Top w K mg) : FnOk P w K mg base CX0 1 T.a_is_short_text T.fd_is_short_text ["thing"] (spShort K) := by
  refine T.F_is_short_text.ok sc_is_short_text (fun vs H Q E h => ?_) (fun cdv A outer s H vs Q E hr h => ?_)
  · obtain ⟨v, rfl, _⟩ := h
    rfl
  · obtain ⟨v, rfl, hv, q⟩ := h
    refine ⟨_, (pss_one (ps_ret (pe_and (pe_callB call_isi (by rfl) T.m_isinstance (by decide +kernel) (pa_cons (pv 0) (pa_cons (pe_bltn (v := .ty "str") (by rfl) T.m_str (by decide +kernel) rfl) pa_nil))) (pe_one (pe_chain op_le op_le pe_int (pe_callB call_len_str (by rfl) T.m_len (by decide +kernel) (pa_cons (pv 0) pa_nil)) (pe_glob (v := .int 8) (by rfl) T.g_LONGEST.choose_spec ⟨_, rfl⟩)))))), ?_⟩
    rcases hv with ⟨z, rfl, hz⟩ | ⟨no, t, ty, k⟩
    · refine ⟨.str z, rfl, _, _, _, _, true, rfl, .ty _, .base (.str z), kit_ty (by decide +kernel), _, rfl, iteT ?_⟩
      have q' : Q (.bl (decide (1 ≤ (z.length : Int)) && decide ((z.length : Int) ≤ 8))) H := by
        have e : shV (.str z) = (decide (1 ≤ (z.length : Int)) && decide ((z.length : Int) ≤ 8)) := by
          show (decide (1 ≤ (z.cps.toList.length : Int)) && decide ((z.cps.toList.length : Int) ≤ 8)) = _
          rw [len_toList]
        rw [← e]
        exact q
      refine ⟨.str z, rfl, z, rfl, thou hz, _, _, rfl, rfl, _, rfl, ite2 (fun e => ?_) (fun e => ?_)⟩
      · refine ⟨_, _, rfl, rfl, ?_⟩
        rw [e] at q'
        exact q'
      · rw [Bool.eq_false_iff.mpr e] at q'
        exact q'
    · rw [(nmV_no no).2.2] at q
      exact ⟨v, rfl, _, _, _, _, false, rfl, .ty _, ty, kit_ty k, _, rfl, iteF q⟩
def spSmall : Sp := fun vs H Q _ => ∃ z : Str, vs = [.str z] ∧ z.length ≤ 1000 ∧ ∀ H', Same H H' → Q (.bl (z.cps.toList.all smC)) H'
theorem all_map {f : Nat → Bool} : ∀ xs : List Nat, (xs.map f).all id = xs.all f
  | [] => rfl
  | x :: r => by rw [List.map_cons, List.all_cons, List.all_cons, all_map r]; rfl
theorem ok_are_small (T : Top w K mg) : FnOk P w K mg base CX0 1 T.a_are_small T.fd_are_small ["text"] spSmall := by
  refine T.F_are_small.ok sc_are_small (fun vs H Q E h => ?_) (fun cdv A outer s H vs Q E hr h => ?_)
  · obtain ⟨z, rfl, _⟩ := h
    rfl
  · obtain ⟨z, rfl, hz, q⟩ := h
    refine ⟨_, (pss_one (ps_ret (pe_callB (cr_all rfl) (by rfl) T.m_all (by decide +kernel) (pa_cons (pe_lc (own := [("letter", 1)]) (g := gName 1) (by rfl) sc_are_small.nd (pi_str (pv 0)) (blkOk_by (own := [("letter", 1)]) (N := ["text", "letter"]) (sc := defScope s_are_small) (by decide +kernel)) (fun _ _ _ _ _ => (pg_name (i := 1) sc_are_small.nd rfl (Or.inl rfl))) (fun _ _ _ _ _ => pts_nil) (fun _ _ _ _ _ => (pe_cmpR op_in_sign (pv 1) (pe_glob (v := .str "abcdefghijklmnopqrstuvwxyz") (by rfl) T.g_SMALL.choose_spec ⟨_, rfl⟩) (by rfl)))) pa_nil)))), ?_⟩
    refine ⟨.str z, rfl, z, rfl, fun D hD => lc_it walk_str (fun i H' => Same H H' ∧ H' D = some (.lst (((z.cps.toList.take i).map smC).map V.bl))) ⟨same_upd hD, upd_same⟩ (fun _ _ _ _ => trivial) ?_ ?_⟩
    · rintro i x H1 H2 hi ⟨sm, eD⟩ ⟨rfl, c, hc, rfl⟩
      refine ⟨rfl, ?_⟩
      refine ⟨_, rfl, c, _, rfl, rfl, _, eD, ?_, ?_, ?_⟩
      · rw [List.length_map, List.length_map, List.length_take, len_toList]
        exact small1000 (by omega)
      · exact fun b' o e => by
          rw [upd_ne (ne_of_none e hD)]
          exact sm _ _ e
      · rw [upd_same, List.take_add_one, Array.getElem?_toList, hc, List.map_append, List.map_append]
        rfl
    · rintro H1 ⟨sm, eD⟩
      have e2 : z.cps.toList.take z.cps.size = z.cps.toList := List.take_of_length_le (by rw [Array.length_toList]; exact Nat.le_refl _)
      rw [e2] at eD
      refine ⟨_, z.cps.toList.map smC, rfl, .inl (.inl eD), ?_⟩
      rw [all_map]
      exact q _ sm
def spIsV (K : PySem.W.Frag) (f : V → Bool) : Sp := fun vs H Q _ => ∃ v, vs = [v] ∧ Th K H v ∧ ∀ H', Same H H' → Q (.bl (f v)) H'
theorem ok_is_name (T : Top w K mg) : FnOk P w K mg base CX0 2 T.a_is_name T.fd_is_name ["thing"] (spIsV K nmV) := by
  have G_is_short_text := ok_is_short_text (P := P) (w := w) (base := base) T
  have G_are_small := ok_are_small (P := P) (w := w) (base := base) T
  refine T.F_is_name.ok sc_is_name (fun vs H Q E h => ?_) (fun cdv A outer s H vs Q E hr h => ?_)
  · obtain ⟨v, rfl, _⟩ := h
    rfl
  · obtain ⟨v, rfl, hv, q⟩ := h
    refine ⟨_, (pss_one (ps_ret (pe_and (pe_call G_is_short_text hr (by rfl) T.g_is_short_text T.F_is_short_text.kp T.b_is_short_text .nil pass0 (pa_cons (pv 0) pa_nil)) (pe_one (pe_call G_are_small hr (by rfl) T.g_are_small T.F_are_small.kp T.b_are_small .nil pass0 (pa_cons (pv 0) pa_nil)))))), ?_⟩
    refine ⟨v, rfl, v, rfl, hv, _, rfl, ite2 (fun e => ?_) (fun e => ?_)⟩
    · rcases hv with ⟨z, rfl, hz⟩ | ⟨no, _⟩
      · refine ⟨.str z, rfl, z, rfl, hz, fun H' sm => ?_⟩
        have h := q H' sm
        have e2 : nmV (.str z) = z.cps.toList.all smC := by
          show (shV (.str z) && z.cps.toList.all smC) = _
          rw [e]
          rfl
        rw [e2] at h
        exact h
      · rw [(nmV_no no).2.2] at e
        cases e
    · have h := q H (Same.refl H)
      have e2 : nmV v = false := by
        rcases hv with ⟨z, rfl, hz⟩ | ⟨no, _⟩
        · show (shV (.str z) && z.cps.toList.all smC) = _
          rw [Bool.eq_false_iff.mpr e]
          rfl
        · exact (nmV_no no).1
      rw [e2] at h
      exact h
theorem cut_tail (c : Nat) (r : List Nat) : cutS ⟨⟨c :: r⟩⟩ (some 1) none = ⟨⟨r⟩⟩ := by
  unfold cutS
  have e1 : HT.sIx (Str.length ⟨⟨c :: r⟩⟩) 0 (some 1) = 1 := by
    rw [show HT.sIx (Str.length ⟨⟨c :: r⟩⟩) 0 (some 1) = min 1 (Str.length ⟨⟨c :: r⟩⟩) from HT.sIx_nat _ 0 1]
    show min 1 (r.length + 1) = 1
    omega
  rw [e1, HT.sIx_none]
  show (⟨(List.take ((c :: r).length - 1) r).toArray⟩ : Str) = ⟨⟨r⟩⟩
  rw [List.length_cons, Nat.add_sub_cancel, List.take_length]
theorem ok_is_lone (T : Top w K mg) : FnOk P w K mg base CX0 2 T.a_is_lone T.fd_is_lone ["thing"] (spIsV K loV) := by
  have G_is_short_text := ok_is_short_text (P := P) (w := w) (base := base) T
  have G_are_small := ok_are_small (P := P) (w := w) (base := base) T
  refine T.F_is_lone.ok sc_is_lone (fun vs H Q E h => ?_) (fun cdv A outer s H vs Q E hr h => ?_)
  · obtain ⟨v, rfl, _⟩ := h
    rfl
  · obtain ⟨v, rfl, hv, q⟩ := h
    refine ⟨_, (pss_one (ps_ret (pe_and (pe_call G_is_short_text hr (by rfl) T.g_is_short_text T.F_is_short_text.kp T.b_is_short_text .nil pass0 (pa_cons (pv 0) pa_nil)) (pe_and (pe_cmpR op_in_sign (pe_ix ix_str (pv 0) pe_int (fun _ _ => rfl)) (pe_glob (v := .str "ABCDEFGHIJKLMNOPQRSTUVWXYZ") (by rfl) T.g_GREAT.choose_spec ⟨_, rfl⟩) (by rfl)) (pe_one (pe_call G_are_small hr (by rfl) T.g_are_small T.F_are_small.kp T.b_are_small .nil pass0 (pa_cons (pe_slice sl_str (pv 0) (po_some pe_int) po_none) pa_nil))))))), ?_⟩
    refine ⟨v, rfl, v, rfl, hv, _, rfl, ite2 (fun e => ?_) (fun e => ?_)⟩
    · rcases hv with ⟨⟨⟨cs⟩⟩, rfl, hz⟩ | ⟨no, _⟩
      · match cs, hz, e, q with
        | [], _, e, _ => cases e
        | c :: r, hz, e, q =>
          have hz2 : r.length + 1 ≤ 1000 := hz
          refine ⟨_, rfl, _, 0, c, rfl, rfl, thou hz, atI_nat (j := 0) rfl, c, _, rfl, rfl, _, rfl, ite2 (fun e3 => ?_) (fun e3 => ?_)⟩
          · refine ⟨_, rfl, 1, rfl, _, rfl, thou hz, ?_⟩
            rw [cut_tail]
            refine ⟨_, rfl, by show r.length ≤ 1000; omega, fun H' sm => ?_⟩
            have h := q H' sm
            have e2 : loV (.str ⟨⟨c :: r⟩⟩) = r.all smC := by
              show (shL (c :: r) && (grC c && r.all smC)) = _
              rw [show shL (c :: r) = true from e, show grC c = true from e3]
              rfl
            rw [e2] at h
            exact h
          · have h := q H (Same.refl H)
            have e2 : loV (.str ⟨⟨c :: r⟩⟩) = false := by
              show (shL (c :: r) && (grC c && r.all smC)) = _
              rw [show grC c = false from Bool.eq_false_iff.mpr e3, Bool.false_and, Bool.and_false]
            rw [e2] at h
            exact h
      · rw [(nmV_no no).2.2] at e
        cases e
    · have h := q H (Same.refl H)
      have e2 : loV v = false := by
        rcases hv with ⟨⟨⟨cs⟩⟩, rfl, hz⟩ | ⟨no, _⟩
        · match cs, e with
          | [], _ => rfl
          | c :: r, e =>
            show (shL (c :: r) && (grC c && r.all smC)) = _
            rw [show shL (c :: r) = false from Bool.eq_false_iff.mpr e]
            rfl
        · exact (nmV_no no).2.1
      rw [e2] at h
      exact h
theorem ok_is_sign (T : Top w K mg) : FnOk P w K mg base CX0 3 T.a_is_sign T.fd_is_sign ["thing"] (spIsV K sgV) := by
  have G_is_name := ok_is_name (P := P) (w := w) (base := base) T
  have G_is_lone := ok_is_lone (P := P) (w := w) (base := base) T
  refine T.F_is_sign.ok sc_is_sign (fun vs H Q E h => ?_) (fun cdv A outer s H vs Q E hr h => ?_)
  · obtain ⟨v, rfl, _⟩ := h
    rfl
  · obtain ⟨v, rfl, hv, q⟩ := h
    refine ⟨_, (pss_one (ps_ret (pe_or (pe_call G_is_name hr (by rfl) T.g_is_name T.F_is_name.kp T.b_is_name .nil pass0 (pa_cons (pv 0) pa_nil)) (pe_one (pe_call G_is_lone hr (by rfl) T.g_is_lone T.F_is_lone.kp T.b_is_lone .nil pass0 (pa_cons (pv 0) pa_nil)))))), ?_⟩
    refine ⟨v, rfl, v, rfl, hv, fun H1 s1 => ⟨_, rfl, ite2 (fun e => ?_) (fun e => ?_)⟩⟩
    · have h := q H1 s1
      rw [show sgV v = true by unfold sgV; rw [e]; rfl] at h
      exact h
    · refine ⟨v, rfl, v, rfl, hv.same s1, fun H2 s2 => ?_⟩
      have h := q H2 (s1.trans s2)
      rw [show sgV v = loV v by unfold sgV; rw [Bool.eq_false_iff.mpr e]; rfl] at h
      exact h
/-! ### parts of entries -/
theorem units65 {k : Nat} {A : Around} (hr : Room k A) : A.units + 65 < cLine := by
  have := hr.un
  omega
def rEqA (K : PySem.W.Frag) : R2 := fun x y H Q => rEq x y H Q ∨ rEqD K x y H Q
theorem op_eqA {X : Cx} (hu : X.A.units + 64 < cLine) : OpR X (compareOp .Eq) (rEqA X.K) := by
  intro pins s σ H x y v u Q I rx ry h
  rcases h with h | h
  · exact op_eq pins s σ H x y v u Q I rx ry h
  · exact op_eqD hu pins s σ H x y v u Q I rx ry h
def rInTD (K : PySem.W.Frag) : R2 := fun x y H Q => ∃ d ds, Dp K H x d ∧ Dp K H y (.tuple ds) ∧ SeqAt.shaped d = true ∧ SeqAt.shaped (.tuple ds) = true ∧ Q (.bl (ds.any fun z => PyData.eqv z d)) H
def rInA (K : PySem.W.Frag) : R2 := fun x y H Q => rIn K false x y H Q ∨ rInTD K x y H Q
theorem op_inA {X : Cx} (hu : X.A.units + 65 < cLine) : OpR X (compareOp .In) (rInA X.K) := by
  intro pins s σ H x y v u Q I rx ry h
  rcases h with h | ⟨d, ds, hd, he, sd, se, q⟩
  · exact op_in_seq pins s σ H x y v u Q I rx ry h
  · obtain ⟨as, r1⟩ := Dp.reads I d x v hd rx
    obtain ⟨bs, r2⟩ := Dp.reads I (.tuple ds) y u he ry
    exact SeqAt.in_tuple_reads r2 r1 (SeqAt.canLay_of_shaped se) (SeqAt.canLay_of_shaped sd) (room_in_shaped sd hu) ⟨.bl _, H, I, rfl, q⟩
/-- a part of an entry: no text too long; what is nested is of the kind that can be compared -/
def gp : PyData → Bool
  | .none => true
  | .bool _ => true
  | .int _ => true
  | .str z => decide (z.length ≤ 1000)
  | .list ds => SeqAt.shaped (.list ds)
  | .tuple ds => SeqAt.shaped (.tuple ds)
  | .dict _ => false
/-- equal to a text -/
def eqS : PyData → Str → Bool
  | .str z, s => s == z
  | _, _ => false
def inW (d : PyData) (ws : List Str) : Bool := ws.any fun s => eqS d s
theorem dec_str (z s : Str) : decide (V.str z = V.str s) = (s == z) := by
  by_cases h : s = z
  · subst h
    rw [decide_eq_true rfl, beq_self_eq_true]
  · rw [decide_eq_false (fun e => h (V.str.inj e).symm), beq_eq_false_iff_ne.mpr h]
theorem eqA_of {K : PySem.W.Frag} {H : Hp} {v : V} {d : PyData} {s : Str} {Q : VK} (hd : Dp K H v d) (g : gp d = true) (hs : SeqAt.shaped (.str s) = true) (q : Q (.bl (eqS d s)) H) : rEqA K v (.str s) H Q := by
  cases hd with
  | non => exact .inl ⟨rfl, by rw [decide_eq_false (fun h => nomatch h)]; exact q⟩
  | bl b => exact .inl ⟨rfl, by rw [decide_eq_false (fun h => nomatch h)]; exact q⟩
  | int i => exact .inl ⟨rfl, by rw [decide_eq_false (fun h => nomatch h)]; exact q⟩
  | str z => exact .inl ⟨rfl, by rw [dec_str]; exact q⟩
  | lst h a => exact .inr ⟨_, _, .lst h a, .str s, g, hs, q⟩
  | tup h a => exact .inr ⟨_, _, .tup h a, .str s, g, hs, q⟩
theorem dpa_strs {K : PySem.W.Frag} {H : Hp} : ∀ ws : List Str, DpAll K H (ws.map V.str) (ws.map PyData.str)
  | [] => .nil
  | w :: r => .cons (.str w) (dpa_strs r)
theorem flat_strs : ∀ ws : List Str, (ws.map V.str).all flatV = true
  | [] => rfl
  | w :: r => by rw [List.map_cons, List.all_cons, flat_strs r]; rfl
theorem inW_flat {v : V} {d : PyData} (h : ∀ s : Str, eqV (.str s) v = eqS d s) : ∀ ws : List Str, inV v (ws.map V.str) = inW d ws
  | [] => rfl
  | w :: r => by
    have ih := inW_flat h r
    unfold inV inW at ih ⊢
    rw [List.map_cons, List.any_cons, List.any_cons, ih, h w]
theorem inW_deep {d : PyData} (h : ∀ s : Str, PyData.eqv (.str s) d = eqS d s) : ∀ ws : List Str, ((ws.map PyData.str).any fun z => PyData.eqv z d) = inW d ws
  | [] => rfl
  | w :: r => by
    have ih := inW_deep h r
    unfold inW at ih ⊢
    rw [List.map_cons, List.any_cons, List.any_cons, ih, h w]
theorem inA_of {K : PySem.W.Frag} {H : Hp} {v : V} {d : PyData} {p : Addr} {ws : List Str} {Q : VK} (hd : Dp K H v d) (g : gp d = true) (hp : SqT K H p (ws.map V.str)) (hs : SeqAt.shaped (.tuple (ws.map PyData.str)) = true) (q : Q (.bl (inW d ws)) H) : rInA K v (.ref p) H Q := by
  cases hd with
  | non => exact .inl ⟨p, _, rfl, .inr hp, rfl, flat_strs ws, by rw [← inW_flat (v := .non) (d := .none) (fun s => rfl)] at q; exact q⟩
  | bl b => exact .inl ⟨p, _, rfl, .inr hp, rfl, flat_strs ws, by rw [← inW_flat (v := .bl b) (d := .bool b) (fun s => rfl)] at q; exact q⟩
  | int i => exact .inl ⟨p, _, rfl, .inr hp, rfl, flat_strs ws, by rw [← inW_flat (v := .int i) (d := .int i) (fun s => rfl)] at q; exact q⟩
  | str z => exact .inl ⟨p, _, rfl, .inr hp, rfl, flat_strs ws, by rw [← inW_flat (v := .str z) (d := .str z) (fun s => rfl)] at q; exact q⟩
  | lst h a => exact .inr ⟨_, _, .lst h a, .tup hp (dpa_strs ws), g, hs, by rw [inW_deep (fun s => by simp [PyData.eqv, eqS])]; exact q⟩
  | tup h a => exact .inr ⟨_, _, .tup h a, .tup hp (dpa_strs ws), g, hs, by rw [inW_deep (fun s => by simp [PyData.eqv, eqS])]; exact q⟩
theorem th_dp {K : PySem.W.Frag} {H : Hp} {v : V} {d : PyData} (h : Dp K H v d) (g : gp d = true) : Th K H v := by
  cases h with
  | str z => exact .inl ⟨z, rfl, of_decide_eq_true g⟩
  | non => exact .inr ⟨(fun z e => nomatch e), _, .base .non, by decide +kernel⟩
  | bl b => exact .inr ⟨(fun z e => nomatch e), _, .base (.bl b), by decide +kernel⟩
  | int i => exact .inr ⟨(fun z e => nomatch e), _, .base (.int i), by decide +kernel⟩
  | lst h _ => exact .inr ⟨(fun z e => nomatch e), _, ty_lst h, by decide +kernel⟩
  | tup h _ => exact .inr ⟨(fun z e => nomatch e), _, ty_tup h, by decide +kernel⟩
def sgD : PyData → Bool
  | .str z => sgV (.str z)
  | _ => false
theorem sg_dp {K : PySem.W.Frag} {H : Hp} {v : V} {d : PyData} (h : Dp K H v d) : sgV v = sgD d := by
  cases h <;> rfl
/-! ### entries -/
def manyD : PyData → Bool
  | .int i => decide (1 ≤ i) && decide (i ≤ 9)
  | _ => false
abbrev lets : List Str := [PySem.Str.ofString "n", PySem.Str.ofString "e", PySem.Str.ofString "s", PySem.Str.ofString "w"]
def letD (d : PyData) : Bool := inW d lets
abbrev wAlone : List Str := [PySem.Str.ofString "left", PySem.Str.ofString "right", PySem.Str.ofString "back", PySem.Str.ofString "bump", PySem.Str.ofString "bare", PySem.Str.ofString "swap"]
abbrev wFace : List Str := [PySem.Str.ofString "left", PySem.Str.ofString "right", PySem.Str.ofString "back", PySem.Str.ofString "go", PySem.Str.ofString "bump", PySem.Str.ofString "spy"]
def pairD (w p : PyData) : Bool := if eqS w "face" = true then letD p else if eqS w "go" = true then manyD p else eqS w "sign" && sgD p
def entL : List PyData → Bool
  | [a] => inW a wAlone
  | [a, b] => pairD a b
  | [a, b, c] => eqS a "spy" && (manyD b && sgD c)
  | _ => false
def entD (d : PyData) : Bool := match seqD d with
  | some ds => entL ds
  | none => false
/-- a thing in the place of an entry -/
def ge (d : PyData) : Bool := match seqD d with
  | some ds => decide (ds.length ≤ 20) && ds.all gp
  | none => gp d
/-! ### letters, steps -/
def cd : Fin 4 → Nat
  | 0 => 110
  | 1 => 101
  | 2 => 115
  | 3 => 119
def Lt (l : Fin 4) : Str := ⟨#[cd l]⟩
abbrev nesw : Str := PySem.Str.ofString "nesw"
theorem lt0 : PySem.Str.ofString "n" = Lt 0 := by decide +kernel
theorem lt1 : PySem.Str.ofString "e" = Lt 1 := by decide +kernel
theorem lt2 : PySem.Str.ofString "s" = Lt 2 := by decide +kernel
theorem lt3 : PySem.Str.ofString "w" = Lt 3 := by decide +kernel
theorem ltd : ∀ l m : Fin 4, decide (V.str (Lt l) = V.str (Lt m)) = decide (l = m) := by decide +kernel
theorem occ : ∀ l : Fin 4, Builtin.Str.occurrences nesw (Lt l) 0 nesw.length 1 = [l.val] := by decide +kernel
theorem nesw_len : nesw.length ≤ sizeLine := by decide +kernel
theorem nesw_at : ∀ (i : Nat) (h : i < 4) (c : Nat), nesw.cps[i]? = some c → (⟨#[c]⟩ : Str) = Lt ⟨i, h⟩
  | 0, _, c, e => by cases e; rfl
  | 1, _, c, e => by cases e; rfl
  | 2, _, c, e => by cases e; rfl
  | 3, _, c, e => by cases e; rfl
def dx : Fin 4 → Int
  | 0 => 0
  | 1 => 1
  | 2 => 0
  | 3 => -1
def dy : Fin 4 → Int
  | 0 => 1
  | 1 => 0
  | 2 => -1
  | 3 => 0
theorem dxb : ∀ l : Fin 4, -(2 ^ 64) < dx l ∧ dx l < 2 ^ 64 := by decide +kernel
theorem dyb : ∀ l : Fin 4, -(2 ^ 64) < dy l ∧ dy l < 2 ^ 64 := by decide +kernel
/-! ### lots -/
def tr (a : Fin 8) (l : Fin 4) : Fin 4 := if a.val < 4 then ⟨(a.val + l.val) % 4, by omega⟩ else ⟨(a.val + 4 - l.val) % 4, by omega⟩
def un (a : Fin 8) : Fin 8 := if a.val < 4 then ⟨(4 - a.val) % 4, by omega⟩ else a
def bo (a b : Fin 8) : Fin 8 :=
  let q := if a.val < 4 then (a.val + b.val) % 4 else (a.val + 8 - b.val) % 4
  if (decide (a.val < 4)) = (decide (b.val < 4)) then ⟨q % 4, by omega⟩ else ⟨q % 4 + 4, by omega⟩
theorem at_mir : ∀ (a : Fin 8) (l : Fin 4), (4 : Int) ≤ a.val → atI nesw.cps.toList (((a.val : Int) - (l.val : Int)) % 4) = some (cd (tr a l)) := by decide +kernel
theorem at_tur : ∀ (a : Fin 8) (l : Fin 4), ¬ (4 : Int) ≤ a.val → atI nesw.cps.toList (((a.val : Int) + (l.val : Int)) % 4) = some (cd (tr a l)) := by decide +kernel
theorem un_mir : ∀ a : Fin 8, (4 : Int) ≤ a.val → ((un a).val : Int) = a.val := by decide +kernel
theorem un_tur : ∀ a : Fin 8, ¬ (4 : Int) ≤ a.val → ((un a).val : Int) = (-(a.val : Int)) % 4 := by decide +kernel
theorem bo_1 : ∀ a b : Fin 8, (4 : Int) ≤ a.val → (4 : Int) ≤ b.val → ((bo a b).val : Int) = ((a.val : Int) - b.val) % 4 := by decide +kernel
theorem bo_2 : ∀ a b : Fin 8, (4 : Int) ≤ a.val → ¬ (4 : Int) ≤ b.val → ((bo a b).val : Int) = ((a.val : Int) - b.val) % 4 + 4 := by decide +kernel
theorem bo_3 : ∀ a b : Fin 8, ¬ (4 : Int) ≤ a.val → (4 : Int) ≤ b.val → ((bo a b).val : Int) = ((a.val : Int) + b.val) % 4 + 4 := by decide +kernel
theorem bo_4 : ∀ a b : Fin 8, ¬ (4 : Int) ≤ a.val → ¬ (4 : Int) ≤ b.val → ((bo a b).val : Int) = ((a.val : Int) + b.val) % 4 := by decide +kernel
/-! ### entries that are right -/
inductive Ent where
  | face (l : Fin 4)
  | turn (q : Fin 3)
  | go (n : Fin 9)
  | bump
  | sign (z : Str)
  | bare
  | spy (n : Fin 9) (z : Str)
  | swap
def ws : Fin 10 → Str
  | 0 => PySem.Str.ofString "face"
  | 1 => PySem.Str.ofString "left"
  | 2 => PySem.Str.ofString "right"
  | 3 => PySem.Str.ofString "back"
  | 4 => PySem.Str.ofString "go"
  | 5 => PySem.Str.ofString "bump"
  | 6 => PySem.Str.ofString "sign"
  | 7 => PySem.Str.ofString "bare"
  | 8 => PySem.Str.ofString "spy"
  | 9 => PySem.Str.ofString "swap"
theorem wsd : ∀ i j : Fin 10, decide (V.str (ws i) = V.str (ws j)) = decide (i = j) := by decide +kernel
theorem ws_ok : ∀ i : Fin 10, PyData.strOk (ws i) = true ∧ (ws i).length ≤ 12 := by decide +kernel
namespace Ent
def kind : Ent → Fin 10
  | face _ => 0
  | turn q => ⟨q.val + 1, by omega⟩
  | go _ => 4
  | bump => 5
  | sign _ => 6
  | bare => 7
  | spy _ _ => 8
  | swap => 9
def rest : Ent → List PyData
  | face l => [.str (Lt l)]
  | go n => [.int ((n.val : Int) + 1)]
  | sign z => [.str z]
  | spy n z => [.int ((n.val : Int) + 1), .str z]
  | _ => []
def parts (e : Ent) : List PyData := .str (ws e.kind) :: e.rest
def tup (e : Ent) : PyData := .tuple e.parts
def lst (e : Ent) : PyData := .list e.parts
def need : Ent → Bool
  | turn _ => true
  | go _ => true
  | bump => true
  | spy _ _ => true
  | _ => false
def isFace : Ent → Bool
  | face _ => true
  | _ => false
def isSwap : Ent → Bool
  | swap => true
  | _ => false
def sgS (z : Str) : Bool := nmL z.cps.toList || loL z.cps.toList
def ok : Ent → Prop
  | sign z => z.length ≤ 12 ∧ PyData.strOk z = true ∧ sgS z = true
  | spy _ z => z.length ≤ 12 ∧ PyData.strOk z = true ∧ sgS z = true
  | _ => True
theorem face_iff (e : Ent) : e.isFace = decide (e.kind = 0) := by
  cases e with
  | turn q => match q with
    | 0 => rfl
    | 1 => rfl
    | 2 => rfl
  | _ => rfl
theorem swap_iff (e : Ent) : e.isSwap = decide (e.kind = 9) := by
  cases e with
  | turn q => match q with
    | 0 => rfl
    | 1 => rfl
    | 2 => rfl
  | _ => rfl
end Ent
/-- what comes ahead has a face where one is needed -/
def Right (es : List Ent) : Prop := ∀ (i : Nat) (e : Ent), es[i]? = some e → e.need = true → (es.take i).any Ent.isFace = true
theorem Right.nil : Right [] := fun i e h => by cases h
theorem Right.snoc {es : List Ent} {e : Ent} (h : Right es) (he : e.need = true → es.any Ent.isFace = true) : Right (es ++ [e]) := fun i x hx hn => by
  by_cases hi : i < es.length
  · rw [List.getElem?_append_left hi] at hx
    rw [List.take_append_of_le_length (Nat.le_of_lt hi)]
    exact h i x hx hn
  · have hl := (List.getElem?_eq_some_iff.mp hx).1
    rw [List.length_append] at hl
    have : i = es.length := by
      have : [e].length = 1 := rfl
      omega
    rw [this, List.getElem?_append_right (Nat.le_refl _), Nat.sub_self] at hx
    cases hx
    rw [this, List.take_left]
    exact he hn
def swaps (es : List Ent) : Nat := (es.filter Ent.isSwap).length
theorem swaps_snoc (es : List Ent) (e : Ent) : swaps (es ++ [e]) = swaps es + (if e.isSwap = true then 1 else 0) := by
  unfold swaps
  rw [List.filter_append, List.length_append, List.filter_cons, List.filter_nil]
  split <;> rfl
theorem swaps_le (es : List Ent) : swaps es ≤ es.length := List.length_filter_le _ _
/-! ### where a walker stands -/
structure Wk where
  leg : Nat
  x : Int
  y : Int
  look : Option (Fin 4)
def W0 : Wk := ⟨0, 0, 0, none⟩
def tq : Fin 3 → Fin 4
  | 0 => 3
  | 1 => 1
  | 2 => 2
def nlook (a : Fin 8) (look : Option (Fin 4)) : Ent → Option (Fin 4)
  | .face l => some (tr a l)
  | .turn q => look.map (fun l => l + tq q)
  | _ => look
def nx (p : Int) (look : Option (Fin 4)) : Ent → Int
  | .go n => match look with
    | some l => p + ((n.val : Int) + 1) * dx l
    | none => p
  | _ => p
def ny (p : Int) (look : Option (Fin 4)) : Ent → Int
  | .go n => match look with
    | some l => p + ((n.val : Int) + 1) * dy l
    | none => p
  | _ => p
def nleg (n : Nat) (e : Ent) : Nat := if e.isSwap = true then n + 1 else n
def next (lots : List (Fin 8)) (p : Wk) (e : Ent) : Wk := ⟨nleg p.leg e, nx p.x p.look e, ny p.y p.look e, nlook (lots.getD (nleg p.leg e) 0) p.look e⟩
@[irreducible] def wat (lots : List (Fin 8)) (es : List Ent) (i : Nat) : Wk := (es.take i).foldl (next lots) W0
theorem wat_zero (lots : List (Fin 8)) (es : List Ent) : wat lots es 0 = W0 := by
  unfold wat
  rfl
theorem wat_succ {lots : List (Fin 8)} {es : List Ent} {i : Nat} {e : Ent} (h : es[i]? = some e) : wat lots es (i + 1) = next lots (wat lots es i) e := by
  unfold wat
  rw [List.take_add_one, h, List.foldl_append]
  rfl
theorem wat_look (lots : List (Fin 8)) (es : List Ent) : ∀ i, (wat lots es i).look.isSome = (es.take i).any Ent.isFace
  | 0 => by rw [wat_zero]; rfl
  | i + 1 => by
    by_cases hi : i < es.length
    · have h : es[i]? = some es[i] := List.getElem?_eq_getElem hi
      rw [wat_succ h, List.take_add_one, h, List.any_append, ← wat_look lots es i]
      show (nlook _ (wat lots es i).look es[i]).isSome = ((wat lots es i).look.isSome || (es[i].isFace || false))
      cases es[i] with
      | face l => cases (wat lots es i).look <;> rfl
      | turn q => cases (wat lots es i).look <;> rfl
      | _ => cases (wat lots es i).look <;> rfl
    · have e1 : es.take (i + 1) = es.take i := by rw [List.take_of_length_le (by omega), List.take_of_length_le (by omega)]
      have := wat_look lots es i
      unfold wat at this ⊢
      rw [e1]
      exact this
theorem wat_leg (lots : List (Fin 8)) (es : List Ent) : ∀ i, (wat lots es i).leg = swaps (es.take i)
  | 0 => by rw [wat_zero]; rfl
  | i + 1 => by
    by_cases hi : i < es.length
    · have h : es[i]? = some es[i] := List.getElem?_eq_getElem hi
      rw [wat_succ h, List.take_add_one, h]
      show nleg (wat lots es i).leg es[i] = swaps (es.take i ++ [es[i]])
      rw [swaps_snoc, wat_leg lots es i]
      unfold nleg
      split <;> rfl
    · have e1 : es.take (i + 1) = es.take i := by rw [List.take_of_length_le (by omega), List.take_of_length_le (by omega)]
      have := wat_leg lots es i
      unfold wat at this ⊢
      rw [e1]
      exact this
theorem swaps_take (es : List Ent) (i : Nat) : swaps (es.take i) ≤ swaps es := by
  unfold swaps
  exact List.Sublist.length_le ((List.take_sublist i es).filter _)
def lk : Option (Fin 4) → Str
  | some l => Lt l
  | none => PySem.Str.ofString ""
def plD (p : Wk) : PyData := .tuple [.int p.x, .int p.y]
def posD (p : Wk) : PyData := .tuple [plD p, .str (lk p.look)]
def trackL (lots : List (Fin 8)) (es : List Ent) (n : Nat) : List PyData := (List.range n).map fun i => posD (wat lots es (i + 1))
theorem trackL_succ (lots : List (Fin 8)) (es : List Ent) (n : Nat) : trackL lots es (n + 1) = trackL lots es n ++ [posD (wat lots es (n + 1))] := by
  unfold trackL
  rw [List.range_succ, List.map_append]
  rfl
def trackD (lots : List (Fin 8)) (es : List Ent) : PyData := .tuple (trackL lots es es.length)
/-- rows of entries, each a list or a tuple -/
def Rows (K : PySem.W.Frag) (H : Hp) (xs : List V) (es : List Ent) : Prop := ∃ ds, DpAll K H xs ds ∧ ds.map seqD = es.map fun e => some e.parts
theorem Rows.same {K : PySem.W.Frag} {H H' : Hp} {xs : List V} {es : List Ent} (h : Rows K H xs es) (s : Same H H') : Rows K H' xs es := by
  obtain ⟨ds, h1, h2⟩ := h
  exact ⟨ds, dpa_same s _ _ h1, h2⟩
theorem Rows.len {K : PySem.W.Frag} {H : Hp} {xs : List V} {es : List Ent} (h : Rows K H xs es) : xs.length = es.length := by
  obtain ⟨ds, h1, h2⟩ := h
  have := congrArg List.length h2
  rw [List.length_map, List.length_map] at this
  rw [dpa_len ds xs h1, this]
/-- one entry, a list or a tuple -/
def EntAt (K : PySem.W.Frag) (H : Hp) (v : V) (e : Ent) : Prop := ∃ a xs, v = .ref a ∧ SqA K H a (.str (ws e.kind) :: xs) ∧ DpAll K H xs e.rest
theorem ent_at {K : PySem.W.Frag} {H : Hp} {v : V} {d : PyData} {e : Ent} (h : Dp K H v d) (hs : seqD d = some e.parts) : EntAt K H v e := by
  obtain ⟨a, xs, rfl, hq, ha⟩ := seq_dp h hs
  cases ha with
  | cons h1 h2 =>
    cases h1
    exact ⟨a, _, rfl, hq, h2⟩
theorem EntAt.same {K : PySem.W.Frag} {H H' : Hp} {v : V} {e : Ent} (h : EntAt K H v e) (s : Same H H') : EntAt K H' v e := by
  obtain ⟨a, xs, h1, h2, h3⟩ := h
  exact ⟨a, xs, h1, h2.elim (fun h => .inl (s.seq h)) (fun h => .inr (sqt_same s h)), dpa_same s _ _ h3⟩
theorem Rows.at_ {K : PySem.W.Frag} {H : Hp} {xs : List V} {es : List Ent} (h : Rows K H xs es) {i : Nat} {v : V} (hv : xs[i]? = some v) : ∃ e, es[i]? = some e ∧ EntAt K H v e := by
  obtain ⟨ds, h1, h2⟩ := h
  obtain ⟨d, fd, gd⟩ := dpa_at ds xs h1 i v hv
  have e1 : (ds.map seqD)[i]? = some (seqD d) := by rw [List.getElem?_map, fd]; rfl
  rw [h2, List.getElem?_map] at e1
  cases e2 : es[i]? with
  | none => rw [e2] at e1; cases e1
  | some e =>
    rw [e2] at e1
    exact ⟨e, rfl, ent_at gd (Option.some.inj e1).symm⟩
theorem rows_tup {K : PySem.W.Frag} {H : Hp} {xs : List V} {es : List Ent} (h : DpAll K H xs (es.map Ent.tup)) : Rows K H xs es := ⟨_, h, by rw [List.map_map]; rfl⟩
--@@SPLIT
def whD : PyData → Bool
  | .int _ => true
  | _ => false
def spWholeD (K : PySem.W.Frag) : Sp := fun vs H Q _ => ∃ (v : V) (d : PyData), vs = [v] ∧ Dp K H v d ∧ Q (.bl (whD d)) H
theorem ok_is_wholeD (T : Top w K mg) : FnOk P w K mg base CX0 1 T.a_is_whole T.fd_is_whole ["thing"] (spWholeD K) := by
  refine T.F_is_whole.ok sc_is_whole (fun vs H Q E h => ?_) (fun cdv A outer s H vs Q E hr h => ?_)
  · obtain ⟨v, d, rfl, _⟩ := h
    rfl
  · obtain ⟨v, d, rfl, hd, q⟩ := h
    refine ⟨_, (pss_one (ps_ret (pe_and (pe_callB call_isi (by rfl) T.m_isinstance (by decide +kernel) (pa_cons (pv 0) (pa_cons (pe_bltn (v := .ty "int") (by rfl) T.m_int (by decide +kernel) rfl) pa_nil))) (pe_one (pe_not (pe_callB call_isi (by rfl) T.m_isinstance (by decide +kernel) (pa_cons (pv 0) (pa_cons (pe_bltn (v := .ty "bool") (by rfl) T.m_bool (by decide +kernel) rfl) pa_nil)))))))), ?_⟩
    cases hd with
    | non => exact ⟨.non, rfl, _, _, _, _, false, rfl, .ty _, .base .non, kit_ty (by decide +kernel), _, rfl, iteF q⟩
    | bl b => exact ⟨.bl b, rfl, _, _, _, _, true, rfl, .ty _, .base (.bl b), kit_ty (by decide +kernel), _, rfl, iteT ⟨.bl b, rfl, _, _, _, _, true, rfl, .ty _, .base (.bl b), kit_ty (by decide +kernel), _, rfl, q⟩⟩
    | int i => exact ⟨.int i, rfl, _, _, _, _, true, rfl, .ty _, .base (.int i), kit_ty (by decide +kernel), _, rfl, iteT ⟨.int i, rfl, _, _, _, _, false, rfl, .ty _, .base (.int i), kit_ty (by decide +kernel), _, rfl, q⟩⟩
    | str z => exact ⟨.str z, rfl, _, _, _, _, false, rfl, .ty _, .base (.str z), kit_ty (by decide +kernel), _, rfl, iteF q⟩
    | lst h _ => exact ⟨_, rfl, _, _, _, _, false, rfl, .ty _, ty_lst h, kit_ty (by decide +kernel), _, rfl, iteF q⟩
    | tup h _ => exact ⟨_, rfl, _, _, _, _, false, rfl, .ty _, ty_tup h, kit_ty (by decide +kernel), _, rfl, iteF q⟩
/-! ### the program's reading of an entry -/
def Keys : List DictEntry → List Str → Prop
  | [], [] => True
  | e :: r, k :: ks => (∃ t, e.key = .str k t) ∧ Keys r ks
  | _, _ => False
theorem find_keys (z : Str) : ∀ (l : List DictEntry) (ks : List Str), Keys l ks → (l.find? (·.key.isStr z)).isSome = (ks.any fun s => s == z) ∧ l.any (·.refKey) = false
  | [], [], _ => ⟨rfl, rfl⟩
  | e :: r, k :: ks, h => by
    obtain ⟨⟨t, hk⟩, hr⟩ := h
    obtain ⟨i1, i2⟩ := find_keys z r ks hr
    have e1 : e.key.isStr z = (k == z) := by rw [hk]; rfl
    have e2 : e.refKey = false := by unfold DictEntry.refKey; rw [hk]
    constructor
    · rw [List.find?_cons, e1, List.any_cons]
      cases k == z with
      | true => rfl
      | false => exact i1
    · rw [List.any_cons, e2, i2]
      rfl
  | [], _ :: _, h => h.elim
  | _ :: _, [], h => h.elim
theorem ns_keys {K : PySem.W.Frag} {a : Addr} {es : Array DictEntry} {n : Nat} {ks : List Str} (h : K.lookup a = some ⟨.type "dict", none, .dict es n, #[]⟩) (hk : Keys es.toList ks) (z : Str) : ∃ r, PySem.W.nsIn K a z = some r ∧ r.isSome = (ks.any fun s => s == z) := by
  obtain ⟨i1, i2⟩ := find_keys z es.toList ks hk
  unfold PySem.W.nsIn
  rw [h]
  cases e : es.toList.find? (·.key.isStr z) with
  | some x =>
    rw [e] at i1
    refine ⟨some x.val, ?_, i1⟩
    simp only [e]
  | none =>
    rw [e] at i1
    refine ⟨none, ?_, i1⟩
    simp only [e, i2]
    rfl
def spPart (K : PySem.W.Frag) (f : PyData → Bool) : Sp := fun vs H Q _ => ∃ (v : V) (d : PyData), vs = [v] ∧ gp d = true ∧ Dp K H v d ∧ ∀ H', Same H H' → Q (.bl (f d)) H'
theorem ok_is_letter (T : Top w K mg) : FnOk P w K mg base CX0 1 T.a_is_letter T.fd_is_letter ["thing"] (spPart K letD) := by
  refine T.F_is_letter.ok sc_is_letter (fun vs H Q E h => ?_) (fun cdv A outer s H vs Q E hr h => ?_)
  · obtain ⟨v, d, rfl, _⟩ := h
    rfl
  · obtain ⟨v, d, rfl, g, hd, q⟩ := h
    refine ⟨_, (pss_one (ps_ret (pe_and (pe_callB call_isi (by rfl) T.m_isinstance (by decide +kernel) (pa_cons (pv 0) (pa_cons (pe_bltn (v := .ty "str") (by rfl) T.m_str (by decide +kernel) rfl) pa_nil))) (pe_one (pe_cmpR (op_in_kd T.kd_STEPS) (pv 0) (pe_glob (v := .ref T.a_STEPS) (by rfl) T.g_STEPS rfl) (by rfl)))))), ?_⟩
    refine ⟨v, rfl, _, _, _, _, _, rfl, .ty _, ty_dp hd, kit_ty (kit_str d), _, rfl, ?_⟩
    have q := q H (Same.refl H)
    cases hd with
    | str z =>
      obtain ⟨r, h1, h2⟩ := T.ns_STEPS z
      refine iteT ⟨.str z, rfl, z, r, rfl, rfl, h1, ?_⟩
      rw [h2]
      exact q
    | non => exact iteF q
    | bl b => exact iteF q
    | int i => exact iteF q
    | lst h _ => exact iteF q
    | tup h _ => exact iteF q
theorem ok_is_many (T : Top w K mg) : FnOk P w K mg base CX0 2 T.a_is_many T.fd_is_many ["thing"] (spPart K manyD) := by
  have G_is_whole := ok_is_wholeD (P := P) (w := w) (base := base) T
  refine T.F_is_many.ok sc_is_many (fun vs H Q E h => ?_) (fun cdv A outer s H vs Q E hr h => ?_)
  · obtain ⟨v, d, rfl, _⟩ := h
    rfl
  · obtain ⟨v, d, rfl, g, hd, q⟩ := h
    refine ⟨_, (pss_one (ps_ret (pe_and (pe_call G_is_whole hr (by rfl) T.g_is_whole T.F_is_whole.kp T.b_is_whole .nil pass0 (pa_cons (pv 0) pa_nil)) (pe_one (pe_chain op_le op_le pe_int (pv 0) pe_int))))), ?_⟩
    refine ⟨v, rfl, v, d, rfl, hd, _, rfl, ?_⟩
    have q := q H (Same.refl H)
    cases hd with
    | int i =>
      refine iteT ⟨.int i, rfl, _, _, rfl, rfl, _, rfl, ite2 (fun e => ?_) (fun e => ?_)⟩
      · refine ⟨_, _, rfl, rfl, ?_⟩
        have e2 : manyD (.int i) = decide (i ≤ 9) := by
          show (decide (1 ≤ i) && decide (i ≤ 9)) = _
          rw [e]
          rfl
        rw [e2] at q
        exact q
      · have e2 : manyD (.int i) = false := by
          show (decide (1 ≤ i) && decide (i ≤ 9)) = _
          rw [Bool.eq_false_iff.mpr e]
          rfl
        rw [e2] at q
        exact q
    | non => exact iteF q
    | bl b => exact iteF q
    | str z => exact iteF q
    | lst h _ => exact iteF q
    | tup h _ => exact iteF q
def spPair (K : PySem.W.Frag) : Sp := fun vs H Q _ => ∃ (v u : V) (d c : PyData), vs = [v, u] ∧ gp d = true ∧ gp c = true ∧ Dp K H v d ∧ Dp K H u c ∧ ∀ H', Same H H' → Q (.bl (pairD d c)) H'
theorem ok_is_pair_entry (T : Top w K mg) : FnOk P w K mg base CX0 4 T.a_is_pair_entry T.fd_is_pair_entry ["word", "part"] (spPair K) := by
  have G_is_letter := ok_is_letter (P := P) (w := w) (base := base) T
  have G_is_many := ok_is_many (P := P) (w := w) (base := base) T
  have G_is_sign := ok_is_sign (P := P) (w := w) (base := base) T
  refine T.F_is_pair_entry.ok sc_is_pair_entry (fun vs H Q E h => ?_) (fun cdv A outer s H vs Q E hr h => ?_)
  · obtain ⟨v, u, d, c, rfl, _⟩ := h
    rfl
  · obtain ⟨v, u, d, c, rfl, gd, gc, hd, hc, q⟩ := h
    refine ⟨_, (pss_cons (ps_if (pt_cmpR (op_eqA hr.units) (pv 0) pe_str (nomark _)) (pss_one (ps_ret (pe_call G_is_letter (hr.mono (by decide)) (by rfl) T.g_is_letter T.F_is_letter.kp T.b_is_letter .nil pass0 (pa_cons (pv 1) pa_nil)))) pss_nil)
      (pss_cons (ps_if (pt_cmpR (op_eqA hr.units) (pv 0) pe_str (nomark _)) (pss_one (ps_ret (pe_call G_is_many (hr.mono (by decide)) (by rfl) T.g_is_many T.F_is_many.kp T.b_is_many .nil pass0 (pa_cons (pv 1) pa_nil)))) pss_nil)
      (pss_one (ps_ret (pe_and (pe_cmpR (op_eqA hr.units) (pv 0) pe_str (nomark _)) (pe_one (pe_call G_is_sign hr (by rfl) T.g_is_sign T.F_is_sign.kp T.b_is_sign .nil pass0 (pa_cons (pv 1) pa_nil)))))))), ?_⟩
    refine ⟨v, rfl, eqA_of hd gd (by decide +kernel) ⟨_, rfl, ite2 (fun e1 => ?_) (fun e1 => ?_)⟩⟩
    · rw [show pairD d c = letD c from if_pos e1] at q
      exact ⟨u, rfl, u, c, rfl, gc, hc, q⟩
    refine ⟨v, rfl, eqA_of hd gd (by decide +kernel) ⟨_, rfl, ite2 (fun e2 => ?_) (fun e2 => ?_)⟩⟩
    · rw [show pairD d c = manyD c by unfold pairD; rw [if_neg e1, if_pos e2]] at q
      exact ⟨u, rfl, u, c, rfl, gc, hc, q⟩
    rw [show pairD d c = (eqS d "sign" && sgD c) by unfold pairD; rw [if_neg e1, if_neg e2]] at q
    refine ⟨v, rfl, eqA_of hd gd (by decide +kernel) ⟨_, rfl, ite2 (fun e3 => ?_) (fun e3 => ?_)⟩⟩
    · rw [e3] at q
      refine ⟨u, rfl, u, rfl, th_dp hc gc, fun H' sm => ?_⟩
      rw [sg_dp hc]
      exact q H' sm
    · rw [Bool.eq_false_iff.mpr e3] at q
      exact q H (Same.refl H)
theorem ge_parts {d : PyData} {ds : List PyData} (h : ge d = true) (e : seqD d = some ds) : ds.length ≤ 20 ∧ ∀ x ∈ ds, gp x = true := by
  unfold ge at h
  rw [e] at h
  obtain ⟨h1, h2⟩ := Bool.and_eq_true_iff.mp h
  exact ⟨of_decide_eq_true h1, List.all_eq_true.mp h2⟩
/-- the parts of a list or tuple, whichever it is -/
theorem len1 {α : Type} : ∀ l : List α, l.length = 1 → ∃ a, l = [a]
  | [a], _ => ⟨a, rfl⟩
  | [], h => by cases h
  | _ :: _ :: _, h => by simp at h
theorem len2 {α : Type} : ∀ l : List α, l.length = 2 → ∃ a b, l = [a, b]
  | [a, b], _ => ⟨a, b, rfl⟩
  | [], h => by cases h
  | [_], h => by simp at h
  | _ :: _ :: _ :: _, h => by simp at h
theorem len3 {α : Type} : ∀ l : List α, l.length = 3 → ∃ a b c, l = [a, b, c]
  | [a, b, c], _ => ⟨a, b, c, rfl⟩
  | [], h => by cases h
  | [_], h => by simp at h
  | [_, _], h => by simp at h
  | _ :: _ :: _ :: _ :: _, h => by simp at h
theorem ent_else : ∀ ds : List PyData, ¬ ds.length = 1 → ¬ ds.length = 2 → ¬ ds.length = 3 → entL ds = false
  | [], _, _, _ => rfl
  | [_], h, _, _ => absurd rfl h
  | [_, _], _, h, _ => absurd rfl h
  | [_, _, _], _, _, h => absurd rfl h
  | _ :: _ :: _ :: _ :: _, _, _, _ => rfl
theorem dpa1 {K : PySem.W.Frag} {H : Hp} {xs : List V} {a : PyData} (h : DpAll K H xs [a]) : ∃ x, xs = [x] ∧ Dp K H x a := by
  cases h with
  | cons h1 h2 => cases h2; exact ⟨_, rfl, h1⟩
theorem dpa2 {K : PySem.W.Frag} {H : Hp} {xs : List V} {a b : PyData} (h : DpAll K H xs [a, b]) : ∃ x y, xs = [x, y] ∧ Dp K H x a ∧ Dp K H y b := by
  cases h with
  | cons h1 h2 =>
    obtain ⟨y, rfl, h3⟩ := dpa1 h2
    exact ⟨_, y, rfl, h1, h3⟩
theorem dpa3 {K : PySem.W.Frag} {H : Hp} {xs : List V} {a b c : PyData} (h : DpAll K H xs [a, b, c]) : ∃ x y z, xs = [x, y, z] ∧ Dp K H x a ∧ Dp K H y b ∧ Dp K H z c := by
  cases h with
  | cons h1 h2 =>
    obtain ⟨y, z, rfl, h3, h4⟩ := dpa2 h2
    exact ⟨_, y, z, rfl, h1, h3, h4⟩
def spEntry (K : PySem.W.Frag) : Sp := fun vs H Q _ => ∃ (v : V) (d : PyData), vs = [v] ∧ ge d = true ∧ Dp K H v d ∧ ∀ H', Same H H' → Q (.bl (entD d)) H'
theorem ok_is_entry (T : Top w K mg) : FnOk P w K mg base CX0 5 T.a_is_entry T.fd_is_entry ["thing"] (spEntry K) := by
  have G_is_pair_entry := ok_is_pair_entry (P := P) (w := w) (base := base) T
  have G_is_many := ok_is_many (P := P) (w := w) (base := base) T
  have G_is_sign := ok_is_sign (P := P) (w := w) (base := base) T
  refine T.F_is_entry.ok sc_is_entry (fun vs H Q E h => ?_) (fun cdv A outer s H vs Q E hr h => ?_)
  · obtain ⟨v, d, rfl, _⟩ := h
    rfl
  · obtain ⟨v, d, rfl, g, hd, q⟩ := h
    refine ⟨_, (pss_cons (ps_if (pt_not (pt_val (pe_callB call_isiT (by rfl) T.m_isinstance (by decide +kernel) (pa_cons (pv 0) (pa_cons (pe_tup (pa_cons (pe_bltn (v := .ty "tuple") (by rfl) T.m_tuple (by decide +kernel) rfl) (pa_cons (pe_bltn (v := .ty "list") (by rfl) T.m_list (by decide +kernel) rfl) pa_nil))) pa_nil))))) (pss_one (ps_ret pe_bl)) pss_nil)
      (pss_cons (ps_if (pt_cmpR op_eq (pe_callB call_len_seq (by rfl) T.m_len (by decide +kernel) (pa_cons (pv 0) pa_nil)) pe_int (nomark _)) (pss_one (ps_ret (pe_cmpR (op_inA (units65 hr)) (pe_ix ix_seq (pv 0) pe_int (fun _ _ => rfl)) (pe_glob (v := .ref T.a_WORDS_ALONE) (by rfl) T.g_WORDS_ALONE rfl) (by rfl)))) pss_nil)
      (pss_cons (ps_if (pt_cmpR op_eq (pe_callB call_len_seq (by rfl) T.m_len (by decide +kernel) (pa_cons (pv 0) pa_nil)) pe_int (nomark _)) (pss_one (ps_ret (pe_call G_is_pair_entry hr (by rfl) T.g_is_pair_entry T.F_is_pair_entry.kp T.b_is_pair_entry .nil pass0 (pa_cons (pe_ix ix_seq (pv 0) pe_int (fun _ _ => rfl)) (pa_cons (pe_ix ix_seq (pv 0) pe_int (fun _ _ => rfl)) pa_nil))))) pss_nil)
      (pss_one (ps_ret (pe_and (pe_cmpR op_eq (pe_callB call_len_seq (by rfl) T.m_len (by decide +kernel) (pa_cons (pv 0) pa_nil)) pe_int (nomark _)) (pe_and (pe_cmpR (op_eqA hr.units) (pe_ix ix_seq (pv 0) pe_int (fun _ _ => rfl)) pe_str (nomark _)) (pe_and (pe_call G_is_many (hr.mono (by decide)) (by rfl) T.g_is_many T.F_is_many.kp T.b_is_many .nil pass0 (pa_cons (pe_ix ix_seq (pv 0) pe_int (fun _ _ => rfl)) pa_nil)) (pe_one (pe_call G_is_sign (hr.mono (by decide)) (by rfl) T.g_is_sign T.F_is_sign.kp T.b_is_sign .nil pass0 (pa_cons (pe_ix ix_seq (pv 0) pe_int (fun _ _ => rfl)) pa_nil))))))))))), ?_⟩
    obtain ⟨x, y, k1, k2, exy⟩ := kit_seq d
    refine ⟨v, rfl, by show 2 ≤ sizeLine; decide, fun tp np => ⟨v, tp, _, _, _, _, rfl, upd_same, .cons (.ty _) (.cons (.ty _) .nil), ty_dp (dp_same (same_upd np) d v hd), kit_any2 k1 k2, _, rfl, ?_⟩⟩
    rw [exy]
    have s0 := same_upd (o := .tup [.ty "tuple", .ty "list"]) np
    have hd0 := dp_same s0 d v hd
    cases e : seqD d with
    | none =>
      rw [show entD d = false by unfold entD; rw [e]] at q
      exact iteT (q _ s0)
    | some ds =>
      rw [show entD d = entL ds by unfold entD; rw [e]] at q
      refine iteF ?_
      obtain ⟨hlen, hgp⟩ := ge_parts g e
      obtain ⟨a, xs, rfl, hs, ha⟩ := seq_dp hd0 e
      have lx := dpa_len ds xs ha
      refine ⟨.ref a, rfl, a, xs, rfl, hs, rfl, _, rfl, ?_⟩
      by_cases n1 : ds.length = 1
      · obtain ⟨d1, rfl⟩ := len1 ds n1
        obtain ⟨x1, rfl, h1⟩ := dpa1 ha
        · refine iteDY (decide_eq_true rfl) ⟨.ref a, rfl, ixA (j := 0) hs rfl (inA_of (ws := wAlone) h1 (hgp d1 (by simp)) (T.v_WORDS_ALONE _) (by decide +kernel) (q _ s0))⟩
      refine iteDN (decide_eq_false (fun z => n1 (by have := V.int.inj z; omega))) ?_
      refine ⟨.ref a, rfl, a, xs, rfl, hs, rfl, _, rfl, ?_⟩
      by_cases n2 : ds.length = 2
      · obtain ⟨d1, d2, rfl⟩ := len2 ds n2
        obtain ⟨x1, x2, rfl, h1, h2⟩ := dpa2 ha
        · refine iteDY (decide_eq_true rfl) ⟨.ref a, rfl, ixA (j := 0) hs rfl ⟨.ref a, rfl, ixA (j := 1) hs rfl ⟨x1, x2, d1, d2, rfl, hgp d1 (by simp), hgp d2 (by simp), h1, h2, fun H' sm => q _ (s0.trans sm)⟩⟩⟩
      refine iteDN (decide_eq_false (fun z => n2 (by have := V.int.inj z; omega))) ?_
      refine ⟨.ref a, rfl, a, xs, rfl, hs, rfl, _, rfl, ?_⟩
      by_cases n3 : ds.length = 3
      · obtain ⟨d1, d2, d3, rfl⟩ := len3 ds n3
        obtain ⟨x1, x2, x3, rfl, h1, h2, h3⟩ := dpa3 ha
        · have q : ∀ H', Same H H' → Q (.bl (eqS d1 "spy" && (manyD d2 && sgD d3))) H' := q
          refine iteDY (decide_eq_true rfl) ⟨.ref a, rfl, ixA (j := 0) hs rfl (eqA_of h1 (hgp d1 (by simp)) (by decide +kernel) ⟨_, rfl, ite2 (fun e1 => ?_) (fun e1 => ?_)⟩)⟩
          · rw [e1] at q
            refine ⟨.ref a, rfl, ixA (j := 1) hs rfl ⟨x2, d2, rfl, hgp d2 (by simp), h2, fun H2 s2 => ⟨_, rfl, ite2 (fun e2 => ?_) (fun e2 => ?_)⟩⟩⟩
            · rw [e2] at q
              refine ⟨.ref a, rfl, ixA (j := 2) (hs.same s2) rfl ⟨x3, rfl, th_dp (dp_same s2 _ _ h3) (hgp d3 (by simp)), fun H3 s3 => ?_⟩⟩
              rw [sg_dp h3]
              exact q _ ((s0.trans s2).trans s3)
            · rw [Bool.eq_false_iff.mpr e2] at q
              exact q _ (s0.trans s2)
          · rw [Bool.eq_false_iff.mpr e1] at q
            exact q _ s0
      refine iteDN (decide_eq_false (fun z => n3 (by have := V.int.inj z; omega))) ?_
      rw [ent_else ds n1 n2 n3] at q
      exact q _ s0
theorem many_fin : ∀ n : Fin 9, manyD (.int ((n.val : Int) + 1)) = true := by decide
theorem let_fin : ∀ l : Fin 4, letD (.str (Lt l)) = true := by decide +kernel
theorem ent_L {e : Ent} (h : e.ok) : entL e.parts = true := by
  cases e with
  | face l =>
    show pairD (.str (ws 0)) (.str (Lt l)) = true
    unfold pairD
    rw [if_pos (by decide +kernel)]
    exact let_fin l
  | go n =>
    show pairD (.str (ws 4)) (.int ((n.val : Int) + 1)) = true
    unfold pairD
    rw [if_neg (by decide +kernel), if_pos (by decide +kernel)]
    exact many_fin n
  | sign z =>
    show pairD (.str (ws 6)) (.str z) = true
    unfold pairD
    rw [if_neg (by decide +kernel), if_neg (by decide +kernel)]
    show (eqS (.str (ws 6)) "sign" && Ent.sgS z) = true
    rw [h.2.2, show eqS (.str (ws 6)) "sign" = true by decide +kernel]
    rfl
  | spy n z =>
    show (eqS (.str (ws 8)) "spy" && (manyD (.int ((n.val : Int) + 1)) && Ent.sgS z)) = true
    rw [h.2.2, many_fin n, show eqS (.str (ws 8)) "spy" = true by decide +kernel]
    rfl
  | turn q =>
    have : ∀ q : Fin 3, entL (Ent.turn q).parts = true := by decide +kernel
    exact this q
  | bump => show inW (.str (ws 5)) wAlone = true; decide +kernel
  | bare => show inW (.str (ws 7)) wAlone = true; decide +kernel
  | swap => show inW (.str (ws 9)) wAlone = true; decide +kernel
--@@SPLIT
/-! ### logs that are right, held -/
theorem ws_gp : ∀ i : Fin 10, gp (.str (ws i)) = true := by decide +kernel
theorem seq_entD {d : PyData} {e : Ent} (h : seqD d = some e.parts) (ok : e.ok) : entD d = true := by
  unfold entD
  rw [h]
  exact ent_L ok
theorem parts_gp {e : Ent} (ok : e.ok) : ∀ d ∈ e.parts, gp d = true := by
  intro d hd
  rcases List.mem_cons.mp hd with hd | hd
  · rw [hd]
    have : ∀ i : Fin 10, gp (.str (ws i)) = true := by decide +kernel
    exact this _
  have sg : ∀ {z : Str}, (z.length ≤ 12 ∧ PyData.strOk z = true ∧ Ent.sgS z = true) → gp (.str z) = true := fun h => decide_eq_true (by have := h.1; omega)
  have lt : ∀ l : Fin 4, gp (.str (Lt l)) = true := by decide +kernel
  cases e with
  | face l => rw [List.mem_singleton.mp hd]; exact lt l
  | go n => rw [List.mem_singleton.mp hd]; rfl
  | sign z => rw [List.mem_singleton.mp hd]; exact sg ok
  | spy n z =>
    rcases List.mem_cons.mp hd with hd | hd
    · rw [hd]; rfl
    · rw [List.mem_singleton.mp hd]; exact sg ok
  | turn q => cases hd
  | bump => cases hd
  | bare => cases hd
  | swap => cases hd
theorem plen3 (e : Ent) : e.parts.length ≤ 3 := by
  cases e with
  | face l => exact (show 2 ≤ 3 by decide)
  | turn q => exact (show 1 ≤ 3 by decide)
  | go n => exact (show 2 ≤ 3 by decide)
  | bump => exact (show 1 ≤ 3 by decide)
  | sign z => exact (show 2 ≤ 3 by decide)
  | bare => exact (show 1 ≤ 3 by decide)
  | spy n z => exact (show 3 ≤ 3 by decide)
  | swap => exact (show 1 ≤ 3 by decide)
theorem seq_ge {d : PyData} {e : Ent} (h : seqD d = some e.parts) (ok : e.ok) : ge d = true := by
  unfold ge
  rw [h]
  refine Bool.and_eq_true_iff.mpr ⟨decide_eq_true (by have := plen3 e; omega), List.all_eq_true.mpr (parts_gp ok)⟩
/-- the i-th entry as data -/
theorem Rows.dp_at {K : PySem.W.Frag} {H : Hp} {xs : List V} {es : List Ent} (h : Rows K H xs es) {i : Nat} {v : V} (hv : xs[i]? = some v) : ∃ e d, es[i]? = some e ∧ Dp K H v d ∧ seqD d = some e.parts := by
  obtain ⟨ds, h1, h2⟩ := h
  obtain ⟨d, fd, gd⟩ := dpa_at ds xs h1 i v hv
  have e1 : (ds.map seqD)[i]? = some (seqD d) := by rw [List.getElem?_map, fd]; rfl
  rw [h2, List.getElem?_map] at e1
  cases e2 : es[i]? with
  | none => rw [e2] at e1; cases e1
  | some e =>
    rw [e2] at e1
    exact ⟨e, d, rfl, gd, (Option.some.inj e1).symm⟩
theorem need_iff : ∀ i : Fin 10, inV (.str (ws i)) (wFace.map V.str) = decide (i = 1 ∨ i = 2 ∨ i = 3 ∨ i = 4 ∨ i = 5 ∨ i = 8) := by decide +kernel
theorem need_kind (e : Ent) : decide (e.kind = 1 ∨ e.kind = 2 ∨ e.kind = 3 ∨ e.kind = 4 ∨ e.kind = 5 ∨ e.kind = 8) = e.need := by
  cases e with
  | turn q =>
    have : ∀ q : Fin 3, decide ((Ent.turn q).kind = 1 ∨ (Ent.turn q).kind = 2 ∨ (Ent.turn q).kind = 3 ∨ (Ent.turn q).kind = 4 ∨ (Ent.turn q).kind = 5 ∨ (Ent.turn q).kind = 8) = true := by decide
    exact this q
  | _ => rfl
theorem faceW (e : Ent) : decide (V.str (ws e.kind) = V.str (PySem.Str.ofString "face")) = e.isFace := (wsd e.kind 0).trans e.face_iff.symm
def spHeld (K : PySem.W.Frag) : Sp := fun vs H Q _ => ∃ (e : Addr) (xs : List V) (es : List Ent), vs = [.ref e] ∧ SqA K H e xs ∧ Rows K H xs es ∧ (∀ e ∈ es, e.ok) ∧ Right es ∧ es.length ≤ 200 ∧ ∀ H' r ys, Same H H' → H r = none → H' r = some (.tup ys) → DpAll K H' ys (es.map Ent.tup) → Q (.ref r) H'
theorem ok_held_log (T : Top w K mg) : FnOk P w K mg base CX0 6 T.a_held_log T.fd_held_log ["entries"] (spHeld K) := by
  have G_is_entry := ok_is_entry (P := P) (w := w) (base := base) T
  refine T.F_held_log.ok sc_held_log (fun vs H Q E h => ?_) (fun cdv A outer s H vs Q E hr h => ?_)
  · obtain ⟨e, xs, es, rfl, _⟩ := h
    rfl
  · obtain ⟨e, xs, es, rfl, hs, ha, ok, hR, hlen, q⟩ := h
    refine ⟨_, (pss_cons (ps_set (i := 1) sc_held_log.nd rfl (.inl rfl) pe_bl)
      (pss_cons (ps_set (i := 2) sc_held_log.nd rfl (.inl rfl) (pe_lst pa_nil))
      (pss_cons (ps_for PassesOwn.never rfl (SeqW.pi_enumA (by rfl) T.m_enumerate (pa_cons (pv 0) pa_nil)) (pg_tup rfl (pgs_cons (pg_name (i := 3) sc_held_log.nd rfl (.inl rfl)) (pgs_cons (pg_name (i := 4) sc_held_log.nd rfl (.inl rfl)) pgs_nil))) (pss_cons (ps_if (pt_not (pt_val (pe_call G_is_entry hr (by rfl) T.g_is_entry T.F_is_entry.kp T.b_is_entry .nil pass0 (pa_cons (pv 4) pa_nil)))) (pss_one ps_never) pss_nil)
      (Evl.pss_cut (ps_if (PW.pt (pw_and (pt_cmpR (op_inA (units65 hr)) (pe_ix (r := rIx K) (SeqW.ix_seqK rfl) (pv 4) pe_int (fun _ _ => rfl)) (pe_glob (v := .ref T.a_WORDS_BEHIND_A_FACE) (by rfl) T.g_WORDS_BEHIND_A_FACE rfl) (by rfl)) (pw_and1 (pt_not (pt_val (pv 1)))))) (pss_one ps_never) pss_nil)
      (Evl.pss_cut (ps_set (i := 1) sc_held_log.nd rfl (.inl rfl) (pe_or (pv 1) (pe_one (pe_cmpR (op_eqA hr.units) (pe_ix (r := rIx K) (SeqW.ix_seqK rfl) (pv 4) pe_int (fun _ _ => rfl)) pe_str (nomark _)))))
      (pss_one (ps_expr (pe_bm PySem.F.plainAttrs_list PySem.F.slot_list_append PySem.F.type_list_append mt_append (pv 2) (pa_cons (pe_callTy call_tuple_of (by rfl) T.m_tuple (by decide +kernel) (pa_cons (pv 4) pa_nil)) pa_nil))))))))
      (pss_one (ps_ret (pe_callTy call_tuple_of (by rfl) T.m_tuple (by decide +kernel) (pa_cons (pv 2) pa_nil))))))), ?_⟩
    have lx := ha.len
    refine ⟨Nat.zero_le _, fun L nL => ?_⟩
    have s0 := same_upd (o := .lst []) nL
    refine ⟨.ref e, rfl, e, xs, rfl, (fun H' => Same H H'), kpA hs, s0, fun J G wk hG => for_it wk (fun i σ H' => Same H H' ∧ ∃ y3 y4 ys, σ = [some (.ref e), some (.bl ((es.take i).any Ent.isFace)), some (.ref L), y3, y4] ∧ H' L = some (.lst ys) ∧ ys.length = i ∧ DpAll K (wo H' (fun b => b = L)) ys ((es.take i).map Ent.tup)) ⟨s0, none, none, [], rfl, upd_same, rfl, .nil⟩ (fun i σ H' _ h => hG _ h.1) ?_ ?_⟩
    · rintro i v σ H1 H2 hi ⟨sm, y3, y4, ys, rfl, eL, ly, hy⟩ ⟨t, u1, u2, rfl, nt, rfl, e1, e2⟩
      cases e1
      have e2 : xs[i]? = some u2 := e2
      obtain ⟨en, d, fe, gd, sd⟩ := ha.dp_at e2
      have oke := ok en (List.mem_of_getElem? fe)
      have st := same_upd (o := .tup [.int (i : Nat), u2]) nt
      have sm2 := sm.trans st
      refine ⟨t, _, rfl, .inl (.inl upd_same), rfl, _, _, rfl, _, _, rfl, rfl, ?_⟩
      refine ⟨u2, rfl, u2, d, rfl, seq_ge sd oke, dp_same sm2 d u2 gd, fun H3 s3 => ⟨_, rfl, ?_⟩⟩
      rw [seq_entD sd oke]
      refine iteF ?_
      have sm3 := sm2.trans s3
      have nLt : L ≠ t := ne_of_none eL nt
      have eL3 := s3 _ _ (st _ _ eL)
      have mH : Same H (wo H3 (fun b => b = L)) := fun b o h => by
        rw [wo_in (X := fun b => b = L) (ne_of_none h nL)]
        exact sm3 _ _ h
      obtain ⟨a, us, rfl, hqW, hallW⟩ := ent_at (dp_same mH d u2 gd) sd
      have hq := hqW.same wo_same
      have fin : (Same H H3 ∧ ∃ y3 y4 ys, [some (V.ref e), some (.bl ((es.take i).any Ent.isFace)), some (.ref L), some (.int (i : Nat)), some (.ref a)] = [some (V.ref e), some (.bl ((es.take i).any Ent.isFace)), some (.ref L), y3, y4] ∧ H3 L = some (.lst ys)) := ⟨sm3, _, _, _, rfl, eL3⟩
      refine ⟨fun σ H' => H3 = H' ∧ σ = [some (.ref e), some (.bl ((es.take i).any Ent.isFace)), some (.ref L), some (.int (i : Nat)), some (.ref a)], ?_, ?_⟩
      · refine ⟨.ref a, rfl, ixA (j := 0) hq rfl (inA_of (d := .str (ws en.kind)) (ws := wFace) (.str _) (ws_gp _) (T.v_WORDS_BEHIND_A_FACE _) (by decide +kernel) ⟨_, rfl, ?_⟩)⟩
        have hn : inW (.str (ws en.kind)) wFace = en.need := by
          rw [← need_kind, ← need_iff]
          exact (inW_flat (v := .str (ws en.kind)) (d := .str (ws en.kind)) (fun s => rfl) wFace).symm
        rw [hn]
        refine ite2 (fun e3 => ?_) (fun e3 => ⟨rfl, rfl⟩)
        refine ⟨_, rfl, _, rfl, ?_⟩
        rw [hR i en fe e3]
        exact iteF ⟨rfl, rfl⟩
      rintro σ H4 ⟨rfl, rfl⟩
      refine ⟨fun σ H' => H3 = H' ∧ σ = [some (.ref e), some (.bl ((es.take (i + 1)).any Ent.isFace)), some (.ref L), some (.int (i : Nat)), some (.ref a)], ?_, ?_⟩
      · have ea : (es.take (i + 1)).any Ent.isFace = ((es.take i).any Ent.isFace || en.isFace) := by
          rw [List.take_add_one, fe, List.any_append]
          show (_ || (en.isFace || false)) = _
          rw [Bool.or_false]
        refine ⟨_, rfl, _, rfl, ?_⟩
        cases eb : (es.take i).any Ent.isFace with
        | true =>
          rw [ea, eb]
          exact iteT ⟨rfl, rfl⟩
        | false =>
          rw [ea, eb]
          refine iteF ⟨.ref a, rfl, ixA (j := 0) hq rfl (.inl ⟨rfl, ?_⟩)⟩
          rw [faceW]
          exact ⟨rfl, rfl⟩
      rintro σ H4 ⟨rfl, rfl⟩
      have i2 : (es.take (i + 1)).map Ent.tup = (es.take i).map Ent.tup ++ [en.tup] := by
        rw [List.take_add_one, fe, List.map_append]
        rfl
      have hw : Same (wo H1 (fun b => b = L)) (wo H3 (fun b => b = L)) := fun b o h => by
        have h2 := wo_some h
        rw [wo_in (X := fun b => b = L) h2.1]
        exact s3 _ _ (st _ _ h2.2)
      have more : ∀ (H5 : Hp) (r : Addr), Same H3 H5 → Dp K (wo H5 (fun b => b = L)) (.ref r) en.tup → H5 L = some (.lst ys) → ∃ l zs y, V.ref L = .ref l ∧ [V.ref r] = [y] ∧ H5 l = some (.lst zs) ∧ zs.length < sizeLine ∧ (Same H (upd H5 l (.lst (zs ++ [y]))) ∧ ∃ y3 y4 ys, [some (V.ref e), some (.bl ((es.take (i + 1)).any Ent.isFace)), some (.ref L), some (.int (i : Nat)), some (.ref a)] = [some (V.ref e), some (.bl ((es.take (i + 1)).any Ent.isFace)), some (.ref L), y3, y4] ∧ (upd H5 l (.lst (zs ++ [y]))) L = some (.lst ys) ∧ ys.length = i + 1 ∧ DpAll K (wo (upd H5 l (.lst (zs ++ [y]))) (fun b => b = L)) ys ((es.take (i + 1)).map Ent.tup)) := fun H5 r s5 hd5 eL5 => by
        have m6 : Same (wo H5 (fun b => b = L)) (wo (upd H5 L (.lst (ys ++ [.ref r]))) (fun b => b = L)) := fun c u z => by
          have h2 := wo_some z
          rw [wo_in (X := fun b => b = L) h2.1, upd_ne h2.1]
          exact h2.2
        have w35 : Same (wo H3 (fun b => b = L)) (wo H5 (fun b => b = L)) := fun b o h => by
          have h2 := wo_some h
          rw [wo_in (X := fun b => b = L) h2.1]
          exact s5 _ _ h2.2
        refine ⟨L, ys, .ref r, rfl, rfl, eL5, small1000 (by omega), ?_, _, _, _, rfl, upd_same, ?_, ?_⟩
        · exact fun b o h => by
            rw [upd_ne (ne_of_none h nL)]
            exact s5 _ _ (sm3 _ _ h)
        · rw [List.length_append, ly]
          rfl
        · rw [i2]
          exact dpa_snoc (dp_same m6 _ _ hd5) _ _ (dpa_same ((hw.trans w35).trans m6) _ _ hy)
      refine ⟨.ref L, rfl, .inl ⟨rfl, _, .inl (.inl eL3)⟩, .ref a, rfl, a, .str (ws en.kind) :: us, rfl, ?_⟩
      rcases hqW with hl | ht
      · refine .inl ⟨wo_same.seq hl, fun r nr => ?_⟩
        have sr := same_upd (o := .tup (.str (ws en.kind) :: us)) nr
        refine more _ r sr ?_ (sr _ _ eL3)
        refine .tup (.inl (.inl ?_)) (.cons (.str _) (dpa_same (fun b o h => ?_) _ _ hallW))
        · rw [wo_in (X := fun b => b = L) (fun z : r = L => by rw [z, eL3] at nr; cases nr)]
          exact upd_same
        · have h2 := wo_some h
          rw [wo_in (X := fun b => b = L) h2.1]
          exact sr _ _ h2.2
      · exact .inr ⟨sqt_same wo_same ht, more _ a (Same.refl _) (.tup ht (.cons (.str _) hallW)) eL3⟩
    · rintro σ H1 ⟨sm, y3, y4, ys, rfl, eL, ly, hy⟩
      rw [lx, List.take_length] at hy
      refine ⟨.ref L, rfl, L, ys, rfl, .inl ⟨.inl (.inl eL), fun r nr => ?_⟩⟩
      have sr := same_upd (o := .tup ys) nr
      exact q _ r ys (sm.trans sr) (sm.free nr) upd_same (dpa_same (wo_same.trans sr) _ _ hy)
/-! ### a box that is right, held -/
def spHeldBox (K : PySem.W.Frag) : Sp := fun vs H Q _ => ∃ (b : Addr) (box : List Nat), vs = [.ref b] ∧ SqA K H b (box.map fun n => V.int (n : Nat)) ∧ box.length = 8 ∧ ∀ H' r, Same H H' → SqT K H' r (box.map fun n => V.int (n : Nat)) → Q (.ref r) H'
theorem ok_is_wholeI (T : Top w K mg) : FnOk P w K mg base CX0 1 T.a_is_whole T.fd_is_whole ["thing"] spWhole := by
  refine T.F_is_whole.ok sc_is_whole (fun vs H Q E h => ?_) (fun cdv A outer s H vs Q E hr h => ?_)
  · obtain ⟨i, rfl, _⟩ := h
    rfl
  · obtain ⟨i, rfl, q⟩ := h
    refine ⟨_, (pss_one (ps_ret (pe_and (pe_callB call_isi (by rfl) T.m_isinstance (by decide +kernel) (pa_cons (pv 0) (pa_cons (pe_bltn (v := .ty "int") (by rfl) T.m_int (by decide +kernel) rfl) pa_nil))) (pe_one (pe_not (pe_callB call_isi (by rfl) T.m_isinstance (by decide +kernel) (pa_cons (pv 0) (pa_cons (pe_bltn (v := .ty "bool") (by rfl) T.m_bool (by decide +kernel) rfl) pa_nil)))))))), ?_⟩
    refine ⟨.int i, rfl, _, _, _, _, true, rfl, .ty _, .base (.int i), kit_ty (by decide +kernel), _, rfl, iteT ?_⟩
    exact ⟨.int i, rfl, _, _, _, _, false, rfl, .ty _, .base (.int i), kit_ty (by decide +kernel), _, rfl, q⟩
theorem ok_held_box (T : Top w K mg) : FnOk P w K mg base CX0 2 T.a_held_box T.fd_held_box ["box"] (spHeldBox K) := by
  have G_is_whole := ok_is_wholeI (P := P) (w := w) (base := base) T
  refine T.F_held_box.ok sc_held_box (fun vs H Q E h => ?_) (fun cdv A outer s H vs Q E hr h => ?_)
  · obtain ⟨b, box, rfl, _⟩ := h
    rfl
  · obtain ⟨b, box, rfl, hs, h8, q⟩ := h
    refine ⟨_, (pss_cons (ps_if (pt_cmpR op_ne (pe_callB call_len_seq (by rfl) T.m_len (by decide +kernel) (pa_cons (pv 0) pa_nil)) (pe_glob (v := .int 8) (by rfl) T.g_HOW_MANY_LOTS.choose_spec ⟨_, rfl⟩) (nomark _)) (pss_one ps_never) pss_nil)
      (pss_cons (ps_for PassesOwn.never rfl (SeqW.pi_enumA (by rfl) T.m_enumerate (pa_cons (pv 0) pa_nil)) (pg_tup rfl (pgs_cons (pg_name (i := 1) sc_held_box.nd rfl (.inl rfl)) (pgs_cons (pg_name (i := 2) sc_held_box.nd rfl (.inl rfl)) pgs_nil))) (pss_one (ps_if (PW.pt (pw_or (pt_not (pt_val (pe_call G_is_whole hr (by rfl) T.g_is_whole T.F_is_whole.kp T.b_is_whole .nil pass0 (pa_cons (pv 2) pa_nil)))) (pw_or1 (pt_cmpR op_lt (pv 2) pe_int (nomark _))))) (pss_one ps_never) pss_nil)))
      (pss_one (ps_ret (pe_callTy call_tuple_of (by rfl) T.m_tuple (by decide +kernel) (pa_cons (pv 0) pa_nil)))))), ?_⟩
    refine ⟨.ref b, rfl, b, _, rfl, hs, rfl, _, rfl, iteN (by rw [List.length_map, h8]; rfl) ?_⟩
    refine ⟨.ref b, rfl, b, _, rfl, (fun H' => Same H H'), kpA hs, Same.refl _, fun J G wk hG => for_it wk (fun i σ H' => Same H H' ∧ ∃ y1 y2, σ = [some (.ref b), y1, y2]) ⟨Same.refl _, _, _, rfl⟩ (fun i σ H' _ h => hG _ h.1) ?_ ?_⟩
    · rintro i v σ H1 H2 hi ⟨sm, y1, y2, rfl⟩ ⟨t, u1, u2, rfl, nt, rfl, e1, e2⟩
      cases e1
      have e2 : (box.map fun n => V.int (n : Nat))[i]? = some u2 := e2
      rw [List.getElem?_map] at e2
      obtain ⟨n, fn, rfl⟩ : ∃ n, box[i]? = some n ∧ V.int (n : Nat) = u2 := by
        cases e1 : box[i]? with
        | none => rw [e1] at e2; cases e2
        | some n => rw [e1] at e2; exact ⟨n, rfl, Option.some.inj e2⟩
      refine ⟨t, _, rfl, .inl (.inl upd_same), rfl, _, _, rfl, _, _, rfl, rfl, ?_⟩
      refine ⟨_, rfl, _, rfl, _, rfl, iteF ⟨_, rfl, _, _, rfl, rfl, _, rfl, iteDN (decide_eq_false (by omega)) ⟨sm.trans (same_upd nt), _, _, rfl⟩⟩⟩
    · rintro σ H1 ⟨sm, y1, y2, rfl⟩
      refine ⟨.ref b, rfl, b, box.map fun n => V.int (n : Nat), rfl, ?_⟩
      rcases hs.same sm with h | h
      · exact .inl ⟨h, fun r nr => q _ r (sm.trans (same_upd nr)) (.inl (.inl upd_same))⟩
      · exact .inr ⟨h, q _ b sm h⟩
def spHeldOf (K : PySem.W.Frag) : Sp := fun vs H Q _ => ∃ (z : Str) (e : Addr) (xs : List V) (es : List Ent), vs = [.str z, .ref e] ∧ SqA K H e xs ∧ Rows K H xs es ∧ (∀ e ∈ es, e.ok) ∧ Right es ∧ es.length ≤ 200 ∧ ∀ H' r ys, Same H H' → H r = none → H' r = some (.tup ys) → DpAll K H' ys (es.map Ent.tup) → Q (.ref r) H'
theorem ok_held_log_of (T : Top w K mg) : FnOk P w K mg base CX0 7 T.a_held_log_of T.fd_held_log_of ["name", "log"] (spHeldOf K) := by
  have G_held_log := ok_held_log (P := P) (w := w) (base := base) T
  refine T.F_held_log_of.ok sc_held_log_of (fun vs H Q E h => ?_) (fun cdv A outer s H vs Q E hr h => ?_)
  · obtain ⟨z, e, xs, es, rfl, _⟩ := h
    rfl
  · obtain ⟨z, e, xs, es, rfl, hs, ha, ok, hR, hlen, q⟩ := h
    refine ⟨_, (pss_one (ps_try_thru0 (pss_one (ps_ret (pe_call G_held_log hr (by rfl) T.g_held_log T.F_held_log.kp T.b_held_log .nil pass0 (pa_cons (pv 1) pa_nil)))))), ?_⟩
    exact ⟨.ref e, rfl, e, xs, es, rfl, hs, ha, ok, hR, hlen, q⟩
--@@SPLIT
/-! ### rows of walkers: names and logs -/
abbrev Row := Str × List Ent
def ltN (a b : Str) : Prop := a.cps.toList < b.cps.toList
/-- rising by names -/
def Srt (rs : List Row) : Prop := rs.Pairwise fun a b => ltN a.1 b.1
def nms (rs : List Row) : List Str := rs.map (·.1)
def logD (r : Row) : PyData := .tuple (r.2.map Ent.tup)
structure RowOk (r : Row) : Prop where
  nm : nmL r.1.cps.toList = true
  ok : ∀ e ∈ r.2, e.ok
  right : Right r.2
  len : r.2.length ≤ 100
theorem srt_uniq {a b : List Row} (h : a.Perm b) (ha : Srt a) (hb : Srt b) : a = b :=
  h.eq_of_pairwise (fun x y _ _ h1 h2 => absurd (List.lt_trans h1 h2) (List.lt_irrefl _)) ha hb
theorem perm_lift {α β : Type} {f : α → β} : ∀ {ys : List β} {rs : List α}, ys.Perm (rs.map f) → ∃ rs' : List α, rs'.Perm rs ∧ rs'.map f = ys
  | [], rs, h => by
    have e : rs.map f = [] := h.symm.eq_nil
    have e2 : rs = [] := List.map_eq_nil_iff.mp e
    exact ⟨[], by rw [e2], rfl⟩
  | y :: ys, rs, h => by
    obtain ⟨r, hr, rfl⟩ := List.mem_map.mp (h.mem_iff.mp List.mem_cons_self)
    obtain ⟨s, t, rfl⟩ := List.append_of_mem hr
    have h2 : ys.Perm ((s ++ t).map f) := by
      have e : ((s ++ r :: t).map f).Perm (f r :: (s ++ t).map f) := (List.perm_middle (a := r) (l₁ := s) (l₂ := t)).map f
      exact (h.trans e).cons_inv
    obtain ⟨rs', p, e⟩ := perm_lift h2
    exact ⟨r :: rs', (p.cons r).trans List.perm_middle.symm, by rw [List.map_cons, e]⟩
theorem le_of_rising : ∀ (p : Str) (r : List Str), risingS p r = true → ∀ x ∈ r, ¬ x.cps.toList < p.cps.toList
  | _, [], _, _, h => nomatch h
  | p, x :: r, h, y, hy => by
    obtain ⟨h1, h2⟩ := Bool.and_eq_true_iff.mp h
    have h1 : ¬ x.cps.toList < p.cps.toList := fun z => by
      rw [ltCps_eq, decide_eq_true z] at h1
      cases h1
    rcases List.mem_cons.mp hy with e | hy
    · rw [e]
      exact h1
    · have h3 := le_of_rising x r h2 y hy
      exact List.not_lt.mpr (List.le_trans (List.not_lt.mp h1) (List.not_lt.mp h3))
theorem sortedS_pw : ∀ l : List Str, sortedS l = true → l.Pairwise fun a b => ¬ b.cps.toList < a.cps.toList
  | [], _ => .nil
  | x :: r, h => by
    refine .cons (fun y hy => le_of_rising x r h y hy) ?_
    cases r with
    | nil => exact .nil
    | cons z t => exact sortedS_pw (z :: t) (Bool.and_eq_true_iff.mp h).2
theorem str_inj {a b : Str} (h : a.cps.toList = b.cps.toList) : a = b := by
  cases a with
  | mk x =>
    cases b with
    | mk y =>
      congr 1
      exact Array.toList_inj.mp h
/-- no name twice, none falling: rising -/
theorem srt_of {rs : List Row} (nd : (nms rs).Nodup) (h : (nms rs).Pairwise fun a b => ¬ b.cps.toList < a.cps.toList) : Srt rs := by
  have h1 : rs.Pairwise fun a b => a.1 ≠ b.1 := List.pairwise_map.mp nd
  have h2 : rs.Pairwise fun a b => ¬ b.1.cps.toList < a.1.cps.toList := List.pairwise_map.mp h
  refine (h1.and h2).imp fun {a b} z => ?_
  refine Classical.byContradiction fun l => z.1 (str_inj (List.le_antisymm (List.not_lt.mp z.2) (List.not_lt.mp l)))
theorem Srt.nodup {rs : List Row} (h : Srt rs) : (nms rs).Nodup := by
  refine List.pairwise_map.mpr (h.imp fun {a b} z e => ?_)
  unfold ltN at z
  rw [e] at z
  exact List.lt_irrefl _ z
/-- the dict of names and logs -/
def kvsOf : List Row → List V → List (Key × V)
  | r :: rs, v :: vs => (Sum.inr r.1, v) :: kvsOf rs vs
  | _, _ => []
theorem kvs_keys : ∀ (rs : List Row) (vs : List V), vs.length = rs.length → (kvsOf rs vs).map (·.1) = (nms rs).map Sum.inr
  | [], _, _ => rfl
  | r :: rs, v :: vs, h => by
    show Sum.inr r.1 :: (kvsOf rs vs).map (·.1) = Sum.inr r.1 :: (nms rs).map Sum.inr
    rw [kvs_keys rs vs (Nat.succ.inj h)]
  | r :: rs, [], h => by cases h
theorem kvs_snoc : ∀ (rs : List Row) (vs : List V) (r : Row) (v : V), vs.length = rs.length → kvsOf (rs ++ [r]) (vs ++ [v]) = kvsOf rs vs ++ [(Sum.inr r.1, v)]
  | [], [], r, v, _ => rfl
  | q :: rs, u :: vs, r, v, h => by
    show (Sum.inr q.1, u) :: kvsOf (rs ++ [r]) (vs ++ [v]) = (Sum.inr q.1, u) :: (kvsOf rs vs ++ [(Sum.inr r.1, v)])
    rw [kvs_snoc rs vs r v (Nat.succ.inj h)]
  | [], _ :: _, _, _, h => by cases h
  | _ :: _, [], _, _, h => by cases h
theorem kvs_none : ∀ (rs : List Row) (vs : List V) (z : Str), z ∉ nms rs → valV (kvsOf rs vs) (Sum.inr z : Key) = none
  | [], _, _, _ => rfl
  | r :: rs, [], _, _ => rfl
  | r :: rs, v :: vs, z, h => by
    have h1 : ¬ ((Sum.inr r.1 : Key) = Sum.inr z) := fun e => h (List.mem_cons.mpr (.inl (Sum.inr.inj e).symm))
    exact (valV_neg (p := ((Sum.inr r.1 : Key), v)) h1).trans (kvs_none rs vs z fun m => h (List.mem_cons_of_mem _ m))
theorem kvs_some : ∀ (rs : List Row) (vs : List V) (m : Nat) (r : Row) (v : V), (nms rs).Nodup → rs[m]? = some r → vs[m]? = some v → valV (kvsOf rs vs) (Sum.inr r.1 : Key) = some v
  | [], _, _, _, _, _, h, _ => by cases h
  | q :: rs, [], _, _, _, _, _, h => by cases h
  | q :: rs, u :: vs, 0, r, v, _, h1, h2 => by
    cases h1
    cases h2
    exact valV_pos rfl
  | q :: rs, u :: vs, m + 1, r, v, nd, h1, h2 => by
    have nd2 := List.nodup_cons.mp (show (q.1 :: nms rs).Nodup from nd)
    have hr : r.1 ∈ nms rs := List.mem_map.mpr ⟨r, List.mem_of_getElem? h1, rfl⟩
    have h3 : ¬ ((Sum.inr q.1 : Key) = Sum.inr r.1) := fun e => nd2.1 (by rw [Sum.inr.inj e]; exact hr)
    exact (valV_neg (p := ((Sum.inr q.1 : Key), u)) h3).trans (kvs_some rs vs m r v nd2.2 h1 h2)
theorem kvs_len : ∀ (rs : List Row) (vs : List V), (kvsOf rs vs).length ≤ rs.length
  | [], _ => Nat.zero_le _
  | _ :: _, [] => Nat.zero_le _
  | _ :: rs, _ :: vs => Nat.succ_le_succ (kvs_len rs vs)
/-! ### an atlas -/
def flds (b n l : Addr) : List (Str × V) := putF "logs" (.ref l) (putF "names" (.ref n) (putF "box" (.ref b) []))
theorem fl_nl : ¬ (("names" : Str) = "logs") := by decide +kernel
theorem fl_bl : ¬ (("box" : Str) = "logs") := by decide +kernel
theorem fl_bn : ¬ (("box" : Str) = "names") := by decide +kernel
theorem fl_box (b n l : Addr) : (flds b n l).lookup ("box" : Str) = some (.ref b) := by
  unfold flds
  rw [lookup_putF, if_neg fl_bl, lookup_putF, if_neg fl_bn, lookup_putF, if_pos rfl]
theorem fl_names (b n l : Addr) : (flds b n l).lookup ("names" : Str) = some (.ref n) := by
  unfold flds
  rw [lookup_putF, if_neg fl_nl, lookup_putF, if_pos rfl]
theorem fl_logs (b n l : Addr) : (flds b n l).lookup ("logs" : Str) = some (.ref l) := by
  unfold flds
  rw [lookup_putF, if_pos rfl]
theorem fl_no (b n l : Addr) {m : Str} (h1 : ¬ m = "logs") (h2 : ¬ m = "names") (h3 : ¬ m = "box") : (flds b n l).lookup m = none := by
  unfold flds
  rw [lookup_putF, if_neg h1, lookup_putF, if_neg h2, lookup_putF, if_neg h3]
  rfl
def boxV (box : List Nat) : List V := box.map fun n => V.int (n : Nat)
def namV (rs : List Row) : List V := (nms rs).map V.str
def AtlasAt (K : PySem.W.Frag) (C : Addr) (H : Hp) (p : Addr) (box : List Nat) (rs : List Row) : Prop :=
  ∃ dx b n l ls on, OwnI.PlainT on ∧ H p = some (.ins C dx (flds b n l)) ∧ SqT K H b (boxV box) ∧ H n = some (.frz on (.tup (namV rs))) ∧ SqT K H l ls ∧ DpAll K H ls (rs.map logD)
theorem AtlasAt.same {K : PySem.W.Frag} {C : Addr} {H H' : Hp} {p : Addr} {box : List Nat} {rs : List Row} (h : AtlasAt K C H p box rs) (s : Same H H') : AtlasAt K C H' p box rs := by
  obtain ⟨dx, b, n, l, ls, on, po, h1, h2, h3, h4, h5⟩ := h
  exact ⟨dx, b, n, l, ls, on, po, s _ _ h1, sqt_same s h2, s _ _ h3, sqt_same s h4, dpa_same s _ _ h5⟩
/-- tuples and instances as they were, whatever became of lists -/
def keepO : HO → Bool
  | .lst _ => false
  | .dK _ => false
  | _ => true
def Kp (H H' : Hp) : Prop := ∀ b o, keepO o = true → H b = some o → H' b = some o
theorem Kp.of {H H' : Hp} (s : Same H H') : Kp H H' := fun b o _ h => s b o h
theorem Kp.trans {H H1 H2 : Hp} (a : Kp H H1) (b : Kp H1 H2) : Kp H H2 := fun c o z h => b c o z (a c o z h)
theorem Kp.upd {H : Hp} {a : Addr} {o u : HO} (e : H a = some u) (n : keepO u = false) : Kp H (L2.upd H a o) := fun b v z h => by
  rw [upd_ne (fun y => by rw [y, e] at h; cases h; rw [n] at z; cases z)]
  exact h
theorem Kp.but {H H' : Hp} {p : Addr} (hp : Pool H p) (b : But p H H') : Kp H H' := fun c o z h => by
  refine b c o (fun e => ?_) h
  obtain ⟨l, x, k, n, _, h1⟩ := hp
  rw [e, h1] at h
  cases h
  cases z
/-- tuples as they were -/
def tpO : HO → Bool
  | .tup _ => true
  | .frz _ _ => true
  | _ => false
def Tp (H H' : Hp) : Prop := ∀ b o, tpO o = true → H b = some o → H' b = some o
theorem Kp.tp {H H' : Hp} (k : Kp H H') : Tp H H' := fun b o z h => k b o (by cases o <;> first | rfl | cases z) h
theorem Tp.wo {H : Hp} {X : Addr → Prop} (h : ∀ b o, X b → H b = some o → tpO o = false) : Tp H (M.wo H X) := fun b o z e => by
  rw [wo_in (X := X) (fun x => by rw [h b o x e] at z; cases z)]
  exact e
theorem sqt_kp {K : PySem.W.Frag} {H H' : Hp} {a : Addr} {xs : List V} (e : Tp H H') (h : SqT K H a xs) : SqT K H' a xs := by
  rcases h with (h | ⟨o, h⟩) | h
  · exact .inl (.inl (e _ _ rfl h))
  · exact .inl (.inr ⟨o, e _ _ rfl h⟩)
  · exact .inr h
theorem dpa_kpA {K : PySem.W.Frag} {H H' : Hp} {P : PyData → Prop} (f : ∀ d v, P d → Dp K H v d → Dp K H' v d) : ∀ (ds : List PyData) (vs : List V), (∀ d ∈ ds, P d) → DpAll K H vs ds → DpAll K H' vs ds
  | [], _, _, h => by cases h; exact .nil
  | d :: ds, _, hp, h => by
    cases h with
    | cons h1 h2 => exact .cons (f d _ (hp d List.mem_cons_self) h1) (dpa_kpA f ds _ (fun x hx => hp x (List.mem_cons_of_mem _ hx)) h2)
theorem dp_kp {K : PySem.W.Frag} {H H' : Hp} (e : Tp H H') : ∀ (n : Nat) (d : PyData) (v : V), okD n d = true → Dp K H v d → Dp K H' v d
  | n, .none, _, _, h => by cases h; exact .non
  | n, .bool b, _, _, h => by cases h; exact .bl b
  | n, .int i, _, _, h => by cases h; exact .int i
  | n, .str x, _, _, h => by cases h; exact .str x
  | 0, .list ds, _, o, _ => by cases o
  | n + 1, .list ds, _, o, _ => by cases o
  | 0, .tuple ds, _, o, _ => by cases o
  | n + 1, .tuple ds, _, o, h => by
    cases h with
    | tup hs ha =>
      have o2 := (Bool.and_eq_true_iff.mp (show (decide (ds.length ≤ 1000) && ds.all fun d => okD n d) = true from o)).2
      exact .tup (sqt_kp e hs) (dpa_kpA (P := fun d => okD n d = true) (fun d v o h => dp_kp e n d v o h) ds _ (fun d hd => List.all_eq_true.mp o2 d hd) ha)
  | 0, .dict ds, _, o, _ => by cases o
  | n + 1, .dict ds, _, o, _ => by cases o
theorem part_ok0 {e : Ent} : ∀ d ∈ e.parts, okD 0 d = true := by
  intro d hd
  rcases List.mem_cons.mp hd with hd | hd
  · rw [hd]; rfl
  cases e with
  | face l => rw [List.mem_singleton.mp hd]; rfl
  | go n => rw [List.mem_singleton.mp hd]; rfl
  | sign z => rw [List.mem_singleton.mp hd]; rfl
  | spy n z =>
    rcases List.mem_cons.mp hd with hd | hd
    · rw [hd]; rfl
    · rw [List.mem_singleton.mp hd]; rfl
  | turn q => cases hd
  | bump => cases hd
  | bare => cases hd
  | swap => cases hd
theorem ent_okT (e : Ent) : okD 1 e.tup = true := Bool.and_eq_true_iff.mpr ⟨decide_eq_true (by have := plen3 e; omega), List.all_eq_true.mpr part_ok0⟩
theorem log_okD {r : Row} (h : r.2.length ≤ 1000) : okD 2 (logD r) = true := by
  refine Bool.and_eq_true_iff.mpr ⟨decide_eq_true (by rw [List.length_map]; exact h), List.all_eq_true.mpr fun d hd => ?_⟩
  obtain ⟨e, _, rfl⟩ := List.mem_map.mp hd
  exact ent_okT e
theorem AtlasAt.kp {K : PySem.W.Frag} {C : Addr} {H H' : Hp} {p : Addr} {box : List Nat} {rs : List Row} (h : AtlasAt K C H p box rs) (hr : ∀ r ∈ rs, r.2.length ≤ 1000) (s : Kp H H') : AtlasAt K C H' p box rs := by
  obtain ⟨dx, b, n, l, ls, on, po, h1, h2, h3, h4, h5⟩ := h
  refine ⟨dx, b, n, l, ls, on, po, s _ _ rfl h1, sqt_kp s.tp h2, s _ _ rfl h3, sqt_kp s.tp h4, dpa_kpA (P := fun d => okD 2 d = true) (fun d v o h => dp_kp s.tp 2 d v o h) _ _ (fun d hd => ?_) h5⟩
  obtain ⟨r, hr2, rfl⟩ := List.mem_map.mp hd
  exact log_okD (hr r hr2)
--@@SPLIT
def spLegs (K : PySem.W.Frag) : Sp := fun vs H Q _ => ∃ (e : Addr) (xs : List V) (es : List Ent), vs = [.ref e] ∧ SqA K H e xs ∧ Rows K H xs es ∧ es.length ≤ 200 ∧ ∀ H', Same H H' → Q (.int (1 + (swaps es : Int))) H'
theorem swaps_at {es : List Ent} {i : Nat} {e : Ent} (h : es[i]? = some e) : swaps (es.take (i + 1)) = swaps (es.take i) + (if e.isSwap = true then 1 else 0) := by
  rw [List.take_add_one, h]
  exact swaps_snoc _ _
theorem isw (e : Ent) : decide (V.str (ws e.kind) = V.str (PySem.Str.ofString "swap")) = e.isSwap := (wsd e.kind 9).trans e.swap_iff.symm
theorem ok_legs_in (T : Top w K mg) : FnOk P w K mg base CX0 1 T.a_legs_in T.fd_legs_in ["log"] (spLegs K) := by
  refine T.F_legs_in.ok sc_legs_in (fun vs H Q E h => ?_) (fun cdv A outer s H vs Q E hr h => ?_)
  · obtain ⟨e, xs, es, rfl, _⟩ := h
    rfl
  · obtain ⟨e, xs, es, rfl, hs, ha, hlen, q⟩ := h
    have lx := ha.len
    refine ⟨_, (pss_one (ps_ret (pe_op op_add pe_int (pe_callB call_len_seq (by rfl) T.m_len (by decide +kernel) (pa_cons (pe_lc (own := [("entry", 1)]) (g := gName 1) (by rfl) sc_legs_in.nd (SeqW.pi_seq (pv 0)) (blkOk_by (own := [("entry", 1)]) (N := ["log", "entry"]) (sc := defScope s_legs_in) (by decide +kernel)) (fun _ _ _ _ _ => (pg_name (i := 1) sc_legs_in.nd rfl (Or.inl rfl))) (fun _ _ _ _ _ => (pts_one (pt_cmpR op_eq (pe_ix (r := rIx K) (SeqW.ix_seqK rfl) (pv 1) pe_int (fun _ _ => rfl)) pe_str (nomark _)))) (fun _ _ _ _ _ => (pv 1))) pa_nil))))), ?_⟩
    refine ⟨.ref e, rfl, e, xs, rfl, (fun H' => Same H H'), kpA hs, Same.refl _, fun J G wk hG D hD => lc_it wk (fun i H' => Same H H' ∧ ∃ ys : List V, ys.length = swaps (es.take i) ∧ H' D = some (.lst ys)) ⟨same_upd hD, [], rfl, upd_same⟩ (fun i H' _ h => hG _ h.1) ?_ ?_⟩
    · rintro i v H1 H2 hi ⟨sm, ys, ly, eD⟩ ⟨rfl, hx⟩
      obtain ⟨en, fe, a, us, rfl, hq, _⟩ := (ha.same sm).at_ hx
      have lg := swaps_le (es.take i)
      rw [List.length_take] at lg
      refine ⟨rfl, .ref a, rfl, ixA (j := 0) hq rfl ⟨rfl, _, rfl, ?_⟩⟩
      rw [isw]
      refine ite2 (fun e1 => ⟨.ref a, rfl, ys, eD, small1000 (by omega), (fun b o h => ?_), _, ?_, upd_same⟩) (fun e1 => ⟨sm, ys, ?_, eD⟩)
      · rw [upd_ne (ne_of_none h hD)]
        exact sm _ _ h
      · rw [List.length_append, ly, swaps_at fe, if_pos e1]
        rfl
      · rw [ly, swaps_at fe, if_neg e1]
        rfl
    · rintro H1 ⟨sm, ys, ly, eD⟩
      rw [lx, List.take_length] at ly
      refine ⟨D, ys, rfl, .inl (.inl (.inl eD)), _, _, rfl, rfl, ?_⟩
      rw [ly]
      exact q _ sm
/-! ### an atlas is made -/
/-- one pair of a name and a log, as it is handed in -/
def PairAt (K : PySem.W.Frag) (H : Hp) (v : V) (r : Row) : Prop := ∃ p l xs, v = .ref p ∧ SqA K H p [.str r.1, .ref l] ∧ SqA K H l xs ∧ Rows K H xs r.2
theorem PairAt.same {K : PySem.W.Frag} {H H' : Hp} {v : V} {r : Row} (h : PairAt K H v r) (s : Same H H') : PairAt K H' v r := by
  obtain ⟨p, l, xs, h1, h2, h3, h4⟩ := h
  exact ⟨p, l, xs, h1, h2.same s, h3.same s, h4.same s⟩
theorem PairAt.seqs {K : PySem.W.Frag} {H H' : Hp} {v : V} {r : Row} (h : PairAt K H v r) (s : Seqs H H') : PairAt K H' v r := by
  obtain ⟨p, l, xs, h1, h2, h3, ds, h4, h5⟩ := h
  exact ⟨p, l, xs, h1, h2.elim (fun h => .inl (seqs_l s h)) (fun h => .inr (seqs_t s h)), h3.elim (fun h => .inl (seqs_l s h)) (fun h => .inr (seqs_t s h)), ds, dpa_seqs s _ _ h4, h5⟩
theorem seqs_of {H H' : Hp} {x C dx : Addr} {fs : List (Str × V)} (hx : H x = some (.ins C dx fs)) (b : But x H H') : Seqs H H' := fun c o z h => b c o (fun e => by rw [e, hx] at h; cases h; cases z) h
inductive Pairs (K : PySem.W.Frag) (H : Hp) : List V → List Row → Prop
  | nil : Pairs K H [] []
  | cons {v : V} {r : Row} {vs : List V} {rs : List Row} : PairAt K H v r → Pairs K H vs rs → Pairs K H (v :: vs) (r :: rs)
theorem Pairs.same {K : PySem.W.Frag} {H H' : Hp} {vs : List V} {rs : List Row} (h : Pairs K H vs rs) (s : Same H H') : Pairs K H' vs rs := by
  induction h with
  | nil => exact .nil
  | cons h1 _ ih => exact .cons (h1.same s) ih
theorem Pairs.len {K : PySem.W.Frag} {H : Hp} {vs : List V} {rs : List Row} (h : Pairs K H vs rs) : vs.length = rs.length := by
  induction h with
  | nil => rfl
  | cons _ _ ih => rw [List.length_cons, List.length_cons, ih]
theorem Pairs.at_ {K : PySem.W.Frag} {H : Hp} {vs : List V} {rs : List Row} (h : Pairs K H vs rs) : ∀ {i : Nat} {v : V}, vs[i]? = some v → ∃ r, rs[i]? = some r ∧ PairAt K H v r := by
  induction h with
  | nil => exact fun h => by cases h
  | cons h1 _ ih =>
    intro i v hv
    cases i with
    | zero => cases hv; exact ⟨_, rfl, h1⟩
    | succ i => exact ih hv
theorem Pairs.snoc {K : PySem.W.Frag} {H : Hp} {vs : List V} {rs : List Row} {v : V} {r : Row} (h : Pairs K H vs rs) (h1 : PairAt K H v r) : Pairs K H (vs ++ [v]) (rs ++ [r]) := by
  induction h with
  | nil => exact .cons h1 .nil
  | cons h2 _ ih => exact .cons h2 ih
theorem th_name {K : PySem.W.Frag} {H : Hp} {z : Str} (h : nmL z.cps.toList = true) : Th K H (.str z) ∧ nmV (.str z) = true := by
  refine ⟨.inl ⟨z, rfl, ?_⟩, h⟩
  have h1 := (Bool.and_eq_true_iff.mp (show (shL z.cps.toList && z.cps.toList.all smC) = true from h)).1
  have := of_decide_eq_true (Bool.and_eq_true_iff.mp h1).2
  have hl := len_toList z
  omega
def spAtlasInit (K : PySem.W.Frag) (C : Addr) : Sp := fun vs H Q _ => ∃ (x dx b l : Addr) (box : List Nat) (ps : List V) (rs : List Row), vs = [.ref x, .ref b, .ref l] ∧ H x = some (.ins C dx []) ∧ SqA K H b (boxV box) ∧ box.length = 8 ∧ SqA K H l ps ∧ Pairs K H ps rs ∧ (∀ r ∈ rs, RowOk r) ∧ (nms rs).Nodup ∧ rs.length ≤ 60 ∧
  ∀ H' rs', But x H H' → rs'.Perm rs → Srt rs' → AtlasAt K C H' x box rs' → Q .non H'
theorem ok_Atlas_init (T : Top w K mg) : FnOk P w K mg base CX0 8 T.a_Atlas_init T.fd_Atlas_init ["self", "box", "logs"] (spAtlasInit K T.a_Atlas) := by
  have G_held_box := ok_held_box (P := P) (w := w) (base := base) T
  have G_is_name := ok_is_name (P := P) (w := w) (base := base) T
  have G_held_log_of := ok_held_log_of (P := P) (w := w) (base := base) T
  refine OwnI.funD_ok T.F_Atlas_init sc_Atlas_init (fun vs H Q E h => ?_) (fun cdv A outer s H vs Q E hr h => ?_)
  · obtain ⟨x, dx, b, l, box, ps, rs, rfl, _⟩ := h
    rfl
  · obtain ⟨x, dx, b, l, box, ps, rs, rfl, hx, hb, h8, hl, hps, hok, hnd, hlen, q⟩ := h
    refine ⟨_, (pss_cons (ps_fld (pv 0) (pe_call G_held_box (hr.mono (by decide)) (by rfl) T.g_held_box T.F_held_box.kp T.b_held_box .nil pass0 (pa_cons (pv 1) pa_nil)) rfl)
      (pss_cons (ps_set (i := 3) sc_Atlas_init.nd rfl (.inr rfl) pe_dnewK)
      (pss_cons (ps_for PassesOwn.never rfl (SeqW.pi_seq (pv 2)) (SeqW.pg_any rfl (pgs_cons (pg_name (i := 4) sc_Atlas_init.nd rfl (.inl rfl)) (pgs_cons (pg_name (i := 5) sc_Atlas_init.nd rfl (.inl rfl)) pgs_nil))) (pss_cons (ps_if (pt_not (pt_val (pe_call G_is_name (hr.mono (by decide)) (by rfl) T.g_is_name T.F_is_name.kp T.b_is_name .nil pass0 (pa_cons (pv 4) pa_nil)))) (pss_one ps_never) pss_nil)
      (pss_cons (ps_if (pt_cmp (pc_din (hu_of hr) (pv 4) (pv 3))) (pss_one ps_never) pss_nil)
      (pss_one (ps_dput (hu_of hr) (pv 3) (pv 4) (pe_call G_held_log_of hr (by rfl) T.g_held_log_of T.F_held_log_of.kp T.b_held_log_of .nil pass0 (pa_cons (pv 4) (pa_cons (pv 5) pa_nil))) rfl)))))
      (pss_cons (ps_fld (pv 0) (pe_callTy OwnI.call_tuple_frz (by rfl) T.m_tuple (by decide +kernel) (pa_cons (pe_callB (call_sortedD rfl) (by rfl) T.m_sorted (by decide +kernel) (pa_cons (pv 3) pa_nil)) pa_nil)) rfl)
      (pss_one (ps_fld (pv 0) (pe_callTy call_tuple_of (by rfl) T.m_tuple (by decide +kernel) (pa_cons (pe_lc (own := [("name", 4)]) (g := gName 4) (by rfl) sc_Atlas_init.nd (pi_tup (pe_fld (pv 0) rfl)) (blkOk_by (own := [("name", 4)]) (N := ["self", "box", "logs", "held", "name", "log"]) (sc := defScope s_Atlas_init) (by decide +kernel)) (fun _ _ _ _ _ => (pg_name (i := 4) sc_Atlas_init.nd rfl (Or.inl rfl))) (fun _ _ _ _ _ => pts_nil) (fun _ _ _ _ _ => (pe_dget (hu_of hr) (pv 3) (pv 4) (fun _ _ => rfl)))) pa_nil)) rfl)))))), ?_⟩
    have hpl := hps.len
    refine ⟨.ref b, rfl, b, box, rfl, hb, h8, fun H1 bt s1 hbt => ?_⟩
    refine ⟨.ref x, rfl, x, T.a_Atlas, dx, [], rfl, s1 _ _ hx, T.cl_Atlas, T.nf_Atlas_box, by show 0 < 1000; decide, ?_⟩
    intro d nd
    generalize efs : putF "box" (.ref bt) [] = fs1 at nd ⊢
    have ndx : d ≠ x := fun z => by rw [z, upd_same] at nd; cases nd
    have nd1 : H1 d = none := by rw [upd_ne ndx] at nd; exact nd
    have nd0 : H d = none := s1.free nd1
    have b1 : But x H (upd (upd H1 x (.ins T.a_Atlas dx fs1)) d (.dK [])) := fun c o hc h => by
      rw [upd_ne (ne_of_none h nd0), upd_ne hc]
      exact s1 _ _ h
    have ex2 : (upd (upd H1 x (.ins T.a_Atlas dx fs1)) d (.dK [])) x = some (.ins T.a_Atlas dx fs1) := by
      rw [upd_ne (Ne.symm ndx)]
      exact upd_same
    have hbt2 : SqT K (upd (upd H1 x (.ins T.a_Atlas dx fs1)) d (.dK [])) bt (boxV box) := by
      refine seqs_t (fun c o z h => ?_) hbt
      have hcx : c ≠ x := fun e => by rw [e, s1 _ _ hx] at h; cases h; cases z
      rw [upd_ne (ne_of_none h nd1), upd_ne hcx]
      exact h
    refine ⟨.ref l, rfl, l, ps, rfl, (fun H' => Seqs H H'), hl.elim (fun h => .inl fun _ s => seqs_l s h) (fun h => .inr fun _ s => seqs_t s h), seqs_of hx b1, fun J G wk hG => for_it wk (fun i σ H' => But x H H' ∧ H' x = some (.ins T.a_Atlas dx fs1) ∧ SqT K H' bt (boxV box) ∧ ∃ y4 y5 ls, σ = [some (.ref x), some (.ref b), some (.ref l), some (.ref d), y4, y5] ∧ H' d = some (.dK (kvsOf (rs.take i) ls)) ∧ ls.length = i ∧ DpAll K (wo H' (fun c => c = x ∨ c = d)) ls ((rs.take i).map logD)) ⟨b1, ex2, hbt2, _, _, [], rfl, upd_same, rfl, .nil⟩ (fun i σ H' _ h => hG _ (seqs_of hx h.1)) ?_ ?_⟩
    · rintro i v σ H2 H3 hi ⟨b2, e2, hb2, y4, y5, ls, rfl, ed, ll, hls⟩ ⟨rfl, hv⟩
      have hil : i < rs.length := by omega
      obtain ⟨r, fr, hpr⟩ := hps.at_ hv
      have ro := hok r (List.mem_of_getElem? fr)
      obtain ⟨pp, lg, xs, rfl, hsp, hsl, hrw⟩ := hpr.seqs (seqs_of hx b2)
      have ltk : (rs.take i).length = i := by rw [List.length_take]; omega
      refine ⟨pp, _, rfl, hsp, rfl, _, _, rfl, _, _, rfl, rfl, ?_⟩
      obtain ⟨hth, hnm⟩ := th_name (K := K) (H := H3) ro.nm
      refine ⟨_, rfl, .str r.1, rfl, hth, fun H4 s4 => ⟨_, rfl, ?_⟩⟩
      rw [hnm]
      refine iteF ?_
      have ed4 := s4 _ _ ed
      have hnew : r.1 ∉ nms (rs.take i) := fun hm => by
        obtain ⟨r2, hr2, e3⟩ := List.mem_map.mp hm
        obtain ⟨j, hj⟩ := List.mem_iff_getElem?.mp hr2
        have hjl := (List.getElem?_eq_some_iff.mp hj).1
        rw [ltk] at hjl
        rw [List.getElem?_take_of_lt hjl] at hj
        have e5 : (nms rs)[j]? = some r.1 := by unfold nms; rw [List.getElem?_map, hj]; exact congrArg some e3
        have e6 : (nms rs)[i]? = some r.1 := by unfold nms; rw [List.getElem?_map, fr]; rfl
        have j1 := (List.getElem?_eq_some_iff.mp e5)
        have i1 := (List.getElem?_eq_some_iff.mp e6)
        exact (List.pairwise_iff_getElem.mp hnd) j i j1.1 i1.1 hjl (j1.2.trans i1.2.symm)
      have hno := kvs_none (rs.take i) ls r.1 hnew
      refine ⟨_, rfl, _, rfl, d, _, rfl, DGet.k (k := Sum.inr r.1) ed4, _, rfl, ?_⟩
      rw [hno]
      refine iteF ?_
      refine ⟨.str r.1, rfl, .ref lg, rfl, r.1, lg, xs, r.2, rfl, hsl.same s4, hrw.same s4, ro.ok, ro.right, by have := ro.len; omega, fun H5 rr ys s5 nr er hdp => ?_⟩
      have ed5 := s5 _ _ ed4
      have klen := kvs_len (rs.take i) ls
      rw [ltk] at klen
      refine ⟨_, rfl, _, rfl, d, _, rfl, DPut.k (k := Sum.inr r.1) ed5 (small1000 (by omega)), ?_⟩
      have s35 := s4.trans s5
      have nrd : rr ≠ d := fun z => by rw [z, ed4] at nr; cases nr
      have nrx : rr ≠ x := fun z => by rw [z, s4 _ _ e2] at nr; cases nr
      refine ⟨fun c o hc h => ?_, ?_, ?_, _, _, ls ++ [.ref rr], rfl, ?_, ?_, ?_⟩
      · rw [upd_ne (ne_of_none h nd0)]
        exact s35 _ _ (b2 _ _ hc h)
      · rw [upd_ne (Ne.symm ndx)]
        exact s35 _ _ e2
      · refine seqs_t (fun c o z h => ?_) hb2
        rw [upd_ne (fun e => by rw [e, ed] at h; cases h; cases z)]
        exact s35 _ _ h
      · rw [upd_same, putK_new _ hno, List.take_add_one, fr]
        show some (HO.dK _) = some (HO.dK (kvsOf (rs.take i ++ [r]) (ls ++ [.ref rr])))
        rw [kvs_snoc _ _ _ _ (by rw [ll, ltk])]
      · rw [List.length_append, ll]
        rfl
      · rw [List.take_add_one, fr, List.map_append]
        have m6 : Same (wo H5 (fun c => c = x ∨ c = d)) (wo (upd H5 d (.dK (putK (kvsOf (rs.take i) ls) (Sum.inr r.1) (.ref rr)))) (fun c => c = x ∨ c = d)) := fun c o h => by
          have h2 := wo_some h
          rw [wo_in (X := fun c => c = x ∨ c = d) h2.1, upd_ne (fun z => h2.1 (.inr z))]
          exact h2.2
        have m5 : Same (wo H3 (fun c => c = x ∨ c = d)) (wo H5 (fun c => c = x ∨ c = d)) := fun c o h => by
          have h2 := wo_some h
          rw [wo_in (X := fun c => c = x ∨ c = d) h2.1]
          exact s35 _ _ h2.2
        refine dpa_snoc (dp_same m6 _ _ ?_) _ _ (dpa_same (m5.trans m6) _ _ hls)
        refine dp_kp (Tp.wo (fun c o hc h => ?_)) 2 _ _ (log_okD (by have := ro.len; omega)) (show Dp K H5 (.ref rr) (logD r) from .tup (.inl (.inl er)) hdp)
        rcases hc with hc | hc
        · rw [hc, s35 _ _ e2] at h; cases h; rfl
        · rw [hc, ed5] at h; cases h; rfl
    · rintro σ H2 ⟨b2, e2, hb2, y4, y5, ls, rfl, ed, ll, hls⟩
      rw [hpl] at ll hls ed
      rw [List.take_length] at hls ed
      refine ⟨.ref d, rfl, d, _, nms rs, rfl, Rd.of ed, kvs_keys rs ls ll, by unfold nms; rw [List.length_map]; omega, fun ys p perm srt np => ?_⟩
      obtain ⟨rs', prm, ey⟩ := perm_lift (f := fun r : Row => r.1) perm
      have nd' : (nms rs').Nodup := (show (nms rs').Perm (nms rs) from prm.map _).nodup_iff.mpr hnd
      have hsrt : Srt rs' := srt_of nd' (by rw [show nms rs' = ys from ey]; exact sortedS_pw ys srt)
      have lrs : rs'.length = rs.length := prm.length_eq
      have sp := same_upd (o := .lst (ys.map V.str)) np
      refine ⟨p, _, rfl, .inl (.inl upd_same), fun n on po nn => ?_⟩
      have sn := same_upd (o := .frz on (.tup (ys.map V.str))) nn
      have s3 := sp.trans sn
      refine ⟨.ref x, rfl, x, T.a_Atlas, dx, fs1, rfl, s3 _ _ e2, T.cl_Atlas, T.nf_Atlas_names, by rw [← efs]; show 1 < 1000; decide, ?_⟩
      have nnx : n ≠ x := fun z => by rw [z, sp _ _ e2] at nn; cases nn
      have nnd : n ≠ d := fun z => by rw [z, sp _ _ ed] at nn; cases nn
      generalize eH3 : upd (upd (upd H2 p (.lst (ys.map V.str))) n (.frz on (.tup (ys.map V.str)))) x (.ins T.a_Atlas dx (putF "names" (.ref n) fs1)) = H3
      have k3 : ∀ c o, c ≠ x → H2 c = some o → H3 c = some o := fun c o hc h => by
        rw [← eH3, upd_ne hc]
        exact s3 _ _ h
      have x3 : H3 x = some (.ins T.a_Atlas dx (putF "names" (.ref n) fs1)) := by rw [← eH3]; exact upd_same
      have n3 : H3 n = some (.frz on (.tup (ys.map V.str))) := by
        rw [← eH3, upd_ne nnx]
        exact upd_same
      have d3 : H3 d = some (.dK (kvsOf rs ls)) := k3 _ _ ndx ed
      have hls3 : DpAll K (wo H3 (fun c => c = x ∨ c = d)) ls (rs.map logD) := dpa_same (fun c o h => by
        have h2 := wo_some h
        rw [wo_in (X := fun c => c = x ∨ c = d) h2.1]
        exact k3 _ _ (fun z => h2.1 (.inl z)) h2.2) _ _ hls
      have lkn : (putF "names" (.ref n) fs1).lookup ("names" : Str) = some (.ref n) := by rw [lookup_putF, if_pos rfl]
      refine ⟨.ref x, rfl, x, T.a_Atlas, dx, _, _, rfl, x3, T.cl_Atlas, T.nf_Atlas_names, lkn, n, rfl, ⟨_, .inl (.inr ⟨on, n3⟩)⟩, fun D hD => lc_it (walk_tup (xs := ys.map V.str)) (fun i H' => Same H3 H' ∧ ∃ zs, H' D = some (.lst zs) ∧ zs.length = i ∧ DpAll K (wo H3 (fun c => c = x ∨ c = d)) zs ((rs'.take i).map logD)) ⟨same_upd hD, [], upd_same, rfl, .nil⟩ (fun i H' _ h => .inl (.inr ⟨on, h.1 _ _ n3⟩)) ?_ ?_⟩
      · rintro i v H4 H5 hi ⟨s4, zs, eD, lz, hz⟩ ⟨rfl, hv⟩
        rw [← ey, List.map_map, List.getElem?_map] at hv
        obtain ⟨r, fr, rfl⟩ : ∃ r, rs'[i]? = some r ∧ V.str r.1 = v := by
          cases e1 : rs'[i]? with
          | none => rw [e1] at hv; cases hv
          | some r => rw [e1] at hv; exact ⟨r, rfl, Option.some.inj hv⟩
        obtain ⟨m, hm⟩ := List.mem_iff_getElem?.mp (prm.mem_iff.mp (List.mem_of_getElem? fr))
        have hml : m < ls.length := by rw [ll]; exact (List.getElem?_eq_some_iff.mp hm).1
        have hlm := List.getElem?_eq_getElem hml
        have hval := kvs_some rs ls m r ls[m] hnd hm hlm
        obtain ⟨dd, fd, gd⟩ := dpa_at _ ls hls3 m ls[m] hlm
        rw [List.getElem?_map, hm] at fd
        cases fd
        have il : i < rs'.length := (List.getElem?_eq_some_iff.mp fr).1
        refine ⟨rfl, _, rfl, _, rfl, d, ls[m], rfl, ?_, zs, eD, small1000 (by omega), ?_, _, upd_same, ?_, ?_⟩
        · have hg := DGet.k (k := Sum.inr r.1) (s4 _ _ d3)
          rw [hval] at hg
          exact hg
        · exact fun c o h => by
            rw [upd_ne (ne_of_none h hD)]
            exact s4 _ _ h
        · rw [List.length_append, lz]
          rfl
        · rw [List.take_add_one, fr, List.map_append]
          exact dpa_snoc gd _ _ hz
      · rintro H4 ⟨s4, zs, eD, lz, hz⟩
        rw [List.length_map, show ys.length = rs'.length by rw [← ey, List.length_map], List.take_length] at hz
        refine ⟨D, zs, rfl, .inl ⟨.inl (.inl eD), fun t nt => ?_⟩⟩
        have st := same_upd (o := .tup zs) nt
        have s34 := s4.trans st
        refine ⟨.ref x, rfl, x, T.a_Atlas, dx, _, rfl, s34 _ _ x3, T.cl_Atlas, T.nf_Atlas_logs, by rw [← efs]; show (putF "names" (.ref n) [("box", V.ref bt)]).length < 1000; exact Nat.lt_of_le_of_lt (length_putF _ _ _) (show 1 + 1 < 1000 by decide), ?_⟩
        have ntx : t ≠ x := fun z => by rw [z, s4 _ _ x3] at nt; cases nt
        have kf : Same (wo H3 (fun c => c = x ∨ c = d)) (upd (upd H4 t (.tup zs)) x (.ins T.a_Atlas dx (putF "logs" (.ref t) (putF "names" (.ref n) fs1)))) := fun c o h => by
          have h2 := wo_some h
          rw [upd_ne (fun z => h2.1 (.inl z))]
          exact s34 _ _ h2.2
        refine q _ rs' (fun c o hc h => ?_) prm hsrt ⟨dx, bt, n, t, zs, on, po, ?_, ?_, ?_, .inl (.inl ?_), dpa_same kf _ _ hz⟩
        · rw [upd_ne hc]
          exact s34 _ _ (k3 _ _ hc (b2 _ _ hc h))
        · rw [upd_same, ← efs]
          rfl
        · refine seqs_t (fun c o z h => ?_) hb2
          have hcx : c ≠ x := fun e => by rw [e, e2] at h; cases h; cases z
          rw [upd_ne hcx]
          exact s34 _ _ (k3 _ _ hcx h)
        · rw [upd_ne nnx, show namV rs' = ys.map V.str by unfold namV; rw [show nms rs' = ys from ey]]
          exact s34 _ _ n3
        · rw [upd_ne ntx]
          exact upd_same
def legL (rs : List Row) : List PyData := rs.flatMap fun r => (List.range (1 + swaps r.2)).map fun (k : Nat) => .tuple [.str r.1, .int (k : Nat)]
def spLegsA (K : PySem.W.Frag) (C : Addr) : Sp := fun vs H Q _ => ∃ (x : Addr) (box : List Nat) (rs : List Row), vs = [.ref x] ∧ AtlasAt K C H x box rs ∧ (∀ r ∈ rs, RowOk r) ∧ rs.length ≤ 60 ∧ ∀ H' r, Same H H' → Dp K H' (.ref r) (.tuple (legL rs)) → Q (.ref r) H'
theorem log_rows {K : PySem.W.Frag} {H : Hp} {v : V} {r : Row} (h : Dp K H v (logD r)) : ∃ a xs, v = .ref a ∧ SqT K H a xs ∧ Rows K H xs r.2 := by
  cases h with
  | tup hs ha => exact ⟨_, _, rfl, hs, rows_tup ha⟩
theorem legL_snoc (rs : List Row) (r : Row) : legL (rs ++ [r]) = legL rs ++ (List.range (1 + swaps r.2)).map fun (k : Nat) => PyData.tuple [.str r.1, .int (k : Nat)] := by
  unfold legL
  rw [List.flatMap_append]
  simp
theorem legL_len {rs : List Row} (h : ∀ r ∈ rs, RowOk r) : (legL rs).length ≤ 101 * rs.length := by
  induction rs with
  | nil => exact Nat.le_refl 0
  | cons r rs ih =>
    have h1 := ih (fun x hx => h x (List.mem_cons_of_mem _ hx))
    have h2 := swaps_le r.2
    have h3 := (h r List.mem_cons_self).len
    show ((List.range (1 + swaps r.2)).map (fun (k : Nat) => PyData.tuple [.str r.1, .int (k : Nat)]) ++ legL rs).length ≤ 101 * (rs.length + 1)
    rw [List.length_append, List.length_map, List.length_range]
    omega
theorem ok_Atlas_legs (T : Top w K mg) : FnOk P w K mg base CX0 2 T.a_Atlas_legs T.fd_Atlas_legs ["self"] (spLegsA K T.a_Atlas) := by
  have G_legs_in := ok_legs_in (P := P) (w := w) (base := base) T
  refine T.F_Atlas_legs.ok sc_Atlas_legs (fun vs H Q E h => ?_) (fun cdv A outer s H vs Q E hr h => ?_)
  · obtain ⟨x, box, rs, rfl, _⟩ := h
    rfl
  · obtain ⟨x, box, rs, rfl, hA, hok, hlen, q⟩ := h
    obtain ⟨dx, b, n, l, ls, on, po, h1, h2, hn, h4, h5⟩ := hA
    have h3 : SqT K H n (namV rs) := .inl (.inr ⟨on, hn⟩)
    refine ⟨_, (pss_one (ps_ret (pe_callTy call_tuple_of (by rfl) T.m_tuple (by decide +kernel) (pa_cons (pe_lc2 (own := [("name", 1), ("log", 2), ("leg", 3)]) (vs1 := [3]) (g := gTup K 2 (gCons (gName 1) (gCons (gName 2) gNil))) (g1 := gName 3) (by rfl) sc_Atlas_legs.nd (RZ.pi_zipA (by rfl) T.m_zip (pa_cons (pe_fld (pv 0) rfl) (pa_cons (pe_fld (pv 0) rfl) pa_nil))) (blkOk_by (own := [("name", 1), ("log", 2), ("leg", 3)]) (N := ["self", "name", "log", "leg"]) (sc := defScope s_Atlas_legs) (by decide +kernel)) (by decide) (fun _ _ _ _ _ => (pg_tup rfl (pgs_cons (pg_name (i := 1) sc_Atlas_legs.nd rfl (Or.inl rfl)) (pgs_cons (pg_name (i := 2) sc_Atlas_legs.nd rfl (Or.inl rfl)) pgs_nil)))) (fun _ _ _ _ _ => pts_nil) (fun _ _ _ _ _ => (pi_range1 (by rfl) T.m_range (pa_cons (pe_call G_legs_in hr (by rfl) T.g_legs_in T.F_legs_in.kp T.b_legs_in .nil pass0 (pa_cons (pv 2) pa_nil)) pa_nil))) (fun _ _ _ _ _ => (pg_name (i := 3) sc_Atlas_legs.nd rfl (Or.inl rfl))) (fun _ _ _ _ _ => pts_nil) (fun _ _ _ _ _ => (pe_tup (pa_cons (pv 1) (pa_cons (pv 3) pa_nil))))) pa_nil)))), ?_⟩
    have hls : ls.length = rs.length := by
      have := dpa_len _ _ h5
      rw [List.length_map] at this
      exact this
    have hns : (namV rs).length = rs.length := by
      unfold namV nms
      rw [List.length_map, List.length_map]
    refine ⟨.ref x, rfl, x, T.a_Atlas, dx, _, _, rfl, h1, T.cl_Atlas, T.nf_Atlas_names, fl_names b n l, .ref x, rfl, x, T.a_Atlas, dx, _, _, rfl, h1, T.cl_Atlas, T.nf_Atlas_logs, fl_logs b n l, n, l, _, ls, rfl, .inr ⟨h3, h4, fun D hD => ?_⟩⟩
    refine SeqW.lc2_it (walk_zipT (xs := namV rs) (ys := ls) (n := rs.length) (by omega)) (fun i H' => Same H H' ∧ ∃ zs, H' D = some (.lst zs) ∧ zs.length = (legL (rs.take i)).length ∧ DpAll K (wo H' (fun c => c = D)) zs (legL (rs.take i))) ⟨same_upd hD, [], upd_same, rfl, .nil⟩ (fun i H' _ h => ⟨sqt_same h.1 h3, sqt_same h.1 h4⟩) ?_ ?_
    · rintro i v H1 H2 hi ⟨sm, zs, eD, lz, hz⟩ ⟨t, u1, u2, rfl, nt, rfl, e1, e2⟩
      have e1 : (namV rs)[i]? = some u1 := e1
      have e2 : ls[i]? = some u2 := e2
      have fr : rs[i]? = some rs[i] := List.getElem?_eq_getElem hi
      have ro := hok rs[i] (List.getElem_mem hi)
      generalize rs[i] = r at fr ro
      have eu : u1 = .str r.1 := by
        unfold namV nms at e1
        rw [List.getElem?_map, List.getElem?_map, fr] at e1
        exact (Option.some.inj e1).symm
      subst eu
      obtain ⟨d, fd, gd⟩ := dpa_at _ ls h5 i u2 e2
      rw [List.getElem?_map, fr] at fd
      cases fd
      have st := same_upd (o := .tup [.str r.1, u2]) nt
      have sm2 := sm.trans st
      obtain ⟨a, xs, rfl, hsq, hrw⟩ := log_rows (dp_same sm2 _ _ gd)
      refine ⟨t, _, rfl, .inl (.inl upd_same), rfl, _, _, rfl, _, _, rfl, rfl, rfl, ?_⟩
      have hsw := swaps_le r.2
      have hrl := ro.len
      refine ⟨_, rfl, a, xs, r.2, rfl, .inr hsq, hrw, by omega, fun H3 s3 => ?_⟩
      refine ⟨_, rfl, by omega, by omega, ?_⟩
      have tk : (1 + (swaps r.2 : Int)).toNat = 1 + swaps r.2 := by omega
      have nDt : D ≠ t := ne_of_none eD nt
      refine SeqW.lc2_in (walk_range (lo := 0) (n := (1 + (swaps r.2 : Int)).toNat)) (fun j H' => Same H H' ∧ ∃ ws, H' D = some (.lst ws) ∧ ws.length = (legL (rs.take i)).length + j ∧ DpAll K (wo H' (fun c => c = D)) ws (legL (rs.take i) ++ (List.range j).map fun (k : Nat) => PyData.tuple [.str r.1, .int (k : Nat)])) ⟨sm2.trans s3, zs, s3 _ _ (st _ _ eD), lz, ?_⟩ (fun _ _ _ _ => trivial) ?_ ?_
      · show DpAll K _ zs (legL (rs.take i) ++ [])
        rw [List.append_nil]
        refine dpa_same (fun c o h => ?_) _ _ hz
        have h2 := wo_some h
        rw [wo_in (X := fun c => c = D) h2.1]
        exact s3 _ _ (st _ _ h2.2)
      · rintro j v H4 H5 hj ⟨s4, ws, eD4, lw, hw⟩ ⟨rfl, rfl⟩
        have ll := legL_len (rs := rs.take i) (fun x hx => hok x (List.mem_of_mem_take hx))
        rw [List.length_take] at ll
        refine ⟨rfl, .str r.1, rfl, _, rfl, by show 2 ≤ sizeLine; decide, fun u nu => ?_⟩
        have su := same_upd (o := .tup [.str r.1, .int (0 + (j : Int))]) nu
        have eD5 := su _ _ eD4
        refine ⟨ws, eD5, ?_, ?_, _, upd_same, ?_, ?_⟩
        · exact Nat.lt_of_lt_of_le (show ws.length < 100000 by omega) (by decide)
        · exact fun c o h => by
            rw [upd_ne (ne_of_none h hD)]
            exact su _ _ (s4 _ _ h)
        · rw [List.length_append, lw]
          rfl
        · rw [List.range_succ, List.map_append, ← List.append_assoc]
          have m6 : Same (wo H5 (fun c => c = D)) (wo (upd (upd H5 u (.tup [.str r.1, .int (0 + (j : Int))])) D (.lst (ws ++ [.ref u]))) (fun c => c = D)) := fun c o h => by
            have h2 := wo_some h
            rw [wo_in (X := fun c => c = D) h2.1, upd_ne h2.1]
            exact su _ _ h2.2
          refine dpa_snoc ?_ _ _ (dpa_same m6 _ _ hw)
          have nuD : u ≠ D := fun z => by rw [z, eD4] at nu; cases nu
          refine .tup (xs := [.str r.1, .int (0 + (j : Int))]) (.inl (.inl ?_)) (.cons (.str _) (.cons ?_ .nil))
          · rw [wo_in (X := fun c => c = D) nuD, upd_ne nuD]
            exact upd_same
          · have : (0 + (j : Int)) = ((j : Nat) : Int) := by omega
            rw [this]
            exact .int _
      · rintro H4 ⟨s4, ws, eD4, lw, hw⟩
        rw [tk] at lw hw
        have el : legL (rs.take (i + 1)) = legL (rs.take i) ++ (List.range (1 + swaps r.2)).map fun (k : Nat) => PyData.tuple [.str r.1, .int (k : Nat)] := by
          rw [List.take_add_one, fr]
          exact legL_snoc _ _
        refine ⟨s4, ws, eD4, ?_, ?_⟩
        · rw [el, List.length_append, List.length_map, List.length_range]
          exact lw
        · rw [el]
          exact hw
    · rintro H1 ⟨sm, zs, eD, lz, hz⟩
      rw [List.take_length] at hz
      refine ⟨D, zs, rfl, .inl ⟨.inl (.inl eD), fun r nr => ?_⟩⟩
      have sr := same_upd (o := .tup zs) nr
      exact q _ r (sm.trans sr) (.tup (.inl (.inl upd_same)) (dpa_same (wo_same.trans sr) _ _ hz))
def spLenA (K : PySem.W.Frag) (C : Addr) : Sp := fun vs H Q _ => ∃ (x : Addr) (box : List Nat) (rs : List Row), vs = [.ref x] ∧ AtlasAt K C H x box rs ∧ (∀ r ∈ rs, RowOk r) ∧ rs.length ≤ 60 ∧ ∀ H', Same H H' → Q (.int ((legL rs).length : Nat)) H'
theorem ok_Atlas_len (T : Top w K mg) : FnOk P w K mg base CX0 3 T.a_Atlas_len T.fd_Atlas_len ["self"] (spLenA K T.a_Atlas) := by
  have G_Atlas_legs := ok_Atlas_legs (P := P) (w := w) (base := base) T
  refine T.F_Atlas_len.ok sc_Atlas_len (fun vs H Q E h => ?_) (fun cdv A outer s H vs Q E hr h => ?_)
  · obtain ⟨x, box, rs, rfl, _⟩ := h
    rfl
  · obtain ⟨x, box, rs, rfl, hA, hok, hlen, q⟩ := h
    refine ⟨_, (pss_one (ps_ret (pe_callB call_len_seq (by rfl) T.m_len (by decide +kernel) (pa_cons (pe_meth0 (pv 0) T.cl_Atlas T.me_Atlas_legs G_Atlas_legs hr T.b_Atlas_legs .nil pass0) pa_nil)))), ?_⟩
    have hA' := hA
    obtain ⟨dx, b, n, l, ls, on, po, h1, _⟩ := hA'
    refine ⟨.ref x, rfl, x, dx, _, rfl, h1, fl_no b n l (by decide +kernel) (by decide +kernel) (by decide +kernel), x, box, rs, rfl, hA, hok, hlen, fun H1 r s1 hd => ?_⟩
    cases hd with
    | @tup _ xs _ hs ha =>
    have e := dpa_len _ _ ha
    refine ⟨r, xs, rfl, .inr hs, ?_⟩
    rw [e]
    exact q _ s1
def spLog (K : PySem.W.Frag) (C : Addr) : Sp := fun vs H Q _ => ∃ (x : Addr) (box : List Nat) (rs : List Row) (m : Nat) (r : Row), vs = [.ref x, .str r.1] ∧ AtlasAt K C H x box rs ∧ rs[m]? = some r ∧ (nms rs).Nodup ∧ rs.length ≤ 60 ∧ ∀ v, Dp K H v (logD r) → Q v H
theorem ok_Atlas_log (T : Top w K mg) : FnOk P w K mg base CX0 1 T.a_Atlas_log T.fd_Atlas_log ["self", "name"] (spLog K T.a_Atlas) := by
  refine T.F_Atlas_log.ok sc_Atlas_log (fun vs H Q E h => ?_) (fun cdv A outer s H vs Q E hr h => ?_)
  · obtain ⟨x, box, rs, m, r, rfl, _⟩ := h
    rfl
  · obtain ⟨x, box, rs, m, r, rfl, hA, hm, hnd, hlen, q⟩ := h
    obtain ⟨dx, b, n, l, ls, on, po, h1, h2, hn, h4, h5⟩ := hA
    have h3 : SqT K H n (namV rs) := .inl (.inr ⟨on, hn⟩)
    refine ⟨_, (pss_cons (ps_if (pt_cmpR op_notIn_seq (pv 1) (pe_fld (pv 0) rfl) (by rfl)) (pss_one ps_never) pss_nil)
      (pss_one (ps_ret (pe_ix ix_tup (pe_fld (pv 0) rfl) (OwnI.pe_bmF PySem.F.plainAttrs_tuple PySem.F.slot_tuple_index PySem.F.type_tuple_index mt_tup_index (pe_fld (pv 0) rfl) (pa_cons (pv 1) pa_nil)) (fun _ _ => rfl))))), ?_⟩
    have hin : inV (.str r.1) (namV rs) = true := by
      unfold inV
      refine List.any_eq_true.mpr ⟨.str r.1, List.mem_map.mpr ⟨r.1, List.mem_map.mpr ⟨r, List.mem_of_getElem? hm, rfl⟩, rfl⟩, ?_⟩
      exact decide_eq_true rfl
    have hfl : (namV rs).all flatV = true := List.all_eq_true.mpr fun v hv => by
      obtain ⟨z, _, rfl⟩ := List.mem_map.mp hv
      rfl
    refine ⟨.str r.1, rfl, .ref x, rfl, x, T.a_Atlas, dx, _, _, rfl, h1, T.cl_Atlas, T.nf_Atlas_names, fl_names b n l, n, _, rfl, .inr h3, rfl, hfl, _, rfl, ?_⟩
    rw [hin]
    refine iteF ?_
    have hj : (nms rs)[m]? = some r.1 := by
      unfold nms
      rw [List.getElem?_map, hm]
      rfl
    refine ⟨.ref x, rfl, x, T.a_Atlas, dx, _, _, rfl, h1, T.cl_Atlas, T.nf_Atlas_logs, fl_logs b n l, ?_⟩
    refine ⟨.ref x, rfl, x, T.a_Atlas, dx, _, _, rfl, h1, T.cl_Atlas, T.nf_Atlas_names, fl_names b n l, ⟨n, on, _, rfl, hn, po⟩, .str r.1, rfl, n, nms rs, r.1, m, rfl, rfl, h3, hj, ?_, ?_⟩
    · intro k hk e
      have hlt := (List.getElem?_eq_some_iff.mp hj).1
      have hkl : k < (nms rs).length := by omega
      have e1 := List.getElem?_eq_getElem hkl
      have e2 := List.getElem?_eq_getElem hlt
      have e3 : (nms rs)[k] = (nms rs)[m] := Option.some.inj ((e1.symm.trans e).trans (hj.symm.trans e2))
      exact (List.pairwise_iff_getElem.mp hnd) k m hkl hlt hk e3
    · have hls : ls.length = rs.length := by
        have := dpa_len _ _ h5
        rw [List.length_map] at this
        exact this
      have hml : m < ls.length := by rw [hls]; exact (List.getElem?_eq_some_iff.mp hm).1
      obtain ⟨d, fd, gd⟩ := dpa_at _ ls h5 m ls[m] (List.getElem?_eq_getElem hml)
      rw [List.getElem?_map, hm] at fd
      cases fd
      exact ⟨l, ls, m, _, rfl, rfl, h4, atI_nat (List.getElem?_eq_getElem hml), q _ gd⟩
/-! ### legs -/
--@@SPLIT
/-! ### drawn texts, drawn things -/
theorem op_mulS {X : Cx} : OpR X (binaryOp .Mult) (fun x y H Q => ∃ (z : Str) (n : Int), x = .str z ∧ y = .int n ∧ z.length ≤ 16 ∧ 0 ≤ n ∧ n ≤ 1048576 ∧ ∀ z' : Str, (z'.length : Int) = (z.length : Int) * n → Q (.str z') H) := by
  intro pins s σ H x y v u Q I rx ry h
  obtain ⟨z, n, rfl, rfl, hz, h0, h1, q⟩ := h
  obtain ⟨t, rfl⟩ := rx
  obtain ⟨t', rfl⟩ := ry
  exact PySem.W.KXi.mul rfl hz (by omega) (by omega) fun t' k _ h2 => ⟨.str _, H, I.tok _, ⟨_, rfl⟩, q _ (h2 h0)⟩
theorem cut_len (z : Str) (lo hi : Option Int) : (cutS z lo hi).length ≤ z.length := by
  show (((z.cps.toList.drop (HT.sIx z.length 0 lo)).take (HT.sIx z.length z.length hi - HT.sIx z.length 0 lo)).toArray).size ≤ z.length
  rw [List.size_toArray, List.length_take, List.length_drop, len_toList]
  omega
theorem app_len (a b : Str) : (a ++ b).length = a.length + b.length := by
  show (a.cps ++ b.cps).size = _
  rw [Array.size_append]
  rfl
theorem str_at {z : Str} {i : Int} (h0 : 0 ≤ i) (h1 : i < (z.length : Int)) : ∃ c, atI z.cps.toList i = some c := by
  obtain ⟨j, rfl⟩ : ∃ j : Nat, i = j := ⟨i.toNat, by omega⟩
  have hj : j < z.cps.toList.length := by
    rw [len_toList]
    omega
  exact ⟨z.cps.toList[j], atI_nat (List.getElem?_eq_getElem hj)⟩
def spText (lo hi : Nat) : Sp := fun vs H Q _ => ∃ p, vs = [.ref p] ∧ Pool H p ∧ ∀ H' (z : Str), But p H H' → Pool H' p → lo ≤ z.length → z.length ≤ hi → (∀ c ∈ z.cps.toList, c ∈ SMALLs.cps.toList) → Q (.str z) H'
theorem app_mem {a b : Str} {c : Nat} (h : c ∈ (a ++ b).cps.toList) : c ∈ a.cps.toList ∨ c ∈ b.cps.toList := by
  have h2 : c ∈ (a.cps ++ b.cps).toList := h
  rw [Array.toList_append] at h2
  exact List.mem_append.mp h2
theorem join_mem {S : List Nat} : ∀ ys : List Str, (∀ y ∈ ys, ∀ c ∈ y.cps.toList, c ∈ S) → ∀ c ∈ (Str.join (PySem.Str.ofString "") ys).cps.toList, c ∈ S
  | [], _, c, h => by
    have h2 : c ∈ ([] : List Nat) := h
    cases h2
  | [y], hy, c, h => hy y (by simp) c h
  | y :: z :: r, hy, c, h => by
    have h2 : c ∈ ((y ++ PySem.Str.ofString "") ++ Str.join (PySem.Str.ofString "") (z :: r)).cps.toList := h
    rcases app_mem h2 with h3 | h3
    · rcases app_mem h3 with h4 | h4
      · exact hy y (by simp) c h4
      · have h5 : c ∈ ([] : List Nat) := by
          rw [show (PySem.Str.ofString "").cps.toList = [] by decide +kernel] at h4
          exact h4
        cases h5
    · exact join_mem (z :: r) (fun x hx => hy x (List.mem_cons_of_mem _ hx)) c h3
theorem ok_of_mem {z : Str} (h : ∀ c ∈ z.cps.toList, c < 0x110000) : PyData.strOk z = true := by
  show z.cps.all (fun c => decide (c < 0x110000)) = true
  rw [Array.all_eq_true_iff_forall_mem]
  intro c hc
  exact decide_eq_true (h c (Array.mem_toList_iff.mpr hc))
theorem small_ok : ∀ c ∈ SMALLs.cps.toList, c < 0x110000 := by decide +kernel
theorem cut_mem {z : Str} {lo hi : Option Int} {c : Nat} (h : c ∈ (cutS z lo hi).cps.toList) : c ∈ z.cps.toList := by
  have h2 : c ∈ (z.cps.toList.drop (HT.sIx z.length 0 lo)).take (HT.sIx z.length z.length hi - HT.sIx z.length 0 lo) := h
  exact List.mem_of_mem_drop (List.mem_of_mem_take h2)
theorem at_mem {z : Str} {i : Int} {c : Nat} (h : atI z.cps.toList i = some c) : c ∈ z.cps.toList := by
  obtain ⟨j, _, h2, _⟩ := atI_get h
  exact List.mem_of_getElem? h2
theorem join_len : ∀ ys : List Str, (∀ y ∈ ys, y.length = 1) → (Str.join (PySem.Str.ofString "") ys).length = ys.length
  | [], _ => rfl
  | [y], h => by
    show y.length = 1
    exact h y (by simp)
  | y :: z :: r, h => by
    show ((y ++ PySem.Str.ofString "") ++ Str.join (PySem.Str.ofString "") (z :: r)).length = _
    rw [app_len, app_len, join_len (z :: r) (fun x hx => h x (List.mem_cons_of_mem _ hx)), h y (by simp), s0]
    show 1 + 0 + (z :: r).length = (z :: r).length + 1
    omega
theorem sum_ones : ∀ ys : List Str, (∀ y ∈ ys, y.length = 1) → (ys.map (·.length)).sum = ys.length
  | [], _ => rfl
  | y :: r, h => by
    rw [List.map_cons, List.sum_cons, sum_ones r (fun x hx => h x (List.mem_cons_of_mem _ hx)), h y (by simp), List.length_cons]
    omega
theorem ok_Lname (T : Top w K mg) : FnOk P w K mg base CX0 2 T.a_Lname T.fd_Lname ["_law_pool_here"] (spText 1 8) := by
  have G_Ltake := ok_Ltake (P := P) (w := w) (base := base) T
  refine T.F_Lname.ok sc_Lname (fun vs H Q E h => ?_) (fun cdv A outer s H vs Q E hr h => ?_)
  · obtain ⟨p, rfl, _⟩ := h
    rfl
  · obtain ⟨p, rfl, hp, q⟩ := h
    refine ⟨_, (pss_cons (ps_set (i := 1) sc_Lname.nd rfl (.inr rfl) pe_str)
      (pss_one (ps_ret (pe_bm PySem.F.plainAttrs_str PySem.F.slot_str_join PySem.F.type_str_join mt_join pe_str (pa_cons (pe_lc (own := [("_law_k", 2)]) (g := gName 2) (by rfl) sc_Lname.nd (pi_range1 (by rfl) T.m_range (pa_cons (pe_op op_add pe_int (pe_call G_Ltake hr (by rfl) T.g_Ltake T.F_Ltake.kp T.b_Ltake .nil pass0 (pa_cons (pv 0) (pa_cons pe_int pa_nil)))) pa_nil)) (blkOk_by (own := [("_law_k", 2)]) (N := ["_law_pool_here", "_law_letters", "_law_k"]) (sc := defScope s_Lname) (by decide +kernel)) (fun _ _ _ _ _ => (pg_name (i := 2) sc_Lname.nd rfl (Or.inl rfl))) (fun _ _ _ _ _ => pts_nil) (fun _ _ _ _ _ => (pe_ix ix_str (pv 1) (pe_call G_Ltake hr (by rfl) T.g_Ltake T.F_Ltake.kp T.b_Ltake .nil pass0 (pa_cons (pv 0) (pa_cons pe_int pa_nil))) (fun _ _ => rfl)))) pa_nil))))), ?_⟩
    refine ⟨rfl, .ref p, rfl, p, 8, rfl, by decide, by decide, hp, fun H1 r b1 hp1 r0 r1 => ?_⟩
    have l26 : SMALLs.length = 26 := by decide +kernel
    refine ⟨_, _, rfl, rfl, 1 + r, rfl, by omega, by omega, fun D hD => lc_range (lo := 0) (n := (1 + r).toNat) (fun i H' => Pool H' p ∧ But p H H' ∧ ∃ ys : List Str, ys.length = i ∧ (∀ y ∈ ys, y.length = 1) ∧ (∀ y ∈ ys, ∀ c ∈ y.cps.toList, c ∈ SMALLs.cps.toList) ∧ H' D = some (.lst (ys.map V.str))) ⟨hp1.upd (hp1.ne_new hD), b1.mut (b1.free (hp1.ne_new hD) hD), [], rfl, (fun _ h => nomatch h), (fun _ h => nomatch h), upd_same⟩ ?_ ?_⟩
    · rintro i H2 hi ⟨hp2, b2, ys, hl, h1, hm, eD⟩
      have nD : D ≠ p := hp1.ne_new hD
      refine ⟨rfl, ?_⟩
      refine ⟨_, rfl, .ref p, rfl, p, 26, rfl, by decide, by decide, hp2, fun H3 k b3 hp3 k0 k1 => ?_⟩
      obtain ⟨c, hc⟩ := str_at (z := SMALLs) k0 (by rw [l26]; omega)
      refine ⟨_, k, c, rfl, rfl, by decide +kernel, hc, _, b3 _ _ nD eD, ?_, hp3.upd nD, (b2.trans b3).mut (b1.free nD hD), ys ++ [⟨#[c]⟩], ?_, ?_, ?_, ?_⟩
      · rw [List.length_map]
        exact small1000 (by omega)
      · rw [List.length_append, hl]
        rfl
      · intro y hy
        rcases List.mem_append.mp hy with h | h
        · exact h1 y h
        · rw [List.mem_singleton.mp h]
          rfl
      · intro y hy c2 hc2
        rcases List.mem_append.mp hy with h | h
        · exact hm y h c2 hc2
        · rw [List.mem_singleton.mp h] at hc2
          have h3 : c2 ∈ [c] := hc2
          rw [List.mem_singleton.mp h3]
          exact at_mem hc
      · rw [upd_same, List.map_append]
        rfl
    · rintro H2 ⟨hp2, b2, ys, hl, h1, hm, eD⟩
      have e := join_len ys h1
      refine ⟨_, D, ys, rfl, rfl, .inl (.inl (.inl eD)), ?_, ?_⟩
      · rw [sum_ones ys h1, s0]
        show ys.length + ys.length * 0 ≤ 16777216
        omega
      · rw [TL.join_eq]
        exact q H2 _ b2 hp2 (by omega) (by omega) (join_mem ys hm)
theorem up_gr : ∀ c ∈ SMALLs.cps.toList, (Txt.upper ⟨#[c]⟩).cps.toList = [c - 32] ∧ grC (c - 32) = true ∧ c - 32 < 0x110000 := by decide +kernel
theorem all_sm {cs : List Nat} (h : ∀ c ∈ cs, c ∈ SMALLs.cps.toList) : cs.all smC = true := List.all_eq_true.mpr fun c hc => decide_eq_true (h c hc)
theorem nm_of {z : Str} (h1 : 1 ≤ z.length) (h8 : z.length ≤ 8) (hm : ∀ c ∈ z.cps.toList, c ∈ SMALLs.cps.toList) : nmL z.cps.toList = true := by
  unfold nmL shL
  rw [all_sm hm, len_toList, decide_eq_true (show (1 : Int) ≤ (z.length : Int) by omega), decide_eq_true (show (z.length : Int) ≤ 8 by omega)]
  rfl
theorem cut1_tl (z : Str) (h : 1 ≤ z.length) : (cutS z (some 1) none).cps.toList = z.cps.toList.drop 1 := by
  show (z.cps.toList.drop (HT.sIx z.length 0 (some 1))).take (HT.sIx z.length z.length none - HT.sIx z.length 0 (some 1)) = _
  have e1 : HT.sIx z.length 0 (some 1) = 1 := by
    unfold HT.sIx
    simp
    omega
  have e2 : HT.sIx z.length z.length none = z.length := rfl
  rw [e1, e2]
  exact List.take_of_length_le (by rw [List.length_drop, len_toList]; exact Nat.le_refl _)
theorem lo_of {z : Str} {c : Nat} (h1 : 1 ≤ z.length) (h8 : z.length ≤ 8) (hm : ∀ c ∈ z.cps.toList, c ∈ SMALLs.cps.toList) (hc : c ∈ SMALLs.cps.toList) : (Txt.upper ⟨#[c]⟩ ++ cutS z (some 1) none).cps.toList = (c - 32) :: z.cps.toList.drop 1 ∧ loL ((c - 32) :: z.cps.toList.drop 1) = true := by
  obtain ⟨u1, u2, _⟩ := up_gr c hc
  refine ⟨?_, ?_⟩
  · show ((Txt.upper ⟨#[c]⟩).cps ++ (cutS z (some 1) none).cps).toList = _
    rw [Array.toList_append, u1, cut1_tl z h1]
    rfl
  · show (shL ((c - 32) :: z.cps.toList.drop 1) && (grC (c - 32) && (z.cps.toList.drop 1).all smC)) = true
    have l : ((c - 32) :: z.cps.toList.drop 1).length = z.length := by
      rw [List.length_cons, List.length_drop, len_toList]
      omega
    unfold shL
    rw [u2, all_sm (fun d hd => hm d (List.mem_of_mem_drop hd)), l, decide_eq_true (show (1 : Int) ≤ (z.length : Int) by omega), decide_eq_true (show (z.length : Int) ≤ 8 by omega)]
    rfl
/-! ### names, logs and boxes drawn -/
theorem pigeon {α : Type} [DecidableEq α] : ∀ (l found : List α), l.Nodup → (∀ x ∈ l, x ∈ found) → l.length ≤ found.length
  | [], _, _, _ => Nat.zero_le _
  | x :: r, found, nd, h => by
    have nd2 := List.nodup_cons.mp nd
    have hx := h x List.mem_cons_self
    have := pigeon r (found.erase x) nd2.2 (fun y hy => (List.mem_erase_of_ne (fun e => nd2.1 (by rw [← e]; exact hy))).mpr (h y (List.mem_cons_of_mem _ hy)))
    rw [List.length_erase_of_mem hx] at this
    have hp : 0 < found.length := List.length_pos_of_mem hx
    rw [List.length_cons]
    omega
def twelve : List Str := (PySem.Str.ofString "abcdefghijkl").cps.toList.map fun c => ⟨#[c]⟩
theorem twelve_nd : twelve.Nodup := by decide +kernel
theorem twelve_nm : ∀ z ∈ twelve, nmL z.cps.toList = true := by decide +kernel
theorem inV_str (z : Str) (zs : List Str) : inV (.str z) (zs.map V.str) = zs.any (fun y => y == z) := by
  unfold inV
  rw [List.any_map]
  rfl
theorem inV_mem {z : Str} {zs : List Str} : inV (.str z) (zs.map V.str) = true ↔ z ∈ zs := by
  rw [inV_str, List.any_eq_true]
  constructor
  · rintro ⟨y, hy, e⟩
    rw [← eq_of_beq e]
    exact hy
  · exact fun h => ⟨z, h, beq_self_eq_true z⟩
theorem flat_strsM (zs : List Str) : (zs.map V.str).all flatV = true := List.all_eq_true.mpr fun v hv => by
  obtain ⟨z, _, rfl⟩ := List.mem_map.mp hv
  rfl
theorem cut0_tl (z : Str) : (cutS z none (some 1)).cps.toList = z.cps.toList.take 1 := by
  show (z.cps.toList.drop (HT.sIx z.length 0 none)).take (HT.sIx z.length z.length (some 1) - HT.sIx z.length 0 none) = _
  have e1 : HT.sIx z.length 0 none = 0 := rfl
  rw [e1, List.drop_zero, Nat.sub_zero]
  have e2 : HT.sIx z.length z.length (some 1) = min 1 z.length := by
    unfold HT.sIx
    simp
  rw [e2]
  by_cases h : z.length = 0
  · have : z.cps.toList = [] := List.eq_nil_of_length_eq_zero (by rw [len_toList]; exact h)
    rw [this]
    simp
  · rw [show min 1 z.length = 1 by omega]
def spNames : Sp := fun vs H Q _ => ∃ (p : Addr) (m : Nat), vs = [.ref p, .int (m : Nat)] ∧ m ≤ 11 ∧ Pool H p ∧ ∀ H' L (zs : List Str), But p H H' → Pool H' p → H L = none → H' L = some (.lst (zs.map V.str)) → zs.length = m → zs.Nodup → (∀ z ∈ zs, nmL z.cps.toList = true) → Q (.ref L) H'
theorem ok_Lnames (T : Top w K mg) : FnOk P w K mg base CX0 3 T.a_Lnames T.fd_Lnames ["_law_pool_here", "_law_many"] spNames := by
  have G_Ltake := ok_Ltake (P := P) (w := w) (base := base) T
  have G_Lname := ok_Lname (P := P) (w := w) (base := base) T
  refine T.F_Lnames.ok sc_Lnames (fun vs H Q E h => ?_) (fun cdv A outer s H vs Q E hr h => ?_)
  · obtain ⟨p, m, rfl, _⟩ := h
    rfl
  · obtain ⟨p, m, rfl, hm, hp, q⟩ := h
    refine ⟨_, (pss_cons (ps_set (i := 2) sc_Lnames.nd rfl (.inr rfl) (pe_lst pa_nil))
      (pss_cons (ps_for PassesOwn.never rfl (pi_range1 (by rfl) T.m_range (pa_cons (pv 1) pa_nil)) (pg_name (i := 3) sc_Lnames.nd rfl (.inl rfl)) (pss_cons (ps_set (i := 4) sc_Lnames.nd rfl (.inl rfl) (pe_call G_Lname hr (by rfl) T.g_Lname T.F_Lname.kp T.b_Lname .nil pass0 (pa_cons (pv 0) pa_nil)))
      (Evl.pss_cut (ps_if (pt_cmpR op_eq (pe_call G_Ltake (hr.mono (by decide)) (by rfl) T.g_Ltake T.F_Ltake.kp T.b_Ltake .nil pass0 (pa_cons (pv 0) (pa_cons pe_int pa_nil))) pe_int (nomark _)) (pss_one (ps_set (i := 4) sc_Lnames.nd rfl (.inl rfl) (pe_slice sl_str (pv 4) po_none (po_some pe_int)))) pss_nil)
      (Evl.pss_cut (ps_if (pt_cmpR op_in_seq (pv 4) (pv 2) (by rfl)) (pss_one (ps_set (i := 4) sc_Lnames.nd rfl (.inl rfl) (pe_ix ix_list (pe_lc (own := [("_law_letter", 5)]) (g := gName 5) (by rfl) sc_Lnames.nd (pi_str pe_str) (blkOk_by (own := [("_law_letter", 5)]) (N := ["_law_pool_here", "_law_many", "_law_found", "_law_k", "_law_name_here", "_law_letter"]) (sc := defScope s_Lnames) (by decide +kernel)) (fun _ _ _ _ _ => (pg_name (i := 5) sc_Lnames.nd rfl (Or.inl rfl))) (fun _ _ _ _ _ => (pts_one (pt_cmpR (r := rIn K true) (SeqW.notIn_K rfl) (pv 5) (pv 2) (by rfl)))) (fun _ _ _ _ _ => (pv 5))) pe_int (fun _ _ => rfl)))) pss_nil)
      (pss_one (ps_expr (pe_bm PySem.F.plainAttrs_list PySem.F.slot_list_append PySem.F.type_list_append mt_append (pv 2) (pa_cons (pv 4) pa_nil))))))))
      (pss_one (ps_ret (pv 2))))), ?_⟩
    refine ⟨Nat.zero_le _, fun L nL => ?_⟩
    have nLp : L ≠ p := hp.ne_new nL
    have s0 := same_upd (o := .lst []) nL
    refine ⟨.int m, rfl, m, rfl, by omega, by omega, for_range (n := m) (fun i σ H' => But p H H' ∧ Pool H' p ∧ ∃ y3 y4 y5 zs, σ = [some (.ref p), some (.int (m : Nat)), some (.ref L), y3, y4, y5] ∧ H' L = some (.lst (zs.map V.str)) ∧ zs.length = i ∧ zs.Nodup ∧ (∀ z ∈ zs, nmL z.cps.toList = true)) ⟨But.of s0, hp.same s0, none, none, none, [], rfl, upd_same, rfl, .nil, (fun _ h => nomatch h)⟩ ?_ ?_⟩
    · rintro i σ H1 hi ⟨b1, hp1, y3, y4, y5, zs, rfl, eL, lz, nd, hz⟩
      refine ⟨.ref p, rfl, p, rfl, hp1, fun H2 z b2 hp2 z0 z1 zm => ?_⟩
      have eL2 := b2 _ _ nLp eL
      refine ⟨fun σ H' => But p H H' ∧ Pool H' p ∧ H' L = some (.lst (zs.map V.str)) ∧ ∃ y3 y5 z, σ = [some (.ref p), some (.int (m : Nat)), some (.ref L), y3, some (.str z), y5] ∧ nmL z.cps.toList = true, ?_, ?_⟩
      · refine ⟨.ref p, rfl, p, 3, rfl, by decide, by decide, hp2, fun H3 r b3 hp3 _ _ => ⟨rfl, _, rfl, ite2 (fun e => ?_) (fun e => ?_)⟩⟩
        · refine ⟨.str z, rfl, 1, rfl, z, rfl, thou (by omega), (b1.trans b2).trans b3, hp3, b3 _ _ nLp eL2, _, _, _, rfl, ?_⟩
          have l1 : (cutS z none (some 1)).cps.toList.length = 1 := by
            rw [cut0_tl, List.length_take, len_toList]
            omega
          rw [len_toList] at l1
          exact nm_of (by omega) (by omega) (fun c hc => zm c (by rw [cut0_tl] at hc; exact List.mem_of_mem_take hc))
        · exact ⟨(b1.trans b2).trans b3, hp3, b3 _ _ nLp eL2, _, _, z, rfl, nm_of z0 z1 zm⟩
      rintro σ H3 ⟨b3, hp3, eL3, y3, y5, z, rfl, hn⟩
      refine ⟨fun σ H' => But p H H' ∧ Pool H' p ∧ H' L = some (.lst (zs.map V.str)) ∧ ∃ y3 y5 z, σ = [some (.ref p), some (.int (m : Nat)), some (.ref L), y3, some (.str z), y5] ∧ nmL z.cps.toList = true ∧ z ∉ zs, ?_, ?_⟩
      · refine ⟨.str z, rfl, .ref L, rfl, L, _, rfl, .inl (.inl (.inl eL3)), rfl, flat_strsM zs, _, rfl, ite2 (fun e => ?_) (fun e => ?_)⟩
        · refine ⟨_, rfl, fun D hD => lc_it walk_str (fun i H' => Same H3 H' ∧ H' D = some (.lst (((twelve.take i).filter fun y => !(inV (.str y) (zs.map V.str))).map V.str))) ⟨same_upd hD, upd_same⟩ (fun _ _ _ _ => trivial) ?_ ?_⟩
          · rintro j v H4 H5 hj ⟨sm, eD⟩ ⟨rfl, c, hc, rfl⟩
            have ht : twelve[j]? = some ⟨#[c]⟩ := by
              unfold twelve
              rw [List.getElem?_map, Array.getElem?_toList, hc]
              rfl
            have tk : twelve.take (j + 1) = twelve.take j ++ [⟨#[c]⟩] := by rw [List.take_add_one, ht]; rfl
            refine ⟨rfl, _, rfl, .ref L, rfl, L, _, rfl, .inl (.inl (.inl (sm _ _ eL3))), rfl, flat_strsM zs, _, rfl, ite2 (fun e2 => ?_) (fun e2 => ?_)⟩
            · have e2 : (!(inV (.str ⟨#[c]⟩) (zs.map V.str))) = true := e2
              refine ⟨_, rfl, _, eD, ?_, ?_, ?_⟩
              · rw [List.length_map]
                have h1 := List.length_filter_le (fun y => !(inV (.str y) (zs.map V.str))) (twelve.take j)
                have h2 : (twelve.take j).length ≤ 12 := by
                  rw [List.length_take]
                  have : twelve.length = 12 := by decide +kernel
                  omega
                exact small1000 (by omega)
              · exact fun b' o e => by
                  rw [upd_ne (ne_of_none e hD)]
                  exact sm _ _ e
              · rw [upd_same, tk, List.filter_append, List.map_append, List.filter_cons, if_pos e2]
                rfl
            · have e2 : ¬ (!(inV (.str ⟨#[c]⟩) (zs.map V.str))) = true := e2
              refine ⟨sm, ?_⟩
              rw [tk, List.filter_append, List.filter_cons, if_neg e2, List.filter_nil, List.append_nil]
              exact eD
          · rintro H4 ⟨sm, eD⟩
            have l12 : (PySem.Str.ofString "abcdefghijkl").cps.size = 12 := by decide +kernel
            rw [l12, show twelve.take 12 = twelve from List.take_of_length_le (by decide +kernel)] at eD
            obtain ⟨x, xs, ex⟩ : ∃ x xs, (twelve.filter fun y => !(inV (.str y) (zs.map V.str))) = x :: xs := by
              cases ef : twelve.filter fun y => !(inV (.str y) (zs.map V.str)) with
              | cons x xs => exact ⟨x, xs, rfl⟩
              | nil =>
                have hall : ∀ y ∈ twelve, y ∈ zs := fun y hy => by
                  have := List.filter_eq_nil_iff.mp ef y hy
                  refine inV_mem.mp ?_
                  cases h : inV (.str y) (zs.map V.str) with
                  | true => rfl
                  | false => rw [h] at this; exact absurd rfl this
                have := pigeon twelve zs twelve_nd hall
                have t12 : twelve.length = 12 := by decide +kernel
                omega
            rw [ex] at eD
            have hxm : x ∈ twelve.filter fun y => !(inV (.str y) (zs.map V.str)) := by rw [ex]; exact List.mem_cons_self
            obtain ⟨hx1, hx2⟩ := List.mem_filter.mp hxm
            refine ⟨D, _, 0, _, rfl, rfl, .inl (.inl eD), atI_nat (j := 0) rfl, b3.trans (But.of sm), hp3.same sm, sm _ _ eL3, _, _, x, rfl, twelve_nm x hx1, fun hm => ?_⟩
            rw [inV_mem.mpr hm] at hx2
            cases hx2
        · exact ⟨b3, hp3, eL3, _, _, z, rfl, hn, fun hm => e (inV_mem.mpr hm)⟩
      rintro σ H4 ⟨b4, hp4, eL4, y3, y5, z, rfl, hn, hnew⟩
      refine ⟨.ref L, rfl, .inl ⟨rfl, _, .inl (.inl eL4)⟩, .str z, rfl, L, _, _, rfl, rfl, eL4, small1000 (by rw [List.length_map]; omega), b4.mut nL, hp4.upd nLp, _, _, _, zs ++ [z], rfl, ?_, ?_, ?_, ?_⟩
      · rw [upd_same, List.map_append]
        rfl
      · rw [List.length_append, lz]
        rfl
      · exact List.nodup_append.mpr ⟨nd, List.nodup_cons.mpr ⟨List.not_mem_nil, .nil⟩, fun a ha b hb e => hnew (by rw [← List.mem_singleton.mp hb, ← e]; exact ha)⟩
      · intro y hy
        rcases List.mem_append.mp hy with h | h
        · exact hz y h
        · rw [List.mem_singleton.mp h]
          exact hn
    · rintro σ H1 ⟨b1, hp1, y3, y4, y5, zs, rfl, eL, lz, nd, hz⟩
      exact ⟨.ref L, rfl, q H1 L zs b1 hp1 nL eL lz nd hz⟩
--@@SPLIT
theorem dpa_tp {K : PySem.W.Frag} {H H' : Hp} {n : Nat} (e : Tp H H') {ds : List PyData} {vs : List V} (ho : ∀ d ∈ ds, okD n d = true) (h : DpAll K H vs ds) : DpAll K H' vs ds := dpa_kpA (P := fun d => okD n d = true) (fun d v o h => dp_kp e n d v o h) ds vs ho h
theorem Tp.of {H H' : Hp} (s : Same H H') : Tp H H' := fun b o _ h => s b o h
theorem Tp.trans {H H1 H2 : Hp} (a : Tp H H1) (b : Tp H1 H2) : Tp H H2 := fun c o z h => b c o z (a c o z h)
theorem Tp.but {H H' : Hp} {p : Addr} (hp : Pool H p) (b : But p H H') : Tp H H' := (Kp.but hp b).tp
theorem Tp.lst {H : Hp} {a : Addr} {xs ys : List V} (e : H a = some (.lst xs)) : Tp H (L2.upd H a (.lst ys)) := (Kp.upd e rfl).tp
theorem tups_ok (es : List Ent) : ∀ d ∈ es.map Ent.tup, okD 1 d = true := fun d hd => by
  obtain ⟨e, _, rfl⟩ := List.mem_map.mp hd
  exact ent_okT e
def RowAt (K : PySem.W.Frag) (H : Hp) (v : V) (r : Row) : Prop := ∃ t l, v = .ref t ∧ H t = some (.tup [.str r.1, .ref l]) ∧ Dp K H (.ref l) (logD r)
theorem RowAt.tp {K : PySem.W.Frag} {H H' : Hp} {v : V} {r : Row} (h : RowAt K H v r) (hl : r.2.length ≤ 1000) (e : Tp H H') : RowAt K H' v r := by
  obtain ⟨t, l, rfl, h1, h2⟩ := h
  exact ⟨t, l, rfl, e _ _ rfl h1, dp_kp e 2 _ _ (log_okD hl) h2⟩
inductive RowsAt (K : PySem.W.Frag) (H : Hp) : List V → List Row → Prop
  | nil : RowsAt K H [] []
  | cons {v : V} {r : Row} {vs : List V} {rs : List Row} : RowAt K H v r → RowsAt K H vs rs → RowsAt K H (v :: vs) (r :: rs)
theorem RowsAt.tp {K : PySem.W.Frag} {H H' : Hp} {vs : List V} {rs : List Row} (h : RowsAt K H vs rs) (hl : ∀ r ∈ rs, r.2.length ≤ 1000) (e : Tp H H') : RowsAt K H' vs rs := by
  induction h with
  | nil => exact .nil
  | cons h1 _ ih => exact .cons (h1.tp (hl _ List.mem_cons_self) e) (ih fun r hr => hl r (List.mem_cons_of_mem _ hr))
theorem RowsAt.len {K : PySem.W.Frag} {H : Hp} {vs : List V} {rs : List Row} (h : RowsAt K H vs rs) : vs.length = rs.length := by
  induction h with
  | nil => rfl
  | cons _ _ ih => rw [List.length_cons, List.length_cons, ih]
theorem RowsAt.at_ {K : PySem.W.Frag} {H : Hp} {vs : List V} {rs : List Row} (h : RowsAt K H vs rs) : ∀ {i : Nat} {v : V}, vs[i]? = some v → ∃ r, rs[i]? = some r ∧ RowAt K H v r := by
  induction h with
  | nil => exact fun h => by cases h
  | cons h1 _ ih =>
    intro i v hv
    cases i with
    | zero => cases hv; exact ⟨_, rfl, h1⟩
    | succ i => exact ih hv
theorem RowsAt.snoc {K : PySem.W.Frag} {H : Hp} {vs : List V} {rs : List Row} {v : V} {r : Row} (h : RowsAt K H vs rs) (h1 : RowAt K H v r) : RowsAt K H (vs ++ [v]) (rs ++ [r]) := by
  induction h with
  | nil => exact .cons h1 .nil
  | cons h2 _ ih => exact .cons h2 ih
theorem RowAt.same {K : PySem.W.Frag} {H H' : Hp} {v : V} {r : Row} (h : RowAt K H v r) (s : Same H H') : RowAt K H' v r := by
  obtain ⟨t, l, rfl, h1, h2⟩ := h
  exact ⟨t, l, rfl, s _ _ h1, dp_same s _ _ h2⟩
def nmAt (H : Hp) (v : V) : Str := match v with
  | .ref t => match H t with
    | some (.tup (.str z :: _)) => z
    | _ => ⟨#[]⟩
  | _ => ⟨#[]⟩
def lgAt (H : Hp) (v : V) : Addr := match v with
  | .ref t => match H t with
    | some (.tup [_, .ref l]) => l
    | _ => 0
  | _ => 0
theorem RowAt.nm {K : PySem.W.Frag} {H : Hp} {v : V} {r : Row} (h : RowAt K H v r) : nmAt H v = r.1 ∧ ∃ t, v = .ref t ∧ H t = some (.tup [.str (nmAt H v), .ref (lgAt H v)]) := by
  obtain ⟨t, l, rfl, h1, h2⟩ := h
  have e1 : nmAt H (.ref t) = r.1 := by unfold nmAt; simp only [h1]
  have e2 : lgAt H (.ref t) = l := by unfold lgAt; simp only [h1]
  refine ⟨e1, t, rfl, ?_⟩
  rw [e1, e2]
  exact h1
theorem RowsAt.zip {K : PySem.W.Frag} {H : Hp} {vs : List V} {rs : List Row} (h : RowsAt K H vs rs) : ∃ zs : List (V × Row), vs = zs.map (·.1) ∧ rs = zs.map (·.2) ∧ ∀ z ∈ zs, RowAt K H z.1 z.2 := by
  induction h with
  | nil => exact ⟨[], rfl, rfl, fun _ h => nomatch h⟩
  | @cons v r vs rs h1 _ ih =>
    obtain ⟨zs, e1, e2, h2⟩ := ih
    refine ⟨(v, r) :: zs, by rw [e1]; rfl, by rw [e2]; rfl, fun z hz => ?_⟩
    rcases List.mem_cons.mp hz with e | hz
    · rw [e]; exact h1
    · exact h2 z hz
theorem RowsAt.unzip {K : PySem.W.Frag} {H : Hp} : ∀ {zs : List (V × Row)}, (∀ z ∈ zs, RowAt K H z.1 z.2) → RowsAt K H (zs.map (·.1)) (zs.map (·.2))
  | [], _ => .nil
  | z :: zs, h => .cons (h z List.mem_cons_self) (RowsAt.unzip fun y hy => h y (List.mem_cons_of_mem _ hy))
theorem RowsAt.perm {K : PySem.W.Frag} {H : Hp} {vs ys : List V} {rs : List Row} (h : RowsAt K H vs rs) (p : ys.Perm vs) : ∃ rs', RowsAt K H ys rs' ∧ rs'.Perm rs := by
  obtain ⟨zs, e1, e2, hz⟩ := h.zip
  rw [e1] at p
  obtain ⟨zs', p', e⟩ := perm_lift (f := fun z : V × Row => z.1) p
  refine ⟨zs'.map (·.2), ?_, ?_⟩
  · rw [← e]
    exact RowsAt.unzip fun z hz' => hz z (p'.mem_iff.mp hz')
  · rw [e2]
    exact p'.map _
theorem RowsAt.same {K : PySem.W.Frag} {H H' : Hp} {vs : List V} {rs : List Row} (h : RowsAt K H vs rs) (s : Same H H') : RowsAt K H' vs rs := by
  induction h with
  | nil => exact .nil
  | cons h1 _ ih => exact .cons (h1.same s) ih
theorem RowsAt.nms {K : PySem.W.Frag} {H : Hp} {vs : List V} {rs : List Row} (h : RowsAt K H vs rs) : vs.map (nmAt H) = M.nms rs := by
  induction h with
  | nil => rfl
  | cons h1 _ ih =>
    show _ :: _ = _ :: _
    rw [h1.nm.1]
    exact congrArg _ ih
theorem RowsAt.pairs {K : PySem.W.Frag} {H : Hp} {vs : List V} {rs : List Row} (h : RowsAt K H vs rs) : Pairs K H vs rs := by
  induction h with
  | nil => exact .nil
  | cons h1 _ ih =>
    obtain ⟨t, l, rfl, h2, h3⟩ := h1
    obtain ⟨a, xs, e, hs, hr⟩ := log_rows h3
    cases e
    exact .cons ⟨t, l, xs, rfl, .inr (.inl (.inl h2)), .inr hs, hr⟩ ih
theorem RowsAt.apart {K : PySem.W.Frag} {H : Hp} {xs : List V} {rs : List Row} (h : RowsAt K H xs rs) (nd : (M.nms rs).Nodup) : ∀ u ∈ xs, ∀ v ∈ xs, nmAt H u = nmAt H v → lgAt H u = lgAt H v := fun u hu v hv e => by
  obtain ⟨i, hi⟩ := List.mem_iff_getElem?.mp hu
  obtain ⟨j, hj⟩ := List.mem_iff_getElem?.mp hv
  obtain ⟨r1, f1, h1⟩ := h.at_ hi
  obtain ⟨r2, f2, h2⟩ := h.at_ hj
  have e1 : (M.nms rs)[i]? = some (nmAt H u) := by unfold M.nms; rw [List.getElem?_map, f1, h1.nm.1]; rfl
  have e2 : (M.nms rs)[j]? = some (nmAt H v) := by unfold M.nms; rw [List.getElem?_map, f2, h2.nm.1]; rfl
  have i1 := List.getElem?_eq_some_iff.mp e1
  have j1 := List.getElem?_eq_some_iff.mp e2
  have eij : i = j := by
    rcases Nat.lt_trichotomy i j with h | h | h
    · exact absurd (i1.2.trans (e.trans j1.2.symm)) ((List.pairwise_iff_getElem.mp nd) i j i1.1 j1.1 h)
    · exact h
    · exact absurd (j1.2.trans (e.symm.trans i1.2.symm)) ((List.pairwise_iff_getElem.mp nd) j i j1.1 i1.1 h)
  subst eij
  rw [Option.some.inj (hi.symm.trans hj)]
theorem RowsAt.keyed {K : PySem.W.Frag} {H : Hp} {xs : List V} {rs : List Row} (h : RowsAt K H xs rs) : ∀ v ∈ xs, ∃ t, v = .ref t ∧ H t = some (.tup [.str (nmAt H v), .ref (lgAt H v)]) := fun v hv => by
  obtain ⟨i, hi⟩ := List.mem_iff_getElem?.mp hv
  obtain ⟨r, _, hr'⟩ := h.at_ hi
  exact hr'.nm.2
theorem RowsAt.sorted {K : PySem.W.Frag} {H : Hp} {xs ys : List V} {rs : List Row} (h : RowsAt K H xs rs) (nd : (M.nms rs).Nodup) (srt : SrtO.Srtd (fun x y => SrtSP.ltS (nmAt H x) (nmAt H y)) ys) (prm : ys.Perm xs) : ∃ rs2, RowsAt K H ys rs2 ∧ rs2.Perm rs ∧ Srt rs2 := by
  obtain ⟨rs2, hrs2, p2⟩ := h.perm prm
  refine ⟨rs2, hrs2, p2, srt_of ((show (M.nms rs2).Perm (M.nms rs) from p2.map _).nodup_iff.mpr nd) ?_⟩
  rw [← hrs2.nms]
  exact List.pairwise_map.mpr (srt.imp fun {a b} h z => by
    have h : SrtSP.ltS (nmAt H b) (nmAt H a) = false := h
    have this : SrtSP.ltS (nmAt H b) (nmAt H a) = true := decide_eq_true z
    rw [h] at this
    cases this)
--@@SPLIT
/-! ### groups: names and lone signs -/
abbrev Grp := List Str × List Str
def nearB (ss : List Str) (g : Grp) : Bool := ss.any fun z => decide (z ∈ g.2)
def stepG (gs : List Grp) (r : Str × List Str) : List Grp := gs.filter (fun g => !nearB r.2 g) ++ [(r.1 :: (gs.filter (nearB r.2)).flatMap (·.1), r.2 ++ (gs.filter (nearB r.2)).flatMap (·.2))]
def runG (rs : List (Str × List Str)) : List Grp := rs.foldl stepG []
theorem runG_succ {rs : List (Str × List Str)} {i : Nat} {r : Str × List Str} (h : rs[i]? = some r) : runG (rs.take (i + 1)) = stepG (runG (rs.take i)) r := by
  unfold runG
  rw [List.take_add_one, h, List.foldl_append]
  rfl
def Apart (gs : List Grp) : Prop := gs.Pairwise fun a b => ∀ z ∈ a.2, z ∉ b.2
theorem apart_mem : ∀ {gs : List Grp}, Apart gs → ∀ {a b : Grp}, a ∈ gs → b ∈ gs → a ≠ b → ∀ z ∈ a.2, z ∉ b.2
  | [], _, _, _, h, _, _ => nomatch h
  | g :: gs, hp, a, b, ha, hb, ne => by
    obtain ⟨h1, h2⟩ := List.pairwise_cons.mp hp
    rcases List.mem_cons.mp ha with e | ha
    · rcases List.mem_cons.mp hb with e2 | hb
      · exact absurd (e.trans e2.symm) ne
      · rw [e]
        exact h1 b hb
    · rcases List.mem_cons.mp hb with e2 | hb
      · rw [e2]
        exact fun z hz hz2 => h1 a ha z hz2 hz
      · exact apart_mem h2 ha hb ne
theorem nearB_iff {ss : List Str} {g : Grp} : nearB ss g = true ↔ ∃ z ∈ ss, z ∈ g.2 := by
  unfold nearB
  rw [List.any_eq_true]
  exact ⟨fun ⟨z, h1, h2⟩ => ⟨z, h1, of_decide_eq_true h2⟩, fun ⟨z, h1, h2⟩ => ⟨z, h1, decide_eq_true h2⟩⟩
theorem Apart.step {gs : List Grp} (h : Apart gs) (r : Str × List Str) : Apart (stepG gs r) := by
  refine List.pairwise_append.mpr ⟨h.sublist List.filter_sublist, List.pairwise_singleton _ _, fun a ha b hb z hz hz2 => ?_⟩
  obtain ⟨a1, a2⟩ := List.mem_filter.mp ha
  rw [List.mem_singleton.mp hb] at hz2
  have a2 : nearB r.2 a = false := by
    cases e : nearB r.2 a with
    | true => rw [e] at a2; cases a2
    | false => rfl
  rcases List.mem_append.mp hz2 with h3 | h3
  · rw [nearB_iff.mpr ⟨z, h3, hz⟩] at a2
    cases a2
  · obtain ⟨g, hg, hzg⟩ := List.mem_flatMap.mp h3
    obtain ⟨g1, g2⟩ := List.mem_filter.mp hg
    exact apart_mem h a1 g1 (fun e => by rw [e, g2] at a2; cases a2) z hz hzg
theorem apart_run : ∀ (rs : List (Str × List Str)) (gs : List Grp), Apart gs → Apart (rs.foldl stepG gs)
  | [], _, h => h
  | r :: rs, gs, h => apart_run rs _ (h.step r)
theorem runG_apart (rs : List (Str × List Str)) : Apart (runG rs) := apart_run rs [] .nil
/-- what came together so far is near no other one -/
theorem near_more {gs : List Grp} (h : Apart gs) {ss : List Str} {j : Nat} {g : Grp} (hj : gs[j]? = some g) : nearB (ss ++ ((gs.take j).filter (nearB ss)).flatMap (·.2)) g = nearB ss g := by
  cases e : nearB ss g with
  | true =>
    obtain ⟨z, h1, h2⟩ := nearB_iff.mp e
    exact nearB_iff.mpr ⟨z, List.mem_append_left _ h1, h2⟩
  | false =>
    refine Bool.eq_false_iff.mpr fun y => ?_
    obtain ⟨z, h1, h2⟩ := nearB_iff.mp y
    rcases List.mem_append.mp h1 with h3 | h3
    · rw [nearB_iff.mpr ⟨z, h3, h2⟩] at e
      cases e
    · obtain ⟨g', hg, hz⟩ := List.mem_flatMap.mp h3
      obtain ⟨g1, g2⟩ := List.mem_filter.mp hg
      exact apart_mem h (List.mem_of_mem_take g1) (List.mem_of_getElem? hj) (fun e2 => by rw [e2, e] at g2; cases g2) z hz h2
theorem step_names (gs : List Grp) (r : Str × List Str) : ((stepG gs r).flatMap (·.1)).Perm (r.1 :: gs.flatMap (·.1)) := by
  unfold stepG
  rw [List.flatMap_append]
  have e : List.flatMap (fun g : Grp => g.1) [(r.1 :: (gs.filter (nearB r.2)).flatMap (·.1), r.2 ++ (gs.filter (nearB r.2)).flatMap (·.2))] = r.1 :: (gs.filter (nearB r.2)).flatMap (·.1) := by
    rw [List.flatMap_cons, List.flatMap_nil, List.append_nil]
  rw [e]
  refine List.perm_middle.trans (List.Perm.cons _ ?_)
  refine List.perm_append_comm.trans ?_
  rw [← List.flatMap_append]
  exact (List.filter_append_perm (nearB r.2) gs).flatMap_right _
theorem run_names : ∀ (rs : List (Str × List Str)) (gs : List Grp), ((rs.foldl stepG gs).flatMap (·.1)).Perm (rs.map (·.1) ++ gs.flatMap (·.1))
  | [], _ => .refl _
  | r :: rs, gs => by
    refine (run_names rs (stepG gs r)).trans ?_
    refine ((step_names gs r).append_left _).trans ?_
    exact List.perm_middle
theorem runG_names (rs : List (Str × List Str)) : ((runG rs).flatMap (·.1)).Perm (rs.map (·.1)) := by
  have := run_names rs []
  rw [List.flatMap_nil, List.append_nil] at this
  exact this
theorem run_ne : ∀ (rs : List (Str × List Str)) (gs : List Grp), (∀ g ∈ gs, g.1 ≠ []) → ∀ g ∈ rs.foldl stepG gs, g.1 ≠ []
  | [], _, h => h
  | r :: rs, gs, h => run_ne rs (stepG gs r) fun g hg => by
    rcases List.mem_append.mp hg with h1 | h1
    · exact h g (List.mem_filter.mp h1).1
    · rw [List.mem_singleton.mp h1]
      exact fun z => nomatch z
theorem runG_ne (rs : List (Str × List Str)) : ∀ g ∈ runG rs, g.1 ≠ [] := run_ne rs [] (fun _ h => nomatch h)
theorem step_len (gs : List Grp) (r : Str × List Str) : (stepG gs r).length ≤ gs.length + 1 := by
  unfold stepG
  rw [List.length_append]
  have := List.length_filter_le (fun g => !nearB r.2 g) gs
  show _ + 1 ≤ _
  omega
theorem step_signs (gs : List Grp) (r : Str × List Str) : ((stepG gs r).flatMap (·.2)).Perm (r.2 ++ gs.flatMap (·.2)) := by
  unfold stepG
  rw [List.flatMap_append]
  have e : List.flatMap (fun g : Grp => g.2) [(r.1 :: (gs.filter (nearB r.2)).flatMap (·.1), r.2 ++ (gs.filter (nearB r.2)).flatMap (·.2))] = r.2 ++ (gs.filter (nearB r.2)).flatMap (·.2) := by
    rw [List.flatMap_cons, List.flatMap_nil, List.append_nil]
  rw [e]
  refine List.perm_append_comm.trans ?_
  rw [List.append_assoc]
  refine List.Perm.append_left _ ?_
  rw [← List.flatMap_append]
  exact (List.filter_append_perm (nearB r.2) gs).flatMap_right _
theorem run_signs : ∀ (rs : List (Str × List Str)) (gs : List Grp), ((rs.foldl stepG gs).flatMap (·.2)).length = (rs.flatMap (·.2)).length + (gs.flatMap (·.2)).length
  | [], gs => by show (gs.flatMap (·.2)).length = 0 + (gs.flatMap (·.2)).length; omega
  | r :: rs, gs => by
    have h1 := run_signs rs (stepG gs r)
    have h2 := (step_signs gs r).length_eq
    rw [List.length_append] at h2
    show ((rs.foldl stepG (stepG gs r)).flatMap (·.2)).length = _
    rw [h1, h2, List.flatMap_cons, List.length_append]
    omega
theorem runG_signs (rs : List (Str × List Str)) : ((runG rs).flatMap (·.2)).length = (rs.flatMap (·.2)).length := by
  have := run_signs rs []
  rw [List.flatMap_nil] at this
  exact this
theorem run_len : ∀ (rs : List (Str × List Str)) (gs : List Grp), (rs.foldl stepG gs).length ≤ rs.length + gs.length
  | [], gs => by show gs.length ≤ 0 + gs.length; omega
  | r :: rs, gs => by
    have h1 := run_len rs (stepG gs r)
    have h2 := step_len gs r
    show (rs.foldl stepG (stepG gs r)).length ≤ (rs.length + 1) + gs.length
    omega
theorem runG_len (rs : List (Str × List Str)) : (runG rs).length ≤ rs.length := by
  have := run_len rs []
  exact this
/-! the groups told -/
def leN (a b : Str) : Bool := !decide (b.cps.toList < a.cps.toList)
theorem leN_trans (a b c : Str) (h1 : leN a b = true) (h2 : leN b c = true) : leN a c = true := by
  unfold leN at *
  have h1 : ¬ b.cps.toList < a.cps.toList := fun z => by rw [decide_eq_true z] at h1; cases h1
  have h2 : ¬ c.cps.toList < b.cps.toList := fun z => by rw [decide_eq_true z] at h2; cases h2
  rw [decide_eq_false (List.not_lt.mpr (List.le_trans (List.not_lt.mp h1) (List.not_lt.mp h2)))]
  rfl
theorem leN_total (a b : Str) : (leN a b || leN b a) = true := by
  unfold leN
  by_cases h : b.cps.toList < a.cps.toList
  · rw [decide_eq_false (fun z => List.lt_irrefl _ (List.lt_trans h z))]
    exact Bool.or_true _
  · rw [decide_eq_false h]
    rfl
theorem leN_iff {a b : Str} : leN a b = true ↔ ¬ b.cps.toList < a.cps.toList := by
  unfold leN
  by_cases h : b.cps.toList < a.cps.toList
  · rw [decide_eq_true h]
    exact ⟨(fun z => nomatch z), fun z => absurd h z⟩
  · rw [decide_eq_false h]
    exact ⟨fun _ => h, fun _ => rfl⟩
def sortN (l : List Str) : List Str := l.mergeSort leN
theorem sortN_perm (l : List Str) : (sortN l).Perm l := List.mergeSort_perm l leN
theorem sortN_uniq {ys l : List Str} (hp : ys.Perm l) (hs : ys.Pairwise fun a b => ¬ b.cps.toList < a.cps.toList) : ys = sortN l := by
  refine (hp.trans (sortN_perm l).symm).eq_of_pairwise (le := fun a b => ¬ b.cps.toList < a.cps.toList) (fun a b _ _ h1 h2 => ?_) hs ?_
  · exact str_inj (List.le_antisymm (List.not_lt.mp h1) (List.not_lt.mp h2))
  · exact (List.pairwise_mergeSort leN_trans leN_total l).imp fun {a b} h => leN_iff.mp h
def hdS : List Str → Str
  | [] => ⟨#[]⟩
  | z :: _ => z
theorem hdS_mem : ∀ {l : List Str}, l ≠ [] → hdS l ∈ l
  | [], h => absurd rfl h
  | z :: _, _ => List.mem_cons_self
theorem sortN_ne {l : List Str} (h : l ≠ []) : sortN l ≠ [] := fun e => by
  have := (sortN_perm l).length_eq
  rw [e] at this
  exact h (List.eq_nil_of_length_eq_zero this.symm)
def groupsT (gs : List Grp) : List (List Str) := (gs.map fun g => sortN g.1).mergeSort (fun a b => leN (hdS a) (hdS b))
theorem grp_idx : ∀ {gs : List Grp}, (gs.flatMap (·.1)).Nodup → ∀ {i j : Nat} {g h : Grp} {z : Str}, gs[i]? = some g → gs[j]? = some h → z ∈ g.1 → z ∈ h.1 → i = j
  | [], _, _, _, _, _, _, h, _, _, _ => nomatch h
  | k :: gs, nd, 0, 0, _, _, _, _, _, _, _ => rfl
  | k :: gs, nd, 0, j + 1, g, h, z, hg, hh, z1, z2 => by
    rw [List.flatMap_cons, List.nodup_append] at nd
    cases hg
    exact absurd rfl (nd.2.2 z z1 z (List.mem_flatMap.mpr ⟨h, List.mem_of_getElem? (show gs[j]? = some h from hh), z2⟩))
  | k :: gs, nd, i + 1, 0, g, h, z, hg, hh, z1, z2 => by
    rw [List.flatMap_cons, List.nodup_append] at nd
    cases hh
    exact absurd rfl (nd.2.2 z z2 z (List.mem_flatMap.mpr ⟨g, List.mem_of_getElem? (show gs[i]? = some g from hg), z1⟩))
  | k :: gs, nd, i + 1, j + 1, g, h, z, hg, hh, z1, z2 => by
    rw [List.flatMap_cons, List.nodup_append] at nd
    rw [grp_idx nd.2.1 (show gs[i]? = some g from hg) (show gs[j]? = some h from hh) z1 z2]
theorem grp_uniq : ∀ {gs : List Grp}, (gs.flatMap (·.1)).Nodup → ∀ {g h : Grp} {z : Str}, g ∈ gs → h ∈ gs → z ∈ g.1 → z ∈ h.1 → g = h
  | [], _, _, _, _, h, _, _, _ => nomatch h
  | k :: gs, nd, g, h, z, hg, hh, z1, z2 => by
    rw [List.flatMap_cons, List.nodup_append] at nd
    obtain ⟨_, n2, n3⟩ := nd
    rcases List.mem_cons.mp hg with e | hg
    · rcases List.mem_cons.mp hh with e2 | hh
      · exact e.trans e2.symm
      · rw [e] at z1
        exact absurd rfl (n3 z z1 z (List.mem_flatMap.mpr ⟨h, hh, z2⟩))
    · rcases List.mem_cons.mp hh with e2 | hh
      · rw [e2] at z2
        exact absurd rfl (n3 z z2 z (List.mem_flatMap.mpr ⟨g, hg, z1⟩))
      · exact grp_uniq n2 hg hh z1 z2
theorem groups_head {gs : List Grp} (ne : ∀ g ∈ gs, g.1 ≠ []) (nd : (gs.flatMap (·.1)).Nodup) {a b : List Str} (ha : a ∈ gs.map fun g => sortN g.1) (hb : b ∈ gs.map fun g => sortN g.1) (e : hdS a = hdS b) : a = b := by
  obtain ⟨g, hg, rfl⟩ := List.mem_map.mp ha
  obtain ⟨h, hh, rfl⟩ := List.mem_map.mp hb
  have z1 := (sortN_perm g.1).mem_iff.mp (hdS_mem (sortN_ne (ne g hg)))
  have z2 := (sortN_perm h.1).mem_iff.mp (hdS_mem (sortN_ne (ne h hh)))
  rw [e] at z1
  rw [grp_uniq nd hg hh z1 z2]
theorem groupsT_perm (gs : List Grp) : (groupsT gs).Perm (gs.map fun g => sortN g.1) := List.mergeSort_perm _ _
theorem groupsT_uniq {gs : List Grp} (ne : ∀ g ∈ gs, g.1 ≠ []) (nd : (gs.flatMap (·.1)).Nodup) {zs : List (List Str)} (hp : zs.Perm (gs.map fun g => sortN g.1)) (hs : zs.Pairwise fun a b => ¬ (hdS b).cps.toList < (hdS a).cps.toList) : zs = groupsT gs := by
  refine (hp.trans (groupsT_perm gs).symm).eq_of_pairwise (le := fun a b => ¬ (hdS b).cps.toList < (hdS a).cps.toList) (fun a b ha hb h1 h2 => ?_) hs ?_
  · exact groups_head ne nd (hp.mem_iff.mp ha) ((groupsT_perm gs).mem_iff.mp hb) (str_inj (List.le_antisymm (List.not_lt.mp h1) (List.not_lt.mp h2)))
  · exact (List.pairwise_mergeSort (le := fun a b => leN (hdS a) (hdS b)) (fun a b c => leN_trans _ _ _) (fun a b => leN_total _ _) _).imp fun {a b} h => leN_iff.mp h
def groupsD (gs : List Grp) : PyData := .tuple ((groupsT gs).map fun l => .tuple (l.map PyData.str))
/-! ### the groups don't hang on the order of the rows -/
theorem sortN_of {l m : List Str} (h : l.Perm m) : sortN l = sortN m :=
  sortN_uniq ((sortN_perm l).trans h) ((List.pairwise_mergeSort leN_trans leN_total l).imp fun {a b} h => leN_iff.mp h)
def canG (g : Grp) : Grp := (sortN g.1, sortN g.2)
/-- as stepG, with each group in order -/
def stepK (ks : List Grp) (r : Str × List Str) : List Grp := ks.filter (fun g => !nearB r.2 g) ++ [canG (r.1 :: (ks.filter (nearB r.2)).flatMap (·.1), r.2 ++ (ks.filter (nearB r.2)).flatMap (·.2))]
theorem near_can (ss : List Str) (g : Grp) : nearB ss (canG g) = nearB ss g := by
  refine Bool.eq_iff_iff.mpr ?_
  rw [nearB_iff, nearB_iff]
  exact ⟨fun ⟨z, h1, h2⟩ => ⟨z, h1, (sortN_perm g.2).mem_iff.mp h2⟩, fun ⟨z, h1, h2⟩ => ⟨z, h1, (sortN_perm g.2).mem_iff.mpr h2⟩⟩
theorem can_eq {a b : Grp} (h1 : a.1.Perm b.1) (h2 : a.2.Perm b.2) : canG a = canG b := Prod.ext (sortN_of h1) (sortN_of h2)
theorem flat_can1 : ∀ gs : List Grp, ((gs.map canG).flatMap (·.1)).Perm (gs.flatMap (·.1))
  | [] => .nil
  | g :: r => by
    rw [List.map_cons, List.flatMap_cons, List.flatMap_cons]
    exact (sortN_perm g.1).append (flat_can1 r)
theorem flat_can2 : ∀ gs : List Grp, ((gs.map canG).flatMap (·.2)).Perm (gs.flatMap (·.2))
  | [] => .nil
  | g :: r => by
    rw [List.map_cons, List.flatMap_cons, List.flatMap_cons]
    exact (sortN_perm g.2).append (flat_can2 r)
theorem filter_can (p : Grp → Bool) (hp : ∀ g, p (canG g) = p g) (gs : List Grp) : (gs.map canG).filter p = (gs.filter p).map canG := by
  rw [List.filter_map]
  congr 1
  exact List.filter_congr fun g _ => hp g
theorem step_can (gs : List Grp) (r : Str × List Str) : (stepG gs r).map canG = stepK (gs.map canG) r := by
  unfold stepG stepK
  rw [List.map_append, filter_can _ (fun g => by rw [near_can]), filter_can _ (fun g => near_can _ g)]
  refine congrArg _ (congrArg (fun z => [z]) (can_eq ?_ ?_))
  · exact ((flat_can1 _).symm).cons _
  · exact (flat_can2 _).symm.append_left _
def runK (ks : List Grp) (rs : List (Str × List Str)) : List Grp := rs.foldl stepK ks
theorem run_can : ∀ (rs : List (Str × List Str)) (gs : List Grp), (rs.foldl stepG gs).map canG = runK (gs.map canG) rs
  | [], _ => rfl
  | r :: rs, gs => by
    show ((rs.foldl stepG (stepG gs r))).map canG = runK (stepK (gs.map canG) r) rs
    rw [run_can rs, step_can]
theorem stepK_perm {ks js : List Grp} (h : ks.Perm js) (r : Str × List Str) : (stepK ks r).Perm (stepK js r) := by
  unfold stepK
  rw [can_eq (a := (r.1 :: (ks.filter (nearB r.2)).flatMap (·.1), r.2 ++ (ks.filter (nearB r.2)).flatMap (·.2))) (b := (r.1 :: (js.filter (nearB r.2)).flatMap (·.1), r.2 ++ (js.filter (nearB r.2)).flatMap (·.2))) (((h.filter (nearB r.2)).flatMap_right _).cons r.1) (((h.filter (nearB r.2)).flatMap_right _).append_left _)]
  exact (h.filter _).append_right _
theorem runK_perm : ∀ (rs : List (Str × List Str)) {ks js : List Grp}, ks.Perm js → (runK ks rs).Perm (runK js rs)
  | [], _, _, h => h
  | r :: rs, _, _, h => runK_perm rs (stepK_perm h r)
theorem either {α β : Type} (f : α → List β) (p q : α → Bool) : ∀ ks : List α, (((ks.filter fun g => !p g).filter q).flatMap f ++ (ks.filter p).flatMap f).Perm ((ks.filter fun g => p g || q g).flatMap f)
  | [] => .nil
  | k :: ks => by
    have ih := either f p q ks
    cases hp : p k <;> cases hq : q k <;> simp only [List.filter_cons, hp, hq, Bool.not_true, Bool.not_false, if_true, if_false, Bool.or_true, Bool.or_false, Bool.true_or, Bool.false_or, Bool.false_eq_true, List.flatMap_cons, List.append_assoc]
    · exact ih
    · exact ih.append_left _
    · exact (List.perm_append_comm_assoc _ _ _).trans (ih.append_left _)
    · exact (List.perm_append_comm_assoc _ _ _).trans (ih.append_left _)
theorem both_ways {β : Type} (f : Grp → List β) (p q : Grp → Bool) (ks : List Grp) {u v cu cv : List β} (hu : cu.Perm (u ++ (ks.filter p).flatMap f)) (hv : cv.Perm (v ++ (ks.filter q).flatMap f)) :
    (v ++ (((ks.filter fun g => !p g).filter q).flatMap f ++ cu)).Perm (u ++ (((ks.filter fun g => !q g).filter p).flatMap f ++ cv)) := by
  have one : ∀ (p q : Grp → Bool) {u v cu : List β}, cu.Perm (u ++ (ks.filter p).flatMap f) → (v ++ (((ks.filter fun g => !p g).filter q).flatMap f ++ cu)).Perm ((u ++ v) ++ (ks.filter fun g => p g || q g).flatMap f) := fun p q {u v cu} h => by
    refine (((h.append_left _).trans (List.perm_append_comm_assoc _ _ _)).append_left v).trans ?_
    refine (List.perm_append_comm_assoc _ _ _).trans ?_
    rw [List.append_assoc]
    exact ((either f p q ks).append_left v).append_left u
  have e : (ks.filter fun g => p g || q g) = ks.filter fun g => q g || p g := List.filter_congr fun k _ => Bool.or_comm _ _
  refine (one p q hu).trans (.trans ?_ (one q p hv).symm)
  rw [e]
  exact List.perm_append_comm.append_right _
theorem filter_none {α : Type} {p q : α → Bool} {ks : List α} (h : ∀ k ∈ ks, p k = true → q k = true → False) : (ks.filter fun g => !p g).filter q = ks.filter q := by
  rw [List.filter_filter]
  refine List.filter_congr fun k hk => ?_
  cases hq : q k with
  | false => rfl
  | true =>
    cases hp : p k with
    | false => rfl
    | true => exact (h k hk hp hq).elim
theorem near_new {ss : List Str} {ts : List Str} {x : List Str} {ks : List Grp} : nearB ss (canG (x, ts ++ (ks.filter (nearB ts)).flatMap (·.2))) = true ↔ (∃ z ∈ ss, z ∈ ts) ∨ ∃ k ∈ ks, nearB ts k = true ∧ nearB ss k = true := by
  rw [near_can, nearB_iff]
  constructor
  · rintro ⟨z, h1, h2⟩
    rcases List.mem_append.mp h2 with h | h
    · exact .inl ⟨z, h1, h⟩
    · obtain ⟨k, hk, hz⟩ := List.mem_flatMap.mp h
      obtain ⟨k1, k2⟩ := List.mem_filter.mp hk
      exact .inr ⟨k, k1, k2, nearB_iff.mpr ⟨z, h1, hz⟩⟩
  · rintro (⟨z, h1, h2⟩ | ⟨k, k1, k2, k3⟩)
    · exact ⟨z, h1, List.mem_append_left _ h2⟩
    · obtain ⟨z, z1, z2⟩ := nearB_iff.mp k3
      exact ⟨z, z1, List.mem_append_right _ (List.mem_flatMap.mpr ⟨k, List.mem_filter.mpr ⟨k1, k2⟩, z2⟩)⟩
theorem stepK_comm (ks : List Grp) (a b : Str × List Str) : (stepK (stepK ks a) b).Perm (stepK (stepK ks b) a) := by
  have sym : nearB b.2 (canG (a.1 :: (ks.filter (nearB a.2)).flatMap (·.1), a.2 ++ (ks.filter (nearB a.2)).flatMap (·.2))) = nearB a.2 (canG (b.1 :: (ks.filter (nearB b.2)).flatMap (·.1), b.2 ++ (ks.filter (nearB b.2)).flatMap (·.2))) := by
    refine Bool.eq_iff_iff.mpr ?_
    rw [near_new, near_new]
    constructor
    · rintro (⟨z, h1, h2⟩ | ⟨k, k1, k2, k3⟩)
      · exact .inl ⟨z, h2, h1⟩
      · exact .inr ⟨k, k1, k3, k2⟩
    · rintro (⟨z, h1, h2⟩ | ⟨k, k1, k2, k3⟩)
      · exact .inl ⟨z, h2, h1⟩
      · exact .inr ⟨k, k1, k3, k2⟩
  have two : (ks.filter fun g => !nearB a.2 g).filter (fun g => !nearB b.2 g) = (ks.filter fun g => !nearB b.2 g).filter (fun g => !nearB a.2 g) := by
    rw [List.filter_filter, List.filter_filter]
    exact List.filter_congr fun k _ => Bool.and_comm _ _
  cases hL : nearB b.2 (canG (a.1 :: (ks.filter (nearB a.2)).flatMap (·.1), a.2 ++ (ks.filter (nearB a.2)).flatMap (·.2))) with
  | false =>
    have hR := sym.symm.trans hL
    have none : ∀ k ∈ ks, nearB a.2 k = true → nearB b.2 k = true → False := fun k hk h1 h2 => by
      have := (near_new (ss := b.2) (ts := a.2) (ks := ks) (x := a.1 :: (ks.filter (nearB a.2)).flatMap (·.1))).mpr (.inr ⟨k, hk, h1, h2⟩)
      rw [hL] at this
      cases this
    unfold stepK
    simp only [List.filter_append, List.filter_cons, List.filter_nil, hL, hR, Bool.not_false, if_true, Bool.false_eq_true, if_false, List.append_nil]
    rw [filter_none none, filter_none (fun k hk h1 h2 => none k hk h2 h1), two, List.append_assoc, List.append_assoc]
    exact (List.Perm.swap _ _ _).append_left _
  | true =>
    have hR := sym.symm.trans hL
    unfold stepK
    simp only [List.filter_append, List.filter_cons, List.filter_nil, hL, hR, Bool.not_true, Bool.false_eq_true, if_false, if_true, List.append_nil, List.flatMap_append, List.flatMap_cons, List.flatMap_nil]
    rw [two]
    refine List.Perm.of_eq (congrArg _ (congrArg (fun z => [z]) (can_eq ?_ ?_)))
    · exact both_ways (·.1) (nearB a.2) (nearB b.2) ks (u := [a.1]) (v := [b.1]) (sortN_perm _) (sortN_perm _)
    · exact both_ways (·.2) (nearB a.2) (nearB b.2) ks (u := a.2) (v := b.2) (sortN_perm _) (sortN_perm _)
theorem runK_order {rs ss : List (Str × List Str)} (h : rs.Perm ss) : ∀ ks : List Grp, (runK ks rs).Perm (runK ks ss) := by
  induction h with
  | nil => exact fun _ => .refl _
  | cons r _ ih => exact fun ks => ih (stepK ks r)
  | swap a b l => exact fun ks => runK_perm l (stepK_comm ks b a)
  | trans _ _ i1 i2 => exact fun ks => (i1 ks).trans (i2 ks)
theorem runG_order {rs ss : List (Str × List Str)} (h : rs.Perm ss) : ((runG rs).map canG).Perm ((runG ss).map canG) := by
  unfold runG
  rw [run_can, run_can]
  exact runK_order h _
/-- the groups as they are told: alike for rows in any order -/
theorem run_nodup {rs : List (Str × List Str)} (nd : (rs.map (·.1)).Nodup) : ((runG rs).flatMap (·.1)).Nodup := (runG_names rs).nodup_iff.mpr nd
theorem groupsT_sorted (gs : List Grp) : (groupsT gs).Pairwise fun a b => ¬ (hdS b).cps.toList < (hdS a).cps.toList :=
  (List.pairwise_mergeSort (le := fun a b => leN (hdS a) (hdS b)) (fun _ _ _ => leN_trans _ _ _) (fun _ _ => leN_total _ _) _).imp fun {_ _} h => leN_iff.mp h
theorem groups_order {rs ss : List (Str × List Str)} (nd : (rs.map (·.1)).Nodup) (h : rs.Perm ss) : groupsT (runG rs) = groupsT (runG ss) := by
  refine groupsT_uniq (runG_ne ss) (run_nodup ((h.map _).nodup_iff.mp nd)) ((groupsT_perm _).trans ?_) (groupsT_sorted _)
  have := (runG_order h).map (·.1)
  rw [List.map_map, List.map_map] at this
  exact this
theorem runG_snoc (rs : List (Str × List Str)) (r : Str × List Str) : runG (rs ++ [r]) = stepG (runG rs) r := by
  unfold runG
  rw [List.foldl_append]
  rfl
theorem step_none (gs : List Grp) (z : Str) : stepG gs (z, []) = gs ++ [([z], [])] := by
  have e : ∀ g : Grp, nearB [] g = false := fun _ => rfl
  unfold stepG
  rw [List.filter_eq_self.mpr (fun g _ => by rw [e]; rfl), List.filter_eq_nil_iff.mpr (fun g _ => by rw [e]; exact Bool.false_ne_true)]
  rfl
/-! ### names called otherwise -/
def callG (f : Str → Str) (g : Grp) : Grp := (g.1.map f, g.2)
theorem step_call (f : Str → Str) (gs : List Grp) (r : Str × List Str) : stepG (gs.map (callG f)) (f r.1, r.2) = (stepG gs r).map (callG f) := by
  have nb : ∀ g, nearB r.2 (callG f g) = nearB r.2 g := fun _ => rfl
  have e : ∀ p : Grp → Bool, (∀ g, p (callG f g) = p g) → (gs.map (callG f)).filter p = (gs.filter p).map (callG f) := fun p hp => by
    rw [List.filter_map]
    congr 1
    exact List.filter_congr fun g _ => hp g
  unfold stepG
  rw [List.map_append, e _ (fun _ => rfl), e _ nb]
  congr 2
  refine Prod.ext ?_ ?_
  · show f r.1 :: _ = (r.1 :: _).map f
    rw [List.map_cons, List.flatMap_map, List.map_flatMap]
    rfl
  · show r.2 ++ ((gs.filter (nearB r.2)).map (callG f)).flatMap (·.2) = r.2 ++ _
    rw [List.flatMap_map]
    rfl
theorem run_call (f : Str → Str) : ∀ (rs : List (Str × List Str)) (gs : List Grp), (rs.map fun r => (f r.1, r.2)).foldl stepG (gs.map (callG f)) = (rs.foldl stepG gs).map (callG f)
  | [], _ => rfl
  | r :: rs, gs => by
    rw [List.map_cons, List.foldl_cons, List.foldl_cons, step_call, run_call f rs]
theorem runG_call (f : Str → Str) (rs : List (Str × List Str)) : runG (rs.map fun r => (f r.1, r.2)) = (runG rs).map (callG f) := run_call f rs []
theorem sortN_call {f : Str → Str} {l : List Str} (mono : ∀ a ∈ l, ∀ b ∈ l, ¬ b.cps.toList < a.cps.toList → ¬ (f b).cps.toList < (f a).cps.toList) : sortN (l.map f) = (sortN l).map f := by
  refine (sortN_uniq ((sortN_perm l).map f) (List.pairwise_map.mpr ?_)).symm
  have s : (sortN l).Pairwise fun a b => ¬ b.cps.toList < a.cps.toList := (List.pairwise_mergeSort leN_trans leN_total l).imp fun {a b} h => leN_iff.mp h
  exact s.imp_of_mem fun {a b} ha hb h => mono a ((sortN_perm l).mem_iff.mp ha) b ((sortN_perm l).mem_iff.mp hb) h
theorem hdS_map {f : Str → Str} : ∀ {l : List Str}, l ≠ [] → hdS (l.map f) = f (hdS l)
  | [], h => absurd rfl h
  | _ :: _, _ => rfl
theorem groups_call {f : Str → Str} {gs : List Grp} (ne : ∀ g ∈ gs, g.1 ≠ []) (nd : ((gs.flatMap (·.1)).map f).Nodup) (mono : ∀ a ∈ gs.flatMap (·.1), ∀ b ∈ gs.flatMap (·.1), ¬ b.cps.toList < a.cps.toList → ¬ (f b).cps.toList < (f a).cps.toList) :
    groupsT (gs.map (callG f)) = (groupsT gs).map (·.map f) := by
  have inn : ∀ g ∈ gs, ∀ z ∈ g.1, z ∈ gs.flatMap (·.1) := fun g hg z hz => List.mem_flatMap.mpr ⟨g, hg, hz⟩
  have e : ∀ l ∈ groupsT gs, l ≠ [] ∧ ∀ z ∈ l, z ∈ gs.flatMap (·.1) := fun l hl => by
    obtain ⟨g, hg, rfl⟩ := List.mem_map.mp ((groupsT_perm gs).mem_iff.mp hl)
    exact ⟨sortN_ne (ne g hg), fun z hz => inn g hg z ((sortN_perm g.1).mem_iff.mp hz)⟩
  refine (groupsT_uniq (fun g hg => ?_) ?_ ?_ ?_).symm
  · obtain ⟨g', hg', rfl⟩ := List.mem_map.mp hg
    exact fun z => ne g' hg' (List.map_eq_nil_iff.mp z)
  · rw [List.flatMap_map]
    rw [List.map_flatMap] at nd
    exact nd
  · refine ((groupsT_perm gs).map _).trans (List.Perm.of_eq ?_)
    rw [List.map_map, List.map_map]
    exact List.map_congr_left fun g hg => (sortN_call fun a ha b hb => mono a (inn g hg a ha) b (inn g hg b hb)).symm
  · refine List.pairwise_map.mpr ((groupsT_sorted gs).imp_of_mem fun {a b} ha hb h => ?_)
    rw [hdS_map (e a ha).1, hdS_map (e b hb).1]
    exact mono _ ((e a ha).2 _ (hdS_mem (e a ha).1)) _ ((e b hb).2 _ (hdS_mem (e b hb).1)) h
/-! ### the signs of a group are those that its walkers tell -/
theorem apart_or {α β : Type} (f : α → List β) {p q : α → Bool} {ks : List α} (h : ∀ k ∈ ks, p k = true → q k = true → False) : ((ks.filter fun k => p k || q k).flatMap f).Perm ((ks.filter p).flatMap f ++ (ks.filter q).flatMap f) := by
  have := (either f p q ks).symm
  rw [filter_none h] at this
  exact this.trans List.perm_append_comm
def ofNames (rs : List (Str × List Str)) (ns : List Str) : List Str := (rs.filter fun r => decide (r.1 ∈ ns)).flatMap (·.2)
theorem of_near {done : List (Str × List Str)} : ∀ {hs : List Grp}, (hs.flatMap (·.1)).Nodup → (∀ g ∈ hs, g.2.Perm (ofNames done g.1)) → (hs.flatMap (·.2)).Perm (ofNames done (hs.flatMap (·.1)))
  | [], _, _ => by
    unfold ofNames
    rw [List.filter_eq_nil_iff.mpr (fun r _ => by simp)]
    exact .nil
  | g :: hs, nd, h => by
    rw [List.flatMap_cons, List.nodup_append] at nd
    obtain ⟨_, n2, n3⟩ := nd
    rw [List.flatMap_cons, List.flatMap_cons]
    refine ((h g List.mem_cons_self).append (of_near n2 fun k hk => h k (List.mem_cons_of_mem _ hk))).trans ?_
    unfold ofNames
    have e : (done.filter fun r => decide (r.1 ∈ g.1 ++ hs.flatMap (·.1))) = done.filter fun r => decide (r.1 ∈ g.1) || decide (r.1 ∈ hs.flatMap (·.1)) := List.filter_congr fun r _ => by rw [← Bool.decide_or]; exact decide_eq_decide.mpr List.mem_append
    rw [e]
    exact (apart_or (fun r : Str × List Str => r.2) (p := fun r => decide (r.1 ∈ g.1)) (q := fun r => decide (r.1 ∈ hs.flatMap (·.1))) fun r _ z1 z2 => n3 r.1 (of_decide_eq_true z1) r.1 (of_decide_eq_true z2) rfl).symm
theorem flat_sub {α β : Type} (f : α → List β) {l m : List α} (h : l.Sublist m) : (l.flatMap f).Sublist (m.flatMap f) := by
  induction h with
  | slnil => exact .refl _
  | cons a _ ih => exact ih.trans (List.sublist_append_right _ _)
  | cons_cons a _ ih => exact (List.Sublist.refl _).append ih
theorem step_of {done : List (Str × List Str)} {gs : List Grp} {r : Str × List Str} (nd : (done.map (·.1)).Nodup) (nr : r.1 ∉ done.map (·.1)) (hn : (gs.flatMap (·.1)).Perm (done.map (·.1))) (h : ∀ g ∈ gs, g.2.Perm (ofNames done g.1)) : ∀ g ∈ stepG gs r, g.2.Perm (ofNames (done ++ [r]) g.1) := fun g hg => by
  have away : ∀ k ∈ gs, r.1 ∉ k.1 := fun k hk z => nr (hn.mem_iff.mp (List.mem_flatMap.mpr ⟨k, hk, z⟩))
  rcases List.mem_append.mp hg with hg | hg
  · have hg := (List.mem_filter.mp hg).1
    unfold ofNames
    rw [List.filter_append, List.filter_cons, if_neg (by simpa using away g hg), List.filter_nil, List.append_nil]
    exact h g hg
  · cases List.mem_singleton.mp hg
    have nn : ((gs.filter (nearB r.2)).flatMap (·.1)).Nodup := (hn.nodup_iff.mpr nd).sublist (flat_sub (fun g : Grp => g.1) List.filter_sublist)
    unfold ofNames
    rw [List.filter_append, List.filter_cons, if_pos (by simp), List.filter_nil, List.flatMap_append, List.flatMap_cons, List.flatMap_nil, List.append_nil]
    refine (List.perm_append_comm).trans (List.Perm.append_right _ ?_)
    have e : (done.filter fun k => decide (k.1 ∈ r.1 :: (gs.filter (nearB r.2)).flatMap (·.1))) = done.filter fun k => decide (k.1 ∈ (gs.filter (nearB r.2)).flatMap (·.1)) := List.filter_congr fun k hk => decide_eq_decide.mpr ⟨fun z => (List.mem_cons.mp z).resolve_left fun y => nr (y ▸ List.mem_map.mpr ⟨k, hk, rfl⟩), List.mem_cons_of_mem _⟩
    rw [e]
    exact of_near nn fun k hk => h k (List.mem_filter.mp hk).1
theorem run_of : ∀ (rs done : List (Str × List Str)) (gs : List Grp), ((done ++ rs).map (·.1)).Nodup → (gs.flatMap (·.1)).Perm (done.map (·.1)) → (∀ g ∈ gs, g.2.Perm (ofNames done g.1)) → ∀ g ∈ rs.foldl stepG gs, g.2.Perm (ofNames (done ++ rs) g.1)
  | [], done, gs, _, _, h => by rw [List.append_nil]; exact h
  | r :: rs, done, gs, nd, hn, h => by
    have e : done ++ r :: rs = (done ++ [r]) ++ rs := by rw [List.append_assoc]; rfl
    have nd2 := nd
    rw [List.map_append, List.map_cons, List.nodup_append] at nd2
    obtain ⟨n1, _, n3⟩ := nd2
    rw [e]
    refine run_of rs (done ++ [r]) (stepG gs r) (e ▸ nd) ?_ (step_of n1 (fun z => n3 r.1 z r.1 List.mem_cons_self rfl) hn h)
    rw [List.map_append]
    exact (step_names gs r).trans ((hn.cons _).trans (List.perm_append_comm (l₁ := [r.1])))
theorem grp_of {rs : List (Str × List Str)} (nd : (rs.map (·.1)).Nodup) {g : Grp} (hg : g ∈ runG rs) : g.2.Perm (ofNames rs g.1) := run_of rs [] [] nd .nil (fun _ h => nomatch h) g hg
/-! ### one more walker, with a sign of each of two groups -/
def nearT (rs : List (Str × List Str)) (G : List (List Str)) : List (List Str) := (G.filter fun l => decide (0 < (ofNames rs l).length)).take 2
def nearS (rs : List (Str × List Str)) (G : List (List Str)) : List Str := (nearT rs G).map fun l => hdS (ofNames rs l)
theorem ofNames_sort (rs : List (Str × List Str)) (l : List Str) : ofNames rs (sortN l) = ofNames rs l := by
  unfold ofNames
  rw [List.filter_congr fun r _ => decide_eq_decide.mpr (sortN_perm l).mem_iff]
theorem nodup_flat : ∀ {ls : List (List Str)}, (ls.flatMap id).Nodup → (∀ l ∈ ls, l ≠ []) → ls.Nodup
  | [], _, _ => .nil
  | l :: ls, nd, ne => by
    rw [List.flatMap_cons, List.nodup_append] at nd
    refine List.nodup_cons.mpr ⟨fun z => ?_, nodup_flat nd.2.1 fun k hk => ne k (List.mem_cons_of_mem _ hk)⟩
    have h := hdS_mem (ne l List.mem_cons_self)
    exact nd.2.2 _ h _ (List.mem_flatMap.mpr ⟨l, z, h⟩) rfl
theorem sort_flat : ∀ gs : List Grp, ((gs.map fun g => sortN g.1).flatMap id).Perm (gs.flatMap (·.1))
  | [] => .nil
  | g :: gs => by
    rw [List.map_cons, List.flatMap_cons, List.flatMap_cons]
    exact (sortN_perm g.1).append (sort_flat gs)
theorem groupsT_flat {rs : List (Str × List Str)} : ((groupsT (runG rs)).flatMap id).Perm (rs.map (·.1)) :=
  ((groupsT_perm _).flatMap_right _).trans ((sort_flat _).trans (runG_names rs))
theorem groupsT_ne {rs : List (Str × List Str)} : ∀ l ∈ groupsT (runG rs), l ≠ [] := fun l hl => by
  obtain ⟨g, hg, rfl⟩ := List.mem_map.mp ((groupsT_perm _).mem_iff.mp hl)
  exact sortN_ne (runG_ne rs g hg)
theorem groupsT_nodup {rs : List (Str × List Str)} (nd : (rs.map (·.1)).Nodup) : (groupsT (runG rs)).Nodup := nodup_flat (groupsT_flat.nodup_iff.mpr nd) groupsT_ne
theorem near_sub (rs : List (Str × List Str)) (G : List (List Str)) : (nearT rs G).Sublist G := (List.take_sublist _ _).trans List.filter_sublist
theorem near_in {rs : List (Str × List Str)} {G : List (List Str)} {l : List Str} (h : l ∈ nearT rs G) : l ∈ G ∧ ofNames rs l ≠ [] := by
  obtain ⟨h1, h2⟩ := List.mem_filter.mp (List.mem_of_mem_take h)
  exact ⟨h1, List.length_pos_iff.mp (of_decide_eq_true h2)⟩
theorem near_is {rs : List (Str × List Str)} (nd : (rs.map (·.1)).Nodup) {g : Grp} (hg : g ∈ runG rs) : nearB (nearS rs (groupsT (runG rs))) g = decide (sortN g.1 ∈ nearT rs (groupsT (runG rs))) := by
  refine Bool.eq_iff_iff.mpr ?_
  rw [nearB_iff, decide_eq_true_iff]
  constructor
  · rintro ⟨z, h1, h2⟩
    obtain ⟨l, hl, rfl⟩ := List.mem_map.mp h1
    obtain ⟨k1, k2⟩ := near_in hl
    obtain ⟨g', hg', e⟩ := List.mem_map.mp ((groupsT_perm _).mem_iff.mp k1)
    have z2 : hdS (ofNames rs l) ∈ g'.2 := by
      refine (grp_of nd hg').mem_iff.mpr ?_
      rw [← ofNames_sort, e]
      exact hdS_mem k2
    have same : g = g' := by
      refine Classical.byContradiction fun n => ?_
      exact apart_mem (runG_apart rs) hg hg' n _ h2 z2
    rw [same, e]
    exact hl
  · intro h
    obtain ⟨_, k2⟩ := near_in h
    refine ⟨_, List.mem_map.mpr ⟨_, h, rfl⟩, (grp_of nd hg).mem_iff.mpr ?_⟩
    rw [← ofNames_sort]
    exact hdS_mem k2
theorem groups_wider {rs : List (Str × List Str)} (nd : (rs.map (·.1)).Nodup) (z : Str) :
    (groupsT (stepG (runG rs) (z, nearS rs (groupsT (runG rs))))).Perm ((groupsT (runG rs)).filter (fun l => !decide (l ∈ nearT rs (groupsT (runG rs)))) ++ [sortN ((nearT rs (groupsT (runG rs))).flatMap id ++ [z])]) := by
  refine (groupsT_perm _).trans ?_
  unfold stepG
  rw [List.map_append, List.map_cons, List.map_nil]
  have e1 : ((runG rs).filter fun g => !nearB (nearS rs (groupsT (runG rs))) g) = (runG rs).filter fun g => !decide (sortN g.1 ∈ nearT rs (groupsT (runG rs))) := List.filter_congr fun g hg => by rw [near_is nd hg]
  have e2 : (runG rs).filter (nearB (nearS rs (groupsT (runG rs)))) = (runG rs).filter fun g => decide (sortN g.1 ∈ nearT rs (groupsT (runG rs))) := List.filter_congr fun g hg => near_is nd hg
  simp only [e1, e2]
  have f : ∀ p : List Str → Bool, ((runG rs).filter fun g => p (sortN g.1)).map (fun g => sortN g.1) = ((runG rs).map fun g => sortN g.1).filter p := fun p => by
    rw [List.filter_map]
    rfl
  refine List.Perm.append ?_ (List.Perm.of_eq (congrArg (fun l => [l]) (sortN_of ?_)))
  · rw [f fun l => !decide (l ∈ nearT rs (groupsT (runG rs)))]
    exact (groupsT_perm _).symm.filter _
  · refine (List.Perm.cons z ?_).trans (List.perm_append_comm (l₁ := [z]))
    refine (sort_flat _).symm.trans ?_
    rw [f fun l => decide (l ∈ nearT rs (groupsT (runG rs)))]
    refine (((groupsT_perm _).symm.filter _).flatMap_right _).trans (List.Perm.flatMap_right _ ?_)
    refine (List.perm_ext_iff_of_nodup ((groupsT_nodup nd).sublist List.filter_sublist) ((groupsT_nodup nd).sublist (near_sub _ _))).mpr fun l => ?_
    rw [List.mem_filter, decide_eq_true_iff]
    exact ⟨fun h => h.2, fun h => ⟨(near_in h).1, h⟩⟩
/-! ### lists that go together -/
inductive All2 {α β : Type} (R : α → β → Prop) : List α → List β → Prop
  | nil : All2 R [] []
  | cons {a : α} {b : β} {as : List α} {bs : List β} (h : R a b) (t : All2 R as bs) : All2 R (a :: as) (b :: bs)
theorem All2.imp {α β : Type} {R S : α → β → Prop} {as : List α} {bs : List β} (h : All2 R as bs) (f : ∀ a b, R a b → S a b) : All2 S as bs := by
  induction h with
  | nil => exact .nil
  | cons h1 _ ih => exact .cons (f _ _ h1) ih
theorem All2.len {α β : Type} {R : α → β → Prop} {as : List α} {bs : List β} (h : All2 R as bs) : as.length = bs.length := by
  induction h with
  | nil => rfl
  | cons _ _ ih => rw [List.length_cons, List.length_cons, ih]
theorem All2.at_ {α β : Type} {R : α → β → Prop} {as : List α} {bs : List β} (h : All2 R as bs) : ∀ {i : Nat} {a : α}, as[i]? = some a → ∃ b, bs[i]? = some b ∧ R a b := by
  induction h with
  | nil => intro i a h; cases h
  | cons h1 _ ih =>
    intro i a h
    cases i with
    | zero => cases h; exact ⟨_, rfl, h1⟩
    | succ i => exact ih h
theorem All2.app {α β : Type} {R : α → β → Prop} {as as' : List α} {bs bs' : List β} (h : All2 R as bs) (h' : All2 R as' bs') : All2 R (as ++ as') (bs ++ bs') := by
  induction h with
  | nil => exact h'
  | cons h1 _ ih => exact .cons h1 ih
theorem All2.snoc {α β : Type} {R : α → β → Prop} {as : List α} {bs : List β} {a : α} {b : β} (h : All2 R as bs) (h1 : R a b) : All2 R (as ++ [a]) (bs ++ [b]) := h.app (.cons h1 .nil)
theorem All2.zip {α β : Type} {R : α → β → Prop} {as : List α} {bs : List β} (h : All2 R as bs) : ∃ zs : List (α × β), as = zs.map (·.1) ∧ bs = zs.map (·.2) ∧ ∀ z ∈ zs, R z.1 z.2 := by
  induction h with
  | nil => exact ⟨[], rfl, rfl, fun _ h => nomatch h⟩
  | @cons a b as bs h1 _ ih =>
    obtain ⟨zs, e1, e2, h2⟩ := ih
    refine ⟨(a, b) :: zs, by rw [e1]; rfl, by rw [e2]; rfl, fun z hz => ?_⟩
    rcases List.mem_cons.mp hz with e | hz
    · rw [e]; exact h1
    · exact h2 z hz
theorem All2.unzip {α β : Type} {R : α → β → Prop} : ∀ {zs : List (α × β)}, (∀ z ∈ zs, R z.1 z.2) → All2 R (zs.map (·.1)) (zs.map (·.2))
  | [], _ => .nil
  | z :: zs, h => .cons (h z List.mem_cons_self) (All2.unzip fun y hy => h y (List.mem_cons_of_mem _ hy))
theorem All2.perm {α β : Type} {R : α → β → Prop} {as ys : List α} {bs : List β} (h : All2 R as bs) (p : ys.Perm as) : ∃ bs', All2 R ys bs' ∧ bs'.Perm bs := by
  obtain ⟨zs, e1, e2, hz⟩ := h.zip
  rw [e1] at p
  obtain ⟨zs', p', e⟩ := perm_lift (f := fun z : α × β => z.1) p
  refine ⟨zs'.map (·.2), ?_, ?_⟩
  · rw [← e]
    exact All2.unzip fun z hz' => hz z (p'.mem_iff.mp hz')
  · rw [e2]
    exact p'.map _
theorem gr_sm : ∀ c, grC c = true → smC c = false := by
  intro c h
  have h1 : c ∈ GREATs.cps.toList := of_decide_eq_true h
  have h2 : ∀ x ∈ GREATs.cps.toList, smC x = false := by decide +kernel
  exact h2 c h1
/-! ### lone signs of a log -/
def lonE : Ent → Option Str
  | .sign z => if loL z.cps.toList = true then some z else none
  | .spy _ z => if loL z.cps.toList = true then some z else none
  | _ => none
def lonesL (es : List Ent) : List Str := es.filterMap lonE
theorem lones_succ {es : List Ent} {i : Nat} {e : Ent} (h : es[i]? = some e) : lonesL (es.take (i + 1)) = lonesL (es.take i) ++ (lonE e).toList := by
  unfold lonesL
  rw [List.take_add_one, h, List.filterMap_append]
  congr 1
theorem lones_le (es : List Ent) : (lonesL es).length ≤ es.length := List.length_filterMap_le _ _
theorem lones_take (es : List Ent) (i : Nat) : (lonesL (es.take i)).length ≤ i := by
  have := lones_le (es.take i)
  rw [List.length_take] at this
  omega
theorem lones_ok {es : List Ent} (h : ∀ e ∈ es, e.ok) : ∀ z ∈ lonesL es, z.length ≤ 12 ∧ PyData.strOk z = true := fun z hz => by
  obtain ⟨e, he, e1⟩ := List.mem_filterMap.mp hz
  have ok := h e he
  cases e with
  | sign y =>
    have e1 : (if loL y.cps.toList = true then some y else none) = some z := e1
    by_cases h : loL y.cps.toList = true
    · rw [if_pos h] at e1
      cases e1
      exact ⟨ok.1, ok.2.1⟩
    · rw [if_neg h] at e1
      cases e1
  | spy n y =>
    have e1 : (if loL y.cps.toList = true then some y else none) = some z := e1
    by_cases h : loL y.cps.toList = true
    · rw [if_pos h] at e1
      cases e1
      exact ⟨ok.1, ok.2.1⟩
    · rw [if_neg h] at e1
      cases e1
  | _ => cases e1
theorem ss_in : ∀ i : Fin 10, inV (.str (ws i)) ([PySem.Str.ofString "sign", PySem.Str.ofString "spy"].map V.str) = decide (i = 6 ∨ i = 8) := by decide +kernel
theorem ixL2 {K : PySem.W.Frag} {H : Hp} {a : Addr} {x v : V} {Q : VK} (h : SqA K H a [x, v]) (q : Q v H) : rIx K (.ref a) (.int (-1)) H Q :=
  h.elim (fun h => .inl ⟨a, _, -1, v, rfl, rfl, h, rfl, q⟩) (fun h => .inr (.inl ⟨a, _, -1, v, rfl, rfl, h, rfl, q⟩))
theorem ixL3 {K : PySem.W.Frag} {H : Hp} {a : Addr} {x y v : V} {Q : VK} (h : SqA K H a [x, y, v]) (q : Q v H) : rIx K (.ref a) (.int (-1)) H Q :=
  h.elim (fun h => .inl ⟨a, _, -1, v, rfl, rfl, h, rfl, q⟩) (fun h => .inr (.inl ⟨a, _, -1, v, rfl, rfl, h, rfl, q⟩))
theorem sign_kind {e : Ent} (h : e.kind = 6) : ∃ z, e = .sign z := by
  cases e with
  | sign z => exact ⟨z, rfl⟩
  | turn q => exact absurd h (by match q with | 0 => decide | 1 => decide | 2 => decide)
  | _ => cases h
theorem spy_kind {e : Ent} (h : e.kind = 8) : ∃ n z, e = .spy n z := by
  cases e with
  | spy n z => exact ⟨n, z, rfl⟩
  | turn q => exact absurd h (by match q with | 0 => decide | 1 => decide | 2 => decide)
  | _ => cases h
/-- what stands last in an entry that tells a sign -/
theorem last_sign {K : PySem.W.Frag} {H : Hp} {a : Addr} {us : List V} {e : Ent} (hk : e.kind = 6 ∨ e.kind = 8) (hq : SqA K H a (.str (ws e.kind) :: us)) (hu : DpAll K H us e.rest) (ok : e.ok) :
    ∃ z : Str, lonE e = (if loL z.cps.toList = true then some z else none) ∧ z.length ≤ 12 ∧ PyData.strOk z = true ∧ Ent.sgS z = true ∧ ∀ (H' : Hp) (Q : VK), Same H H' → Q (.str z) H' → rIx K (.ref a) (.int (-1)) H' Q := by
  rcases hk with h | h
  · obtain ⟨z, rfl⟩ := sign_kind h
    cases hu with
    | cons h1 h2 =>
      cases h1
      cases h2
      exact ⟨z, rfl, ok.1, ok.2.1, ok.2.2, fun H' Q s q => ixL2 (hq.same s) q⟩
  · obtain ⟨n, z, rfl⟩ := spy_kind h
    cases hu with
    | cons h1 h2 =>
      cases h1
      cases h2 with
      | cons h3 h4 =>
        cases h3
        cases h4
        exact ⟨z, rfl, ok.1, ok.2.1, ok.2.2, fun H' Q s q => ixL3 (hq.same s) q⟩
theorem lon_none {e : Ent} (h : ¬ (e.kind = 6 ∨ e.kind = 8)) : lonE e = none := by
  cases e with
  | sign z => exact absurd (.inl rfl) h
  | spy n z => exact absurd (.inr rfl) h
  | _ => rfl
def spLones (K : PySem.W.Frag) : Sp := fun vs H Q _ => ∃ (e : Addr) (xs : List V) (es : List Ent), vs = [.ref e] ∧ SqA K H e xs ∧ Rows K H xs es ∧ (∀ e ∈ es, e.ok) ∧ es.length ≤ 200 ∧ ∀ H' D, Same H H' → H D = none → H' D = some (.lst ((lonesL es).map V.str)) → Q (.ref D) H'
theorem ok_lone_signs (T : Top w K mg) : FnOk P w K mg base CX0 3 T.a_lone_signs T.fd_lone_signs ["log"] (spLones K) := by
  have G_is_lone := ok_is_lone (P := P) (w := w) (base := base) T
  refine T.F_lone_signs.ok sc_lone_signs (fun vs H Q E h => ?_) (fun cdv A outer s H vs Q E hr h => ?_)
  · obtain ⟨e, xs, es, rfl, _⟩ := h
    rfl
  · obtain ⟨e, xs, es, rfl, hs, ha, hok, hlen, q⟩ := h
    have lx := ha.len
    refine ⟨_, (pss_one (ps_ret (pe_lc (own := [("entry", 1)]) (g := gName 1) (by rfl) sc_lone_signs.nd (SeqW.pi_seq (pv 0)) (blkOk_by (own := [("entry", 1)]) (N := ["log", "entry"]) (sc := defScope s_lone_signs) (by decide +kernel)) (fun _ _ _ _ _ => (pg_name (i := 1) sc_lone_signs.nd rfl (Or.inl rfl))) (fun _ _ _ _ _ => (pts_one (PW.pt (pw_and (pt_cmpR (r := rIn K false) (SeqW.in_K rfl) (pe_ix (r := rIx K) (SeqW.ix_seqK rfl) (pv 1) pe_int (fun _ _ => rfl)) (pe_tup (pa_cons pe_str (pa_cons pe_str pa_nil))) (by rfl)) (pw_and1 (pt_val (pe_call G_is_lone hr (by rfl) T.g_is_lone T.F_is_lone.kp T.b_is_lone .nil pass0 (pa_cons (pe_ix (r := rIx K) (SeqW.ix_seqK rfl) (pv 1) (pe_un un_neg pe_int) (fun _ _ => rfl)) pa_nil)))))))) (fun _ _ _ _ _ => (pe_ix (r := rIx K) (SeqW.ix_seqK rfl) (pv 1) (pe_un un_neg pe_int) (fun _ _ => rfl)))))), ?_⟩
    refine ⟨.ref e, rfl, e, xs, rfl, (fun H' => Same H H'), kpA hs, Same.refl _, fun J G wk hG D hD => lc_it wk (fun i H' => Same H H' ∧ H' D = some (.lst ((lonesL (es.take i)).map V.str))) ⟨same_upd hD, upd_same⟩ (fun i H' _ h => hG _ h.1) ?_ ?_⟩
    · rintro i v H1 H2 hi ⟨sm, eD⟩ ⟨rfl, hx⟩
      obtain ⟨en, fe, a, us, rfl, hq, hu⟩ := (ha.same sm).at_ hx
      have lt := lones_take es i
      refine ⟨rfl, .ref a, rfl, ixA (j := 0) hq rfl ⟨by show 2 ≤ sizeLine; decide, fun tp ntp => ⟨tp, _, rfl, .inr (.inl (.inl upd_same)), rfl, by decide +kernel, _, rfl, ?_⟩⟩⟩
      have s4 := same_upd (o := .tup ([PySem.Str.ofString "sign", PySem.Str.ofString "spy"].map V.str)) ntp
      show if inV (.str (ws en.kind)) ([PySem.Str.ofString "sign", PySem.Str.ofString "spy"].map V.str) = true then _ else _
      rw [ss_in, lones_succ fe]
      refine ite2 (fun e1 => ?_) (fun e1 => iteF ?_)
      · obtain ⟨z, ez, hz, _, _, ix⟩ := last_sign (of_decide_eq_true e1) hq hu (hok en (List.mem_of_getElem? fe))
        refine ⟨.ref a, rfl, _, rfl, ix _ _ s4 ⟨_, rfl, .inl ⟨z, rfl, by omega⟩, fun H5 s5 => ⟨_, rfl, ite2 (fun e2 => ?_) (fun e2 => ?_)⟩⟩⟩
        · have e2 : loL z.cps.toList = true := e2
          rw [ez, if_pos e2]
          refine ⟨.ref a, rfl, _, rfl, ix _ _ (s4.trans s5) ⟨_, s5 _ _ (s4 _ _ eD), small1000 (by rw [List.length_map]; omega), fun b o h => ?_, ?_⟩⟩
          · rw [upd_ne (ne_of_none h hD)]
            exact s5 _ _ (s4 _ _ (sm _ _ h))
          · rw [upd_same, List.map_append]
            rfl
        · have e2 : ¬ loL z.cps.toList = true := e2
          rw [ez, if_neg e2]
          refine ⟨(sm.trans s4).trans s5, ?_⟩
          show H5 D = some (HO.lst ((lonesL (es.take i) ++ []).map V.str))
          rw [List.append_nil]
          exact s5 _ _ (s4 _ _ eD)
      · rw [lon_none (fun z => e1 (decide_eq_true z))]
        refine ⟨sm.trans s4, ?_⟩
        show _ = some (HO.lst ((lonesL (es.take i) ++ []).map V.str))
        rw [List.append_nil]
        exact s4 _ _ eD
    · rintro H1 ⟨sm, eD⟩
      rw [lx, List.take_length] at eD
      exact q _ D sm hD eD
theorem lo_gr {c : Nat} {r : List Nat} (h : Ent.sgS ⟨⟨c :: r⟩⟩ = true) : loL (c :: r) = grC c := by
  have h : (nmL (c :: r) || loL (c :: r)) = true := h
  cases hg : grC c with
  | false =>
    show (shL (c :: r) && (grC c && r.all smC)) = false
    rw [hg, Bool.false_and, Bool.and_false]
  | true =>
    have e1 : nmL (c :: r) = false := by
      show (shL (c :: r) && (c :: r).all smC) = false
      rw [List.all_cons, gr_sm c hg, Bool.false_and, Bool.and_false]
    rw [e1, Bool.false_or] at h
    exact h
--@@SPLIT
/-! ### groups, as the program tells them -/
theorem in_strs {l : List Str} {z : Str} : inV (.str z) (l.map V.str) = decide (z ∈ l) := by
  unfold inV
  by_cases h : z ∈ l
  · rw [decide_eq_true h]
    exact List.any_eq_true.mpr ⟨.str z, List.mem_map.mpr ⟨z, h, rfl⟩, decide_eq_true rfl⟩
  · rw [decide_eq_false h]
    refine Bool.eq_false_iff.mpr fun e => h ?_
    obtain ⟨v, hv, ev⟩ := List.any_eq_true.mp e
    obtain ⟨y, hy, rfl⟩ := List.mem_map.mp hv
    have ev : y = z := of_decide_eq_true ev
    rw [← ev]
    exact hy
theorem any_near (ss : List Str) (g : Grp) : ((ss.map fun z => decide (z ∈ g.2)).any id) = nearB ss g := by
  unfold nearB
  rw [List.any_map]
  rfl
theorem rIn_strs {K : PySem.W.Frag} {H : Hp} {a : Addr} {l : List Str} {z : Str} {Q : VK} (h : H a = some (.lst (l.map V.str))) (q : Q (.bl (decide (z ∈ l))) H) : rIn K false (.str z) (.ref a) H Q := by
  refine ⟨a, _, rfl, .inl (.inl (.inl h)), rfl, flat_strs l, ?_⟩
  show Q (.bl (inV (.str z) (l.map V.str))) H
  rw [in_strs]
  exact q
theorem any_K {X : Cx} {K : PySem.W.Frag} (h : X.K = K) (hc : X.calm = true) : CallR X (.builtin "any") (rAny K) := by
  subst h
  exact cr_any hc
theorem pi_listK {X : Cx} {K : PySem.W.Frag} {tg l : Expr} {tl : TE} (h : X.K = K) (hl : PE X l tl) : PI X tg l (iList K tl) := by
  subst h
  exact pi_list hl
theorem sortedS_K {X : Cx} {K : PySem.W.Frag} (h : X.K = K) : CallR X (.builtin "sorted") (rSortedS K) := by
  subst h
  exact cr_sortedS
theorem notInD_K {X : Cx} {K : PySem.W.Frag} (h : X.K = K) (hu : X.A.units + 65 < cLine) : OpR X (compareOp .NotIn) (rNotInD K) := by
  subst h
  exact op_notInD hu
def rTupOf (K : PySem.W.Frag) : List V → Hp → VK → Prop := fun xs H Q => ∃ p ys, xs = [.ref p] ∧ ((SqL K H p ys ∧ ∀ l, H l = none → Q (.ref l) (upd H l (.tup ys))) ∨ (SqT K H p ys ∧ Q (.ref p) H))
theorem call_tupK {X : Cx} {K : PySem.W.Frag} (h : X.K = K) : CallR X (.type "tuple") (rTupOf K) := by
  subst h
  exact call_tuple_of
/-- a group: a pair of the list of names and the list of signs -/
def GP (H : Hp) (v : V) (g : Grp) : Prop := ∃ t n s, v = .ref t ∧ H t = some (.tup [.ref n, .ref s]) ∧ H n = some (.lst (g.1.map V.str)) ∧ H s = some (.lst (g.2.map V.str))
theorem GP.same {H H' : Hp} {v : V} {g : Grp} (h : GP H v g) (s : Same H H') : GP H' v g := by
  obtain ⟨t, n, sg, h1, h2, h3, h4⟩ := h
  exact ⟨t, n, sg, h1, s _ _ h2, s _ _ h3, s _ _ h4⟩
/-- sorted names as a tuple -/
def TL (H : Hp) (v : V) (l : List Str) : Prop := ∃ t, v = .ref t ∧ H t = some (.tup (l.map V.str))
theorem TL.same {H H' : Hp} {v : V} {l : List Str} (h : TL H v l) (s : Same H H') : TL H' v l := by
  obtain ⟨t, h1, h2⟩ := h
  exact ⟨t, h1, s _ _ h2⟩
theorem TL.nm {H : Hp} {v : V} {l : List Str} (h : TL H v l) (ne : l ≠ []) : nmAt H v = hdS l := by
  obtain ⟨t, rfl, h2⟩ := h
  match l, ne with
  | z :: r, _ =>
    show (match H t with | some (.tup (.str z :: _)) => z | _ => ⟨#[]⟩) = z
    rw [h2]
    rfl
theorem names_len {rs : List (Str × List Str)} {g : Grp} (h : g ∈ runG rs) : g.1.length ≤ rs.length := by
  have h1 := (runG_names rs).length_eq
  rw [List.length_map] at h1
  have h2 : g.1.Sublist ((runG rs).flatMap (·.1)) := by
    have h3 := List.sublist_flatten_of_mem (List.mem_map.mpr ⟨g, h, rfl⟩ : g.1 ∈ (runG rs).map (·.1))
    rw [← List.flatMap_def] at h3
    exact h3
  have := h2.length_le
  omega
/-- the end of both: groups sorted, as a tuple -/
theorem grp_end {K : PySem.W.Frag} {H1 : Hp} {D : Addr} {ws : List V} {gs : List Grp} {Q : VK} (eD : H1 D = some (.lst ws)) (hw : All2 (TL H1) ws (gs.map fun g => sortN g.1)) (ne : ∀ g ∈ gs, g.1 ≠ []) (nd : (gs.flatMap (·.1)).Nodup)
    (q : ∀ H' r, Same H1 H' → Dp K H' (.ref r) (groupsD gs) → Q (.ref r) H') : rSortedTS K [.ref D] H1 (fun v H2 => rTupOf K [v] H2 Q) := by
  have ne2 : ∀ l ∈ gs.map (fun g => sortN g.1), l ≠ [] := fun l hl => by
    obtain ⟨g, hg, rfl⟩ := List.mem_map.mp hl
    exact sortN_ne (ne g hg)
  refine ⟨D, ws, nmAt H1, rfl, .inl (.inl eD), fun x hx => ?_, fun x hx y hy e => ?_, fun ys p srt prm np => ?_⟩
  · obtain ⟨i, hi⟩ := List.mem_iff_getElem?.mp hx
    obtain ⟨l, fl, hl⟩ := hw.at_ hi
    have nl := ne2 l (List.mem_of_getElem? fl)
    rw [hl.nm nl]
    obtain ⟨t, rfl, ht⟩ := hl
    match l, nl, ht with
    | z :: r, _, ht => exact ⟨t, r, rfl, ht⟩
  · obtain ⟨i, hi⟩ := List.mem_iff_getElem?.mp hx
    obtain ⟨j, hj⟩ := List.mem_iff_getElem?.mp hy
    obtain ⟨l, fl, hl⟩ := hw.at_ hi
    obtain ⟨m, fm, hm⟩ := hw.at_ hj
    rw [hl.nm (ne2 l (List.mem_of_getElem? fl)), hm.nm (ne2 m (List.mem_of_getElem? fm))] at e
    rw [List.getElem?_map] at fl fm
    cases eg : gs[i]? with
    | none => rw [eg] at fl; cases fl
    | some g =>
      cases eh : gs[j]? with
      | none => rw [eh] at fm; cases fm
      | some h =>
        rw [eg] at fl
        rw [eh] at fm
        cases fl
        cases fm
        have z1 := (sortN_perm g.1).mem_iff.mp (hdS_mem (sortN_ne (ne g (List.mem_of_getElem? eg))))
        have z2 := (sortN_perm h.1).mem_iff.mp (hdS_mem (sortN_ne (ne h (List.mem_of_getElem? eh))))
        rw [e] at z1
        have eij := grp_idx nd eg eh z1 z2
        rw [eij, hj] at hi
        exact (Option.some.inj hi).symm
  · obtain ⟨L, hL, pL⟩ := hw.perm prm
    have sp := same_upd (o := .lst ys) np
    refine ⟨p, ys, rfl, .inl ⟨.inl (.inl upd_same), fun r nr => ?_⟩⟩
    have sr := same_upd (o := .tup ys) nr
    have eL : L = groupsT gs := by
      refine groupsT_uniq ne nd pL ?_
      have hmap : ∀ {ys : List V} {L : List (List Str)}, All2 (TL H1) ys L → (∀ l ∈ L, l ≠ []) → ys.Pairwise (fun x y => SrtSP.ltS (nmAt H1 y) (nmAt H1 x) = false) → L.Pairwise fun a b => ¬ (hdS b).cps.toList < (hdS a).cps.toList := fun {ys L} h => by
        induction h with
        | nil => exact fun _ _ => .nil
        | @cons a b as bs h1 ht ih =>
          intro hne hp
          obtain ⟨p1, p2⟩ := List.pairwise_cons.mp hp
          refine List.pairwise_cons.mpr ⟨fun b' hb' z => ?_, ih (fun l hl => hne l (List.mem_cons_of_mem _ hl)) p2⟩
          obtain ⟨j, hj⟩ := List.mem_iff_getElem?.mp hb'
          have hjl : j < as.length := by rw [ht.len]; exact (List.getElem?_eq_some_iff.mp hj).1
          obtain ⟨b2, fb, hb2⟩ := ht.at_ (List.getElem?_eq_getElem hjl)
          rw [hj] at fb
          cases fb
          have := p1 as[j] (List.getElem_mem hjl)
          rw [hb2.nm (hne _ (List.mem_cons_of_mem _ hb')), h1.nm (hne _ List.mem_cons_self)] at this
          have y : SrtSP.ltS (hdS b') (hdS b) = true := decide_eq_true z
          rw [this] at y
          cases y
      exact hmap hL (fun l hl => ne2 l (pL.mem_iff.mp hl)) (srt.imp fun {a b} h => h)
    rw [eL] at hL
    refine q _ r (sp.trans sr) (.tup (.inl (.inl upd_same)) ?_)
    have dp : ∀ {ys : List V} {L : List (List Str)}, All2 (TL H1) ys L → ∀ H', Same H1 H' → DpAll K H' ys (L.map fun l => .tuple (l.map PyData.str)) := fun {ys L} h => by
      induction h with
      | nil => exact fun _ _ => .nil
      | cons h1 _ ih =>
        intro H' s
        obtain ⟨t, rfl, ht⟩ := h1
        exact .cons (.tup (.inl (.inl (s _ _ ht))) (dpa_strs _)) (ih H' s)
    exact dp hL _ (sp.trans sr)
def pairsG (rs : List Row) : List (Str × List Str) := rs.map fun r => (r.1, lonesL r.2)
theorem pairsG_names (rs : List Row) : (pairsG rs).map (·.1) = nms rs := by
  unfold pairsG nms
  rw [List.map_map]
  rfl
theorem pairsG_at {rs : List Row} {i : Nat} {r : Row} (h : rs[i]? = some r) : (pairsG rs)[i]? = some (r.1, lonesL r.2) := by
  unfold pairsG
  rw [List.getElem?_map, h]
  rfl
theorem runG_nodup {rs : List Row} (nd : (nms rs).Nodup) : ((runG (pairsG rs)).flatMap (·.1)).Nodup := by
  refine (runG_names _).nodup_iff.mpr ?_
  rw [pairsG_names]
  exact nd
theorem signs_sum : ∀ (rs : List Row), (∀ r ∈ rs, r.2.length ≤ 100) → ((pairsG rs).flatMap (·.2)).length ≤ 100 * rs.length
  | [], _ => Nat.le_refl 0
  | r :: rs, h => by
    have h1 := signs_sum rs (fun x hx => h x (List.mem_cons_of_mem _ hx))
    have h2 := h r List.mem_cons_self
    have h3 := lones_le r.2
    show (lonesL r.2 ++ (pairsG rs).flatMap (·.2)).length ≤ 100 * (rs.length + 1)
    rw [List.length_append]
    omega
theorem sub_len {α β : Type} (f : α → List β) {l m : List α} (h : l.Sublist m) : (l.flatMap f).length ≤ (m.flatMap f).length := by
  induction h with
  | slnil => exact Nat.le_refl _
  | cons a _ ih =>
    rw [List.flatMap_cons, List.length_append]
    omega
  | cons_cons a _ ih =>
    rw [List.flatMap_cons, List.flatMap_cons, List.length_append, List.length_append]
    omega
theorem mem_len {gs : List Grp} {g : Grp} (h : g ∈ gs) : g.2.length ≤ (gs.flatMap (·.2)).length := by
  have h3 := List.sublist_flatten_of_mem (List.mem_map.mpr ⟨g, h, rfl⟩ : g.2 ∈ gs.map (·.2))
  rw [← List.flatMap_def] at h3
  exact h3.length_le
theorem near_len (gs : List Grp) (p : Grp → Bool) (j : Nat) : (((gs.take j).filter p).flatMap (·.2)).length ≤ (gs.flatMap (·.2)).length ∧ (((gs.take j).filter p).flatMap (·.1)).length ≤ (gs.flatMap (·.1)).length := by
  have s : ((gs.take j).filter p).Sublist gs := List.filter_sublist.trans (List.take_sublist j gs)
  exact ⟨sub_len (fun g => g.2) s, sub_len (fun g => g.1) s⟩
theorem near_succ {gs : List Grp} {p : Grp → Bool} {j : Nat} {g : Grp} (h : gs[j]? = some g) : (gs.take (j + 1)).filter p = (gs.take j).filter p ++ (if p g = true then [g] else []) := by
  rw [List.take_add_one, h, List.filter_append]
  congr 1
  show List.filter p [g] = _
  rw [List.filter_cons]
  rfl
def spGroups (K : PySem.W.Frag) (C : Addr) : Sp := fun vs H Q _ => ∃ (x : Addr) (box : List Nat) (rs : List Row), vs = [.ref x] ∧ AtlasAt K C H x box rs ∧ (∀ r ∈ rs, RowOk r) ∧ (nms rs).Nodup ∧ rs.length ≤ 60 ∧ ∀ H' r, Same H H' → Dp K H' (.ref r) (groupsD (runG (pairsG rs))) → Q (.ref r) H'
theorem ok_groups (T : Top w K mg) : FnOk P w K mg base CX0 4 T.a_groups T.fd_groups ["atlas"] (spGroups K T.a_Atlas) := by
  have G_lone_signs := ok_lone_signs (P := P) (w := w) (base := base) T
  refine T.F_groups.ok sc_groups (fun vs H Q E h => ?_) (fun cdv A outer s H vs Q E hr h => ?_)
  · obtain ⟨x, box, rs, rfl, _⟩ := h
    rfl
  · obtain ⟨x, box, rs, rfl, hA, hok, hnd, hlen, q⟩ := h
    obtain ⟨dx, b, n, l, ls, on, po, h1, h2, hn, h4, h5⟩ := hA
    have h3 : SqT K H n (namV rs) := .inl (.inr ⟨on, hn⟩)
    refine ⟨_, (pss_cons (ps_set (i := 1) sc_groups.nd rfl (.inl rfl) (pe_lst pa_nil))
      (pss_cons (ps_for PassesOwn.never rfl (RZ.pi_zipA (by rfl) T.m_zip (pa_cons (pe_fld (pv 0) rfl) (pa_cons (pe_fld (pv 0) rfl) pa_nil))) (pg_tup rfl (pgs_cons (pg_name (i := 2) sc_groups.nd rfl (.inl rfl)) (pgs_cons (pg_name (i := 3) sc_groups.nd rfl (.inl rfl)) pgs_nil))) (pss_cons (ps_par (i := 4) (j := 5) (by rfl) sc_groups.nd rfl rfl (by decide) rfl rfl (pa_cons (pe_lst (pa_cons (pv 2) pa_nil)) (pa_cons (pe_call G_lone_signs hr (by rfl) T.g_lone_signs T.F_lone_signs.kp T.b_lone_signs .nil pass0 (pa_cons (pv 3) pa_nil)) pa_nil)) (by rfl))
      (pss_cons (ps_set (i := 6) sc_groups.nd rfl (.inl rfl) (pe_lst pa_nil))
      (pss_cons (ps_for PassesOwn.never rfl (pi_list (pv 1)) (pg_tup rfl (pgs_cons (pg_name (i := 7) sc_groups.nd rfl (.inl rfl)) (pgs_cons (pg_name (i := 8) sc_groups.nd rfl (.inr rfl)) pgs_nil))) (pss_one (ps_if (pt_val (pe_callB (cr_any rfl) (by rfl) T.m_any (by decide +kernel) (pa_cons (pe_lc (own := [("sign", 9)]) (g := gName 9) (by rfl) sc_groups.nd (pi_list (pv 5)) (blkOk_by (own := [("sign", 9)]) (N := ["atlas", "parted", "name", "log", "names", "signs", "aside", "others", "others_signs", "sign"]) (sc := defScope s_groups) (by decide +kernel)) (fun _ _ _ _ _ => (pg_name (i := 9) sc_groups.nd rfl (Or.inl rfl))) (fun _ _ _ _ _ => pts_nil) (fun _ _ _ _ _ => (pe_cmpR (r := rIn K false) (SeqW.in_K rfl) (pv 9) (pv 8) (by rfl)))) pa_nil))) (pss_one (ps_par (i := 4) (j := 5) (by rfl) sc_groups.nd rfl rfl (by decide) rfl rfl (pa_cons (pe_op op_cat (pv 4) (pv 7)) (pa_cons (pe_op op_cat (pv 5) (pv 8)) pa_nil)) (by rfl))) (pss_one (ps_expr (pe_bm PySem.F.plainAttrs_list PySem.F.slot_list_append PySem.F.type_list_append mt_append (pv 6) (pa_cons (pe_tup (pa_cons (pv 7) (pa_cons (pv 8) pa_nil))) pa_nil)))))))
      (pss_one (ps_set (i := 1) sc_groups.nd rfl (.inl rfl) (pe_lst (StX.pa_star (pv 6) (pa_cons (pe_tup (pa_cons (pv 4) (pa_cons (pv 5) pa_nil))) pa_nil)))))))))
      (pss_one (ps_ret (pe_callTy (r := rTupOf K) (call_tupK rfl) (by rfl) T.m_tuple (by decide +kernel) (pa_cons (pe_callB cr_sortedTS (by rfl) T.m_sorted (by decide +kernel) (pa_cons (pe_lc (own := [("names", 4), ("signs", 5)]) (g := gTup K 2 (gCons (gName 4) (gCons (gName 5) gNil))) (by rfl) sc_groups.nd (pi_list (pv 1)) (blkOk_by (own := [("names", 4), ("signs", 5)]) (N := ["atlas", "parted", "name", "log", "names", "signs", "aside", "others", "others_signs", "sign"]) (sc := defScope s_groups) (by decide +kernel)) (fun _ _ _ _ _ => (pg_tup rfl (pgs_cons (pg_name (i := 4) sc_groups.nd rfl (Or.inl rfl)) (pgs_cons (pg_name (i := 5) sc_groups.nd rfl (Or.inl rfl)) pgs_nil)))) (fun _ _ _ _ _ => pts_nil) (fun _ _ _ _ _ => (pe_callTy (r := rTupOf K) (call_tupK rfl) (by rfl) T.m_tuple (by decide +kernel) (pa_cons (pe_callB (r := rSortedS K) (sortedS_K rfl) (by rfl) T.m_sorted (by decide +kernel) (pa_cons (pv 4) pa_nil)) pa_nil)))) pa_nil)) pa_nil)))))), ?_⟩
    have hls : ls.length = rs.length := by
      have := dpa_len _ _ h5
      rw [List.length_map] at this
      exact this
    have hns : (namV rs).length = rs.length := by
      unfold namV nms
      rw [List.length_map, List.length_map]
    have sg6 := signs_sum rs (fun r hr => (hok r hr).len)
    refine ⟨Nat.zero_le _, fun P0 nP0 => ?_⟩
    have s0 := same_upd (o := .lst []) nP0
    refine ⟨.ref x, rfl, x, T.a_Atlas, dx, _, _, rfl, s0 _ _ h1, T.cl_Atlas, T.nf_Atlas_names, fl_names b n l, .ref x, rfl, x, T.a_Atlas, dx, _, _, rfl, s0 _ _ h1, T.cl_Atlas, T.nf_Atlas_logs, fl_logs b n l, n, l, _, ls, rfl, .inr ⟨sqt_same s0 h3, sqt_same s0 h4, ?_⟩⟩
    refine for_it (walk_zipT (xs := namV rs) (ys := ls) (n := rs.length) (by omega)) (fun i σ H' => Same H H' ∧ ∃ Pt vs y2 y3 y4 y5 y6 y7 y8 y9, σ = [some (.ref x), some (.ref Pt), y2, y3, y4, y5, y6, y7, y8, y9] ∧ H' Pt = some (.lst vs) ∧ All2 (GP H') vs (runG ((pairsG rs).take i))) ⟨s0, P0, [], _, _, _, _, _, _, _, _, rfl, upd_same, .nil⟩ (fun i σ H' _ h => ⟨sqt_same h.1 h3, sqt_same h.1 h4⟩) ?_ ?_
    · rintro i v σ H1 H2 hi ⟨sm, Pt, vs, y2, y3, y4, y5, y6, y7, y8, y9, rfl, ePt, hvs⟩ ⟨t, u1, u2, rfl, nt, rfl, e1, e2⟩
      have e1 : (namV rs)[i]? = some u1 := e1
      have e2 : ls[i]? = some u2 := e2
      have fr : rs[i]? = some rs[i] := List.getElem?_eq_getElem hi
      have ro := hok rs[i] (List.getElem_mem hi)
      generalize rs[i] = r at fr ro
      have eu : u1 = .str r.1 := by
        unfold namV nms at e1
        rw [List.getElem?_map, List.getElem?_map, fr] at e1
        exact (Option.some.inj e1).symm
      subst eu
      obtain ⟨d, fd, gd⟩ := dpa_at _ ls h5 i u2 e2
      rw [List.getElem?_map, fr] at fd
      cases fd
      have st := same_upd (o := .tup [.str r.1, u2]) nt
      have sm2 := sm.trans st
      obtain ⟨a, xs, rfl, hsq, hrw⟩ := log_rows (dp_same sm2 _ _ gd)
      have ePt2 := st _ _ ePt
      have hvs2 := hvs.imp (fun _ _ h => h.same st)
      rw [runG_succ (pairsG_at fr)]
      have hap := runG_apart ((pairsG rs).take i)
      have hgl := runG_len ((pairsG rs).take i)
      have hgn := (runG_names ((pairsG rs).take i)).length_eq
      have hgs := runG_signs ((pairsG rs).take i)
      have hlt : ((pairsG rs).take i).length ≤ 60 := by
        rw [List.length_take]
        unfold pairsG
        rw [List.length_map]
        omega
      rw [List.length_map] at hgn
      have hst : (((pairsG rs).take i).flatMap (·.2)).length ≤ 6000 := by
        have h2 := sub_len (fun g => g.2) (List.take_sublist i (pairsG rs))
        omega
      generalize runG ((pairsG rs).take i) = gs at hvs2 hap hgl hgn hgs ⊢
      clear hvs
      refine ⟨t, _, rfl, .inl (.inl upd_same), rfl, _, _, rfl, _, _, rfl, rfl, ?_⟩
      refine ⟨_, rfl, by show 1 ≤ sizeLine; decide, fun n0 nn0 => ?_⟩
      have sn0 := same_upd (o := .lst [.str r.1]) nn0
      refine ⟨_, rfl, a, xs, r.2, rfl, .inr (sqt_same sn0 hsq), hrw.same sn0, ro.ok, by have := ro.len; omega, fun H3 S0 s3 nS0 eS0 => ?_⟩
      refine ⟨_, _, rfl, Nat.zero_le _, fun As nAs => ?_⟩
      have sAs := same_upd (o := .lst []) nAs
      have en0 := s3 _ _ (upd_same (H := upd H1 t (.tup [.str r.1, .ref a])) (a := n0) (o := .lst [.str r.1]))
      have s13 := (sn0.trans s3)
      have ePt3 := s13 _ _ ePt2
      have hvs3 := hvs2.imp (fun _ _ h => h.same s13)
      have lS : (lonesL r.2).length ≤ 100 := by have := lones_le r.2; have := ro.len; omega
      generalize lonesL r.2 = ss at eS0 lS ⊢
      have sm3 := sm2.trans s13
      have woA : ∀ {c : Addr} {o : HO}, H3 c = some o → wo (upd H3 As (.lst [])) (fun c => c = As) c = some o := fun {c o} h => by
        rw [wo_in (X := fun c => c = As) (ne_of_none h nAs)]
        exact sAs _ _ h
      refine ⟨.ref Pt, rfl, Pt, rfl, ⟨vs, .inl (.inl (sAs _ _ ePt3))⟩, for_it (walk_list (xs := vs)) (fun j σ H' => Same H3 H' ∧ ∃ nn sn avs y7 y8, σ = [some (.ref x), some (.ref Pt), some (.str r.1), some (.ref a), some (.ref nn), some (.ref sn), some (.ref As), y7, y8, y9] ∧ H' As = some (.lst avs) ∧ wo H' (fun c => c = As) nn = some (.lst ((r.1 :: ((gs.take j).filter (nearB ss)).flatMap (·.1)).map V.str)) ∧ wo H' (fun c => c = As) sn = some (.lst ((ss ++ ((gs.take j).filter (nearB ss)).flatMap (·.2)).map V.str)) ∧ All2 (GP (wo H' (fun c => c = As))) avs ((gs.take j).filter fun g => !nearB ss g)) ⟨sAs, n0, S0, [], _, _, rfl, upd_same, woA en0, by rw [show (ss ++ (List.filter (nearB ss) (gs.take 0)).flatMap (fun x => x.2)) = ss from List.append_nil _]; exact woA eS0, .nil⟩ (fun j σ H' _ h => .inl (.inl (h.1 _ _ ePt3))) ?_ ?_⟩
      · rintro j v σ H4 H5 hj ⟨s5, nn, sn, avs, y7, y8, rfl, eA, enn, esn, hav⟩ ⟨rfl, hx⟩
        obtain ⟨g, fg, hg⟩ := hvs3.at_ hx
        have hjg := (List.getElem?_eq_some_iff.mp fg).1
        have hgA : GP (wo H5 (fun c => c = As)) v g := by
          obtain ⟨tt, n2, sg2, q1, q2, q3, q4⟩ := hg
          have w : ∀ {c : Addr} {o : HO}, H3 c = some o → wo H5 (fun c => c = As) c = some o := fun {c o} h => by
            rw [wo_in (X := fun c => c = As) (ne_of_none h nAs)]
            exact s5 _ _ h
          exact ⟨tt, n2, sg2, q1, w q2, w q3, w q4⟩
        obtain ⟨tt, n2, sg2, rfl, q2, q3, q4⟩ := hgA
        have p2 := wo_same _ _ q2
        have p3 := wo_same _ _ q3
        have p4 := wo_same _ _ q4
        have pnn := wo_same _ _ enn
        have psn := wo_same _ _ esn
        obtain ⟨nl2, nl1⟩ := near_len gs (nearB ss) j
        have nm := near_more hap (ss := ss) fg
        have g2l := mem_len (List.mem_of_getElem? fg)
        have g1l : g.1.length ≤ (gs.flatMap (·.1)).length := by
          have h3 := List.sublist_flatten_of_mem (List.mem_map.mpr ⟨g, List.mem_of_getElem? fg, rfl⟩ : g.1 ∈ gs.map (·.1))
          rw [← List.flatMap_def] at h3
          exact h3.length_le
        rw [near_succ fg, near_succ fg]
        generalize eNN : r.1 :: ((gs.take j).filter (nearB ss)).flatMap (·.1) = NN at enn pnn
        generalize eSS : ss ++ ((gs.take j).filter (nearB ss)).flatMap (·.2) = SS at esn psn nm
        have lNN : NN.length ≤ 100 := by rw [← eNN, List.length_cons]; omega
        have lSS : SS.length ≤ 7000 := by rw [← eSS, List.length_append]; omega
        refine ⟨tt, _, rfl, .inl (.inl p2), rfl, _, _, rfl, _, _, rfl, rfl, ?_⟩
        refine ⟨.ref sn, rfl, sn, rfl, ⟨_, .inl (.inl psn)⟩, fun D hD => lc_it (walk_list (xs := SS.map V.str)) (fun k H' => Same H5 H' ∧ H' D = some (.lst (((SS.take k).map fun z => decide (z ∈ g.2)).map V.bl))) ⟨same_upd hD, upd_same⟩ (fun k H' _ h => .inl (.inl (h.1 _ _ psn))) ?_ ?_⟩
        · rintro k v H6 H7 hk ⟨s7, eD⟩ ⟨rfl, hz⟩
          rw [List.getElem?_map] at hz
          cases ez : SS[k]? with
          | none => rw [ez] at hz; cases hz
          | some z =>
          rw [ez] at hz
          cases hz
          refine ⟨rfl, _, rfl, .ref sg2, rfl, rIn_strs (s7 _ _ p4) ⟨_, eD, ?_, fun b o h => ?_, ?_⟩⟩
          · rw [List.length_map, List.length_map, List.length_take]
            exact Nat.lt_of_lt_of_le (show min k SS.length < 100000 by omega) (by decide)
          · rw [upd_ne (ne_of_none h hD)]
            exact s7 _ _ h
          · rw [upd_same, List.take_add_one, ez, List.map_append, List.map_append]
            rfl
        rintro H6 ⟨s6, eD⟩
        rw [List.length_map, List.take_length] at eD
        refine ⟨D, _, rfl, .inl (.inl eD), _, rfl, ?_⟩
        rw [any_near, nm]
        have wo6 : Same (wo H5 (fun c => c = As)) (wo H6 (fun c => c = As)) := fun c o h => by
          have h2 := wo_some h
          rw [wo_in (X := fun c => c = As) h2.1]
          exact s6 _ _ h2.2
        refine ite2 (fun en => ?_) (fun en => ?_)
        · rw [if_pos en, if_neg (by rw [en]; decide), List.append_nil]
          refine ⟨_, rfl, _, rfl, nn, n2, _, _, rfl, rfl, s6 _ _ pnn, s6 _ _ p3, ?_, fun n7 nn7 => ?_⟩
          · rw [List.length_map, List.length_map]
            exact Nat.le_trans (show NN.length + g.1.length ≤ 1000 by omega) (by decide)
          have s7 := same_upd (o := .lst (NN.map V.str ++ g.1.map V.str)) nn7
          refine ⟨_, rfl, _, rfl, sn, sg2, _, _, rfl, rfl, s7 _ _ (s6 _ _ psn), s7 _ _ (s6 _ _ p4), ?_, fun n8 nn8 => ?_⟩
          · rw [List.length_map, List.length_map]
            exact Nat.le_trans (show SS.length + g.2.length ≤ 20000 by omega) (by decide)
          have s8 := same_upd (o := .lst (SS.map V.str ++ g.2.map V.str)) nn8
          have s58 := (s6.trans s7).trans s8
          have wo8 : Same (wo H5 (fun c => c = As)) (wo (upd (upd H6 n7 (.lst (NN.map V.str ++ g.1.map V.str))) n8 (.lst (SS.map V.str ++ g.2.map V.str))) (fun c => c = As)) := fun c o h => by
            have h2 := wo_some h
            rw [wo_in (X := fun c => c = As) h2.1]
            exact s58 _ _ h2.2
          have n7A : n7 ≠ As := Ne.symm (ne_of_none (s6 _ _ eA) nn7)
          have n8A : n8 ≠ As := Ne.symm (ne_of_none (s7 _ _ (s6 _ _ eA)) nn8)
          refine ⟨_, _, rfl, s5.trans s58, n7, n8, avs, _, _, rfl, s58 _ _ eA, ?_, ?_, hav.imp (fun _ _ h => h.same wo8)⟩
          · rw [wo_in (X := fun c => c = As) n7A, s8 _ _ upd_same, ← List.map_append, List.flatMap_append, ← List.cons_append, eNN, List.flatMap_cons, List.flatMap_nil, List.append_nil]
          · rw [wo_in (X := fun c => c = As) n8A, upd_same, ← List.map_append, List.flatMap_append, ← List.append_assoc, eSS, List.flatMap_cons, List.flatMap_nil, List.append_nil]
        · have en : nearB ss g = false := Bool.eq_false_iff.mpr en
          rw [if_neg (by rw [en]; decide), if_pos (by rw [en]; rfl), List.append_nil, eNN, eSS]
          refine ⟨.ref As, rfl, .inl ⟨rfl, _, .inl (.inl (s6 _ _ eA))⟩, _, rfl, _, rfl, by show 2 ≤ sizeLine; decide, fun t7 nt7 => ?_⟩
          have s7 := same_upd (o := .tup [.ref n2, .ref sg2]) nt7
          have lav := hav.len
          have lfl : ((gs.take j).filter fun g => !nearB ss g).length ≤ 100 := by
            have := List.length_filter_le (fun g => !nearB ss g) (gs.take j)
            rw [List.length_take] at this
            omega
          have wo7 : Same (wo H5 (fun c => c = As)) (wo (upd (upd H6 t7 (.tup [.ref n2, .ref sg2])) As (.lst (avs ++ [.ref t7]))) (fun c => c = As)) := fun c o h => by
            have h2 := wo_some h
            rw [wo_in (X := fun c => c = As) h2.1, upd_ne h2.1]
            exact s7 _ _ (s6 _ _ h2.2)
          have t7A : t7 ≠ As := Ne.symm (ne_of_none (s6 _ _ eA) nt7)
          refine ⟨As, avs, _, rfl, rfl, s7 _ _ (s6 _ _ eA), small1000 (by omega), fun c o h => ?_, nn, sn, _, _, _, rfl, upd_same, wo7 _ _ enn, wo7 _ _ esn, (hav.imp (fun _ _ h => h.same wo7)).snoc ⟨t7, n2, sg2, rfl, ?_, wo7 _ _ q3, wo7 _ _ q4⟩⟩
          · rw [upd_ne (ne_of_none h nAs)]
            exact s7 _ _ (s6 _ _ (s5 _ _ h))
          · rw [wo_in (X := fun c => c = As) t7A, upd_ne t7A]
            exact upd_same
      · rintro σ H4 ⟨s4, nn, sn, avs, y7, y8, rfl, eA, enn, esn, hav⟩
        have lv : vs.length = gs.length := hvs3.len
        rw [lv, List.take_length] at enn esn hav
        refine ⟨.ref As, rfl, As, avs, rfl, .inr (.inl (.inl eA)), _, rfl, _, rfl, by show 2 ≤ sizeLine; decide, fun t5 nt5 => ?_⟩
        have s5 := same_upd (o := .tup [.ref nn, .ref sn]) nt5
        have lav := hav.len
        have lfl : (gs.filter fun g => !nearB ss g).length ≤ 100 := by
          have := List.length_filter_le (fun g => !nearB ss g) gs
          omega
        refine ⟨?_, fun P6 nP6 => ?_⟩
        · show (avs ++ [V.ref t5]).length ≤ sizeLine
          rw [List.length_append]
          exact Nat.le_of_lt (small1000 (by show avs.length + 1 ≤ 1000; omega))
        have s6 := same_upd (o := .lst (avs ++ [.ref t5])) nP6
        have s46 : Same (wo H4 (fun c => c = As)) (upd (upd H4 t5 (.tup [.ref nn, .ref sn])) P6 (.lst (avs ++ [.ref t5]))) := fun c o h => s6 _ _ (s5 _ _ (wo_same _ _ h))
        refine ⟨((sm3.trans s4).trans s5).trans s6, P6, avs ++ [.ref t5], _, _, _, _, _, _, _, _, rfl, upd_same, ?_⟩
        exact (hav.imp (fun _ _ h => h.same s46)).snoc ⟨t5, nn, sn, rfl, s6 _ _ upd_same, s46 _ _ enn, s46 _ _ esn⟩
    · rintro σ H1 ⟨sm, Pt, vs, y2, y3, y4, y5, y6, y7, y8, y9, rfl, ePt, hvs⟩
      have lp : (pairsG rs).length = rs.length := by unfold pairsG; rw [List.length_map]
      rw [← lp, List.take_length] at hvs
      have hne := runG_ne (pairsG rs)
      have hnd2 := runG_nodup hnd
      have hnl := fun {g : Grp} (h : g ∈ runG (pairsG rs)) => names_len h
      have hgl := runG_len (pairsG rs)
      generalize runG (pairsG rs) = gs at hvs hne hnd2 hnl q hgl
      refine ⟨.ref Pt, rfl, Pt, rfl, ⟨vs, .inl (.inl ePt)⟩, fun D hD => lc_it (walk_list (xs := vs)) (fun i H' => Same H1 H' ∧ ∃ ws, H' D = some (.lst ws) ∧ All2 (TL H') ws ((gs.take i).map fun g => sortN g.1)) ⟨same_upd hD, [], upd_same, .nil⟩ (fun i H' _ h => .inl (.inl (h.1 _ _ ePt))) ?_ ?_⟩
      · rintro i v H2 H3 hi ⟨s3, ws, eD, hw⟩ ⟨rfl, hx⟩
        obtain ⟨g, fg, hg⟩ := hvs.at_ hx
        obtain ⟨tt, n2, sg2, rfl, q2, q3, q4⟩ := hg.same s3
        have lw := hw.len
        rw [List.length_map, List.length_take] at lw
        refine ⟨tt, _, rfl, .inl (.inl q2), rfl, _, _, rfl, _, _, rfl, rfl, rfl, _, rfl, n2, g.1, rfl, .inl (.inl q3), by have := hnl (List.mem_of_getElem? fg); omega, fun ys p prm srt np => ?_⟩
        have sp := same_upd (o := .lst (ys.map V.str)) np
        refine ⟨p, _, rfl, .inl ⟨.inl (.inl upd_same), fun t nt => ?_⟩⟩
        have st := same_upd (o := .tup (ys.map V.str)) nt
        have eD5 := st _ _ (sp _ _ eD)
        have ntD : t ≠ D := Ne.symm (ne_of_none (sp _ _ eD) nt)
        refine ⟨ws, eD5, small1000 (by omega), fun b o h => ?_, ws ++ [.ref t], upd_same, ?_⟩
        · rw [upd_ne (ne_of_none h hD)]
          exact st _ _ (sp _ _ (s3 _ _ h))
        · rw [List.take_add_one, fg, List.map_append]
          have tlu : ∀ {v : V} {l : List Str}, TL H3 v l → TL (upd (upd (upd H3 p (.lst (ys.map V.str))) t (.tup (ys.map V.str))) D (.lst (ws ++ [.ref t]))) v l := fun {v l} h => by
            obtain ⟨c, e1, e2⟩ := h
            refine ⟨c, e1, ?_⟩
            rw [upd_ne (fun z => by rw [z, eD] at e2; cases e2)]
            exact st _ _ (sp _ _ e2)
          refine (hw.imp (fun _ _ h => tlu h)).snoc ⟨t, rfl, ?_⟩
          show upd _ D _ t = some (.tup ((sortN g.1).map V.str))
          rw [upd_ne ntD, upd_same, ← sortN_uniq prm (sortedS_pw ys srt)]
      · rintro H2 ⟨s2, ws, eD, hw⟩
        rw [hvs.len, List.take_length] at hw
        exact grp_end eD hw hne hnd2 (fun H' r s' hd => q H' r ((sm.trans s2).trans s') hd)
--@@SPLIT
/-- places that are left out of sight: the spring is one, all of them are known -/
def HX (p : Addr) (X : Addr → Prop) (H : Hp) : Prop := X p ∧ ∀ b, X b → H b ≠ none
theorem HX.same {p : Addr} {X : Addr → Prop} {H H' : Hp} (x : HX p X H) (e : Same H H') : HX p X H' := ⟨x.1, fun b h => by
  cases o : H b with
  | none => exact absurd o (x.2 b h)
  | some o' => rw [e b o' o]; exact fun z => nomatch z⟩
theorem Pool.known {H : Hp} {p : Addr} (h : Pool H p) : H p ≠ none := by
  obtain ⟨l, c, k, n, h0, h1⟩ := h
  rw [h1]
  exact fun z => nomatch z
theorem HX.but {p : Addr} {X : Addr → Prop} {H H' : Hp} (x : HX p X H) (e : But p H H') (hp : Pool H' p) : HX p X H' := ⟨x.1, fun b h => by
  by_cases eb : b = p
  · rw [eb]
    exact hp.known
  · cases o : H b with
    | none => exact absurd o (x.2 b h)
    | some o' => rw [e b o' eb o]; exact fun z => nomatch z⟩
theorem HX.fresh {p t : Addr} {X : Addr → Prop} {H : Hp} (x : HX p X H) (n : H t = none) : ¬ X t := fun z => x.2 t z n
theorem But.wo {p : Addr} {X : Addr → Prop} {H H' : Hp} (xp : X p) (e : But p H H') : Same (M.wo H X) (M.wo H' X) := fun b o h => by
  have h2 := wo_some h
  rw [wo_in (X := X) h2.1]
  exact e _ _ (fun z => h2.1 (z ▸ xp)) h2.2
theorem tupW {K : PySem.W.Frag} {H : Hp} {p t : Addr} {X : Addr → Prop} {vs : List V} {ds : List PyData} (x : HX p X H) (nt : H t = none) (h : DpAll K (wo H X) vs ds) : Dp K (wo (upd H t (.tup vs)) X) (.ref t) (.tuple ds) :=
  .tup (.inl (.inl ((wo_in (X := X) (x.fresh nt)).trans upd_same))) (dpa_same ((But.of (same_upd nt)).wo x.1) ds vs h)
theorem lstW {K : PySem.W.Frag} {H : Hp} {p t : Addr} {X : Addr → Prop} {vs : List V} {ds : List PyData} (x : HX p X H) (nt : H t = none) (h : DpAll K (wo H X) vs ds) : Dp K (wo (upd H t (.lst vs)) X) (.ref t) (.list ds) :=
  .lst (.inl (.inl ((wo_in (X := X) (x.fresh nt)).trans upd_same))) (dpa_same ((But.of (same_upd nt)).wo x.1) ds vs h)
theorem dpa_len2 {K : PySem.W.Frag} {H : Hp} {ds : List PyData} {vs : List V} (h : DpAll K H vs ds) : vs.length = ds.length := dpa_len ds vs h
theorem tup_at {K : PySem.W.Frag} {H : Hp} {t : Addr} {e : Ent} (h : Dp K H (.ref t) (Ent.tup e)) : ∃ xs, SqT K H t (.str (ws e.kind) :: xs) ∧ DpAll K H xs e.rest := by
  cases h with
  | @tup _ ys _ hs ha =>
    cases ha with
    | cons h1 h2 =>
      cases h1
      exact ⟨_, hs, h2⟩
theorem HX.or {p D : Addr} {X : Addr → Prop} {H : Hp} (x : HX p X H) (h : H D ≠ none) : HX p (fun b => X b ∨ b = D) H := ⟨.inl x.1, fun c z => z.elim (x.2 c) (fun e => by rw [e]; exact h)⟩
theorem some_ne {H : Hp} {b : Addr} {o : HO} (h : H b = some o) : H b ≠ none := by rw [h]; exact fun z => nomatch z
theorem wo_less {H : Hp} {X Y : Addr → Prop} (h : ∀ b, X b → Y b) : Same (wo H Y) (wo H X) := fun c o z => by
  have h2 := wo_some z
  rw [wo_in (X := X) (fun z => h2.1 (h c z))]
  exact h2.2
theorem wo_mut {H : Hp} {X : Addr → Prop} {D : Addr} {o : HO} (h : X D) : Same (wo H X) (wo (upd H D o) X) := fun c u z => by
  have h2 := wo_some z
  rw [wo_in (X := X) h2.1, upd_ne (fun z : c = D => h2.1 (by rw [z]; exact h))]
  exact h2.2
theorem nesw_lt {r : Int} (h0 : 0 ≤ r) (h1 : r < 4) : ∃ l : Fin 4, atI (PySem.Str.ofString "nesw").cps.toList r = some (cd l) := by
  obtain rfl | rfl | rfl | rfl : r = 0 ∨ r = 1 ∨ r = 2 ∨ r = 3 := by omega
  · exact ⟨0, by decide +kernel⟩
  · exact ⟨1, by decide +kernel⟩
  · exact ⟨2, by decide +kernel⟩
  · exact ⟨3, by decide +kernel⟩
/-! ### dealings that the box lets by -/
def lotD : PyData → Bool
  | .int i => decide (0 ≤ i) && decide (i ≤ 7)
  | _ => false
def spIsLotD (K : PySem.W.Frag) : Sp := fun vs H Q _ => ∃ (v : V) (d : PyData), vs = [v] ∧ Dp K H v d ∧ Q (.bl (lotD d)) H
theorem ok_is_lotD (T : Top w K mg) : FnOk P w K mg base CX0 2 T.a_is_lot T.fd_is_lot ["thing"] (spIsLotD K) := by
  have G_is_whole := ok_is_wholeD (P := P) (w := w) (base := base) T
  refine T.F_is_lot.ok sc_is_lot (fun vs H Q E h => ?_) (fun cdv A outer s H vs Q E hr h => ?_)
  · obtain ⟨v, d, rfl, _⟩ := h
    rfl
  · obtain ⟨v, d, rfl, hd, q⟩ := h
    refine ⟨_, (pss_one (ps_ret (pe_and (pe_call G_is_whole hr (by rfl) T.g_is_whole T.F_is_whole.kp T.b_is_whole .nil pass0 (pa_cons (pv 0) pa_nil)) (pe_one (pe_chain op_le op_le pe_int (pv 0) pe_int))))), ?_⟩
    refine ⟨v, rfl, v, d, rfl, hd, _, rfl, ?_⟩
    cases hd with
    | int i =>
      refine iteT ⟨.int i, rfl, _, _, rfl, rfl, _, rfl, ite2 (fun e => ?_) (fun e => ?_)⟩
      · refine ⟨_, _, rfl, rfl, ?_⟩
        have e2 : lotD (.int i) = decide (i ≤ 7) := by
          show (decide (0 ≤ i) && decide (i ≤ 7)) = _
          rw [e]
          rfl
        rw [e2] at q
        exact q
      · have e2 : lotD (.int i) = false := by
          show (decide (0 ≤ i) && decide (i ≤ 7)) = _
          rw [Bool.eq_false_iff.mpr e]
          rfl
        rw [e2] at q
        exact q
    | non => exact iteF q
    | bl b => exact iteF q
    | str z => exact iteF q
    | lst h _ => exact iteF q
    | tup h _ => exact iteF q
theorem lot_of {d : PyData} (h : lotD d = true) : ∃ k : Nat, d = .int (k : Nat) ∧ k < 8 := by
  cases d with
  | int i =>
    obtain ⟨h1, h2⟩ := Bool.and_eq_true_iff.mp (show (decide (0 ≤ i) && decide (i ≤ 7)) = true from h)
    have h1 := of_decide_eq_true h1
    have h2 := of_decide_eq_true h2
    exact ⟨i.toNat, by rw [Int.toNat_of_nonneg h1], by omega⟩
  | _ => cases h
def isI (k : Nat) : PyData → Bool
  | .int i => i == (k : Int)
  | _ => false
def cntI (k : Nat) (ds : List PyData) : Nat := ds.countP (isI k)
/-- a lot of which the box has more than these -/
def moreI (box : List Nat) (pre : List PyData) (d : PyData) : Bool := lotD d && (List.range 8).any fun k => isI k d && decide (cntI k pre < box.getD k 0)
theorem more_lot (box : List Nat) (pre : List PyData) (k : Nat) (hk : k < 8) : moreI box pre (.int (k : Nat)) = decide (cntI k pre < box.getD k 0) := by
  have e1 : lotD (.int (k : Nat)) = true := by
    show (decide (0 ≤ ((k : Nat) : Int)) && decide (((k : Nat) : Int) ≤ 7)) = true
    rw [decide_eq_true (by omega), decide_eq_true (by omega)]
    rfl
  unfold moreI
  rw [e1, Bool.true_and]
  by_cases h : cntI k pre < box.getD k 0
  · rw [decide_eq_true h]
    refine List.any_eq_true.mpr ⟨k, List.mem_range.mpr hk, ?_⟩
    rw [decide_eq_true h]
    show ((((k : Nat) : Int) == ((k : Nat) : Int)) && true) = true
    rw [beq_self_eq_true]
    rfl
  · rw [decide_eq_false h]
    refine Bool.eq_false_iff.mpr fun z => h ?_
    obtain ⟨j, _, hj⟩ := List.any_eq_true.mp z
    obtain ⟨h1, h2⟩ := Bool.and_eq_true_iff.mp hj
    have e : ((k : Nat) : Int) = (j : Int) := eq_of_beq h1
    have : k = j := by omega
    rw [this]
    exact of_decide_eq_true h2
theorem more_no (box : List Nat) (pre : List PyData) {d : PyData} (h : lotD d = false) : moreI box pre d = false := by
  unfold moreI
  rw [h]
  rfl
theorem more_is (box : List Nat) (pre : List PyData) {d : PyData} (h : moreI box pre d = true) : lotD d = true := (Bool.and_eq_true_iff.mp h).1
theorem cnt_vals {K : PySem.W.Frag} {H : Hp} : ∀ {ds : List PyData} {vs : List V}, DpAll K H vs ds → (∀ d ∈ ds, lotD d = true) → vs.all flatV = true ∧ ∀ k : Nat, vs.countP (fun z => eqV z (.int (k : Nat))) = cntI k ds
  | [], _, h, _ => by cases h; exact ⟨rfl, fun _ => rfl⟩
  | d :: ds, _, h, hl => by
    cases h with
    | cons h1 h2 =>
      obtain ⟨i1, i2⟩ := cnt_vals h2 (fun x hx => hl x (List.mem_cons_of_mem _ hx))
      obtain ⟨j, rfl, _⟩ := lot_of (hl _ List.mem_cons_self)
      cases h1
      refine ⟨by rw [List.all_cons, i1]; rfl, fun k => ?_⟩
      unfold cntI at i2 ⊢
      rw [List.countP_cons, List.countP_cons, i2 k]
      rfl
/-- what the box lets by -/
def dueL (box : List Nat) (ds : List PyData) : Bool := ds.all lotD && (List.range 8).all fun k => decide (cntI k ds ≤ box.getD k 0)
theorem cnt_snoc (k : Nat) (ds : List PyData) (d : PyData) : cntI k (ds ++ [d]) = cntI k ds + (if isI k d = true then 1 else 0) := by
  unfold cntI
  rw [List.countP_append, List.countP_cons, List.countP_nil]
  omega
theorem due_of (box : List Nat) (ds : List PyData) (h : ∀ i d, ds[i]? = some d → moreI box (ds.take i) d = true) : dueL box ds = true := by
  have hl : ∀ d ∈ ds, lotD d = true := fun d hd => by
    obtain ⟨i, hi⟩ := List.mem_iff_getElem?.mp hd
    exact more_is _ _ (h i d hi)
  refine Bool.and_eq_true_iff.mpr ⟨List.all_eq_true.mpr hl, List.all_eq_true.mpr fun k hk => decide_eq_true ?_⟩
  have hk := List.mem_range.mp hk
  have go : ∀ n, cntI k (ds.take n) ≤ box.getD k 0 := fun n => by
    induction n with
    | zero => exact Nat.zero_le _
    | succ n ih =>
      rw [List.take_add_one]
      cases e : ds[n]? with
      | none =>
        show cntI k (ds.take n ++ []) ≤ _
        rw [List.append_nil]
        exact ih
      | some d =>
        show cntI k (ds.take n ++ [d]) ≤ _
        rw [cnt_snoc]
        have hm := h n d e
        obtain ⟨j, rfl, hj⟩ := lot_of (more_is _ _ hm)
        rw [more_lot _ _ _ hj] at hm
        have hm := of_decide_eq_true hm
        by_cases ej : isI k (.int (j : Nat)) = true
        · have e2 : ((j : Nat) : Int) = (k : Int) := eq_of_beq ej
          have : j = k := by omega
          subst this
          rw [if_pos ej]
          omega
        · rw [if_neg ej]
          omega
  have := go ds.length
  rw [List.take_length] at this
  exact this
theorem due_more (box : List Nat) (ds : List PyData) (h : dueL box ds = true) {i : Nat} {d : PyData} (hi : ds[i]? = some d) : moreI box (ds.take i) d = true := by
  obtain ⟨h1, h2⟩ := Bool.and_eq_true_iff.mp h
  obtain ⟨j, rfl, hj⟩ := lot_of (List.all_eq_true.mp h1 d (List.mem_of_getElem? hi))
  rw [more_lot _ _ _ hj]
  refine decide_eq_true ?_
  have h3 := of_decide_eq_true (List.all_eq_true.mp h2 j (List.mem_range.mpr hj))
  have h4 : cntI j (ds.take (i + 1)) ≤ cntI j ds := (List.take_sublist (i + 1) ds).countP_le
  rw [List.take_add_one, hi] at h4
  have h5 : cntI j (ds.take i ++ [.int (j : Nat)]) ≤ cntI j ds := h4
  rw [cnt_snoc] at h5
  have : isI j (.int (j : Nat)) = true := beq_self_eq_true _
  rw [if_pos this] at h5
  omega
def leftV (box : List Nat) (us : List V) (n : Nat) : List V := ((List.range n).filter fun k => decide (us.countP (fun z => eqV z (.int (k : Nat))) < box.getD k 0)).map fun k => V.int (k : Nat)
def spLeft (K : PySem.W.Frag) : Sp := fun vs H Q _ => ∃ (b l : Addr) (box : List Nat) (us : List V), vs = [.ref b, .ref l] ∧ SqT K H b (boxV box) ∧ box.length = 8 ∧ OwnI.Cnt K H l us ∧ us.all flatV = true ∧ ∀ H' D, Same H H' → H' D = some (.lst (leftV box us 8)) → Q (.ref D) H'
theorem left_in (box : List Nat) (us : List V) (k : Nat) (hk : k < 8) : inV (.int (k : Nat)) (leftV box us 8) = decide (us.countP (fun z => eqV z (.int (k : Nat))) < box.getD k 0) := by
  unfold inV leftV
  by_cases h : us.countP (fun z => eqV z (.int (k : Nat))) < box.getD k 0
  · rw [decide_eq_true h]
    refine List.any_eq_true.mpr ⟨.int (k : Nat), List.mem_map.mpr ⟨k, List.mem_filter.mpr ⟨List.mem_range.mpr hk, decide_eq_true h⟩, rfl⟩, ?_⟩
    exact beq_self_eq_true ((k : Nat) : Int)
  · rw [decide_eq_false h]
    refine Bool.eq_false_iff.mpr fun z => h ?_
    obtain ⟨v, hv, ev⟩ := List.any_eq_true.mp z
    obtain ⟨j, hj, rfl⟩ := List.mem_map.mp hv
    have e : ((j : Nat) : Int) = (k : Int) := eq_of_beq (show (((j : Nat) : Int) == ((k : Nat) : Int)) = true from ev)
    have : j = k := by omega
    rw [this] at hj
    exact of_decide_eq_true (List.mem_filter.mp hj).2
theorem box_at {box : List Nat} {i : Nat} (h : i < box.length) : (boxV box)[i]? = some (.int ((box.getD i 0 : Nat) : Int)) := by
  unfold boxV
  rw [List.getElem?_map, List.getD_eq_getElem?_getD, List.getElem?_eq_getElem h]
  rfl
theorem leftV_flat (box : List Nat) (us : List V) (n : Nat) : (leftV box us n).all flatV = true := List.all_eq_true.mpr fun v hv => by
  obtain ⟨k, _, rfl⟩ := List.mem_map.mp hv
  rfl
theorem leftV_len (box : List Nat) (us : List V) (n : Nat) : (leftV box us n).length ≤ n := by
  unfold leftV
  rw [List.length_map]
  have := List.length_filter_le (fun k => decide (us.countP (fun z => eqV z (.int (k : Nat))) < box.getD k 0)) (List.range n)
  rw [List.length_range] at this
  exact this
theorem leftV_succ (box : List Nat) (us : List V) (n : Nat) : leftV box us (n + 1) = leftV box us n ++ (if decide (us.countP (fun z => eqV z (.int (n : Nat))) < box.getD n 0) = true then [V.int (n : Nat)] else []) := by
  unfold leftV
  rw [List.range_succ, List.filter_append, List.map_append]
  congr 1
  cases e : decide (us.countP (fun z => eqV z (.int (n : Nat))) < box.getD n 0) with
  | true => rw [List.filter_cons, if_pos e]; rfl
  | false => rw [List.filter_cons, if_neg (by rw [e]; exact Bool.false_ne_true)]; rfl
theorem ok_lots_left_in (T : Top w K mg) : FnOk P w K mg base CX0 1 T.a_lots_left_in T.fd_lots_left_in ["box", "lots"] (spLeft K) := by
  refine T.F_lots_left_in.ok sc_lots_left_in (fun vs H Q E h => ?_) (fun cdv A outer s H vs Q E hr h => ?_)
  · obtain ⟨b, l, box, us, rfl, _⟩ := h
    rfl
  · obtain ⟨b, l, box, us, rfl, hb, h8, hc, hf, q⟩ := h
    refine ⟨_, (pss_one (ps_ret (pe_lc (own := [("lot", 2)]) (g := gName 2) (by rfl) sc_lots_left_in.nd (pi_range1 (by rfl) T.m_range (pa_cons (pe_glob (v := .int 8) (by rfl) T.g_HOW_MANY_LOTS.choose_spec ⟨_, rfl⟩) pa_nil)) (blkOk_by (own := [("lot", 2)]) (N := ["box", "lots", "lot"]) (sc := defScope s_lots_left_in) (by decide +kernel)) (fun _ _ _ _ _ => (pg_name (i := 2) sc_lots_left_in.nd rfl (Or.inl rfl))) (fun _ _ _ _ _ => (pts_one (pt_cmpR op_gt (pe_ix (r := rIx K) (SeqW.ix_seqK rfl) (pv 0) (pv 2) (fun _ _ => rfl)) (OwnI.pe_cnt (K := K) rfl (pv 1) (pa_cons (pv 2) pa_nil)) (nomark _)))) (fun _ _ _ _ _ => (pv 2))))), ?_⟩
    refine ⟨_, rfl, by decide, by decide, fun D hD => lc_it (walk_range (n := 8)) (fun i H' => Same H H' ∧ H' D = some (.lst (leftV box us i))) ⟨same_upd hD, upd_same⟩ (fun i H' _ h => trivial) ?_ ?_⟩
    · rintro i v H1 H2 hi ⟨sm, eD⟩ ⟨rfl, rfl⟩
      have e0 : (0 : Int) + (i : Int) = ((i : Nat) : Int) := by omega
      simp only [e0]
      have fin : if decide (((us.countP (fun z => eqV z (.int (i : Nat))) : Nat) : Int) < ((box.getD i 0 : Nat) : Int)) = true then ∃ acc, H2 D = some (HO.lst acc) ∧ acc.length < sizeLine ∧ Same H (upd H2 D (HO.lst (acc ++ [.int (i : Nat)]))) ∧ upd H2 D (HO.lst (acc ++ [.int (i : Nat)])) D = some (HO.lst (leftV box us (i + 1))) else Same H H2 ∧ H2 D = some (HO.lst (leftV box us (i + 1))) := by
        have ll := leftV_len box us i
        rw [leftV_succ]
        refine ite2 (fun e => ?_) (fun e => ?_)
        · have e := of_decide_eq_true e
          rw [if_pos (decide_eq_true (by omega))]
          refine ⟨_, eD, small1000 (by omega), fun c o h => ?_, upd_same⟩
          rw [upd_ne (ne_of_none h hD)]
          exact sm _ _ h
        · have e : ¬ _ := fun z => e (decide_eq_true z)
          rw [if_neg (fun z => e (by have := of_decide_eq_true z; omega)), List.append_nil]
          exact ⟨sm, eD⟩
      refine ⟨rfl, .ref b, rfl, _, rfl, ixA (.inr (sqt_same sm hb)) (box_at (by omega)) ⟨.ref l, rfl, l, us, rfl, ?_⟩⟩
      rcases hc.same sm with h | ⟨o, h, ho⟩
      · refine .inl ⟨h, _, rfl, _, rfl, h, rfl, hf, _, _, rfl, rfl, _, rfl, ?_⟩
        refine ite2 (fun e => ?_) (fun e => ?_)
        · rw [if_pos e] at fin
          exact ⟨_, rfl, fin⟩
        · rw [if_neg e] at fin
          exact fin
      · refine .inr ⟨⟨o, h, ho⟩, _, rfl, _, rfl, .inl (.inr ⟨o, h⟩), rfl, hf, _, _, rfl, rfl, _, rfl, ?_⟩
        refine ite2 (fun e => ?_) (fun e => ?_)
        · rw [if_pos e] at fin
          exact ⟨_, rfl, fin⟩
        · rw [if_neg e] at fin
          exact fin
    · rintro H1 ⟨sm, eD⟩
      exact q _ D sm eD
theorem cut_to (xs : List V) (n : Nat) (h : n ≤ xs.length) : cutV xs none (some (n : Int)) = xs.take n := by
  unfold cutV
  have e1 : HT.sIx xs.length 0 none = 0 := rfl
  have e2 : HT.sIx xs.length xs.length (some (n : Int)) = n := by
    unfold HT.sIx
    simp only []
    split <;> omega
  rw [e1, e2]
  rfl
theorem dpa_take {K : PySem.W.Frag} {H : Hp} : ∀ {ds : List PyData} {vs : List V} (n : Nat), DpAll K H vs ds → DpAll K H (vs.take n) (ds.take n)
  | _, _, 0, _ => by rw [List.take_zero, List.take_zero]; exact .nil
  | [], _, n + 1, h => by cases h; exact .nil
  | d :: ds, _, n + 1, h => by
    cases h with
    | cons h1 h2 => exact .cons h1 (dpa_take n h2)
def spFirst (K : PySem.W.Frag) : Sp := fun vs H Q _ => ∃ (b l : Addr) (box : List Nat) (us : List V) (ds : List PyData), vs = [.ref b, .ref l] ∧ SqT K H b (boxV box) ∧ box.length = 8 ∧ SqA K H l us ∧ DpAll K H us ds ∧
  (∀ H', Same H H' → (∀ i d, ds[i]? = some d → moreI box (ds.take i) d = true) → Q .non H') ∧ (∀ H' i d, Same H H' → ds[i]? = some d → (∀ j e, j < i → ds[j]? = some e → moreI box (ds.take j) e = true) → moreI box (ds.take i) d = false → Q (.int (i : Nat)) H')
theorem ok_first_not_dealt (T : Top w K mg) : FnOk P w K mg base CX0 3 T.a_first_not_dealt T.fd_first_not_dealt ["box", "lots"] (spFirst K) := by
  have G_is_lot := ok_is_lotD (P := P) (w := w) (base := base) T
  have G_lots_left_in := ok_lots_left_in (P := P) (w := w) (base := base) T
  refine T.F_first_not_dealt.ok sc_first_not_dealt (fun vs H Q E h => ?_) (fun cdv A outer s H vs Q E hr h => ?_)
  · obtain ⟨b, l, box, us, ds, rfl, _⟩ := h
    rfl
  · obtain ⟨b, l, box, us, ds, rfl, hb, h8, hl, hd, q1, q2⟩ := h
    have lu := dpa_len _ _ hd
    refine ⟨_, (pss_cons (ps_for PassesOwn.never rfl (SeqW.pi_enumA (by rfl) T.m_enumerate (pa_cons (pv 1) pa_nil)) (pg_tup rfl (pgs_cons (pg_name (i := 2) sc_first_not_dealt.nd rfl (.inl rfl)) (pgs_cons (pg_name (i := 3) sc_first_not_dealt.nd rfl (.inl rfl)) pgs_nil))) (pss_one (ps_if (PW.pt (pw_or (pt_not (pt_val (pe_call G_is_lot hr (by rfl) T.g_is_lot T.F_is_lot.kp T.b_is_lot .nil pass0 (pa_cons (pv 3) pa_nil)))) (pw_or1 (pt_cmpR (r := rIn K true) (SeqW.notIn_K rfl) (pv 3) (pe_call G_lots_left_in (hr.mono (by decide)) (by rfl) T.g_lots_left_in T.F_lots_left_in.kp T.b_lots_left_in .nil pass0 (pa_cons (pv 0) (pa_cons (pe_slice OwnI.sl_cnt (pv 1) po_none (po_some (pv 2))) pa_nil))) (by rfl))))) (pss_one (ps_ret (pv 2))) pss_nil)))
      (pss_one (ps_ret pe_non))), ?_⟩
    refine ⟨.ref l, rfl, l, us, rfl, (fun H' => Same H H'), kpA hl, Same.refl _, fun J G wk hG => for_it wk (fun i σ H' => Same H H' ∧ (∀ j e, j < i → ds[j]? = some e → moreI box (ds.take j) e = true) ∧ ∃ y2 y3, σ = [some (.ref b), some (.ref l), y2, y3]) ⟨Same.refl _, (fun j e h => absurd h (Nat.not_lt_zero _)), _, _, rfl⟩ (fun i σ H' _ h => hG _ h.1) ?_ ?_⟩
    · rintro i v σ H1 H2 hi ⟨sm, hm, y2, y3, rfl⟩ ⟨t, u1, u2, rfl, nt, rfl, e1, e2⟩
      cases e1
      have e2 : us[i]? = some u2 := e2
      have st := same_upd (o := .tup [.int (i : Nat), u2]) nt
      have sm2 := sm.trans st
      obtain ⟨d, fd, gd⟩ := dpa_at _ us hd i u2 e2
      refine ⟨t, _, rfl, .inl (.inl upd_same), rfl, _, _, rfl, _, _, rfl, rfl, ?_⟩
      refine ⟨_, rfl, u2, d, rfl, dp_same sm2 _ _ gd, _, rfl, ?_⟩
      cases el : lotD d with
      | false => exact iteT ⟨_, rfl, q2 _ i d sm2 fd hm (more_no _ _ el)⟩
      | true =>
        refine iteF ?_
        obtain ⟨k, rfl, hk⟩ := lot_of el
        cases gd
        have hil : i < us.length := hi
        have pre : ∀ e ∈ ds.take i, lotD e = true := fun e he => by
          obtain ⟨j, hj⟩ := List.mem_iff_getElem?.mp he
          have hjl := (List.getElem?_eq_some_iff.mp hj).1
          rw [List.length_take] at hjl
          have hji : j < i := by omega
          rw [List.getElem?_take_of_lt hji] at hj
          exact more_is _ _ (hm j e hji hj)
        obtain ⟨c1, c2⟩ := cnt_vals (dpa_take i hd) pre
        have more : moreI box (ds.take i) (.int (k : Nat)) = inV (.int (k : Nat)) (leftV box (us.take i) 8) := by
          rw [left_in _ _ _ hk, more_lot _ _ _ hk, c2 k]
        have fin : ∀ H5, Same (upd H1 t (HO.tup [V.int (i : Nat), V.int (k : Nat)])) H5 → if (!inV (.int (k : Nat)) (leftV box (us.take i) 8)) = true then ∃ v, V.int (i : Nat) = v ∧ Q v H5 else Same H H5 ∧ (∀ j e, j < i + 1 → ds[j]? = some e → moreI box (ds.take j) e = true) ∧ ∃ y2 y3, [some (V.ref b), some (V.ref l), some (.int (i : Nat)), some (.int (k : Nat))] = [some (V.ref b), some (V.ref l), y2, y3] := fun H5 s5 => by
          rw [← more]
          refine ite2 (fun e => ⟨_, rfl, q2 _ i _ (sm2.trans s5) fd hm ?_⟩) (fun e => ⟨sm2.trans s5, fun j e3 hj hje => ?_, _, _, rfl⟩)
          · rw [Bool.not_eq_true'] at e
            exact e
          · by_cases eji : j = i
            · rw [eji] at hje ⊢
              rw [fd] at hje
              cases hje
              cases em : moreI box (ds.take i) (.int (k : Nat)) with
              | true => rfl
              | false => rw [em] at e; exact absurd rfl e
            · exact hm j e3 (by omega) hje
        have left : ∀ (H4 : Hp) (l2 : Addr), Same (upd H1 t (HO.tup [V.int (i : Nat), V.int (k : Nat)])) H4 → OwnI.Cnt K H4 l2 (us.take i) → SqT K H4 b (boxV box) := fun H4 l2 s4 _ => sqt_same (sm2.trans s4) hb
        have cut := cut_to us i (Nat.le_of_lt hil)
        refine ⟨_, rfl, .ref b, rfl, .ref l, rfl, _, rfl, _, rfl, l, us, rfl, ?_⟩
        rcases hl.same sm2 with h | h
        · refine .inl ⟨h, fun p np => ?_⟩
          rw [cut]
          have sp := same_upd (o := .lst (us.take i)) np
          refine ⟨b, p, box, us.take i, rfl, sqt_same (sm2.trans sp) hb, h8, .inl (.inl (.inl upd_same)), c1, fun H5 D s5 eD => ?_⟩
          refine ⟨D, _, rfl, .inl (.inl (.inl eD)), rfl, leftV_flat _ _ _, _, rfl, ?_⟩
          have := fin H5 (sp.trans s5)
          refine ite2 (fun e => ?_) (fun e => ?_)
          · rw [if_pos (show (!inV (.int (k : Nat)) (leftV box (us.take i) 8)) = true from e)] at this
            obtain ⟨v, rfl, h⟩ := this
            exact ⟨_, rfl, h⟩
          · rw [if_neg (show ¬ (!inV (.int (k : Nat)) (leftV box (us.take i) 8)) = true from e)] at this
            exact this
        · refine .inr ⟨h, fun z => ?_, fun p o po np => ?_⟩
          · have e2 : HT.sIx us.length us.length (some (i : Int)) = i := by
              unfold HT.sIx
              simp only []
              split <;> omega
            rw [e2] at z
            omega
          rw [cut]
          have sp := same_upd (o := .frz o (.tup (us.take i))) np
          refine ⟨b, p, box, us.take i, rfl, sqt_same (sm2.trans sp) hb, h8, .inr ⟨o, upd_same, po⟩, c1, fun H5 D s5 eD => ?_⟩
          refine ⟨D, _, rfl, .inl (.inl (.inl eD)), rfl, leftV_flat _ _ _, _, rfl, ?_⟩
          have := fin H5 (sp.trans s5)
          refine ite2 (fun e => ?_) (fun e => ?_)
          · rw [if_pos (show (!inV (.int (k : Nat)) (leftV box (us.take i) 8)) = true from e)] at this
            obtain ⟨v, rfl, h⟩ := this
            exact ⟨_, rfl, h⟩
          · rw [if_neg (show ¬ (!inV (.int (k : Nat)) (leftV box (us.take i) 8)) = true from e)] at this
            exact this
    · rintro σ H1 ⟨sm, hm, y2, y3, rfl⟩
      exact q1 _ sm fun i d h => hm i d (by rw [lu]; exact (List.getElem?_eq_some_iff.mp h).1) h
def dueB (box : List Nat) (m : Nat) (d : PyData) : Bool := match seqD d with
  | some ds => decide (ds.length = m) && dueL box ds
  | none => false
def spRowD (K : PySem.W.Frag) : Sp := fun vs H Q _ => ∃ (v : V) (d : PyData), vs = [v] ∧ Dp K H v d ∧ ∀ H', Same H H' → Q (.bl (seqD d).isSome) H'
theorem ok_is_row (T : Top w K mg) : FnOk P w K mg base CX0 1 T.a_is_row T.fd_is_row ["thing"] (spRowD K) := by
  refine T.F_is_row.ok sc_is_row (fun vs H Q E h => ?_) (fun cdv A outer s H vs Q E hr h => ?_)
  · obtain ⟨v, d, rfl, _⟩ := h
    rfl
  · obtain ⟨v, d, rfl, hd, q⟩ := h
    refine ⟨_, (pss_one (ps_ret (pe_callB call_isiT (by rfl) T.m_isinstance (by decide +kernel) (pa_cons (pv 0) (pa_cons (pe_tup (pa_cons (pe_bltn (v := .ty "tuple") (by rfl) T.m_tuple (by decide +kernel) rfl) (pa_cons (pe_bltn (v := .ty "list") (by rfl) T.m_list (by decide +kernel) rfl) pa_nil))) pa_nil))))), ?_⟩
    obtain ⟨x, y, k1, k2, exy⟩ := kit_seq d
    refine ⟨v, rfl, by show 2 ≤ sizeLine; decide, fun tp np => ⟨v, tp, _, _, _, _, rfl, upd_same, .cons (.ty _) (.cons (.ty _) .nil), ty_dp (dp_same (same_upd np) d v hd), kit_any2 k1 k2, ?_⟩⟩
    rw [exy]
    exact q _ (same_upd np)
theorem row_dp {K : PySem.W.Frag} {H : Hp} {v : V} {d : PyData} {ds : List PyData} (h : Dp K H v d) (e : seqD d = some ds) : ∃ a us, v = .ref a ∧ SqA K H a us ∧ DpAll K H us ds := by
  cases h with
  | lst h1 h2 => cases e; exact ⟨_, _, rfl, .inl h1, h2⟩
  | tup h1 h2 => cases e; exact ⟨_, _, rfl, .inr h1, h2⟩
  | non => cases e
  | bl => cases e
  | int => cases e
  | str => cases e
def spDealt (K : PySem.W.Frag) (C : Addr) : Sp := fun vs H Q _ => ∃ (x : Addr) (v : V) (box : List Nat) (rs : List Row) (d : PyData), vs = [.ref x, v] ∧ AtlasAt K C H x box rs ∧ box.length = 8 ∧ (∀ r ∈ rs, RowOk r) ∧ rs.length ≤ 60 ∧ Dp K H v d ∧ ∀ H', Same H H' → Q (.bl (dueB box (legL rs).length d)) H'
theorem ok_is_dealt (T : Top w K mg) : FnOk P w K mg base CX0 5 T.a_is_dealt T.fd_is_dealt ["atlas", "dealing"] (spDealt K T.a_Atlas) := by
  have G_is_row := ok_is_row (P := P) (w := w) (base := base) T
  have G_first_not_dealt := ok_first_not_dealt (P := P) (w := w) (base := base) T
  have G_Atlas_len := ok_Atlas_len (P := P) (w := w) (base := base) T
  refine T.F_is_dealt.ok sc_is_dealt (fun vs H Q E h => ?_) (fun cdv A outer s H vs Q E hr h => ?_)
  · obtain ⟨x, v, box, rs, d, rfl, _⟩ := h
    rfl
  · obtain ⟨x, v, box, rs, d, rfl, hA, h8, hok, hlen, hd, q⟩ := h
    refine ⟨_, (pss_one (ps_ret (pe_and (pe_call G_is_row (hr.mono (by decide)) (by rfl) T.g_is_row T.F_is_row.kp T.b_is_row .nil pass0 (pa_cons (pv 1) pa_nil)) (pe_and (pe_cmpR op_eq (pe_callB call_len_seq (by rfl) T.m_len (by decide +kernel) (pa_cons (pv 1) pa_nil)) (pe_callB (OwnI.call_lenO T.cl_Atlas T.me_Atlas_len G_Atlas_len hr T.b_Atlas_len) (by rfl) T.m_len (by decide +kernel) (pa_cons (pv 0) pa_nil)) (nomark _)) (pe_one (pe_cmpR op_isN (pe_call G_first_not_dealt (hr.mono (by decide)) (by rfl) T.g_first_not_dealt T.F_first_not_dealt.kp T.b_first_not_dealt .nil pass0 (pa_cons (pe_fld (pv 0) rfl) (pa_cons (pv 1) pa_nil))) pe_non (nomark _))))))), ?_⟩
    refine ⟨v, rfl, v, d, rfl, hd, fun H1 s1 => ⟨_, rfl, ?_⟩⟩
    cases es : seqD d with
    | none =>
      refine iteF ?_
      have := q H1 s1
      unfold dueB at this
      rw [es] at this
      exact this
    | some ds =>
      refine iteT ?_
      obtain ⟨a, us, rfl, hs, hda⟩ := row_dp hd es
      have lu := dpa_len _ _ hda
      have hA1 := hA.same s1
      have hA1' := hA1
      obtain ⟨dx, b, n, l, ls, on, po, h1, hbx, _⟩ := hA1'
      have ll := legL_len hok
      refine ⟨.ref a, rfl, a, us, rfl, hs.same s1, .ref x, rfl, x, dx, _, rfl, h1, x, box, rs, rfl, hA1, hok, hlen, fun H2 s2 => ⟨_, rfl, Nat.le_trans (show (legL rs).length ≤ 100000 by omega) (by decide), rfl, _, rfl, ?_⟩⟩
      have e1 : dueB box (legL rs).length d = (decide (ds.length = (legL rs).length) && dueL box ds) := by
        unfold dueB
        rw [es]
      have eV : decide (V.int ((us.length : Nat) : Int) = V.int (((legL rs).length : Nat) : Int)) = decide (ds.length = (legL rs).length) := by
        rw [lu]
        by_cases h : ds.length = (legL rs).length
        · rw [decide_eq_true h, h]
          exact decide_eq_true rfl
        · rw [decide_eq_false h]
          refine decide_eq_false fun z => h ?_
          have := V.int.inj z
          omega
      rw [eV]
      cases eL : decide (ds.length = (legL rs).length) with
      | false =>
        refine iteF ?_
        have := q H2 (s1.trans s2)
        rw [e1, eL] at this
        exact this
      | true =>
        refine iteT ?_
        rw [eL, Bool.true_and] at e1
        have s12 := s1.trans s2
        refine ⟨.ref x, rfl, x, T.a_Atlas, dx, _, _, rfl, s2 _ _ h1, T.cl_Atlas, T.nf_Atlas_box, fl_box b n l, .ref a, rfl, b, a, box, us, ds, rfl, sqt_same s2 hbx, h8, hs.same s12, dpa_same s12 _ _ hda, fun H3 s3 h => ⟨rfl, ?_⟩, fun H3 i d3 s3 hi hm hno => ⟨rfl, ?_⟩⟩
        · have := q H3 (s12.trans s3)
          rw [e1, due_of box ds h] at this
          exact this
        · have := q H3 (s12.trans s3)
          have e2 : dueL box ds = false := Bool.eq_false_iff.mpr fun z => by
            rw [due_more box ds z hi] at hno
            cases hno
          rw [e1, e2] at this
          exact this
--@@SPLIT
def spIsLot : Sp := fun vs H Q _ => ∃ i : Int, vs = [.int i] ∧ 0 ≤ i ∧ i ≤ 7 ∧ Q (.bl true) H
def spRefuse : Sp := fun vs H Q _ => ∃ i : Int, vs = [.int i] ∧ 0 ≤ i ∧ i ≤ 7 ∧ Q .non H
def spMirrors : Sp := fun vs H Q _ => ∃ i : Int, vs = [.int i] ∧ Q (.bl (decide (4 ≤ i))) H
def spTrue : Sp := fun vs H Q _ => ∃ (a : Fin 8) (l : Fin 4), vs = [.int a.val, .str (Lt l)] ∧ Q (.str (Lt (tr a l))) H
def spShown : Sp := fun vs H Q _ => ∃ (a : Fin 8) (l : Fin 4), vs = [.int a.val, .str (Lt l)] ∧ Q (.str (Lt (tr (un a) l))) H
def spUndone : Sp := fun vs H Q _ => ∃ (a : Fin 8), vs = [.int a.val] ∧ Q (.int (un a).val) H
def spBoth : Sp := fun vs H Q _ => ∃ (a b : Fin 8), vs = [.int a.val, .int b.val] ∧ Q (.int (bo a b).val) H
theorem f8 (a : Fin 8) : (0 : Int) ≤ a.val ∧ (a.val : Int) ≤ 7 := by omega
theorem ok_is_whole (T : Top w K mg) : FnOk P w K mg base CX0 1 T.a_is_whole T.fd_is_whole ["thing"] spWhole := by
  refine T.F_is_whole.ok sc_is_whole (fun vs H Q E h => ?_) (fun cdv A outer s H vs Q E hr h => ?_)
  · obtain ⟨i, rfl, _⟩ := h
    rfl
  · obtain ⟨i, rfl, q⟩ := h
    refine ⟨_, (pss_one (ps_ret (pe_and (pe_callB call_isi (by rfl) T.m_isinstance (by decide +kernel) (pa_cons (pv 0) (pa_cons (pe_bltn (v := .ty "int") (by rfl) T.m_int (by decide +kernel) rfl) pa_nil))) (pe_one (pe_not (pe_callB call_isi (by rfl) T.m_isinstance (by decide +kernel) (pa_cons (pv 0) (pa_cons (pe_bltn (v := .ty "bool") (by rfl) T.m_bool (by decide +kernel) rfl) pa_nil)))))))), ?_⟩
    refine ⟨.int i, rfl, _, _, _, _, true, rfl, .ty _, .base (.int i), kit_ty (by decide +kernel), _, rfl, iteT ?_⟩
    exact ⟨.int i, rfl, _, _, _, _, false, rfl, .ty _, .base (.int i), kit_ty (by decide +kernel), _, rfl, q⟩
theorem ok_is_lot (T : Top w K mg) : FnOk P w K mg base CX0 2 T.a_is_lot T.fd_is_lot ["thing"] spIsLot := by
  have G_is_whole := ok_is_whole (P := P) (w := w) (base := base) T
  refine T.F_is_lot.ok sc_is_lot (fun vs H Q E h => ?_) (fun cdv A outer s H vs Q E hr h => ?_)
  · obtain ⟨i, rfl, _⟩ := h
    rfl
  · obtain ⟨i, rfl, h0, h7, q⟩ := h
    refine ⟨_, (pss_one (ps_ret (pe_and (pe_call G_is_whole hr (by rfl) T.g_is_whole T.F_is_whole.kp T.b_is_whole .nil pass0 (pa_cons (pv 0) pa_nil)) (pe_one (pe_chain op_le op_le pe_int (pv 0) pe_int))))), ?_⟩
    refine ⟨.int i, rfl, i, rfl, _, rfl, iteT ?_⟩
    refine ⟨.int i, rfl, _, _, rfl, rfl, _, rfl, ite2 (fun e => ?_) (fun e => absurd (decide_eq_true h0) e)⟩
    refine ⟨_, _, rfl, rfl, ?_⟩
    show Q (.bl (decide (i ≤ 7))) H
    rw [decide_eq_true h7]
    exact q
theorem ok_refuse_unless_lot (T : Top w K mg) : FnOk P w K mg base CX0 3 T.a_refuse_unless_lot T.fd_refuse_unless_lot ["thing"] spRefuse := by
  have G_is_lot := ok_is_lot (P := P) (w := w) (base := base) T
  refine T.F_refuse_unless_lot.ok sc_refuse_unless_lot (fun vs H Q E h => ?_) (fun cdv A outer s H vs Q E hr h => ?_)
  · obtain ⟨i, rfl, _⟩ := h
    rfl
  · obtain ⟨i, rfl, h0, h7, q⟩ := h
    refine ⟨_, (pss_one (ps_if (pt_not (pt_val (pe_call G_is_lot hr (by rfl) T.g_is_lot T.F_is_lot.kp T.b_is_lot .nil pass0 (pa_cons (pv 0) pa_nil)))) (pss_one ps_never) pss_nil)), ?_⟩
    exact ⟨.int i, rfl, i, rfl, h0, h7, _, rfl, iteF q⟩
theorem ok_mirrors (T : Top w K mg) : FnOk P w K mg base CX0 1 T.a_mirrors T.fd_mirrors ["lot"] spMirrors := by
  refine T.F_mirrors.ok sc_mirrors (fun vs H Q E h => ?_) (fun cdv A outer s H vs Q E hr h => ?_)
  · obtain ⟨i, rfl, _⟩ := h
    rfl
  · obtain ⟨i, rfl, q⟩ := h
    exact ⟨_, (pss_one (ps_ret (pe_cmpR op_ge (pv 0) pe_int (nomark _)))), .int i, rfl, _, _, rfl, rfl, q⟩
theorem ok_true (T : Top w K mg) : FnOk P w K mg base CX0 4 T.a_true T.fd_true ["lot", "letter"] spTrue := by
  have G_refuse_unless_lot := ok_refuse_unless_lot (P := P) (w := w) (base := base) T
  have G_mirrors := ok_mirrors (P := P) (w := w) (base := base) T
  refine T.F_true.ok sc_true (fun vs H Q E h => ?_) (fun cdv A outer s H vs Q E hr h => ?_)
  · obtain ⟨a, l, rfl, _⟩ := h
    rfl
  · obtain ⟨a, l, rfl, q⟩ := h
    refine ⟨_, (pss_cons (ps_expr (pe_call G_refuse_unless_lot hr (by rfl) T.g_refuse_unless_lot T.F_refuse_unless_lot.kp T.b_refuse_unless_lot .nil pass0 (pa_cons (pv 0) pa_nil)))
      (pss_cons (ps_set (i := 2) sc_true.nd rfl (.inl rfl) (pe_bm PySem.F.plainAttrs_str PySem.F.slot_str_index PySem.F.type_str_index mt_sindex (pe_glob (v := .str "nesw") (by rfl) T.g_LETTERS.choose_spec ⟨_, rfl⟩) (pa_cons (pv 1) pa_nil)))
      (pss_cons (ps_if (pt_val (pe_call G_mirrors (hr.mono (by decide)) (by rfl) T.g_mirrors T.F_mirrors.kp T.b_mirrors .nil pass0 (pa_cons (pv 0) pa_nil))) (pss_one (ps_ret (pe_ix ix_str (pe_glob (v := .str "nesw") (by rfl) T.g_LETTERS.choose_spec ⟨_, rfl⟩) (pe_op op_mod (pe_op op_sub (pv 0) (pv 2)) pe_int) (fun _ _ => rfl)))) pss_nil)
      (pss_one (ps_ret (pe_ix ix_str (pe_glob (v := .str "nesw") (by rfl) T.g_LETTERS.choose_spec ⟨_, rfl⟩) (pe_op op_mod (pe_op op_add (pv 0) (pv 2)) pe_int) (fun _ _ => rfl))))))), ?_⟩
    refine ⟨.int a.val, rfl, a.val, rfl, (f8 a).1, (f8 a).2, ?_⟩
    refine ⟨rfl, _, rfl, _, _, l.val, [], rfl, rfl, occ l, ?_⟩
    refine ⟨.int a.val, rfl, a.val, rfl, _, rfl, ite2 (fun e => ?_) (fun e => ?_)⟩
    · have e1 : (4 : Int) ≤ a.val := of_decide_eq_true e
      exact ⟨.int a.val, rfl, _, rfl, _, _, rfl, rfl, _, _, rfl, rfl, by show (0 : Int) < 4; decide, _, _, _, rfl, rfl, nesw_len, at_mir a l e1, q⟩
    · have e1 : ¬ (4 : Int) ≤ a.val := fun z => e (decide_eq_true z)
      exact ⟨.int a.val, rfl, _, rfl, _, _, rfl, rfl, _, _, rfl, rfl, by show (0 : Int) < 4; decide, _, _, _, rfl, rfl, nesw_len, at_tur a l e1, q⟩
def spStep (K : PySem.W.Frag) : Sp := fun vs H Q _ => ∃ (l : Fin 4), vs = [.str (Lt l)] ∧ ∀ q, (∀ H', SqT K H' q [.int (dx l), .int (dy l)]) → Q (.ref q) H
theorem steps_at (T : Top w K mg) : ∀ l : Fin 4, ∃ q, KDct K w T.a_STEPS (Lt l) (.ref q) ∧ ∀ H, SqT K H q [.int (dx l), .int (dy l)]
  | 0 => by rw [← lt0]; exact T.v_STEPS_0
  | 1 => by rw [← lt1]; exact T.v_STEPS_1
  | 2 => by rw [← lt2]; exact T.v_STEPS_2
  | 3 => by rw [← lt3]; exact T.v_STEPS_3
theorem ok_step (T : Top w K mg) : FnOk P w K mg base CX0 1 T.a_step T.fd_step ["letter"] (spStep K) := by
  refine T.F_step.ok sc_step (fun vs H Q E h => ?_) (fun cdv A outer s H vs Q E hr h => ?_)
  · obtain ⟨l, rfl, _⟩ := h
    rfl
  · obtain ⟨l, rfl, q⟩ := h
    obtain ⟨r, hk, ht⟩ := steps_at T l
    exact ⟨_, (pss_one (ps_ret (pe_ix ix_kdict (pe_glob (v := .ref T.a_STEPS) (by rfl) T.g_STEPS rfl) (pv 0) (fun _ _ => rfl)))), .str (Lt l), rfl, _, _, _, rfl, rfl, hk, q r ht⟩
def lotV (a : Fin 8) : V := .int (a.val : Nat)
/-! ### the program's track -/
def spRefL (K : PySem.W.Frag) : Sp := fun vs H Q _ => ∃ (e l : Addr) (xs : List V) (es : List Ent) (lots : List (Fin 8)), vs = [.ref e, .ref l] ∧ SqA K H e xs ∧ Rows K H xs es ∧ SqA K H l (lots.map lotV) ∧ lots.length = 1 + swaps es ∧ es.length ≤ 200 ∧ ∀ H', Same H H' → Q .non H'
theorem lot_at {lots : List (Fin 8)} {i : Nat} {v : V} (h : (lots.map lotV)[i]? = some v) : ∃ a, lots[i]? = some a ∧ v = lotV a := by
  rw [List.getElem?_map] at h
  cases e : lots[i]? with
  | none => rw [e] at h; cases h
  | some a => rw [e] at h; exact ⟨a, rfl, (Option.some.inj h).symm⟩
theorem ok_refuse_unless_lots (T : Top w K mg) : FnOk P w K mg base CX0 3 T.a_refuse_unless_lots T.fd_refuse_unless_lots ["log", "lots"] (spRefL K) := by
  have G_legs_in := ok_legs_in (P := P) (w := w) (base := base) T
  have G_is_lot := ok_is_lot (P := P) (w := w) (base := base) T
  refine T.F_refuse_unless_lots.ok sc_refuse_unless_lots (fun vs H Q E h => ?_) (fun cdv A outer s H vs Q E hr h => ?_)
  · obtain ⟨e, l, xs, es, lots, rfl, _⟩ := h
    rfl
  · obtain ⟨e, l, xs, es, lots, rfl, hs, ha, hl, hn, hlen, q⟩ := h
    refine ⟨_, (pss_cons (ps_set (i := 2) sc_refuse_unless_lots.nd rfl (.inl rfl) (pe_call G_legs_in (hr.mono (by decide)) (by rfl) T.g_legs_in T.F_legs_in.kp T.b_legs_in .nil pass0 (pa_cons (pv 0) pa_nil)))
      (pss_cons (ps_if (pt_cmpR op_ne (pe_callB call_len_seq (by rfl) T.m_len (by decide +kernel) (pa_cons (pv 1) pa_nil)) (pv 2) (nomark _)) (pss_one ps_never) pss_nil)
      (pss_one (ps_for PassesOwn.never rfl (SeqW.pi_enumA (by rfl) T.m_enumerate (pa_cons (pv 1) pa_nil)) (pg_tup rfl (pgs_cons (pg_name (i := 3) sc_refuse_unless_lots.nd rfl (.inl rfl)) (pgs_cons (pg_name (i := 4) sc_refuse_unless_lots.nd rfl (.inl rfl)) pgs_nil))) (pss_one (ps_if (pt_not (pt_val (pe_call G_is_lot hr (by rfl) T.g_is_lot T.F_is_lot.kp T.b_is_lot .nil pass0 (pa_cons (pv 4) pa_nil)))) (pss_one ps_never) pss_nil)))))), ?_⟩
    refine ⟨.ref e, rfl, e, xs, es, rfl, hs, ha, hlen, fun H1 s1 => ?_⟩
    refine ⟨.ref l, rfl, l, _, rfl, hl.same s1, _, rfl, rfl, _, rfl, iteN (by rw [List.length_map, hn]; show V.int ((1 + swaps es : Nat) : Int) = .int (1 + (swaps es : Int)); congr 1) ?_⟩
    refine ⟨.ref l, rfl, l, _, rfl, (fun H' => Same H H'), kpA hl, s1, fun J G wk hG => for_it wk (fun i σ H' => Same H1 H' ∧ ∃ y3 y4, σ = [some (.ref e), some (.ref l), some (.int (1 + (swaps es : Int))), y3, y4]) ⟨Same.refl _, none, none, rfl⟩ (fun i σ H' _ h => hG _ (s1.trans h.1)) ?_ ?_⟩
    · rintro i v σ H2 H3 hi ⟨sm, y3, y4, rfl⟩ ⟨t, u1, u2, rfl, nt, rfl, e1, e2⟩
      cases e1
      obtain ⟨a, _, rfl⟩ := lot_at e2
      refine ⟨t, _, rfl, .inl (.inl upd_same), rfl, _, _, rfl, _, _, rfl, rfl, ?_⟩
      exact ⟨_, rfl, _, rfl, (f8 a).1, (f8 a).2, _, rfl, iteF ⟨sm.trans (same_upd nt), _, _, rfl⟩⟩
    · rintro σ H2 ⟨sm, y3, y4, rfl⟩
      exact q _ (s1.trans sm)
def spLook (K : PySem.W.Frag) : Sp := fun vs H Q _ => ∃ (v : V) (e : Ent) (a : Fin 8) (look : Option (Fin 4)), vs = [v, lotV a, .str (lk look)] ∧ EntAt K H v e ∧ (e.need = true → look.isSome = true) ∧ Q (.str (lk (nlook a look e))) H
theorem at_turn : ∀ (l : Fin 4) (q : Fin 3), atI nesw.cps.toList (((l.val : Int) + ((tq q).val : Int)) % 4) = some (cd (l + tq q)) := by decide +kernel
theorem turnQ (T : Top w K mg) : ∀ (q : Fin 3), KDct K w T.a_QUARTERS (ws (Ent.kind (.turn q))) (.int ((tq q).val : Int))
  | 0 => T.v_QUARTERS_2
  | 1 => T.v_QUARTERS_0
  | 2 => T.v_QUARTERS_1
def Ent.isTurn : Ent → Bool
  | .turn _ => true
  | _ => false
theorem inQ (e : Ent) : (([PySem.Str.ofString "right", PySem.Str.ofString "back", PySem.Str.ofString "left"] : List Str).any fun s => s == ws e.kind) = e.isTurn := by
  have h : ∀ k : Fin 10, (([PySem.Str.ofString "right", PySem.Str.ofString "back", PySem.Str.ofString "left"] : List Str).any fun s => s == ws k) = decide (k = 1 ∨ k = 2 ∨ k = 3) := by decide +kernel
  rw [h]
  cases e with
  | turn q => match q with
    | 0 => rfl
    | 1 => rfl
    | 2 => rfl
  | _ => rfl
theorem isf (e : Ent) : decide (V.str (ws e.kind) = V.str (PySem.Str.ofString "face")) = e.isFace := (wsd e.kind 0).trans e.face_iff.symm
theorem ok_look_behind (T : Top w K mg) : FnOk P w K mg base CX0 5 T.a_look_behind T.fd_look_behind ["entry", "lot", "look"] (spLook K) := by
  have G_true := ok_true (P := P) (w := w) (base := base) T
  refine T.F_look_behind.ok sc_look_behind (fun vs H Q E h => ?_) (fun cdv A outer s H vs Q E hr h => ?_)
  · obtain ⟨v, e, a, look, rfl, _⟩ := h
    rfl
  · obtain ⟨v, e, a, look, rfl, ⟨p, us, rfl, hq, hu⟩, hn, q⟩ := h
    refine ⟨_, (pss_cons (ps_set (i := 3) sc_look_behind.nd rfl (.inl rfl) (pe_ix (r := rIx K) (SeqW.ix_seqK rfl) (pv 0) pe_int (fun _ _ => rfl)))
      (pss_cons (ps_if (pt_cmpR op_eq (pv 3) pe_str (nomark _)) (pss_one (ps_ret (pe_call G_true hr (by rfl) T.g_true T.F_true.kp T.b_true .nil pass0 (pa_cons (pv 1) (pa_cons (pe_ix (r := rIx K) (SeqW.ix_seqK rfl) (pv 0) pe_int (fun _ _ => rfl)) pa_nil))))) pss_nil)
      (pss_cons (ps_if (pt_cmpR (op_in_kd T.kd_QUARTERS) (pv 3) (pe_glob (v := .ref T.a_QUARTERS) (by rfl) T.g_QUARTERS rfl) (by rfl)) (pss_one (ps_ret (pe_ix ix_str (pe_glob (v := .str "nesw") (by rfl) T.g_LETTERS.choose_spec ⟨_, rfl⟩) (pe_op op_mod (pe_op op_add (pe_bm PySem.F.plainAttrs_str PySem.F.slot_str_index PySem.F.type_str_index mt_sindex (pe_glob (v := .str "nesw") (by rfl) T.g_LETTERS.choose_spec ⟨_, rfl⟩) (pa_cons (pv 2) pa_nil)) (pe_ix ix_kdict (pe_glob (v := .ref T.a_QUARTERS) (by rfl) T.g_QUARTERS rfl) (pv 3) (fun _ _ => rfl))) pe_int) (fun _ _ => rfl)))) pss_nil)
      (pss_one (ps_ret (pv 2)))))), ?_⟩
    refine ⟨.ref p, rfl, ixA (j := 0) hq rfl ⟨_, rfl, rfl, _, rfl, ?_⟩⟩
    rw [isf]
    obtain ⟨r, h1, h2⟩ := T.ns_QUARTERS (ws e.kind)
    rw [inQ] at h2
    cases e with
    | face l =>
      cases hu with
      | cons h3 h4 =>
        cases h3
        cases h4
        exact iteT ⟨_, rfl, .ref p, rfl, ixA (j := 1) hq rfl ⟨a, l, rfl, q⟩⟩
    | turn k =>
      cases look with
      | none => cases hn rfl
      | some l =>
        refine iteF ⟨_, rfl, _, r, rfl, rfl, h1, _, rfl, ?_⟩
        rw [h2]
        exact iteT ⟨rfl, _, rfl, _, _, l.val, [], rfl, rfl, occ l, _, rfl, _, _, _, rfl, rfl, turnQ T k, _, _, rfl, rfl, _, _, rfl, rfl, by show (0 : Int) < 4; decide, _, _, _, rfl, rfl, nesw_len, at_turn l k, q⟩
    | _ =>
      refine iteF ⟨_, rfl, _, r, rfl, rfl, h1, _, rfl, ?_⟩
      rw [h2]
      exact iteF ⟨_, rfl, q⟩
def spGone (K : PySem.W.Frag) : Sp := fun vs H Q _ => ∃ (p : Addr) (e n m : Int) (l : Fin 4), vs = [.ref p, .str (Lt l), .int m] ∧ SqT K H p [.int e, .int n] ∧ ∀ q, H q = none → Q (.ref q) (upd H q (.tup [.int (e + m * dx l), .int (n + m * dy l)]))
theorem ok_gone (T : Top w K mg) : FnOk P w K mg base CX0 2 T.a_gone T.fd_gone ["place", "letter", "many"] (spGone K) := by
  have G_step := ok_step (P := P) (w := w) (base := base) T
  refine T.F_gone.ok sc_gone (fun vs H Q E h => ?_) (fun cdv A outer s H vs Q E hr h => ?_)
  · obtain ⟨p, e, n, m, l, rfl, _⟩ := h
    rfl
  · obtain ⟨p, e, n, m, l, rfl, hp, q⟩ := h
    refine ⟨_, (pss_cons (ps_asg (pe_call G_step hr (by rfl) T.g_step T.F_step.kp T.b_step .nil pass0 (pa_cons (pv 1) pa_nil)) (pg_tup rfl (pgs_cons (pg_name (i := 3) sc_gone.nd rfl (.inl rfl)) (pgs_cons (pg_name (i := 4) sc_gone.nd rfl (.inl rfl)) pgs_nil))))
      (pss_one (ps_ret (pe_tup (pa_cons (pe_op op_add (pe_ix ix_tup (pv 0) pe_int (fun _ _ => rfl)) (pe_op op_mul (pv 2) (pv 3))) (pa_cons (pe_op op_add (pe_ix ix_tup (pv 0) pe_int (fun _ _ => rfl)) (pe_op op_mul (pv 2) (pv 4))) pa_nil)))))), ?_⟩
    refine ⟨.str (Lt l), rfl, l, rfl, fun q0 hq => ⟨q0, _, rfl, hq _, rfl, _, _, rfl, _, _, rfl, rfl, ?_⟩⟩
    refine ⟨.ref p, rfl, p, _, 0, .int e, rfl, rfl, hp, rfl, .int m, rfl, _, rfl, m, dx l, rfl, rfl, .inr (dxb l), _, _, rfl, rfl, ?_⟩
    exact ⟨.ref p, rfl, p, _, 1, .int n, rfl, rfl, hp, rfl, .int m, rfl, _, rfl, m, dy l, rfl, rfl, .inr (dyb l), _, _, rfl, rfl, by show 2 ≤ sizeLine; decide, fun r nr => q r nr⟩
--@@SPLIT
def spTrack (K : PySem.W.Frag) : Sp := fun vs H Q _ => ∃ (e l : Addr) (xs : List V) (es : List Ent) (lots : List (Fin 8)), vs = [.ref e, .ref l] ∧ SqA K H e xs ∧ Rows K H xs es ∧ SqA K H l (lots.map lotV) ∧ lots.length = 1 + swaps es ∧ es.length ≤ 200 ∧ Right es ∧ ∀ H' r, Same H H' → Dp K H' (.ref r) (trackD lots es) → Q (.ref r) H'
theorem go_of_kind {e : Ent} (h : e.kind = 4) : ∃ n, e = .go n := by
  cases e with
  | go n => exact ⟨n, rfl⟩
  | turn q => exact absurd h (by match q with | 0 => decide | 1 => decide | 2 => decide)
  | _ => cases h
theorem one_int {K : PySem.W.Frag} {H : Hp} {us : List V} {i : Int} (h : DpAll K H us [.int i]) : ∃ v1, us = [v1] ∧ v1 = V.int i := by
  cases h with
  | cons h1 h2 =>
    cases h1
    cases h2
    exact ⟨_, rfl, rfl⟩
theorem isg (e : Ent) : decide (V.str (ws e.kind) = V.str (PySem.Str.ofString "go")) = decide (e.kind = 4) := wsd e.kind 4
theorem ok_track (T : Top w K mg) : FnOk P w K mg base CX0 6 T.a_track T.fd_track ["log", "lots"] (spTrack K) := by
  have G_refuse_unless_lots := ok_refuse_unless_lots (P := P) (w := w) (base := base) T
  have G_look_behind := ok_look_behind (P := P) (w := w) (base := base) T
  have G_gone := ok_gone (P := P) (w := w) (base := base) T
  obtain ⟨q0, hS, hS0⟩ := T.v_START
  refine T.F_track.ok sc_track (fun vs H Q E h => ?_) (fun cdv A outer s H vs Q E hr h => ?_)
  · obtain ⟨e, l, xs, es, lots, rfl, _⟩ := h
    rfl
  · obtain ⟨e, l, xs, es, lots, rfl, hs, ha, hl, hn, hlen, hR, q⟩ := h
    have lx := ha.len
    refine ⟨_, (pss_cons (ps_expr (pe_call G_refuse_unless_lots (hr.mono (by decide)) (by rfl) T.g_refuse_unless_lots T.F_refuse_unless_lots.kp T.b_refuse_unless_lots .nil pass0 (pa_cons (pv 0) (pa_cons (pv 1) pa_nil))))
      (pss_cons (ps_asg (pe_glob (v := .ref T.a_START) (by rfl) T.g_START rfl) (pg_tup rfl (pgs_cons (pg_name (i := 2) sc_track.nd rfl (.inl rfl)) (pgs_cons (pg_name (i := 3) sc_track.nd rfl (.inl rfl)) pgs_nil))))
      (pss_cons (ps_set (i := 4) sc_track.nd rfl (.inl rfl) pe_int)
      (pss_cons (ps_set (i := 5) sc_track.nd rfl (.inl rfl) (pe_lst pa_nil))
      (pss_cons (ps_for PassesOwn.never rfl (SeqW.pi_seq (pv 0)) (pg_name (i := 6) sc_track.nd rfl (.inl rfl)) (Evl.pss_cut (ps_if (pt_cmpR op_eq (pe_ix (r := rIx K) (SeqW.ix_seqK rfl) (pv 6) pe_int (fun _ _ => rfl)) pe_str (nomark _)) (pss_one (ps_aug (i := 4) sc_track.nd rfl (.inl rfl) pe_int ip_add)) pss_nil)
      (pss_cons (ps_set (i := 3) sc_track.nd rfl (.inl rfl) (pe_call G_look_behind hr (by rfl) T.g_look_behind T.F_look_behind.kp T.b_look_behind .nil pass0 (pa_cons (pv 6) (pa_cons (pe_ix (r := rIx K) (SeqW.ix_seqK rfl) (pv 1) (pv 4) (fun _ _ => rfl)) (pa_cons (pv 3) pa_nil)))))
      (pss_cons (ps_if (pt_cmpR op_eq (pe_ix (r := rIx K) (SeqW.ix_seqK rfl) (pv 6) pe_int (fun _ _ => rfl)) pe_str (nomark _)) (pss_one (ps_set (i := 2) sc_track.nd rfl (.inl rfl) (pe_call G_gone (hr.mono (by decide)) (by rfl) T.g_gone T.F_gone.kp T.b_gone .nil pass0 (pa_cons (pv 2) (pa_cons (pv 3) (pa_cons (pe_ix (r := rIx K) (SeqW.ix_seqK rfl) (pv 6) pe_int (fun _ _ => rfl)) pa_nil)))))) pss_nil)
      (pss_one (ps_expr (pe_bm PySem.F.plainAttrs_list PySem.F.slot_list_append PySem.F.type_list_append mt_append (pv 5) (pa_cons (pe_tup (pa_cons (pv 2) (pa_cons (pv 3) pa_nil))) pa_nil))))))))
      (pss_one (ps_ret (pe_callTy call_tuple_of (by rfl) T.m_tuple (by decide +kernel) (pa_cons (pv 5) pa_nil))))))))), ?_⟩
    refine ⟨.ref e, rfl, .ref l, rfl, e, l, xs, es, lots, rfl, hs, ha, hl, hn, hlen, fun H1 s1 => ?_⟩
    refine ⟨T.a_START, _, rfl, hS _, rfl, _, _, rfl, _, _, rfl, rfl, ?_⟩
    refine ⟨Nat.zero_le _, fun S nS => ?_⟩
    have s2 := s1.trans (same_upd (o := .lst []) nS)
    have nS0 : H S = none := s1.free nS
    refine ⟨.ref e, rfl, e, xs, rfl, (fun H' => Same H H'), kpA hs, s2, fun J G wk hG => for_it wk (fun i σ H' => Same H H' ∧ ∃ pl ys y6, σ = [some (.ref e), some (.ref l), some (.ref pl), some (.str (lk (wat lots es i).look)), some (.int ((wat lots es i).leg : Nat)), some (.ref S), y6] ∧ SqT K (wo H' (fun b => b = S)) pl [.int (wat lots es i).x, .int (wat lots es i).y] ∧ H' S = some (.lst ys) ∧ DpAll K (wo H' (fun b => b = S)) ys (trackL lots es i))
      ⟨s2, q0, [], none, by rw [wat_zero]; rfl, by rw [wat_zero]; exact hS0 _, upd_same, .nil⟩ (fun i σ H' _ h => hG _ h.1) ?_ ?_⟩
    · rintro i v σ H2 H3 hi ⟨sm, pl, ys, y6, rfl, hpl, eS, hy⟩ ⟨rfl, hx⟩
      obtain ⟨en, fe, hen⟩ := (ha.same sm).at_ hx
      have hen0 := hen
      obtain ⟨a, us, rfl, hq, hu⟩ := hen
      have hw := wat_succ (lots := lots) fe
      have il : i < es.length := (List.getElem?_eq_some_iff.mp fe).1
      refine ⟨fun σ' H' => H3 = H' ∧ σ' = [some (.ref e), some (.ref l), some (.ref pl), some (.str (lk (wat lots es i).look)), some (.int ((wat lots es (i + 1)).leg : Nat)), some (.ref S), some (.ref a)], ?_, ?_⟩
      · refine ⟨.ref a, rfl, ixA (j := 0) hq rfl ⟨rfl, _, rfl, ?_⟩⟩
        rw [isw]
        have e1 : (wat lots es (i + 1)).leg = nleg (wat lots es i).leg en := by rw [hw]; rfl
        rw [e1]
        unfold nleg
        cases en.isSwap with
        | true => exact iteT ⟨_, rfl, _, _, rfl, rfl, rfl, rfl⟩
        | false => exact iteF ⟨rfl, rfl⟩
      rintro σ' H4 ⟨rfl, rfl⟩
      have lg : (wat lots es (i + 1)).leg < lots.length := by
        have h1 := wat_leg lots es (i + 1)
        have h2 := swaps_take es (i + 1)
        omega
      obtain ⟨lot, flot⟩ : ∃ lot, lots[(wat lots es (i + 1)).leg]? = some lot := ⟨_, List.getElem?_eq_getElem lg⟩
      have fl2 : (lots.map lotV)[(wat lots es (i + 1)).leg]? = some (lotV lot) := by rw [List.getElem?_map, flot]; rfl
      have e2 : (wat lots es (i + 1)).look = nlook lot (wat lots es i).look en := by
        have : lots.getD (wat lots es (i + 1)).leg 0 = lot := by rw [List.getD_eq_getElem?_getD, flot]; rfl
        rw [hw] at this ⊢
        show nlook (lots.getD (nleg (wat lots es i).leg en) 0) _ en = _
        rw [show lots.getD (nleg (wat lots es i).leg en) 0 = lot from this]
      have nl : en.need = true → (wat lots es i).look.isSome = true := fun h => by
        rw [wat_look]
        exact hR i en fe h
      refine ⟨.ref a, rfl, .ref l, rfl, _, rfl, ixA (hl.same sm) fl2 ⟨_, rfl, .ref a, en, lot, (wat lots es i).look, rfl, hen0, nl, ?_⟩⟩
      rw [← e2]
      refine ⟨.ref a, rfl, ixA (j := 0) hq rfl ⟨rfl, _, rfl, ?_⟩⟩
      rw [isg]
      have put : ∀ (H5 : Hp) (pl' : Addr), Same H3 H5 → SqT K (wo H5 (fun b => b = S)) pl' [.int (wat lots es (i + 1)).x, .int (wat lots es (i + 1)).y] → ∀ t, H5 t = none → ∃ l' b ys', V.ref S = .ref l' ∧ [V.ref t] = [b] ∧ upd H5 t (.tup [.ref pl', .str (lk (wat lots es (i + 1)).look)]) l' = some (.lst ys') ∧ ys'.length < sizeLine ∧ Same H (upd (upd H5 t (.tup [.ref pl', .str (lk (wat lots es (i + 1)).look)])) l' (.lst (ys' ++ [b]))) ∧ SqT K (wo (upd (upd H5 t (.tup [.ref pl', .str (lk (wat lots es (i + 1)).look)])) l' (.lst (ys' ++ [b]))) (fun b => b = S)) pl' [.int (wat lots es (i + 1)).x, .int (wat lots es (i + 1)).y] ∧ (∃ zs, (upd (upd H5 t (.tup [.ref pl', .str (lk (wat lots es (i + 1)).look)])) l' (.lst (ys' ++ [b]))) S = some (.lst zs) ∧ DpAll K (wo (upd (upd H5 t (.tup [.ref pl', .str (lk (wat lots es (i + 1)).look)])) l' (.lst (ys' ++ [b]))) (fun b => b = S)) zs (trackL lots es (i + 1))) := fun H5 pl' s5 hpl' t nt => by
        have st := same_upd (o := .tup [.ref pl', .str (lk (wat lots es (i + 1)).look)]) nt
        have eS5 := s5 _ _ eS
        have tS : t ≠ S := Ne.symm (ne_of_none eS5 nt)
        have m5 : Same (wo H3 (fun b => b = S)) (wo H5 (fun b => b = S)) := fun c o h => by
          have h2 := wo_some h
          rw [wo_in (X := fun b => b = S) h2.1]
          exact s5 _ _ h2.2
        have m6 : Same (wo H5 (fun b => b = S)) (wo (upd H5 t (.tup [.ref pl', .str (lk (wat lots es (i + 1)).look)])) (fun b => b = S)) := fun c o h => by
          have h2 := wo_some h
          rw [wo_in (X := fun b => b = S) h2.1]
          exact st _ _ h2.2
        have m7 : Same (wo (upd H5 t (.tup [.ref pl', .str (lk (wat lots es (i + 1)).look)])) (fun b => b = S)) (wo (upd (upd H5 t (.tup [.ref pl', .str (lk (wat lots es (i + 1)).look)])) S (.lst (ys ++ [.ref t]))) (fun b => b = S)) := wo_mut rfl
        have ly := dpa_len2 hy
        have lt : (trackL lots es i).length = i := by unfold trackL; rw [List.length_map, List.length_range]
        refine ⟨S, .ref t, ys, rfl, rfl, st _ _ eS5, small1000 (by omega), fun c o h => ?_, sqt_same (m6.trans m7) hpl', ys ++ [.ref t], upd_same, ?_⟩
        · rw [upd_ne (ne_of_none h nS0)]
          exact st _ _ (s5 _ _ (sm _ _ h))
        · rw [trackL_succ]
          refine dpa_snoc (.tup (.inl (.inl ?_)) (.cons (.tup (sqt_same (m6.trans m7) hpl') (.cons (.int _) (.cons (.int _) .nil))) (.cons (.str _) .nil))) _ _ (dpa_same (m5.trans (m6.trans m7)) _ _ hy)
          rw [wo_in (X := fun b => b = S) tS, upd_ne tS]
          exact upd_same
      by_cases hg : en.kind = 4
      · obtain ⟨n, rfl⟩ := go_of_kind hg
        obtain ⟨v1, rfl, hv1⟩ : ∃ v1, us = [v1] ∧ v1 = V.int ((n.val : Int) + 1) := one_int hu
        subst hv1
        obtain ⟨lt, elk⟩ : ∃ lt, (wat lots es i).look = some lt := Option.isSome_iff_exists.mp (nl rfl)
        have e3 : (wat lots es (i + 1)).look = some lt := by rw [e2, elk]; rfl
        refine iteDY (decide_eq_true rfl) ⟨_, rfl, _, rfl, .ref a, rfl, ixA (j := 1) hq rfl ⟨pl, (wat lots es i).x, (wat lots es i).y, (n.val : Int) + 1, lt, by rw [e3]; rfl, sqt_same wo_same hpl, fun p2 np2 => ?_⟩⟩
        have sp := same_upd (o := .tup [.int ((wat lots es i).x + ((n.val : Int) + 1) * dx lt), .int ((wat lots es i).y + ((n.val : Int) + 1) * dy lt)]) np2
        have ex : (wat lots es (i + 1)).x = (wat lots es i).x + ((n.val : Int) + 1) * dx lt := by
          rw [hw]
          show nx _ (wat lots es i).look (.go n) = _
          rw [elk]
          rfl
        have ey : (wat lots es (i + 1)).y = (wat lots es i).y + ((n.val : Int) + 1) * dy lt := by
          rw [hw]
          show ny _ (wat lots es i).look (.go n) = _
          rw [elk]
          rfl
        refine ⟨.ref S, rfl, .inl ⟨rfl, _, .inl (.inl (sp _ _ eS))⟩, _, rfl, _, rfl, by show 2 ≤ sizeLine; decide, fun t nt => ?_⟩
        have pS : p2 ≠ S := Ne.symm (ne_of_none eS np2)
        obtain ⟨l', b, ys', h1, h2, h3, h4, h5, h6, zs, h7, h8⟩ := put _ p2 sp (by rw [ex, ey]; exact .inl (.inl (by rw [wo_in (X := fun b => b = S) pS]; exact upd_same))) t nt
        exact ⟨l', ys', b, h1, h2, h3, h4, h5, p2, zs, _, rfl, h6, h7, h8⟩
      · have ex : (wat lots es (i + 1)).x = (wat lots es i).x := by
          rw [hw]
          cases en with
          | go n => exact absurd rfl hg
          | _ => rfl
        have ey : (wat lots es (i + 1)).y = (wat lots es i).y := by
          rw [hw]
          cases en with
          | go n => exact absurd rfl hg
          | _ => rfl
        refine iteDN (decide_eq_false hg) ⟨.ref S, rfl, .inl ⟨rfl, _, .inl (.inl eS)⟩, _, rfl, _, rfl, by show 2 ≤ sizeLine; decide, fun t nt => ?_⟩
        obtain ⟨l', b, ys', h1, h2, h3, h4, h5, h6, zs, h7, h8⟩ := put _ pl (Same.refl _) (by rw [ex, ey]; exact hpl) t nt
        exact ⟨l', ys', b, h1, h2, h3, h4, h5, pl, zs, _, rfl, h6, h7, h8⟩
    · rintro σ H2 ⟨sm, pl, ys, y6, rfl, hpl, eS, hy⟩
      refine ⟨.ref S, rfl, S, ys, rfl, .inl ⟨.inl (.inl eS), fun r nr => ?_⟩⟩
      have sr := same_upd (o := .tup ys) nr
      refine q _ r (sm.trans sr) (.tup (.inl (.inl upd_same)) ?_)
      rw [lx] at hy
      exact dpa_same (wo_same.trans sr) _ _ hy
--@@SPLIT
def spLtrue : Sp := fun vs H Q _ => ∃ (a : Fin 8) (l : Fin 4), vs = [.int a.val, .str (Lt l)] ∧ Q (.str (Lt (tr a l))) H
theorem at_tur2 : ∀ (a : Fin 8) (l : Fin 4), (a.val : Int) < 4 → atI nesw.cps.toList (((l.val : Int) + (a.val : Int)) % 4) = some (cd (tr a l)) := by decide +kernel
theorem at_mir2 : ∀ (a : Fin 8) (l : Fin 4), ¬ (a.val : Int) < 4 → atI nesw.cps.toList (((a.val : Int) - (l.val : Int)) % 4) = some (cd (tr a l)) := by decide +kernel
theorem ok_Ltrue (T : Top w K mg) : FnOk P w K mg base CX0 1 T.a_Ltrue T.fd_Ltrue ["_law_lot", "_law_letter"] spLtrue := by
  refine T.F_Ltrue.ok sc_Ltrue (fun vs H Q E h => ?_) (fun cdv A outer s H vs Q E hr h => ?_)
  · obtain ⟨a, l, rfl, _⟩ := h
    rfl
  · obtain ⟨a, l, rfl, q⟩ := h
    refine ⟨_, (pss_cons (ps_set (i := 2) sc_Ltrue.nd rfl (.inl rfl) (pe_bm PySem.F.plainAttrs_str PySem.F.slot_str_index PySem.F.type_str_index mt_sindex pe_str (pa_cons (pv 1) pa_nil)))
      (pss_one (ps_ret (pe_ix ix_str pe_str (pe_ifExp (pt_cmpR op_lt (pv 0) pe_int (nomark _)) (pe_op op_mod (pe_op op_add (pv 2) (pv 0)) pe_int) (pe_op op_mod (pe_op op_sub (pv 0) (pv 2)) pe_int)) (fun _ _ => rfl))))), ?_⟩
    refine ⟨rfl, _, rfl, _, _, l.val, [], rfl, rfl, occ l, ?_⟩
    refine ⟨.int a.val, rfl, _, _, rfl, rfl, _, rfl, ite2 (fun e => ?_) (fun e => ?_)⟩
    · have e1 : (a.val : Int) < 4 := of_decide_eq_true e
      exact ⟨_, rfl, .int a.val, rfl, _, _, rfl, rfl, _, _, rfl, rfl, by show (0 : Int) < 4; decide, _, _, _, rfl, rfl, nesw_len, at_tur2 a l e1, q⟩
    · have e1 : ¬ (a.val : Int) < 4 := fun z => e (decide_eq_true z)
      exact ⟨.int a.val, rfl, _, rfl, _, _, rfl, rfl, _, _, rfl, rfl, by show (0 : Int) < 4; decide, _, _, _, rfl, rfl, nesw_len, at_mir2 a l e1, q⟩
def spOff (K : PySem.W.Frag) : Sp := fun vs H Q _ => ∃ (p : Addr) (e n m : Int) (l : Fin 4), vs = [.ref p, .str (Lt l), .int m] ∧ SqT K H p [.int e, .int n] ∧ ∀ H' q, Same H H' → H q = none → H' q = some (.tup [.int (e + m * dx l), .int (n + m * dy l)]) → Q (.ref q) H'
theorem ok_Loff (T : Top w K mg) : FnOk P w K mg base CX0 1 T.a_Loff T.fd_Loff ["_law_place", "_law_letter", "_law_many"] (spOff K) := by
  refine T.F_Loff.ok sc_Loff (fun vs H Q E h => ?_) (fun cdv A outer s H vs Q E hr h => ?_)
  · obtain ⟨p, e, n, m, l, rfl, _⟩ := h
    rfl
  · obtain ⟨p, e, n, m, l, rfl, hp, q⟩ := h
    refine ⟨_, (pss_cons (ps_asg (pe_dget (hu_of hr) (pe_disp (pps_cons pe_str (pe_tup (pa_cons pe_int (pa_cons pe_int pa_nil))) (pps_cons pe_str (pe_tup (pa_cons pe_int (pa_cons pe_int pa_nil))) (pps_cons pe_str (pe_tup (pa_cons pe_int (pa_cons (pe_un un_neg pe_int) pa_nil))) (pps_cons pe_str (pe_tup (pa_cons (pe_un un_neg pe_int) (pa_cons pe_int pa_nil))) pps_nil)))) (by rfl) (by rfl) (fun z => by cases z) (by decide)) (pv 1) (fun _ _ => rfl)) (pg_tup rfl (pgs_cons (pg_name (i := 3) sc_Loff.nd rfl (.inl rfl)) (pgs_cons (pg_name (i := 4) sc_Loff.nd rfl (.inl rfl)) pgs_nil))))
      (pss_one (ps_ret (pe_tup (pa_cons (pe_op op_add (pe_ix ix_tup (pv 0) pe_int (fun _ _ => rfl)) (pe_op op_mul (pv 2) (pv 3))) (pa_cons (pe_op op_add (pe_ix ix_tup (pv 0) pe_int (fun _ _ => rfl)) (pe_op op_mul (pv 2) (pv 4))) pa_nil)))))), ?_⟩
    intro d nd
    refine ⟨by show 2 ≤ sizeLine; decide, fun t1 n1 => ⟨by show 2 ≤ sizeLine; decide, fun t2 n2 => ⟨_, rfl, by show 2 ≤ sizeLine; decide, fun t3 n3 => ⟨_, rfl, by show 2 ≤ sizeLine; decide, fun t4 n4 => ?_⟩⟩⟩⟩
    have s0 := same_upd (o := .dK []) nd
    have s1 := same_upd (o := .tup [.int 0, .int 1]) n1
    have s2 := same_upd (o := .tup [.int 1, .int 0]) n2
    have s3 := same_upd (o := .tup [.int 0, .int (-1)]) n3
    have s4 := same_upd (o := .tup [.int (-1), .int 0]) n4
    have ed := s4 _ _ (s3 _ _ (s2 _ _ (s1 _ _ (upd_same (H := H) (a := d) (o := .dK [])))))
    refine ⟨ed, [(Sum.inr (PySem.Str.ofString "n"), .ref t1), (Sum.inr (PySem.Str.ofString "e"), .ref t2), (Sum.inr (PySem.Str.ofString "s"), .ref t3), (Sum.inr (PySem.Str.ofString "w"), .ref t4)], rfl, Nat.le_of_ble_eq_true rfl, ?_⟩
    refine ⟨.str (Lt l), rfl, d, ?_⟩
    have key : ∃ t, valV (mergeK [] [((Sum.inr (PySem.Str.ofString "n") : Key), V.ref t1), (Sum.inr (PySem.Str.ofString "e"), .ref t2), (Sum.inr (PySem.Str.ofString "s"), .ref t3), (Sum.inr (PySem.Str.ofString "w"), .ref t4)]) (Sum.inr (Lt l)) = some (.ref t) ∧
        (upd (upd (upd (upd (upd H d (.dK [])) t1 (.tup [.int 0, .int 1])) t2 (.tup [.int 1, .int 0])) t3 (.tup [.int 0, .int (-1)])) t4 (.tup [.int (-1), .int 0])) t = some (.tup [.int (dx l), .int (dy l)]) := by
      rw [lt0, lt1, lt2, lt3]
      match l with
      | 0 => exact ⟨t1, rfl, s4 _ _ (s3 _ _ (s2 _ _ upd_same))⟩
      | 1 => exact ⟨t2, rfl, s4 _ _ (s3 _ _ upd_same)⟩
      | 2 => exact ⟨t3, rfl, s4 _ _ upd_same⟩
      | 3 => exact ⟨t4, rfl, upd_same⟩
    obtain ⟨t, kt, et⟩ := key
    have sAll := (((s0.trans s1).trans s2).trans s3).trans s4
    have sD : Same H (upd (upd (upd (upd (upd (upd H d (.dK [])) t1 (.tup [.int 0, .int 1])) t2 (.tup [.int 1, .int 0])) t3 (.tup [.int 0, .int (-1)])) t4 (.tup [.int (-1), .int 0])) d (.dK (mergeK [] [((Sum.inr (PySem.Str.ofString "n") : Key), V.ref t1), (Sum.inr (PySem.Str.ofString "e"), .ref t2), (Sum.inr (PySem.Str.ofString "s"), .ref t3), (Sum.inr (PySem.Str.ofString "w"), .ref t4)]))) := fun b x h => by
      rw [upd_ne (ne_of_none h nd)]
      exact sAll _ _ h
    have ntd : t ≠ d := ne_of et ed (by intro z; cases z)
    refine ⟨.ref t, rfl, ?_, ?_⟩
    · have g := DGet.k (k := Sum.inr (Lt l)) (H := upd (upd (upd (upd (upd (upd H d (.dK [])) t1 (.tup [.int 0, .int 1])) t2 (.tup [.int 1, .int 0])) t3 (.tup [.int 0, .int (-1)])) t4 (.tup [.int (-1), .int 0])) d (.dK (mergeK [] [((Sum.inr (PySem.Str.ofString "n") : Key), V.ref t1), (Sum.inr (PySem.Str.ofString "e"), .ref t2), (Sum.inr (PySem.Str.ofString "s"), .ref t3), (Sum.inr (PySem.Str.ofString "w"), .ref t4)]))) (a := d) upd_same
      rw [kt] at g
      exact g
    · refine ⟨t, [.int (dx l), .int (dy l)], rfl, .inl (.inl ?_), rfl, _, _, rfl, _, _, rfl, rfl, ?_⟩
      · rw [upd_ne ntd]
        exact et
      · refine ⟨.ref p, rfl, p, _, 0, .int e, rfl, rfl, sqt_same sD hp, rfl, .int m, rfl, _, rfl, m, dx l, rfl, rfl, .inr (dxb l), _, _, rfl, rfl, ?_⟩
        refine ⟨.ref p, rfl, p, _, 1, .int n, rfl, rfl, sqt_same sD hp, rfl, .int m, rfl, _, rfl, m, dy l, rfl, rfl, .inr (dyb l), _, _, rfl, rfl, by show 2 ≤ sizeLine; decide, fun r nr => ?_⟩
        exact q _ r (sD.trans (same_upd nr)) (sD.free nr) upd_same
--@@SPLIT
/-! ### facts -/
def wx (x : Int) : Fin 4 → Int
  | 3 => x - 1
  | _ => x
def wy (y : Int) : Fin 4 → Int
  | 2 => y - 1
  | _ => y
def wside : Fin 4 → Fin 4
  | 0 => 0
  | 1 => 1
  | 2 => 0
  | 3 => 1
def factD (i : Nat) (word : Str) (x y : Int) (what : Str) : PyData := .tuple [.int (i : Nat), .str word, .tuple [.int x, .int y], .str what]
def wayD (i : Nat) (word : Str) (x y : Int) (l : Fin 4) : PyData := factD i word (wx x l) (wy y l) (Lt (wside l))
def openL (i : Nat) (x y : Int) (l : Fin 4) (n : Nat) : List PyData := (List.range n).map fun k : Nat => wayD i "open" (x + (k : Int) * dx l) (y + (k : Int) * dy l) l
theorem openL_succ (i : Nat) (x y : Int) (l : Fin 4) (n : Nat) : openL i x y l (n + 1) = openL i x y l n ++ [wayD i "open" (x + (n : Int) * dx l) (y + (n : Int) * dy l) l] := by
  unfold openL
  rw [List.range_succ, List.map_append]
  rfl
def factsOf (i : Nat) (p : Wk) : Ent → List PyData
  | .sign z => [factD i "sign" p.x p.y z]
  | .bare => [factD i "bare" p.x p.y ""]
  | .spy n z => match p.look with
    | some l => [factD i "sign" (p.x + ((n.val : Int) + 1) * dx l) (p.y + ((n.val : Int) + 1) * dy l) z]
    | none => []
  | .go n => match p.look with
    | some l => openL i p.x p.y l (n.val + 1)
    | none => []
  | .bump => match p.look with
    | some l => [wayD i "shut" p.x p.y l]
    | none => []
  | _ => []
theorem factsOf_len (i : Nat) (p : Wk) (e : Ent) : (factsOf i p e).length ≤ 9 := by
  cases e with
  | go n =>
    unfold factsOf
    cases p.look with
    | none => exact Nat.zero_le _
    | some l =>
      show (openL i p.x p.y l (n.val + 1)).length ≤ 9
      unfold openL
      rw [List.length_map, List.length_range]
      omega
  | spy n z => unfold factsOf; cases p.look <;> simp
  | bump => unfold factsOf; cases p.look <;> simp
  | _ => unfold factsOf; simp
def factsAt (lots : List (Fin 8)) (es : List Ent) (i : Nat) : List PyData := match es[i]? with
  | some e => factsOf i (wat lots es i) e
  | none => []
theorem factsAt_eq {lots : List (Fin 8)} {es : List Ent} {i : Nat} {e : Ent} (h : es[i]? = some e) : factsAt lots es i = factsOf i (wat lots es i) e := by
  unfold factsAt
  rw [h]
def factsL (lots : List (Fin 8)) (es : List Ent) : Nat → List PyData
  | 0 => []
  | n + 1 => factsL lots es n ++ factsAt lots es n
theorem factsL_len (lots : List (Fin 8)) (es : List Ent) : ∀ n, (factsL lots es n).length ≤ 9 * n
  | 0 => Nat.le_refl _
  | n + 1 => by
    have h1 := factsL_len lots es n
    have h2 : (factsAt lots es n).length ≤ 9 := by
      unfold factsAt
      cases es[n]? with
      | none => exact Nat.zero_le _
      | some e => exact factsOf_len _ _ _
    show (factsL lots es n ++ factsAt lots es n).length ≤ _
    rw [List.length_append]
    omega
def factsD (lots : List (Fin 8)) (es : List Ent) : PyData := .tuple (factsL lots es es.length)
theorem sign_of_kind {e : Ent} (h : e.kind = 6) : ∃ z, e = .sign z := by
  cases e with
  | sign z => exact ⟨z, rfl⟩
  | turn q => exact absurd h (by match q with | 0 => decide | 1 => decide | 2 => decide)
  | _ => cases h
theorem spy_of_kind {e : Ent} (h : e.kind = 8) : ∃ n z, e = .spy n z := by
  cases e with
  | spy n z => exact ⟨n, z, rfl⟩
  | turn q => exact absurd h (by match q with | 0 => decide | 1 => decide | 2 => decide)
  | _ => cases h
theorem bare_of_kind {e : Ent} (h : e.kind = 7) : e = .bare := by
  cases e with
  | bare => rfl
  | turn q => exact absurd h (by match q with | 0 => decide | 1 => decide | 2 => decide)
  | _ => cases h
theorem bump_of_kind {e : Ent} (h : e.kind = 5) : e = .bump := by
  cases e with
  | bump => rfl
  | turn q => exact absurd h (by match q with | 0 => decide | 1 => decide | 2 => decide)
  | _ => cases h
/-! ### the program's facts -/
def spWay (K : PySem.W.Frag) : Sp := fun vs H Q _ => ∃ (p : Addr) (x y : Int) (l : Fin 4), vs = [.ref p, .str (Lt l)] ∧ SqT K H p [.int x, .int y] ∧ ∀ t, H t = none → Q (.ref t) (upd H t (.tup [.int (wx x l), .int (wy y l), .str (Lt (wside l))]))
theorem ok_way_of (T : Top w K mg) : FnOk P w K mg base CX0 1 T.a_way_of T.fd_way_of ["place", "letter"] (spWay K) := by
  refine T.F_way_of.ok sc_way_of (fun vs H Q E h => ?_) (fun cdv A outer s H vs Q E hr h => ?_)
  · obtain ⟨p, x, y, l, rfl, _⟩ := h
    rfl
  · obtain ⟨p, x, y, l, rfl, hp, q⟩ := h
    refine ⟨_, (pss_cons (ps_asg (pv 0) (pg_tup rfl (pgs_cons (pg_name (i := 2) sc_way_of.nd rfl (.inl rfl)) (pgs_cons (pg_name (i := 3) sc_way_of.nd rfl (.inl rfl)) pgs_nil))))
      (pss_cons (ps_if (pt_cmpR op_eq (pv 1) pe_str (nomark _)) (pss_one (ps_ret (pe_tup (pa_cons (pv 2) (pa_cons (pe_op op_sub (pv 3) pe_int) (pa_cons pe_str pa_nil)))))) pss_nil)
      (pss_cons (ps_if (pt_cmpR op_eq (pv 1) pe_str (nomark _)) (pss_one (ps_ret (pe_tup (pa_cons (pe_op op_sub (pv 2) pe_int) (pa_cons (pv 3) (pa_cons pe_str pa_nil)))))) pss_nil)
      (pss_one (ps_ret (pe_tup (pa_cons (pv 2) (pa_cons (pv 3) (pa_cons (pv 1) pa_nil))))))))), ?_⟩
    refine ⟨_, rfl, p, _, rfl, hp, rfl, _, _, rfl, _, _, rfl, rfl, ?_⟩
    refine ⟨_, rfl, rfl, _, rfl, ?_⟩
    rw [show decide (V.str (Lt l) = V.str (PySem.Str.ofString "s")) = decide (l = 2) by rw [lt2]; exact ltd l 2]
    match l, q with
    | 2, q => exact iteT ⟨_, rfl, _, rfl, _, _, rfl, rfl, by show 3 ≤ sizeLine; decide, fun t nt => q t nt⟩
    | 0, q =>
      refine iteF ⟨_, rfl, rfl, _, rfl, ?_⟩
      rw [show decide (V.str (Lt 0) = V.str (PySem.Str.ofString "w")) = decide ((0 : Fin 4) = 3) by rw [lt3]; exact ltd 0 3]
      exact iteF ⟨_, rfl, _, rfl, _, rfl, by show 3 ≤ sizeLine; decide, fun t nt => q t nt⟩
    | 1, q =>
      refine iteF ⟨_, rfl, rfl, _, rfl, ?_⟩
      rw [show decide (V.str (Lt 1) = V.str (PySem.Str.ofString "w")) = decide ((1 : Fin 4) = 3) by rw [lt3]; exact ltd 1 3]
      exact iteF ⟨_, rfl, _, rfl, _, rfl, by show 3 ≤ sizeLine; decide, fun t nt => q t nt⟩
    | 3, q =>
      refine iteF ⟨_, rfl, rfl, _, rfl, ?_⟩
      rw [show decide (V.str (Lt 3) = V.str (PySem.Str.ofString "w")) = decide ((3 : Fin 4) = 3) by rw [lt3]; exact ltd 3 3]
      exact iteT ⟨_, rfl, _, _, rfl, rfl, _, rfl, by show 3 ≤ sizeLine; decide, fun t nt => q t nt⟩
def spWayFact (K : PySem.W.Frag) : Sp := fun vs H Q _ => ∃ (p : Addr) (i : Nat) (z : Str) (x y : Int) (l : Fin 4), vs = [.int i, .str z, .ref p, .str (Lt l)] ∧ SqT K H p [.int x, .int y] ∧ ∀ H' u t, Same H H' → H u = none → H t = none → H' u = some (.tup [.int (wx x l), .int (wy y l)]) → H' t = some (.tup [.int i, .str z, .ref u, .str (Lt (wside l))]) → Q (.ref t) H'
theorem ok_way_fact (T : Top w K mg) : FnOk P w K mg base CX0 2 T.a_way_fact T.fd_way_fact ["at", "word", "place", "look"] (spWayFact K) := by
  have G_way_of := ok_way_of (P := P) (w := w) (base := base) T
  refine T.F_way_fact.ok sc_way_fact (fun vs H Q E h => ?_) (fun cdv A outer s H vs Q E hr h => ?_)
  · obtain ⟨p, i, z, x, y, l, rfl, _⟩ := h
    rfl
  · obtain ⟨p, i, z, x, y, l, rfl, hp, q⟩ := h
    refine ⟨_, (pss_cons (ps_asg (pe_call G_way_of hr (by rfl) T.g_way_of T.F_way_of.kp T.b_way_of .nil pass0 (pa_cons (pv 2) (pa_cons (pv 3) pa_nil))) (pg_tup rfl (pgs_cons (pg_name (i := 4) sc_way_fact.nd rfl (.inl rfl)) (pgs_cons (pg_name (i := 5) sc_way_fact.nd rfl (.inl rfl)) (pgs_cons (pg_name (i := 6) sc_way_fact.nd rfl (.inl rfl)) pgs_nil)))))
      (pss_one (ps_ret (pe_tup (pa_cons (pv 0) (pa_cons (pv 1) (pa_cons (pe_tup (pa_cons (pv 4) (pa_cons (pv 5) pa_nil))) (pa_cons (pv 6) pa_nil)))))))), ?_⟩
    refine ⟨_, rfl, _, rfl, p, x, y, l, rfl, hp, fun a na => ?_⟩
    have sa := same_upd (o := .tup [.int (wx x l), .int (wy y l), .str (Lt (wside l))]) na
    refine ⟨a, _, rfl, .inl (.inl upd_same), rfl, _, _, rfl, _, _, rfl, _, _, rfl, rfl, ?_⟩
    refine ⟨_, rfl, _, rfl, _, rfl, _, rfl, by show 2 ≤ sizeLine; decide, fun u nu => ⟨_, rfl, by show 4 ≤ sizeLine; decide, fun t nt => ?_⟩⟩
    have su := same_upd (o := .tup [.int (wx x l), .int (wy y l)]) nu
    have st := same_upd (o := .tup [.int (i : Int), .str z, .ref u, .str (Lt (wside l))]) nt
    exact q _ u t ((sa.trans su).trans st) (sa.free nu) ((sa.trans su).free nt) (st _ _ upd_same) upd_same
def Xk (X : Addr → Prop) (H : Hp) : Prop := ∀ b, X b → H b ≠ none
theorem Xk.same {X : Addr → Prop} {H H' : Hp} (x : Xk X H) (s : Same H H') : Xk X H' := fun b h => by
  cases o : H b with
  | none => exact absurd o (x b h)
  | some o' => rw [s b o' o]; exact fun z => nomatch z
theorem Xk.wo {X : Addr → Prop} {H H' : Hp} (s : Same H H') : Same (M.wo H X) (M.wo H' X) := fun b o h => by
  have h2 := wo_some h
  rw [wo_in (X := X) h2.1]
  exact s _ _ h2.2
theorem Xk.out {X : Addr → Prop} {H H' : Hp} {t : Addr} {o : HO} (x : Xk X H) (n : H t = none) (e : H' t = some o) : M.wo H' X t = some o := by
  rw [wo_in (X := X) (fun z => x t z n)]
  exact e
theorem way_dp {K : PySem.W.Frag} {H H' : Hp} {X : Addr → Prop} {i : Nat} {z : Str} {x y : Int} {l : Fin 4} {u t : Addr} (xk : Xk X H) (nu : H u = none) (nt : H t = none) (eu : H' u = some (.tup [.int (wx x l), .int (wy y l)])) (et : H' t = some (.tup [.int i, .str z, .ref u, .str (Lt (wside l))])) : Dp K (M.wo H' X) (.ref t) (wayD i z x y l) :=
  .tup (.inl (.inl (xk.out nt et))) (.cons (.int _) (.cons (.str _) (.cons (.tup (.inl (.inl (xk.out nu eu))) (.cons (.int _) (.cons (.int _) .nil))) (.cons (.str _) .nil))))
def spFactsOf (K : PySem.W.Frag) : Sp := fun vs H Q _ => ∃ (v : V) (p : Addr) (i : Nat) (k : Wk) (e : Ent) (X : Addr → Prop), vs = [.int i, v, .ref p, .str (lk k.look)] ∧ EntAt K H v e ∧ (e.need = true → k.look.isSome = true) ∧ Xk X H ∧ SqT K (M.wo H X) p [.int k.x, .int k.y] ∧ ∀ H' L ys, Same H H' → H L = none → H' L = some (.lst ys) → DpAll K (M.wo H' X) ys (factsOf i k e) → Q (.ref L) H'
theorem isk (e : Ent) (j : Fin 10) : decide (V.str (ws e.kind) = V.str (ws j)) = decide (e.kind = j) := wsd e.kind j
theorem ok_facts_of_entry (T : Top w K mg) : FnOk P w K mg base CX0 3 T.a_facts_of_entry T.fd_facts_of_entry ["at", "entry", "place", "look"] (spFactsOf K) := by
  have G_gone := ok_gone (P := P) (w := w) (base := base) T
  have G_way_fact := ok_way_fact (P := P) (w := w) (base := base) T
  refine T.F_facts_of_entry.ok sc_facts_of_entry (fun vs H Q E h => ?_) (fun cdv A outer s H vs Q E hr h => ?_)
  · obtain ⟨v, p, i, k, e, X, rfl, _⟩ := h
    rfl
  · obtain ⟨v, p, i, k, e, X, rfl, ⟨a, us, rfl, hq, hu⟩, hn, xk, hp, q⟩ := h
    refine ⟨_, (pss_cons (ps_set (i := 4) sc_facts_of_entry.nd rfl (.inl rfl) (pe_ix (r := rIx K) (SeqW.ix_seqK rfl) (pv 1) pe_int (fun _ _ => rfl)))
      (pss_cons (ps_if (pt_cmpR op_eq (pv 4) pe_str (nomark _)) (pss_one (ps_ret (pe_lst (pa_cons (pe_tup (pa_cons (pv 0) (pa_cons pe_str (pa_cons (pv 2) (pa_cons (pe_ix (r := rIx K) (SeqW.ix_seqK rfl) (pv 1) pe_int (fun _ _ => rfl)) pa_nil))))) pa_nil)))) pss_nil)
      (pss_cons (ps_if (pt_cmpR op_eq (pv 4) pe_str (nomark _)) (pss_one (ps_ret (pe_lst (pa_cons (pe_tup (pa_cons (pv 0) (pa_cons pe_str (pa_cons (pe_call G_gone hr (by rfl) T.g_gone T.F_gone.kp T.b_gone .nil pass0 (pa_cons (pv 2) (pa_cons (pv 3) (pa_cons (pe_ix (r := rIx K) (SeqW.ix_seqK rfl) (pv 1) pe_int (fun _ _ => rfl)) pa_nil)))) (pa_cons (pe_ix (r := rIx K) (SeqW.ix_seqK rfl) (pv 1) pe_int (fun _ _ => rfl)) pa_nil))))) pa_nil)))) pss_nil)
      (pss_cons (ps_if (pt_cmpR op_eq (pv 4) pe_str (nomark _)) (pss_one (ps_ret (pe_lst (pa_cons (pe_tup (pa_cons (pv 0) (pa_cons pe_str (pa_cons (pv 2) (pa_cons pe_str pa_nil))))) pa_nil)))) pss_nil)
      (pss_cons (ps_if (pt_cmpR op_eq (pv 4) pe_str (nomark _)) (pss_one (ps_ret (pe_lc (own := [("done", 5)]) (g := gName 5) (by rfl) sc_facts_of_entry.nd (pi_range1 (by rfl) T.m_range (pa_cons (pe_ix (r := rIx K) (SeqW.ix_seqK rfl) (pv 1) pe_int (fun _ _ => rfl)) pa_nil)) (blkOk_by (own := [("done", 5)]) (N := ["at", "entry", "place", "look", "word", "done"]) (sc := defScope s_facts_of_entry) (by decide +kernel)) (fun _ _ _ _ _ => (pg_name (i := 5) sc_facts_of_entry.nd rfl (Or.inl rfl))) (fun _ _ _ _ _ => pts_nil) (fun _ _ _ _ _ => (pe_call G_way_fact hr (by rfl) T.g_way_fact T.F_way_fact.kp T.b_way_fact .nil pass0 (pa_cons (pv 0) (pa_cons pe_str (pa_cons (pe_call G_gone hr (by rfl) T.g_gone T.F_gone.kp T.b_gone .nil pass0 (pa_cons (pv 2) (pa_cons (pv 3) (pa_cons (pv 5) pa_nil)))) (pa_cons (pv 3) pa_nil))))))))) pss_nil)
      (pss_cons (ps_if (pt_cmpR op_eq (pv 4) pe_str (nomark _)) (pss_one (ps_ret (pe_lst (pa_cons (pe_call G_way_fact hr (by rfl) T.g_way_fact T.F_way_fact.kp T.b_way_fact .nil pass0 (pa_cons (pv 0) (pa_cons pe_str (pa_cons (pv 2) (pa_cons (pv 3) pa_nil))))) pa_nil)))) pss_nil)
      (pss_one (ps_ret (pe_lst pa_nil))))))))), ?_⟩
    refine ⟨.ref a, rfl, ixA (j := 0) hq rfl ⟨_, rfl, rfl, _, rfl, ?_⟩⟩
    have hp0 := sqt_same wo_same hp
    have step1 : ∀ (j : Fin 10) (B C : Prop), (e.kind = j → B) → (e.kind ≠ j → C) → if decide (V.str (ws e.kind) = V.str (ws j)) = true then B else C := fun j B C h1 h2 => by
      rw [isk]
      exact ite2 (fun z => h1 (of_decide_eq_true z)) (fun z => h2 (fun y => z (decide_eq_true y)))
    refine step1 6 _ _ (fun h6 => ?_) (fun h6 => ⟨_, rfl, rfl, _, rfl, step1 8 _ _ (fun h8 => ?_) (fun h8 => ⟨_, rfl, rfl, _, rfl, step1 7 _ _ (fun h7 => ?_) (fun h7 => ⟨_, rfl, rfl, _, rfl, step1 4 _ _ (fun h4 => ?_) (fun h4 => ⟨_, rfl, rfl, _, rfl, step1 5 _ _ (fun h5 => ?_) (fun h5 => ?_)⟩)⟩)⟩)⟩)
    · obtain ⟨z, rfl⟩ : ∃ z, e = .sign z := sign_of_kind h6
      obtain ⟨v1, rfl, rfl⟩ : ∃ v1, us = [v1] ∧ v1 = V.str z := by
        cases hu with
        | cons h1 h2 => cases h1; cases h2; exact ⟨_, rfl, rfl⟩
      refine ⟨_, rfl, _, rfl, .ref a, rfl, ixA (j := 1) hq rfl ⟨by show 4 ≤ sizeLine; decide, fun t nt => ⟨by show 1 ≤ sizeLine; decide, fun L nL => ?_⟩⟩⟩
      have st := same_upd (o := .tup [.int (i : Int), .str "sign", .ref p, .str z]) nt
      have sL := same_upd (o := .lst [.ref t]) nL
      exact q _ L _ (st.trans sL) (st.free nL) upd_same (.cons (.tup (.inl (.inl (xk.out nt (sL _ _ upd_same)))) (.cons (.int _) (.cons (.str _) (.cons (.tup (sqt_same (Xk.wo (st.trans sL)) hp) (.cons (.int _) (.cons (.int _) .nil))) (.cons (.str _) .nil))))) .nil)
    · obtain ⟨n, z, rfl⟩ : ∃ n z, e = .spy n z := spy_of_kind h8
      obtain ⟨v1, v2, rfl, rfl, rfl⟩ : ∃ v1 v2, us = [v1, v2] ∧ v1 = V.int ((n.val : Int) + 1) ∧ v2 = V.str z := by
        cases hu with
        | cons h1 h2 =>
          cases h1
          cases h2 with
          | cons h3 h4 => cases h3; cases h4; exact ⟨_, _, rfl, rfl, rfl⟩
      obtain ⟨l, el⟩ := Option.isSome_iff_exists.mp (hn rfl)
      refine ⟨_, rfl, _, rfl, _, rfl, .ref a, rfl, ixA (j := 1) hq rfl ⟨p, k.x, k.y, (n.val : Int) + 1, l, by rw [el]; rfl, hp0, fun g ng => ?_⟩⟩
      have sg := same_upd (o := .tup [.int (k.x + ((n.val : Int) + 1) * dx l), .int (k.y + ((n.val : Int) + 1) * dy l)]) ng
      refine ⟨.ref a, rfl, ixA (j := 2) (hq.same sg) rfl ⟨by show 4 ≤ sizeLine; decide, fun t nt => ⟨by show 1 ≤ sizeLine; decide, fun L nL => ?_⟩⟩⟩
      have st := same_upd (o := .tup [.int (i : Int), .str "sign", .ref g, .str z]) nt
      have sL := same_upd (o := .lst [.ref t]) nL
      refine q _ L _ ((sg.trans st).trans sL) ((sg.trans st).free nL) upd_same ?_
      have ef : factsOf i k (.spy n z) = [factD i "sign" (k.x + ((n.val : Int) + 1) * dx l) (k.y + ((n.val : Int) + 1) * dy l) z] := by
        unfold factsOf
        rw [el]
      rw [ef]
      exact .cons (.tup (.inl (.inl (xk.out (sg.free nt) (sL _ _ upd_same)))) (.cons (.int _) (.cons (.str _) (.cons (.tup (.inl (.inl (xk.out ng (sL _ _ (st _ _ upd_same))))) (.cons (.int _) (.cons (.int _) .nil))) (.cons (.str _) .nil))))) .nil
    · obtain rfl : e = .bare := bare_of_kind h7
      refine ⟨_, rfl, _, rfl, by show 4 ≤ sizeLine; decide, fun t nt => ⟨by show 1 ≤ sizeLine; decide, fun L nL => ?_⟩⟩
      have st := same_upd (o := .tup [.int (i : Int), .str "bare", .ref p, .str ""]) nt
      have sL := same_upd (o := .lst [.ref t]) nL
      exact q _ L _ (st.trans sL) (st.free nL) upd_same (.cons (.tup (.inl (.inl (xk.out nt (sL _ _ upd_same)))) (.cons (.int _) (.cons (.str _) (.cons (.tup (sqt_same (Xk.wo (st.trans sL)) hp) (.cons (.int _) (.cons (.int _) .nil))) (.cons (.str _) .nil))))) .nil)
    · obtain ⟨n, rfl⟩ := go_of_kind h4
      obtain ⟨v1, rfl, rfl⟩ := one_int hu
      obtain ⟨l, el⟩ := Option.isSome_iff_exists.mp (hn rfl)
      have ef : factsOf i k (.go n) = openL i k.x k.y l (n.val + 1) := by
        unfold factsOf
        rw [el]
      refine ⟨.ref a, rfl, ixA (j := 1) hq rfl ⟨(n.val : Int) + 1, rfl, by omega, by omega, fun D hD => lc_it (walk_range (n := ((n.val : Int) + 1 - 0).toNat)) (fun j H' => Same H H' ∧ ∃ ys : List V, ys.length = j ∧ DpAll K (M.wo H' (fun b => X b ∨ b = D)) ys (openL i k.x k.y l j) ∧ H' D = some (.lst ys)) ⟨same_upd hD, [], rfl, .nil, upd_same⟩ (fun _ _ _ _ => trivial) ?_ ?_⟩⟩
      · rintro j v H1 H2 hj ⟨sm, ys, ly, hy, eD⟩ ⟨rfl, rfl⟩
        have x1 : Xk (fun b => X b ∨ b = D) H2 := fun b h => h.elim ((xk.same sm) b) (fun z => by rw [z, eD]; exact fun y => nomatch y)
        refine ⟨rfl, _, rfl, _, rfl, _, rfl, _, rfl, p, k.x, k.y, _, l, by rw [el]; rfl, sqt_same sm hp0, fun g ng => ?_⟩
        have e0 : (0 : Int) + (j : Int) = j := by omega
        rw [e0] at *
        have sg := same_upd (o := .tup [.int (k.x + (j : Int) * dx l), .int (k.y + (j : Int) * dy l)]) ng
        refine ⟨_, rfl, g, i, _, k.x + (j : Int) * dx l, k.y + (j : Int) * dy l, l, by rw [el]; rfl, .inl (.inl upd_same), fun H3 u t s3 nu nt eu et => ?_⟩
        have s23 := sg.trans s3
        have m6 : Same (M.wo H3 (fun b => X b ∨ b = D)) (M.wo (upd H3 D (.lst (ys ++ [.ref t]))) (fun b => X b ∨ b = D)) := wo_mut (X := fun b => X b ∨ b = D) (.inr rfl)
        refine ⟨ys, s23 _ _ eD, small1000 (by omega), fun b o h => ?_, ys ++ [.ref t], by rw [List.length_append, ly]; rfl, ?_, upd_same⟩
        · rw [upd_ne (ne_of_none h hD)]
          exact s23 _ _ (sm _ _ h)
        · rw [openL_succ]
          exact dpa_snoc (dp_same m6 _ _ (way_dp (x1.same sg) nu nt eu et)) _ _ (dpa_same ((Xk.wo s23).trans m6) _ _ hy)
      · rintro H1 ⟨sm, ys, ly, hy, eD⟩
        have en : ((n.val : Int) + 1 - 0).toNat = n.val + 1 := by omega
        rw [en, ← ef] at hy
        exact q _ D ys sm hD eD (dpa_same (wo_less (fun b z => .inl z)) _ _ hy)
    · obtain rfl : e = .bump := bump_of_kind h5
      obtain ⟨l, el⟩ := Option.isSome_iff_exists.mp (hn rfl)
      refine ⟨_, rfl, _, rfl, _, rfl, p, i, _, k.x, k.y, l, by rw [el]; rfl, hp0, fun H3 u t s3 nu nt eu et => ⟨by show 1 ≤ sizeLine; decide, fun L nL => ?_⟩⟩
      have sL := same_upd (o := .lst [.ref t]) nL
      have ef : factsOf i k .bump = [wayD i "shut" k.x k.y l] := by
        unfold factsOf
        rw [el]
      refine q _ L _ (s3.trans sL) (s3.free nL) upd_same ?_
      rw [ef]
      exact .cons (way_dp xk nu nt (sL _ _ eu) (sL _ _ et)) .nil
    · refine ⟨Nat.zero_le _, fun L nL => q _ L _ (same_upd nL) nL upd_same ?_⟩
      have ef : factsOf i k e = [] := by
        cases e with
        | face l => rfl
        | turn q => rfl
        | swap => rfl
        | sign z => exact absurd rfl h6
        | spy n z => exact absurd rfl h8
        | bare => exact absurd rfl h7
        | go n => exact absurd rfl h4
        | bump => exact absurd rfl h5
      rw [ef]
      exact .nil
--@@SPLIT
theorem dpa_app {K : PySem.W.Frag} {H : Hp} : ∀ (ds es : List PyData) (xs ys : List V), DpAll K H xs ds → DpAll K H ys es → DpAll K H (xs ++ ys) (ds ++ es)
  | [], _, _, _, h, g => by cases h; exact g
  | d :: ds, es, _, ys, h, g => by
    cases h with
    | cons h1 h2 => exact .cons h1 (dpa_app ds es _ ys h2 g)
theorem dpa_dropK {K : PySem.W.Frag} {H : Hp} : ∀ (n : Nat) (ds : List PyData) (xs : List V), DpAll K H xs ds → DpAll K H (xs.drop n) (ds.drop n)
  | 0, _, _, h => h
  | n + 1, [], _, h => by cases h; exact .nil
  | n + 1, d :: ds, _, h => by
    cases h with
    | cons h1 h2 => exact dpa_dropK n ds _ h2
theorem dpa_takeK {K : PySem.W.Frag} {H : Hp} : ∀ (n : Nat) (ds : List PyData) (xs : List V), DpAll K H xs ds → DpAll K H (xs.take n) (ds.take n)
  | 0, _, _, _ => .nil
  | n + 1, [], _, h => by cases h; exact .nil
  | n + 1, d :: ds, _, h => by
    cases h with
    | cons h1 h2 => exact .cons h1 (dpa_takeK n ds _ h2)
theorem dpa_setK {K : PySem.W.Frag} {H : Hp} {v : V} {d : PyData} (hv : Dp K H v d) : ∀ (n : Nat) (ds : List PyData) (xs : List V), DpAll K H xs ds → ds[n]? = some d → DpAll K H (xs.set n v) ds
  | _, [], _, h, e => by cases e
  | 0, d' :: ds, _, h, e => by
    cases e
    cases h with
    | cons h1 h2 => exact .cons hv h2
  | n + 1, d' :: ds, _, h, e => by
    cases h with
    | cons h1 h2 => exact .cons h1 (dpa_setK hv n ds _ h2 e)
/-! ### all facts of a log -/
def posL (lots : List (Fin 8)) (es : List Ent) (n : Nat) : List PyData := (List.range n).map fun i : Nat => posD (wat lots es i)
theorem posL_eq (lots : List (Fin 8)) (es : List Ent) (n : Nat) : posL lots es (n + 1) = posD (wat lots es 0) :: trackL lots es n := by
  unfold posL trackL
  rw [List.range_succ_eq_map, List.map_cons, List.map_map]
  rfl
theorem posL_at {lots : List (Fin 8)} {es : List Ent} {n i : Nat} {d : PyData} (h : (posL lots es n)[i]? = some d) : d = posD (wat lots es i) := by
  unfold posL at h
  rw [List.getElem?_map] at h
  cases e : (List.range n)[i]? with
  | none => rw [e] at h; cases h
  | some j =>
    rw [e] at h
    obtain ⟨h1, h2⟩ := List.getElem?_eq_some_iff.mp e
    rw [List.getElem_range] at h2
    rw [← h2] at h
    exact (Option.some.inj h).symm
theorem pos_parts {K : PySem.W.Frag} {H : Hp} {v : V} {p : Wk} (h : Dp K H v (posD p)) : ∃ t pl, v = .ref t ∧ SqT K H t [.ref pl, .str (lk p.look)] ∧ SqT K H pl [.int p.x, .int p.y] := by
  cases h with
  | tup hs ha =>
    cases ha with
    | cons h1 h2 =>
      cases h2 with
      | cons h3 h4 =>
        cases h3
        cases h4
        cases h1 with
        | tup hp hq =>
          cases hq with
          | cons h5 h6 =>
            cases h5
            cases h6 with
            | cons h7 h8 =>
              cases h7
              cases h8
              exact ⟨_, _, rfl, hs, hp⟩
def spFacts (K : PySem.W.Frag) : Sp := fun vs H Q _ => ∃ (e l : Addr) (xs : List V) (es : List Ent) (lots : List (Fin 8)), vs = [.ref e, .ref l] ∧ SqA K H e xs ∧ Rows K H xs es ∧ SqA K H l (lots.map lotV) ∧ lots.length = 1 + swaps es ∧ es.length ≤ 100 ∧ Right es ∧ ∀ H' r, Same H H' → Dp K H' (.ref r) (factsD lots es) → Q (.ref r) H'
theorem ok_facts (T : Top w K mg) : FnOk P w K mg base CX0 7 T.a_facts T.fd_facts ["log", "lots"] (spFacts K) := by
  have G_track := ok_track (P := P) (w := w) (base := base) T
  have G_facts_of_entry := ok_facts_of_entry (P := P) (w := w) (base := base) T
  obtain ⟨q0, hS, hS0⟩ := T.v_START
  refine T.F_facts.ok sc_facts (fun vs H Q E h => ?_) (fun cdv A outer s H vs Q E hr h => ?_)
  · obtain ⟨e, l, xs, es, lots, rfl, _⟩ := h
    rfl
  · obtain ⟨e, l, xs, es, lots, rfl, hs, ha, hl, hn, hlen, hR, q⟩ := h
    have lx := ha.len
    refine ⟨_, (pss_cons (ps_set (i := 2) sc_facts.nd rfl (.inl rfl) (pe_call G_track hr (by rfl) T.g_track T.F_track.kp T.b_track .nil pass0 (pa_cons (pv 0) (pa_cons (pv 1) pa_nil))))
      (pss_cons (ps_set (i := 3) sc_facts.nd rfl (.inl rfl) (pe_lst (pa_cons (pe_glob (v := .ref T.a_START) (by rfl) T.g_START rfl) (StX.pa_star (pv 2) pa_nil))))
      (pss_cons (ps_set (i := 4) sc_facts.nd rfl (.inl rfl) (pe_lst pa_nil))
      (pss_cons (ps_for PassesOwn.never rfl (SeqW.pi_enumA (by rfl) T.m_enumerate (pa_cons (pv 0) pa_nil)) (pg_tup rfl (pgs_cons (pg_name (i := 5) sc_facts.nd rfl (.inl rfl)) (pgs_cons (pg_name (i := 6) sc_facts.nd rfl (.inl rfl)) pgs_nil))) (pss_cons (ps_asg (pe_ix ix_list (pv 3) (pv 5) (fun _ _ => rfl)) (pg_tup rfl (pgs_cons (pg_name (i := 7) sc_facts.nd rfl (.inl rfl)) (pgs_cons (pg_name (i := 8) sc_facts.nd rfl (.inl rfl)) pgs_nil))))
      (pss_one (ps_expr (pe_bm PySem.F.plainAttrs_list PySem.F.slot_list_extend PySem.F.type_list_extend mt_extend (pv 4) (pa_cons (pe_call G_facts_of_entry (hr.mono (by decide)) (by rfl) T.g_facts_of_entry T.F_facts_of_entry.kp T.b_facts_of_entry .nil pass0 (pa_cons (pv 5) (pa_cons (pv 6) (pa_cons (pv 7) (pa_cons (pv 8) pa_nil))))) pa_nil))))))
      (pss_one (ps_ret (pe_callTy call_tuple_of (by rfl) T.m_tuple (by decide +kernel) (pa_cons (pv 4) pa_nil)))))))), ?_⟩
    refine ⟨.ref e, rfl, .ref l, rfl, e, l, xs, es, lots, rfl, hs, ha, hl, hn, by omega, hR, fun H1 r s1 hr1 => ?_⟩
    obtain ⟨zs, hz1, hz2⟩ : ∃ zs, SqT K H1 r zs ∧ DpAll K H1 zs (trackL lots es es.length) := by
      cases hr1 with
      | tup h1 h2 => exact ⟨_, h1, h2⟩
    have lz := dpa_len2 hz2
    have lt : (trackL lots es es.length).length = es.length := by unfold trackL; rw [List.length_map, List.length_range]
    have hp : DpAll K H1 (.ref T.a_START :: zs) (posL lots es (es.length + 1)) := by
      rw [posL_eq, wat_zero]
      exact .cons (.tup (hS _) (.cons (.tup (hS0 _) (.cons (.int _) (.cons (.int _) .nil))) (.cons (.str _) .nil))) hz2
    refine ⟨.ref r, rfl, r, zs, rfl, .inl hz1, ?_, fun A0 nA => ?_⟩
    · show (.ref T.a_START :: (zs ++ [])).length ≤ sizeLine
      rw [List.append_nil]
      exact Nat.le_of_lt (small1000 (by rw [List.length_cons]; omega))
    refine ⟨Nat.zero_le _, fun F nF => ?_⟩
    have sA := same_upd (o := .lst (.ref T.a_START :: (zs ++ []))) nA
    have sF := same_upd (o := .lst []) nF
    have s2 := (s1.trans sA).trans sF
    have nF1 : H1 F = none := sA.free nF
    have AF : A0 ≠ F := ne_of_none upd_same nF
    refine ⟨.ref e, rfl, e, xs, rfl, (fun H' => Same H H'), kpA hs, s2, fun J G wk hG => for_it wk (fun i σ H' => Same H1 H' ∧ ∃ ys y5 y6 y7 y8, σ = [some (.ref e), some (.ref l), some (.ref r), some (.ref A0), some (.ref F), y5, y6, y7, y8] ∧ H' A0 = some (.lst (.ref T.a_START :: zs)) ∧ H' F = some (.lst ys) ∧ DpAll K (M.wo H' (fun b => b = F)) ys (factsL lots es i))
      ⟨sA.trans sF, [], none, none, none, none, rfl, sF _ _ (by rw [upd_same, List.append_nil]), upd_same, .nil⟩ (fun i σ H' _ h => hG _ (s1.trans h.1)) ?_ ?_⟩
    · rintro i v σ H2 H3 hi ⟨sm, ys, y5, y6, y7, y8, rfl, eA, eF, hy⟩ ⟨t, u1, u2, rfl, nt, rfl, e1, e2⟩
      cases e1
      have st := same_upd (o := .tup [.int (i : Nat), u2]) nt
      obtain ⟨en, fe, hen⟩ := (ha.same ((s1.trans sm).trans st)).at_ e2
      have il := (List.getElem?_eq_some_iff.mp fe).1
      obtain ⟨v, gv⟩ : ∃ v, (.ref T.a_START :: zs)[i]? = some v := ⟨_, List.getElem?_eq_getElem (by rw [List.length_cons]; omega)⟩
      have m3 : Same H1 (M.wo (upd H2 t (.tup [.int (i : Nat), u2])) (fun b => b = F)) := fun c o z => by
        rw [wo_in (X := fun b => b = F) (ne_of_none z nF1)]
        exact st _ _ (sm _ _ z)
      obtain ⟨d, fd, gd⟩ := dpa_at _ _ (dpa_same m3 _ _ hp) i v gv
      have := posL_at fd
      subst this
      obtain ⟨tp, pl, rfl, hp1, hp2⟩ := pos_parts gd
      have eF3 := st _ _ eF
      refine ⟨t, _, rfl, .inl (.inl upd_same), rfl, _, _, rfl, _, _, rfl, rfl, ?_⟩
      refine ⟨.ref A0, rfl, _, rfl, A0, _, _, _, rfl, rfl, .inl (.inl (st _ _ eA)), atI_nat gv, tp, _, rfl, sqt_same wo_same hp1, rfl, _, _, rfl, _, _, rfl, rfl, ?_⟩
      have nl : en.need = true → (wat lots es i).look.isSome = true := fun h => by
        rw [wat_look]
        exact hR i en fe h
      have xk : Xk (fun b => b = F) (upd H2 t (.tup [.int (i : Nat), u2])) := fun b h => by rw [h, eF3]; exact fun z => nomatch z
      refine ⟨.ref F, rfl, .inl ⟨rfl, _, .inl (.inl eF3)⟩, _, rfl, _, rfl, _, rfl, _, rfl, u2, pl, i, wat lots es i, en, (fun b => b = F), rfl, hen, nl, xk, hp2, fun H4 L fs s4 nL eL hf => ?_⟩
      have ly := dpa_len2 hy
      have lf := dpa_len2 hf
      have b1 := factsL_len lots es i
      have b2 := factsOf_len i (wat lots es i) en
      have m6 : Same (M.wo H4 (fun b => b = F)) (M.wo (upd H4 F (.lst (ys ++ fs))) (fun b => b = F)) := wo_mut rfl
      refine ⟨F, L, ys, fs, rfl, rfl, s4 _ _ eF3, eL, Nat.le_of_lt (small1000 (by omega)), fun c o z => ?_, ys ++ fs, _, _, _, _, rfl, ?_, upd_same, ?_⟩
      · rw [upd_ne (ne_of_none z nF1)]
        exact s4 _ _ (st _ _ (sm _ _ z))
      · rw [upd_ne AF]
        exact s4 _ _ (st _ _ eA)
      · show DpAll K _ (ys ++ fs) (factsL lots es i ++ factsAt lots es i)
        rw [factsAt_eq fe]
        exact dpa_app _ _ _ _ (dpa_same ((Xk.wo (st.trans s4)).trans m6) _ _ hy) (dpa_same m6 _ _ hf)
    · rintro σ H2 ⟨sm, ys, y5, y6, y7, y8, rfl, eA, eF, hy⟩
      refine ⟨.ref F, rfl, F, ys, rfl, .inl ⟨.inl (.inl eF), fun r2 nr => ?_⟩⟩
      have sr := same_upd (o := .tup ys) nr
      rw [lx] at hy
      exact q _ r2 ((s1.trans sm).trans sr) (.tup (.inl (.inl upd_same)) (dpa_same (wo_same.trans sr) _ _ hy))
--@@SPLIT
/-! ### the lots of one walker's legs -/
def nmD : PyData → Str
  | .tuple (.str n :: _) => n
  | _ => ⟨#[]⟩
def lotDt (a : Fin 8) : PyData := .int (a.val : Nat)
def pk (z : Str) (ps : List (PyData × Fin 8)) : List (Fin 8) := (ps.filter fun p => decide (nmD p.1 = z)).map (·.2)
theorem pk_succ {z : Str} {ps : List (PyData × Fin 8)} {i : Nat} {p : PyData × Fin 8} (h : ps[i]? = some p) : pk z (ps.take (i + 1)) = pk z (ps.take i) ++ (if decide (nmD p.1 = z) = true then [p.2] else []) := by
  unfold pk
  rw [List.take_add_one, h, List.filter_append, List.map_append]
  congr 1
  show List.map _ (List.filter _ [p]) = _
  cases e : decide (nmD p.1 = z) with
  | true => rw [List.filter_cons, if_pos e]; rfl
  | false => rw [List.filter_cons, if_neg (by rw [e]; exact Bool.false_ne_true)]; rfl
theorem pk_le (z : Str) (ps : List (PyData × Fin 8)) (i : Nat) : (pk z (ps.take i)).length ≤ i := by
  unfold pk
  rw [List.length_map]
  have h1 := List.length_filter_le (fun p : PyData × Fin 8 => decide (nmD p.1 = z)) (ps.take i)
  rw [List.length_take] at h1
  omega
theorem leg_shape (rs : List Row) : ∀ d ∈ legL rs, ∃ (n : Str) (k : Nat), d = .tuple [.str n, .int (k : Nat)] := fun d hd => by
  obtain ⟨r, _, hr⟩ := List.mem_flatMap.mp hd
  obtain ⟨k, _, rfl⟩ := List.mem_map.mp hr
  exact ⟨_, _, rfl⟩
theorem cnt_leg1 (r : Row) (z : Str) : ((List.range (1 + swaps r.2)).map fun (k : Nat) => PyData.tuple [.str r.1, .int (k : Nat)]).countP (fun d => decide (nmD d = z)) = if r.1 = z then 1 + swaps r.2 else 0 := by
  rw [List.countP_map]
  by_cases h : r.1 = z
  · rw [if_pos h]
    have : List.countP ((fun d => decide (nmD d = z)) ∘ fun (k : Nat) => PyData.tuple [.str r.1, .int (k : Nat)]) (List.range (1 + swaps r.2)) = (List.range (1 + swaps r.2)).length := List.countP_eq_length.mpr fun k _ => decide_eq_true h
    rw [this, List.length_range]
  · rw [if_neg h]
    exact List.countP_eq_zero.mpr fun k _ y => h (of_decide_eq_true y)
theorem cnt_none : ∀ (rs : List Row) (z : Str), z ∉ nms rs → (legL rs).countP (fun d => decide (nmD d = z)) = 0
  | [], _, _ => rfl
  | r :: rs, z, h => by
    show (((List.range (1 + swaps r.2)).map fun (k : Nat) => PyData.tuple [.str r.1, .int (k : Nat)]) ++ legL rs).countP _ = 0
    rw [List.countP_append, cnt_leg1, if_neg (fun e => h (List.mem_cons.mpr (.inl e.symm))), cnt_none rs z (fun m => h (List.mem_cons_of_mem _ m))]
theorem cnt_legs : ∀ (rs : List Row) (m : Nat) (r : Row), (nms rs).Nodup → rs[m]? = some r → (legL rs).countP (fun d => decide (nmD d = r.1)) = 1 + swaps r.2
  | [], _, _, _, h => by cases h
  | q :: rs, 0, r, nd, h => by
    cases h
    have nd2 := List.nodup_cons.mp (show (q.1 :: nms rs).Nodup from nd)
    show (((List.range (1 + swaps q.2)).map fun (k : Nat) => PyData.tuple [.str q.1, .int (k : Nat)]) ++ legL rs).countP _ = _
    rw [List.countP_append, cnt_leg1, if_pos rfl, cnt_none rs _ nd2.1, Nat.add_zero]
  | q :: rs, m + 1, r, nd, h => by
    have nd2 := List.nodup_cons.mp (show (q.1 :: nms rs).Nodup from nd)
    have hr : r.1 ∈ nms rs := List.mem_map.mpr ⟨r, List.mem_of_getElem? (show rs[m]? = some r from h), rfl⟩
    show (((List.range (1 + swaps q.2)).map fun (k : Nat) => PyData.tuple [.str q.1, .int (k : Nat)]) ++ legL rs).countP _ = _
    rw [List.countP_append, cnt_leg1, if_neg (fun e => nd2.1 (by rw [e]; exact hr)), cnt_legs rs m r nd2.2 h, Nat.zero_add]
theorem pk_len {rs : List Row} {lots : List (Fin 8)} {m : Nat} {r : Row} (nd : (nms rs).Nodup) (hm : rs[m]? = some r) (hl : lots.length = (legL rs).length) : (pk r.1 ((legL rs).zip lots)).length = 1 + swaps r.2 := by
  unfold pk
  rw [List.length_map, ← List.countP_eq_length_filter, ← cnt_legs rs m r nd hm]
  have e : ((legL rs).zip lots).map Prod.fst = legL rs := List.map_fst_zip (by omega)
  have h2 := List.countP_map (p := fun d => decide (nmD d = r.1)) (f := (Prod.fst : PyData × Fin 8 → PyData)) (l := (legL rs).zip lots)
  rw [e] at h2
  exact h2.symm
theorem zip_at {rs : List Row} {lots : List (Fin 8)} {i : Nat} {d : PyData} {a : Fin 8} (h1 : (legL rs)[i]? = some d) (h2 : lots[i]? = some a) : ((legL rs).zip lots)[i]? = some (d, a) := by
  rw [List.getElem?_zip_eq_some]
  exact ⟨h1, h2⟩
theorem leg_parts {K : PySem.W.Frag} {H : Hp} {v : V} {d : PyData} {rs : List Row} (h : Dp K H v d) (hd : d ∈ legL rs) : ∃ t k, v = .ref t ∧ SqT K H t [.str (nmD d), .int (k : Nat)] := by
  obtain ⟨n, k, rfl⟩ := leg_shape rs d hd
  cases h with
  | tup hs ha =>
    cases ha with
    | cons h1 h2 =>
      cases h1
      cases h2 with
      | cons h3 h4 =>
        cases h3
        cases h4
        exact ⟨_, k, rfl, hs⟩
theorem lots_dpa {K : PySem.W.Frag} {H : Hp} : ∀ lots : List (Fin 8), DpAll K H (lots.map lotV) (lots.map lotDt)
  | [] => .nil
  | a :: l => .cons (.int _) (lots_dpa l)
/-! ### told -/
def spRefD (K : PySem.W.Frag) (C : Addr) : Sp := fun vs H Q _ => ∃ (x l : Addr) (box : List Nat) (rs : List Row) (lots : List (Fin 8)), vs = [.ref x, .ref l] ∧ AtlasAt K C H x box rs ∧ box.length = 8 ∧ (∀ r ∈ rs, RowOk r) ∧ rs.length ≤ 60 ∧ SqA K H l (lots.map lotV) ∧ lots.length = (legL rs).length ∧ dueL box (lots.map lotDt) = true ∧ ∀ H', Same H H' → Q .non H'
theorem ok_refuse_unless_dealt (T : Top w K mg) : FnOk P w K mg base CX0 5 T.a_refuse_unless_dealt T.fd_refuse_unless_dealt ["atlas", "dealing"] (spRefD K T.a_Atlas) := by
  have G_first_not_dealt := ok_first_not_dealt (P := P) (w := w) (base := base) T
  have G_Atlas_len := ok_Atlas_len (P := P) (w := w) (base := base) T
  refine T.F_refuse_unless_dealt.ok sc_refuse_unless_dealt (fun vs H Q E h => ?_) (fun cdv A outer s H vs Q E hr h => ?_)
  · obtain ⟨x, l, box, rs, lots, rfl, _⟩ := h
    rfl
  · obtain ⟨x, l, box, rs, lots, rfl, hA, h8, hok, hlen, hl, hn, hdue, q⟩ := h
    refine ⟨_, (pss_cons (ps_if (pt_cmpR op_ne (pe_callB call_len_seq (by rfl) T.m_len (by decide +kernel) (pa_cons (pv 1) pa_nil)) (pe_callB (OwnI.call_lenO T.cl_Atlas T.me_Atlas_len G_Atlas_len hr T.b_Atlas_len) (by rfl) T.m_len (by decide +kernel) (pa_cons (pv 0) pa_nil)) (nomark _)) (pss_one ps_never) pss_nil)
      (pss_cons (ps_set (i := 2) sc_refuse_unless_dealt.nd rfl (.inl rfl) (pe_call G_first_not_dealt (hr.mono (by decide)) (by rfl) T.g_first_not_dealt T.F_first_not_dealt.kp T.b_first_not_dealt .nil pass0 (pa_cons (pe_fld (pv 0) rfl) (pa_cons (pv 1) pa_nil))))
      (pss_one (ps_if (pt_cmpR op_notN (pv 2) pe_non (nomark _)) (pss_one ps_never) pss_nil)))), ?_⟩
    have hA' := hA
    obtain ⟨dx, b, n, l5, ls, on, po, h1, hbx, _⟩ := hA'
    have ll := legL_len hok
    refine ⟨.ref l, rfl, l, _, rfl, hl, .ref x, rfl, x, dx, _, rfl, h1, x, box, rs, rfl, hA, hok, hlen, fun H2 s2 => ⟨_, rfl, Nat.le_trans (show (legL rs).length ≤ 100000 by omega) (by decide), rfl, _, rfl, iteN (by rw [List.length_map, hn]) ?_⟩⟩
    refine ⟨.ref x, rfl, x, T.a_Atlas, dx, _, _, rfl, s2 _ _ h1, T.cl_Atlas, T.nf_Atlas_box, fl_box b n l5, .ref l, rfl, b, l, box, _, _, rfl, sqt_same s2 hbx, h8, hl.same s2, lots_dpa lots, fun H3 s3 h => ?_, fun H3 i d3 s3 hi hm hno => ?_⟩
    · exact ⟨_, rfl, rfl, _, rfl, iteF (q _ (s2.trans s3))⟩
    · rw [due_more box _ hdue hi] at hno
      cases hno
def spTold (K : PySem.W.Frag) (C : Addr) : Sp := fun vs H Q _ => ∃ (x l : Addr) (box : List Nat) (rs : List Row) (lots : List (Fin 8)) (m : Nat) (r : Row), vs = [.ref x, .ref l, .str r.1] ∧ AtlasAt K C H x box rs ∧ box.length = 8 ∧ (∀ r ∈ rs, RowOk r) ∧ (nms rs).Nodup ∧ rs.length ≤ 60 ∧ SqA K H l (lots.map lotV) ∧ lots.length = (legL rs).length ∧ dueL box (lots.map lotDt) = true ∧ rs[m]? = some r ∧ ∀ H' t, Same H H' → Dp K H' (.ref t) (factsD (pk r.1 ((legL rs).zip lots)) r.2) → Q (.ref t) H'
theorem ok_told (T : Top w K mg) : FnOk P w K mg base CX0 8 T.a_told T.fd_told ["atlas", "dealing", "name"] (spTold K T.a_Atlas) := by
  have G_refuse_unless_dealt := ok_refuse_unless_dealt (P := P) (w := w) (base := base) T
  have G_Atlas_log := ok_Atlas_log (P := P) (w := w) (base := base) T
  have G_Atlas_legs := ok_Atlas_legs (P := P) (w := w) (base := base) T
  have G_facts := ok_facts (P := P) (w := w) (base := base) T
  refine T.F_told.ok sc_told (fun vs H Q E h => ?_) (fun cdv A outer s H vs Q E hr h => ?_)
  · obtain ⟨x, l, box, rs, lots, m, r, rfl, _⟩ := h
    rfl
  · obtain ⟨x, l, box, rs, lots, m, r, rfl, hA, h8, hok, hnd, hlen, hl, hn, hdue, hm, q⟩ := h
    refine ⟨_, (pss_cons (ps_expr (pe_call G_refuse_unless_dealt (hr.mono (by decide)) (by rfl) T.g_refuse_unless_dealt T.F_refuse_unless_dealt.kp T.b_refuse_unless_dealt .nil pass0 (pa_cons (pv 0) (pa_cons (pv 1) pa_nil))))
      (pss_cons (ps_set (i := 3) sc_told.nd rfl (.inl rfl) (pe_meth (pv 0) T.cl_Atlas T.me_Atlas_log G_Atlas_log (hr.mono (by decide)) T.b_Atlas_log .nil pass0 (pa_cons (pv 2) pa_nil)))
      (pss_one (ps_ret (pe_call G_facts hr (by rfl) T.g_facts T.F_facts.kp T.b_facts .nil pass0 (pa_cons (pv 3) (pa_cons (pe_lc (own := [("leg", 4), ("lot", 5)]) (g := gTup K 2 (gCons (gName 4) (gCons (gName 5) gNil))) (by rfl) sc_told.nd (ZipG.pi_zipG (by rfl) T.m_zip (pa_cons (pe_meth0 (pv 0) T.cl_Atlas T.me_Atlas_legs G_Atlas_legs (hr.mono (by decide)) T.b_Atlas_legs .nil pass0) (pa_cons (pv 1) pa_nil))) (blkOk_by (own := [("leg", 4), ("lot", 5)]) (N := ["atlas", "dealing", "name", "log", "leg", "lot"]) (sc := defScope s_told) (by decide +kernel)) (fun _ _ _ _ _ => (pg_tup rfl (pgs_cons (pg_name (i := 4) sc_told.nd rfl (Or.inl rfl)) (pgs_cons (pg_name (i := 5) sc_told.nd rfl (Or.inl rfl)) pgs_nil)))) (fun _ _ _ _ _ => (pts_one (pt_cmpR op_eq (pe_ix (r := rIx K) (SeqW.ix_seqK rfl) (pv 4) pe_int (fun _ _ => rfl)) (pv 2) (nomark _)))) (fun _ _ _ _ _ => (pv 5))) pa_nil))))))), ?_⟩
    refine ⟨.ref x, rfl, .ref l, rfl, x, l, box, rs, lots, rfl, hA, h8, hok, hlen, hl, hn, hdue, fun H1 s1 => ?_⟩
    have hA1 := hA.same s1
    have hA1' := hA1
    obtain ⟨dx, b, n, l5, ls, on, po, h1, _⟩ := hA1'
    have ro := hok r (List.mem_of_getElem? hm)
    have ll := legL_len hok
    refine ⟨.ref x, rfl, x, dx, _, rfl, h1, fl_no b n l5 (by decide +kernel) (by decide +kernel) (by decide +kernel), .str r.1, rfl, x, box, rs, m, r, rfl, hA1, hm, hnd, hlen, fun v hv => ?_⟩
    obtain ⟨lg, xs, rfl, hsx, hrw⟩ := log_rows hv
    refine ⟨_, rfl, .ref x, rfl, x, dx, _, rfl, h1, fl_no b n l5 (by decide +kernel) (by decide +kernel) (by decide +kernel), x, box, rs, rfl, hA1, hok, hlen, fun H2 g s2 hg => ?_⟩
    cases hg with
    | @tup _ gs _ hgs hga =>
    have lgs := dpa_len _ _ hga
    have s12 := s1.trans s2
    obtain ⟨t2, hv2⟩ : ∃ t2, ∀ H', Same H2 H' → ZipG.SqV t2 K H' l (lots.map lotV) := by
      rcases hl.same s12 with h | h
      · exact ⟨false, fun H' s => s.seq h⟩
      · exact ⟨true, fun H' s => sqt_same s h⟩
    refine ⟨.ref l, rfl, g, l, gs, _, rfl, true, t2, hgs, hv2 _ (Same.refl _), fun D hD => lc_it (ZipG.walk_zipG (xs := gs) (ys := lots.map lotV) (n := lots.length) (by rw [List.length_map]; omega)) (fun i H' => Same H2 H' ∧ H' D = some (.lst ((pk r.1 (((legL rs).zip lots).take i)).map lotV))) ⟨same_upd hD, upd_same⟩ (fun i H' _ h => ⟨sqt_same h.1 hgs, hv2 _ h.1⟩) ?_ ?_⟩
    · rintro i v H3 H4 hi ⟨sm, eD⟩ ⟨t, u1, u2, rfl, nt, rfl, e1, e2⟩
      have e1 : gs[i]? = some u1 := e1
      obtain ⟨d, fd, gd⟩ := dpa_at _ gs hga i u1 e1
      obtain ⟨a, fa, rfl⟩ := lot_at e2
      have st := same_upd (o := .tup [u1, lotV a]) nt
      obtain ⟨tl, k, rfl, hsl⟩ := leg_parts (dp_same (sm.trans st) _ _ gd) (List.mem_of_getElem? fd)
      have eDt := st _ _ eD
      have pl := pk_le r.1 ((legL rs).zip lots) i
      have ps := pk_succ (z := r.1) (zip_at (rs := rs) fd fa)
      refine ⟨t, _, rfl, .inl (.inl upd_same), rfl, _, _, rfl, _, _, rfl, rfl, rfl, .ref tl, rfl, ixA (j := 0) (.inr hsl) rfl ⟨_, rfl, rfl, _, rfl, ?_⟩⟩
      rw [ps]
      refine ite2 (fun e => ?_) (fun e => ?_)
      · have e : nmD d = r.1 := V.str.inj (of_decide_eq_true e)
        rw [if_pos (decide_eq_true e)]
        refine ⟨_, rfl, _, eDt, ?_, fun c o h => ?_, ?_⟩
        · rw [List.length_map]
          exact Nat.lt_of_le_of_lt pl (Nat.lt_of_lt_of_le (show i < 100000 by omega) (by decide))
        · rw [upd_ne (ne_of_none h hD)]
          exact st _ _ (sm _ _ h)
        · rw [upd_same, List.map_append]
          rfl
      · have e : ¬ nmD d = r.1 := fun z => e (decide_eq_true (by rw [z]))
        rw [if_neg (fun z => e (of_decide_eq_true z)), List.append_nil]
        exact ⟨sm.trans st, eDt⟩
    · rintro H3 ⟨sm, eD⟩
      have lz : ((legL rs).zip lots).length = lots.length := by rw [List.length_zip]; omega
      rw [← lz, List.take_length] at eD
      have s23 := s2.trans sm
      refine ⟨lg, D, xs, r.2, pk r.1 ((legL rs).zip lots), rfl, .inr (sqt_same s23 hsx), hrw.same s23, .inl (.inl (.inl eD)), pk_len hnd hm hn, ro.len, ro.right, fun H4 t s4 hd => q _ t ((s1.trans s23).trans s4) hd⟩
def spMixP (K : PySem.W.Frag) : Sp := fun vs H Q _ => ∃ (p t : Addr) (xs : List V), vs = [.ref p, .ref t] ∧ Pool H p ∧ t ≠ p ∧ SqL K H t xs ∧ xs.length ≤ 900 ∧
  ∀ H' f ys, But p H H' → H f = none → H' f = some (.lst ys) → ys.Perm xs → Pool H' p → Q (.ref f) H'
theorem ok_LmixP (T : Top w K mg) : FnOk P w K mg base CX0 2 T.a_Lmix T.fd_Lmix ["_law_pool_here", "_law_things"] (spMixP K) := by
  have G_Ltake := ok_Ltake (P := P) (w := w) (base := base) T
  refine T.F_Lmix.ok sc_Lmix (fun vs H Q E h => ?_) (fun cdv A outer s H vs Q E hr h => ?_)
  · obtain ⟨p, t, xs, rfl, _⟩ := h
    rfl
  · obtain ⟨p, t, xs, rfl, hp, ht, hS, hl, q⟩ := h
    refine ⟨_, (pss_cons (ps_set (i := 2) sc_Lmix.nd rfl (.inl rfl) (pe_lst pa_nil))
      (pss_cons (ps_for PassesOwn.never rfl (pi_list (pv 1)) (pg_name (i := 3) sc_Lmix.nd rfl (.inl rfl)) (pss_one (ps_expr (pe_bm PySem.F.plainAttrs_list PySem.F.slot_list_insert PySem.F.type_list_insert mt_insert (pv 2) (pa_cons (pe_call G_Ltake hr (by rfl) T.g_Ltake T.F_Ltake.kp T.b_Ltake .nil pass0 (pa_cons (pv 0) (pa_cons (pe_op op_add (pe_callB call_len_seq (by rfl) T.m_len (by decide +kernel) (pa_cons (pv 2) pa_nil)) pe_int) pa_nil))) (pa_cons (pv 3) pa_nil))))))
      (pss_one (ps_ret (pv 2))))), ?_⟩
    refine ⟨Nat.zero_le _, fun f nf => ?_⟩
    have nfp : f ≠ p := hp.ne_new nf
    have b0 : But p H (upd H f (.lst [])) := But.of (same_upd nf)
    refine ⟨.ref t, rfl, t, rfl, ⟨xs, seq_but b0 ht hS⟩, for_it (walk_list (xs := xs)) (fun i σ H' => ∃ y ys, σ = [some (.ref p), some (.ref t), some (.ref f), y] ∧ ys.Perm (xs.take i) ∧ H' f = some (.lst ys) ∧ Pool H' p ∧ But p H H')
      ⟨none, [], rfl, .nil, upd_same, hp.upd nfp, b0⟩ (fun i σ H' _ h => ?_) ?_ ?_⟩
    · obtain ⟨y, ys, _, _, _, _, bt⟩ := h
      exact seq_but bt ht hS
    · rintro i x σ H1 H2 hi ⟨y, ys, rfl, hpm, ef, hp1, bt⟩ ⟨rfl, hx⟩
      have hy : ys.length = i := by
        rw [hpm.length_eq, List.length_take]
        omega
      refine ⟨.ref f, rfl, .inl ⟨rfl, _, .inl (.inl ef)⟩, .ref p, rfl, .ref f, rfl, f, ys, rfl, .inl (.inl (.inl ef)), _, _, rfl, rfl, p, _, rfl, by omega, by omega, hp1, fun H3 r b3 hp3 h0 h1 => ?_⟩
      have ef3 : H3 f = some (.lst ys) := b3 _ _ nfp ef
      refine ⟨x, rfl, f, ys, r, x, rfl, rfl, ef3, small1000 (by omega), h0, by omega, ?_⟩
      refine ⟨_, _, rfl, ?_, upd_same, hp3.upd nfp, fun b o hb h => ?_⟩
      · rw [List.take_add_one, hx, List.append_assoc]
        have h1 : (ys.take r.toNat ++ ([x] ++ ys.drop r.toNat)).Perm (x :: (ys.take r.toNat ++ ys.drop r.toNat)) := List.perm_middle
        rw [List.take_append_drop] at h1
        exact h1.trans ((hpm.cons x).trans (List.perm_append_singleton x (xs.take i)).symm)
      · rw [upd_ne (ne_of_none h nf)]
        exact b3 _ _ hb (bt _ _ hb h)
    · rintro σ H1 ⟨y, ys, rfl, hpm, ef, hp1, bt⟩
      rw [List.take_length] at hpm
      exact ⟨.ref f, rfl, q H1 f ys bt nf ef hpm hp1⟩
--@@SPLIT
/-! ### the law's own side of a way -/
def spSide (K : PySem.W.Frag) : Sp := fun vs H Q _ => ∃ (p : Addr) (x y : Int) (l : Fin 4), vs = [.ref p, .str (Lt l)] ∧ SqT K H p [.int x, .int y] ∧ ∀ H' t, Same H H' → H t = none → H' t = some (.tup [.int (wx x l), .int (wy y l), .str (Lt (wside l))]) → Q (.ref t) H'
theorem inSW : ∀ l : Fin 4, inV (.str (Lt l)) [.str "s", .str "w"] = decide (l = 2 ∨ l = 3) := by decide +kernel
theorem sideV : ∀ l : Fin 4, valV (mergeK [] [((Sum.inr (PySem.Str.ofString "n") : Key), V.str (PySem.Str.ofString "n")), (Sum.inr (PySem.Str.ofString "s"), .str (PySem.Str.ofString "n")), (Sum.inr (PySem.Str.ofString "e"), .str (PySem.Str.ofString "e")), (Sum.inr (PySem.Str.ofString "w"), .str (PySem.Str.ofString "e"))]) (Sum.inr (Lt l)) = some (.str (Lt (wside l))) := by
  rw [lt0, lt1, lt2, lt3]
  intro l
  match l with
  | 0 => rfl
  | 1 => rfl
  | 2 => rfl
  | 3 => rfl
theorem ok_Lside (T : Top w K mg) : FnOk P w K mg base CX0 2 T.a_Lside T.fd_Lside ["_law_place", "_law_letter"] (spSide K) := by
  have G_Loff := ok_Loff (P := P) (w := w) (base := base) T
  refine T.F_Lside.ok sc_Lside (fun vs H Q E h => ?_) (fun cdv A outer s H vs Q E hr h => ?_)
  · obtain ⟨p, x, y, l, rfl, _⟩ := h
    rfl
  · obtain ⟨p, x, y, l, rfl, hp, q⟩ := h
    refine ⟨_, (Evl.pss_cut (ps_if (pt_cmpR op_in_seq (pv 1) (pe_tup (pa_cons pe_str (pa_cons pe_str pa_nil))) (by rfl)) (pss_one (ps_set (i := 0) sc_Lside.nd rfl (.inl rfl) (pe_call G_Loff hr (by rfl) T.g_Loff T.F_Loff.kp T.b_Loff .nil pass0 (pa_cons (pv 0) (pa_cons (pv 1) (pa_cons pe_int pa_nil)))))) pss_nil)
      (pss_one (ps_ret (pe_op op_catT (pv 0) (pe_tup (pa_cons (pe_dget (hu_of hr) (pe_disp (pps_cons pe_str pe_str (pps_cons pe_str pe_str (pps_cons pe_str pe_str (pps_cons pe_str pe_str pps_nil)))) (by rfl) (by rfl) (fun z => by cases z) (by decide)) (pv 1) (fun _ _ => rfl)) pa_nil)))))), ?_⟩
    refine ⟨fun σ' H' => Same H H' ∧ ∃ p2, σ' = [some (.ref p2), some (.str (Lt l))] ∧ SqT K H' p2 [.int (wx x l), .int (wy y l)], ?_, ?_⟩
    · refine ⟨_, rfl, by show 2 ≤ sizeLine; decide, fun tp np => ⟨tp, _, rfl, .inr (.inl (.inl upd_same)), rfl, rfl, _, rfl, ?_⟩⟩
      have stp := same_upd (o := .tup [.str "s", .str "w"]) np
      rw [if_neg Bool.false_ne_true, inSW]
      have hp2 := sqt_same stp hp
      match l with
      | 0 => exact iteF ⟨stp, p, rfl, hp2⟩
      | 1 => exact iteF ⟨stp, p, rfl, hp2⟩
      | 2 => exact iteT ⟨_, rfl, _, rfl, p, x, y, 1, 2, rfl, hp2, fun H1 t s1 nt et => ⟨stp.trans s1, t, rfl, .inl (.inl (by rw [et, show x + 1 * dx 2 = wx x 2 by show x + 1 * 0 = x; omega, show y + 1 * dy 2 = wy y 2 by show y + 1 * (-1) = y - 1; omega]))⟩⟩
      | 3 => exact iteT ⟨_, rfl, _, rfl, p, x, y, 1, 3, rfl, hp2, fun H1 t s1 nt et => ⟨stp.trans s1, t, rfl, .inl (.inl (by rw [et, show x + 1 * dx 3 = wx x 3 by show x + 1 * (-1) = x - 1; omega, show y + 1 * dy 3 = wy y 3 by show y + 1 * 0 = y; omega]))⟩⟩
    · rintro σ' H1 ⟨s1, p2, rfl, hp2⟩
      refine ⟨.ref p2, rfl, ?_⟩
      intro d nd
      refine ⟨upd_same, [(Sum.inr (PySem.Str.ofString "n"), .str (PySem.Str.ofString "n")), (Sum.inr (PySem.Str.ofString "s"), .str (PySem.Str.ofString "n")), (Sum.inr (PySem.Str.ofString "e"), .str (PySem.Str.ofString "e")), (Sum.inr (PySem.Str.ofString "w"), .str (PySem.Str.ofString "e"))], rfl, Nat.le_of_ble_eq_true rfl, ?_⟩
      have sd := same_upd (o := .dK []) nd
      have sd2 : Same H1 (upd (upd H1 d (.dK [])) d (.dK (mergeK [] [((Sum.inr (PySem.Str.ofString "n") : Key), V.str (PySem.Str.ofString "n")), (Sum.inr (PySem.Str.ofString "s"), .str (PySem.Str.ofString "n")), (Sum.inr (PySem.Str.ofString "e"), .str (PySem.Str.ofString "e")), (Sum.inr (PySem.Str.ofString "w"), .str (PySem.Str.ofString "e"))]))) := fun c o z => by
        rw [upd_ne (ne_of_none z nd)]
        exact sd _ _ z
      refine ⟨_, rfl, d, .str (Lt (wside l)), rfl, ?_, ?_⟩
      · have g := DGet.k (k := Sum.inr (Lt l)) (H := upd (upd H1 d (.dK [])) d (.dK (mergeK [] [((Sum.inr (PySem.Str.ofString "n") : Key), V.str (PySem.Str.ofString "n")), (Sum.inr (PySem.Str.ofString "s"), .str (PySem.Str.ofString "n")), (Sum.inr (PySem.Str.ofString "e"), .str (PySem.Str.ofString "e")), (Sum.inr (PySem.Str.ofString "w"), .str (PySem.Str.ofString "e"))]))) (a := d) upd_same
        rw [sideV l] at g
        exact g
      · refine ⟨by show 1 ≤ sizeLine; decide, fun t1 nt1 => ?_⟩
        have st1 := same_upd (o := .tup [.str (Lt (wside l))]) nt1
        refine ⟨p2, t1, _, _, rfl, rfl, sqt_same (sd2.trans st1) hp2, .inl (.inl upd_same), (fun z => nomatch z), by show 3 ≤ sizeLine; decide, (fun z => nomatch z), fun _ t nt => ?_⟩
        exact q _ t (((s1.trans sd2).trans st1).trans (same_upd nt)) (((s1.trans sd2).trans st1).free nt) upd_same
/-! ### a land, and what is so in it -/
abbrev Sgn := (Int × Int) × Str
abbrev Sht := Int × Int × Fin 4
def sgAt (sg : List Sgn) (x y : Int) : Option Str := (sg.find? fun s => decide (s.1 = (x, y))).map (·.2)
def kvsL (sg : List Sgn) : List (List L2.Key × V) := sg.map fun s => ([.inl s.1.1, .inl s.1.2], .str s.2)
theorem valV_sg (x y : Int) : ∀ sg : List Sgn, valV (kvsL sg) [.inl x, .inl y] = (sgAt sg x y).map V.str
  | [] => rfl
  | ((a, b), z) :: sg => by
    have ih := valV_sg x y sg
    by_cases h : (a, b) = (x, y)
    · cases h
      rw [show kvsL (((x, y), z) :: sg) = ([.inl x, .inl y], .str z) :: kvsL sg from rfl, valV_pos rfl]
      simp [sgAt]
    · have n : ¬ ([.inl a, .inl b] : List L2.Key) = [.inl x, .inl y] := fun e => h (by
        injection e with e1 e2
        injection e2 with e2 _
        cases e1
        cases e2
        rfl)
      rw [show kvsL (((a, b), z) :: sg) = ([.inl a, .inl b], .str z) :: kvsL sg from rfl, valV_neg n, ih]
      simp [sgAt, List.find?_cons, h]
/-- what a fact of the entry i at (x, y), moved by (sx, sy), says is so -/
inductive SoF (sg : List Sgn) (sh : List Sht) (sx sy : Int) : PyData → Prop
  | sign {i : Nat} {x y : Int} {z : Str} (h : sgAt sg (x + sx) (y + sy) = some z) : SoF sg sh sx sy (factD i "sign" x y z)
  | bare {i : Nat} {x y : Int} (h : sgAt sg (x + sx) (y + sy) = none) : SoF sg sh sx sy (factD i "bare" x y "")
  | opn {i : Nat} {x y : Int} {l : Fin 4} (h : (x + sx, y + sy, l) ∉ sh) : SoF sg sh sx sy (factD i "open" x y (Lt l))
  | shut {i : Nat} {x y : Int} {l : Fin 4} (h : (x + sx, y + sy, l) ∈ sh) : SoF sg sh sx sy (factD i "shut" x y (Lt l))
def AllSo (sg : List Sgn) (sh : List Sht) (sx sy : Int) (lots : List (Fin 8)) (es : List Ent) : Prop := ∀ d ∈ factsL lots es es.length, SoF sg sh sx sy d
theorem wat_app (lots : List (Fin 8)) (es fs : List Ent) {i : Nat} (h : i ≤ es.length) : wat lots (es ++ fs) i = wat lots es i := by
  unfold wat
  rw [List.take_append_of_le_length h]
theorem factsL_app (lots : List (Fin 8)) (es fs : List Ent) : ∀ n, n ≤ es.length → factsL lots (es ++ fs) n = factsL lots es n
  | 0, _ => rfl
  | n + 1, h => by
    show factsL lots (es ++ fs) n ++ factsAt lots (es ++ fs) n = factsL lots es n ++ factsAt lots es n
    rw [factsL_app lots es fs n (by omega)]
    congr 1
    unfold factsAt
    rw [wat_app lots es fs (by omega), List.getElem?_append_left (by omega)]
theorem allSo_nil {sg : List Sgn} {sh : List Sht} {sx sy : Int} {lots : List (Fin 8)} : AllSo sg sh sx sy lots [] := fun d m => by cases m
theorem AllSo.snoc {sg : List Sgn} {sh : List Sht} {sx sy : Int} {lots : List (Fin 8)} {es : List Ent} {e : Ent} (h : AllSo sg sh sx sy lots es) (he : ∀ d ∈ factsOf es.length (wat lots es es.length) e, SoF sg sh sx sy d) : AllSo sg sh sx sy lots (es ++ [e]) := fun d m => by
  rw [List.length_append] at m
  have m : d ∈ factsL lots (es ++ [e]) es.length ++ factsAt lots (es ++ [e]) es.length := m
  rw [factsL_app lots es [e] _ (Nat.le_refl _), factsAt_eq (e := e) (by simp), wat_app lots es [e] (Nat.le_refl _)] at m
  exact (List.mem_append.mp m).elim (h d) (he d)
theorem wat_snoc (lots : List (Fin 8)) (es : List Ent) (e : Ent) : wat lots (es ++ [e]) (es ++ [e]).length = next lots (wat lots es es.length) e := by
  have n : (es ++ [e]).length = es.length + 1 := List.length_append ..
  rw [n, wat_succ (e := e) (by simp), wat_app lots es [e] (Nat.le_refl _)]
/-- swaps at the end tell nothing -/
theorem AllSo.swaps {sg : List Sgn} {sh : List Sht} {sx sy : Int} {lots : List (Fin 8)} {es : List Ent} (h : AllSo sg sh sx sy lots es) : ∀ n, AllSo sg sh sx sy lots (es ++ List.replicate n Ent.swap)
  | 0 => by rw [List.replicate_zero, List.append_nil]; exact h
  | n + 1 => by
    rw [List.replicate_succ', ← List.append_assoc]
    exact (AllSo.swaps h n).snoc fun d m => by cases m
theorem Right.swaps {es : List Ent} (h : Right es) : ∀ n, Right (es ++ List.replicate n Ent.swap)
  | 0 => by rw [List.replicate_zero, List.append_nil]; exact h
  | n + 1 => by
    rw [List.replicate_succ', ← List.append_assoc]
    exact (Right.swaps h n).snoc fun z => by cases z
theorem swaps_rep (es : List Ent) : ∀ n, M.swaps (es ++ List.replicate n Ent.swap) = M.swaps es + n
  | 0 => by rw [List.replicate_zero, List.append_nil]; rfl
  | n + 1 => by
    rw [List.replicate_succ', ← List.append_assoc, swaps_snoc, swaps_rep es n]
    rfl
/-- two rows, side by side -/
inductive F2 {α β : Type} (R : α → β → Prop) : List α → List β → Prop
  | nil : F2 R [] []
  | cons {a : α} {b : β} {as : List α} {bs : List β} (h : R a b) (t : F2 R as bs) : F2 R (a :: as) (b :: bs)
theorem F2.imp {α β : Type} {R S : α → β → Prop} (f : ∀ a b, R a b → S a b) {as : List α} {bs : List β} (h : F2 R as bs) : F2 S as bs := by
  induction h with
  | nil => exact .nil
  | cons h _ ih => exact .cons (f _ _ h) ih
theorem F2.len {α β : Type} {R : α → β → Prop} {as : List α} {bs : List β} (h : F2 R as bs) : as.length = bs.length := by
  induction h with
  | nil => rfl
  | cons _ _ ih => exact congrArg Nat.succ ih
theorem F2.snoc {α β : Type} {R : α → β → Prop} {as : List α} {bs : List β} {a : α} {b : β} (h : F2 R as bs) (r : R a b) : F2 R (as ++ [a]) (bs ++ [b]) := by
  induction h with
  | nil => exact .cons r .nil
  | cons h _ ih => exact .cons h ih
theorem F2.app {α β : Type} {R : α → β → Prop} {as as' : List α} {bs bs' : List β} (h : F2 R as bs) (h' : F2 R as' bs') : F2 R (as ++ as') (bs ++ bs') := by
  induction h with
  | nil => exact h'
  | cons h _ ih => exact .cons h ih
theorem F2.rep {α β : Type} {R : α → β → Prop} {a : α} {b : β} (n : Nat) (r : R a b) : F2 R (List.replicate n a) (List.replicate n b) := by
  induction n with
  | zero => exact .nil
  | succ n ih => exact .cons r ih
/-! entries as they stand: known tuples of flat things -/
def Ent.vrest : Ent → List V
  | .face l => [.str (Lt l)]
  | .go n => [.int ((n.val : Int) + 1)]
  | .sign z => [.str z]
  | .spy n z => [.int ((n.val : Int) + 1), .str z]
  | _ => []
def Ent.vs (e : Ent) : List V := .str (ws e.kind) :: e.vrest
theorem vrest_dp {K : PySem.W.Frag} {H : Hp} (e : Ent) : DpAll K H e.vrest e.rest := by
  cases e with
  | face l => exact .cons (.str _) .nil
  | go n => exact .cons (.int _) .nil
  | sign z => exact .cons (.str _) .nil
  | spy n z => exact .cons (.int _) (.cons (.str _) .nil)
  | _ => exact .nil
def EntsAt (H : Hp) (vs : List V) (es : List Ent) : Prop := F2 (fun v e => ∃ a, v = V.ref a ∧ H a = some (.tup (Ent.vs e))) vs es
theorem EntsAt.dp {K : PySem.W.Frag} {H : Hp} {vs : List V} {es : List Ent} (h : EntsAt H vs es) : DpAll K H vs (es.map Ent.tup) := by
  induction h with
  | nil => exact .nil
  | @cons v e vs es h _ ih =>
    obtain ⟨a, rfl, ha⟩ := h
    exact .cons (.tup (.inl (.inl ha)) (.cons (.str _) (vrest_dp e))) ih
theorem EntsAt.but {p : Addr} {H H' : Hp} {vs : List V} {es : List Ent} (hp : Pool H p) (b : But p H H') (h : EntsAt H vs es) : EntsAt H' vs es :=
  F2.imp (fun v e ⟨a, ev, ha⟩ => ⟨a, ev, b _ _ (hp.ne_tup ha) ha⟩) h
theorem EntsAt.same {H H' : Hp} {vs : List V} {es : List Ent} (s : Same H H') (h : EntsAt H vs es) : EntsAt H' vs es :=
  F2.imp (fun v e ⟨a, ev, ha⟩ => ⟨a, ev, s _ _ ha⟩) h
theorem EntsAt.len {H : Hp} {vs : List V} {es : List Ent} (h : EntsAt H vs es) : vs.length = es.length := F2.len h
/-! the land as it stands -/
def shD (w : Sht) : PyData := .tuple [.int w.1, .int w.2.1, .str (Lt w.2.2)]
def ShsAt (H : Hp) (vs : List V) (sh : List Sht) : Prop := F2 (fun v w => ∃ a, v = V.ref a ∧ H a = some (.tup [.int w.1, .int w.2.1, .str (Lt w.2.2)])) vs sh
structure LandAt (p : Addr) (H : Hp) (t : Addr) (sg : List Sgn) (sh : List Sht) : Prop where
  ex : ∃ D S ss, H t = some (.tup [.ref D, .ref S]) ∧ H D = some (.dT (kvsL sg)) ∧ S ≠ p ∧ H S = some (.lst ss) ∧ ShsAt H ss sh
  few : sh.length ≤ 7
theorem ShsAt.len {H : Hp} {vs : List V} {sh : List Sht} (h : ShsAt H vs sh) : vs.length = sh.length := F2.len h
theorem ShsAt.dp {K : PySem.W.Frag} {H : Hp} {vs : List V} {sh : List Sht} (h : ShsAt H vs sh) : DpAll K H vs (sh.map shD) := by
  induction h with
  | nil => exact .nil
  | @cons v w vs sh h _ ih =>
    obtain ⟨a, rfl, ha⟩ := h
    exact .cons (.tup (.inl (.inl ha)) (.cons (.int _) (.cons (.int _) (.cons (.str _) .nil)))) ih
theorem ShsAt.but {p : Addr} {H H' : Hp} {vs : List V} {sh : List Sht} (hp : Pool H p) (b : But p H H') (h : ShsAt H vs sh) : ShsAt H' vs sh :=
  F2.imp (fun v w ⟨a, ev, ha⟩ => ⟨a, ev, b _ _ (hp.ne_tup ha) ha⟩) h
theorem ShsAt.same {H H' : Hp} {vs : List V} {sh : List Sht} (s : Same H H') (h : ShsAt H vs sh) : ShsAt H' vs sh :=
  F2.imp (fun v w ⟨a, ev, ha⟩ => ⟨a, ev, s _ _ ha⟩) h
theorem LandAt.but {p : Addr} {H H' : Hp} {t : Addr} {sg : List Sgn} {sh : List Sht} (hp : Pool H p) (b : But p H H') (h : LandAt p H t sg sh) : LandAt p H' t sg sh := by
  obtain ⟨⟨D, S, ss, h1, h2, h3, h4, h5⟩, few⟩ := h
  obtain ⟨l, c, k, n, _, at_⟩ := id hp
  exact ⟨⟨D, S, ss, b _ _ (hp.ne_tup h1) h1, b _ _ (ne_of h2 at_ (by intro z; cases z)) h2, h3, b _ _ h3 h4, h5.but hp b⟩, few⟩
theorem LandAt.same {p : Addr} {H H' : Hp} {t : Addr} {sg : List Sgn} {sh : List Sht} (s : Same H H') (h : LandAt p H t sg sh) : LandAt p H' t sg sh := by
  obtain ⟨⟨D, S, ss, h1, h2, h3, h4, h5⟩, few⟩ := h
  exact ⟨⟨D, S, ss, s _ _ h1, s _ _ h2, h3, s _ _ h4, h5.same s⟩, few⟩
theorem lt_inj : ∀ a b : Fin 4, (Lt a == Lt b) = decide (a = b) := by decide +kernel
theorem shD_eqv (a b : Sht) : PyData.eqv (shD a) (shD b) = decide (a = b) := by
  obtain ⟨x, y, l⟩ := a
  obtain ⟨x', y', l'⟩ := b
  simp only [shD, PyData.eqv, PyData.eqvAll, Bool.and_true]
  rw [lt_inj]
  by_cases h1 : x = x' <;> by_cases h2 : y = y' <;> by_cases h3 : l = l' <;> simp [h1, h2, h3]
theorem sh_any (sh : List Sht) (w : Sht) : ((sh.map shD).any fun z => PyData.eqv z (shD w)) = decide (w ∈ sh) := by
  rw [List.any_map]
  induction sh with
  | nil => rfl
  | cons a sh ih =>
    rw [List.any_cons, ih]
    show (PyData.eqv (shD a) (shD w) || _) = _
    rw [shD_eqv]
    by_cases h : a = w
    · subst h; simp
    · simp [h, Ne.symm h]
theorem lt_ok : ∀ l : Fin 4, PyData.strOk (Lt l) = true := by decide +kernel
theorem shD_lay (w : Sht) : PyData.canLay0 (shD w) = true ∧ (shD w).depth = 1 := by
  obtain ⟨x, y, l⟩ := w
  refine ⟨?_, ?_⟩
  · simp [shD, PyData.canLay0, PyData.canLayAll0, lt_ok]
  · simp [shD, PyData.depth, PyData.depthAll]
theorem shD_shaped (w : Sht) : SeqAt.shaped (shD w) = true := by
  obtain ⟨h1, h2⟩ := shD_lay w
  exact Bool.and_eq_true_iff.mpr ⟨h1, decide_eq_true (by rw [h2]; decide)⟩
theorem shs_all : ∀ sh : List Sht, PyData.canLayAll0 (sh.map shD) = true ∧ PyData.depthAll (sh.map shD) ≤ 1
  | [] => ⟨rfl, Nat.zero_le _⟩
  | w :: r => by
    obtain ⟨i1, i2⟩ := shs_all r
    obtain ⟨h1, h2⟩ := shD_lay w
    refine ⟨?_, ?_⟩
    · show (PyData.canLay0 (shD w) && PyData.canLayAll0 (r.map shD)) = true
      rw [h1, i1]; rfl
    · show max (shD w).depth (PyData.depthAll (r.map shD)) ≤ 1
      omega
theorem shs_shaped (sh : List Sht) : SeqAt.shaped (.list (sh.map shD)) = true := by
  obtain ⟨h1, h2⟩ := shs_all sh
  exact Bool.and_eq_true_iff.mpr ⟨h1, decide_eq_true (by show PyData.depthAll _ + 1 ≤ 64; omega)⟩
--@@SPLIT
/-! ### a land drawn, whose signs are signs -/
def SgnOk (z : Str) : Prop := z.length ≤ 12 ∧ PyData.strOk z = true ∧ Ent.sgS z = true
instance (z : Str) : Decidable (SgnOk z) := inferInstanceAs (Decidable (_ ∧ _ ∧ _))
theorem cap_ok {z : Str} {c : Nat} (h : nmL z.cps.toList = true) (h1 : 1 ≤ z.length) (h8 : z.length ≤ 8) (hc : atI z.cps.toList 0 = some c) : SgnOk (Txt.upper ⟨#[c]⟩ ++ cutS z (some 1) none) := by
  have zm : ∀ c ∈ z.cps.toList, c ∈ SMALLs.cps.toList := fun c hc => of_decide_eq_true (List.all_eq_true.mp (Bool.and_eq_true_iff.mp h).2 c hc)
  have cm := zm c (at_mem hc)
  obtain ⟨el, lo⟩ := lo_of (c := c) h1 h8 zm cm
  refine ⟨?_, ok_of_mem fun c2 h2 => ?_, by unfold Ent.sgS; rw [el, lo, Bool.or_true]⟩
  · rw [← len_toList, el, List.length_cons, List.length_drop, len_toList]
    omega
  · rw [el] at h2
    rcases List.mem_cons.mp h2 with h3 | h3
    · rw [h3]
      exact (up_gr c cm).2.2
    · exact small_ok c2 (zm c2 (List.mem_of_mem_drop h3))
theorem nm_len {z : Str} (h : nmL z.cps.toList = true) : 1 ≤ z.length ∧ z.length ≤ 8 := by
  have h1 := (Bool.and_eq_true_iff.mp h).1
  obtain ⟨h2, h3⟩ := Bool.and_eq_true_iff.mp (show (decide (1 ≤ (z.cps.toList.length : Int)) && decide ((z.cps.toList.length : Int) ≤ 8)) = true from h1)
  rw [len_toList] at h2 h3
  have := of_decide_eq_true h2
  have := of_decide_eq_true h3
  omega
theorem sg_put {sg : List Sgn} {x y : Int} {z : Str} (h : sgAt sg x y = none) : putK (kvsL sg) [.inl x, .inl y] (.str z) = kvsL (sg ++ [((x, y), z)]) := by
  rw [putK_new _ (by rw [valV_sg, h]; rfl)]
  unfold kvsL
  rw [List.map_append]
  rfl
theorem kvsL_len (sg : List Sgn) : (kvsL sg).length = sg.length := List.length_map _
/-- a place drawn: three goes -/
theorem three {r : Int} (h0 : 0 ≤ r) (h1 : r < 3) : ∃ z : Str, atI [V.str (PySem.Str.ofString "oak"), .str (PySem.Str.ofString "elm"), .str (PySem.Str.ofString "x")] r = some (.str z) ∧ SgnOk z := by
  obtain rfl | rfl | rfl : r = 0 ∨ r = 1 ∨ r = 2 := by omega
  all_goals exact ⟨_, rfl, by decide +kernel⟩
theorem ne_lt {r : Int} (h0 : 0 ≤ r) (h1 : r < 2) : ∃ l : Fin 4, atI (PySem.Str.ofString "ne").cps.toList r = some (cd l) := by
  obtain rfl | rfl : r = 0 ∨ r = 1 := by omega
  · exact ⟨0, by decide +kernel⟩
  · exact ⟨1, by decide +kernel⟩
def spLand : Sp := fun vs H Q _ => ∃ (p : Addr) (m : Nat), vs = [.ref p, .int (m : Nat)] ∧ m ≤ 10 ∧ Pool H p ∧ ∀ H' t sg sh, But p H H' → Pool H' p → LandAt p H' t sg sh → (∀ s ∈ sg, SgnOk s.2) → Q (.ref t) H'
/-- the state of the signs' dict -/
structure SgIn (p : Addr) (H H' : Hp) (D : Addr) (n : Nat) : Prop where
  but : But p H H'
  pool : Pool H' p
  ex : ∃ sg, H' D = some (.dT (kvsL sg)) ∧ sg.length ≤ n ∧ ∀ s ∈ sg, SgnOk s.2
theorem SgIn.next {p : Addr} {H H1 H2 : Hp} {D : Addr} {n : Nat} (h : SgIn p H H1 D n) (nDp : D ≠ p) (b : But p H1 H2) (hp : Pool H2 p) : SgIn p H H2 D (n + 1) := by
  obtain ⟨sg, e, l, ok⟩ := h.ex
  exact ⟨h.but.trans b, hp, sg, b _ _ nDp e, by omega, ok⟩
theorem SgIn.put {p : Addr} {H H1 H2 : Hp} {D t : Addr} {n : Nat} {x y : Int} {z : Str} {sg : List Sgn} (h : SgIn p H H1 D n) (nD : H D = none) (nDp : D ≠ p) (b : But p H1 H2) (hp : Pool H2 p) (e2 : H2 D = some (.dT (kvsL sg))) (l : sg.length ≤ n) (ok : ∀ s ∈ sg, SgnOk s.2) (oz : SgnOk z) (no : sgAt sg x y = none) (ht : H2 t = some (.tup [.int x, .int y])) (hn : n ≤ 100) :
    ∃ H4, DPut H2 D (.ref t) (.str z) H4 ∧ SgIn p H H4 D (n + 1) ∧ ∀ b o, b ≠ D → H2 b = some o → H4 b = some o := by
  refine ⟨_, DPut.t (k := [.inl x, .inl y]) e2 ht (small1000 (by rw [kvsL_len]; omega)), ⟨(h.but.trans b).mut nD, hp.upd nDp, _, by rw [upd_same, sg_put no], ?_, fun s hs => ?_⟩, fun c o ne ho => by rw [upd_ne ne]; exact ho⟩
  · rw [List.length_append]
    exact Nat.succ_le_succ l
  · rcases List.mem_append.mp hs with hs | hs
    · exact ok s hs
    · cases List.mem_singleton.mp hs
      exact oz
theorem ok_Lland (T : Top w K mg) : FnOk P w K mg base CX0 4 T.a_Lland T.fd_Lland ["_law_pool_here", "_law_many"] spLand := by
  have G_Ltake := ok_Ltake (P := P) (w := w) (base := base) T
  have G_Lnames := ok_Lnames (P := P) (w := w) (base := base) T
  refine T.F_Lland.ok sc_Lland (fun vs H Q E h => ?_) (fun cdv A outer s H vs Q E hr h => ?_)
  · obtain ⟨p, m, rfl, _⟩ := h
    rfl
  · obtain ⟨p, m, rfl, hm, hp, q⟩ := h
    refine ⟨_, (pss_cons (ps_set (i := 2) sc_Lland.nd rfl (.inl rfl) pe_dnewT)
      (pss_cons (ps_for PassesOwn.never rfl (pi_list (pe_call G_Lnames hr (by rfl) T.g_Lnames T.F_Lnames.kp T.b_Lnames .nil pass0 (pa_cons (pv 0) (pa_cons (pe_op op_add pe_int (pv 1)) pa_nil)))) (pg_name (i := 3) sc_Lland.nd rfl (.inl rfl)) (pss_cons (ps_set (i := 4) sc_Lland.nd rfl (.inl rfl) (pe_tup (pa_cons (pe_op op_sub (pe_call G_Ltake (hr.mono (by decide)) (by rfl) T.g_Ltake T.F_Ltake.kp T.b_Ltake .nil pass0 (pa_cons (pv 0) (pa_cons pe_int pa_nil))) pe_int) (pa_cons (pe_op op_sub (pe_call G_Ltake (hr.mono (by decide)) (by rfl) T.g_Ltake T.F_Ltake.kp T.b_Ltake .nil pass0 (pa_cons (pv 0) (pa_cons pe_int pa_nil))) pe_int) pa_nil))))
      (pss_one (ps_if (pt_cmp (pc_dnotin (hu_of hr) (pv 4) (pv 2))) (pss_one (ps_dput (hu_of hr) (pv 2) (pv 4) (pe_op op_add_str (pe_bm0 PySem.F.plainAttrs_str PySem.F.slot_str_upper PySem.F.type_str_upper mt_upper (pe_ix ix_str (pv 3) pe_int (fun _ _ => rfl))) (pe_slice sl_str (pv 3) (po_some pe_int) po_none)) rfl)) pss_nil))))
      (pss_cons (ps_for PassesOwn.never rfl (pi_range1 (by rfl) T.m_range (pa_cons (pe_call G_Ltake (hr.mono (by decide)) (by rfl) T.g_Ltake T.F_Ltake.kp T.b_Ltake .nil pass0 (pa_cons (pv 0) (pa_cons pe_int pa_nil))) pa_nil)) (pg_name (i := 5) sc_Lland.nd rfl (.inl rfl)) (pss_cons (ps_set (i := 4) sc_Lland.nd rfl (.inl rfl) (pe_tup (pa_cons (pe_op op_sub (pe_call G_Ltake (hr.mono (by decide)) (by rfl) T.g_Ltake T.F_Ltake.kp T.b_Ltake .nil pass0 (pa_cons (pv 0) (pa_cons pe_int pa_nil))) pe_int) (pa_cons (pe_op op_sub (pe_call G_Ltake (hr.mono (by decide)) (by rfl) T.g_Ltake T.F_Ltake.kp T.b_Ltake .nil pass0 (pa_cons (pv 0) (pa_cons pe_int pa_nil))) pe_int) pa_nil))))
      (pss_one (ps_if (pt_cmp (pc_dnotin (hu_of hr) (pv 4) (pv 2))) (pss_one (ps_dput (hu_of hr) (pv 2) (pv 4) (pe_ix ix_tup (pe_tup (pa_cons pe_str (pa_cons pe_str (pa_cons pe_str pa_nil)))) (pe_call G_Ltake (hr.mono (by decide)) (by rfl) T.g_Ltake T.F_Ltake.kp T.b_Ltake .nil pass0 (pa_cons (pv 0) (pa_cons pe_int pa_nil))) (fun _ _ => rfl)) rfl)) pss_nil))))
      (pss_cons (ps_set (i := 6) sc_Lland.nd rfl (.inl rfl) (pe_lst pa_nil))
      (pss_cons (ps_for PassesOwn.never rfl (pi_range1 (by rfl) T.m_range (pa_cons (pe_call G_Ltake (hr.mono (by decide)) (by rfl) T.g_Ltake T.F_Ltake.kp T.b_Ltake .nil pass0 (pa_cons (pv 0) (pa_cons pe_int pa_nil))) pa_nil)) (pg_name (i := 5) sc_Lland.nd rfl (.inl rfl)) (pss_one (ps_expr (pe_bm PySem.F.plainAttrs_list PySem.F.slot_list_append PySem.F.type_list_append mt_append (pv 6) (pa_cons (pe_tup (pa_cons (pe_op op_sub (pe_call G_Ltake (hr.mono (by decide)) (by rfl) T.g_Ltake T.F_Ltake.kp T.b_Ltake .nil pass0 (pa_cons (pv 0) (pa_cons pe_int pa_nil))) pe_int) (pa_cons (pe_op op_sub (pe_call G_Ltake (hr.mono (by decide)) (by rfl) T.g_Ltake T.F_Ltake.kp T.b_Ltake .nil pass0 (pa_cons (pv 0) (pa_cons pe_int pa_nil))) pe_int) (pa_cons (pe_ix ix_str pe_str (pe_call G_Ltake (hr.mono (by decide)) (by rfl) T.g_Ltake T.F_Ltake.kp T.b_Ltake .nil pass0 (pa_cons (pv 0) (pa_cons pe_int pa_nil))) (fun _ _ => rfl)) pa_nil)))) pa_nil)))))
      (pss_one (ps_ret (pe_tup (pa_cons (pv 2) (pa_cons (pv 6) pa_nil)))))))))), ?_⟩
    intro D nD
    have sD := same_upd (o := .dT []) nD
    have nDp : D ≠ p := hp.ne_new nD
    refine ⟨.ref p, rfl, .int (m : Nat), rfl, _, _, rfl, rfl, p, 1 + m, by show [V.ref p, V.int (1 + (m : Int))] = [.ref p, .int ((1 + m : Nat) : Int)]; congr 3, by omega, hp.same sD, fun H1 L zs b1 hp1 nL eL lz nd nm => ?_⟩
    have nLp : L ≠ p := hp.ne_new (sD.free nL)
    have LD : L ≠ D := fun z => by rw [z, upd_same] at nL; cases nL
    -- behind a drawn place: a sign is put there if there is none
    have there : ∀ {n : Nat} {H2 H4 : Hp} {t : Addr} {x y : Int}, SgIn p H H2 D n → But p H2 H4 → Pool H4 p → H4 t = none → ∃ o : Option Str, DGet (upd H4 t (.tup [.int x, .int y])) D (.ref t) (o.map V.str) ∧ SgIn p H (upd H4 t (.tup [.int x, .int y])) D (n + 1) ∧
        (o = none → n ≤ 100 → ∀ {H5 : Hp} {z : Str}, SgnOk z → But p (upd H4 t (.tup [.int x, .int y])) H5 → Pool H5 p → ∃ H6, DPut H5 D (.ref t) (.str z) H6 ∧ SgIn p H H6 D (n + 1) ∧ ∀ b o, b ≠ D → H5 b = some o → H6 b = some o) := fun {n H2 H4 t x y} h b4 hp4 nt => by
      have st := same_upd (o := .tup [.int x, .int y]) nt
      have hp5 := hp4.upd (o := .tup [.int x, .int y]) (hp4.ne_new nt)
      obtain ⟨sg, eD, l, ok⟩ := h.ex
      have eD5 := st _ _ (b4 _ _ nDp eD)
      have g := DGet.t (k := [.inl x, .inl y]) eD5 (b := t) upd_same
      rw [valV_sg] at g
      refine ⟨_, g, h.next nDp (b4.trans (But.of st)) hp5, fun no hn H5 z oz b5 hp => ?_⟩
      have tp : t ≠ p := hp4.ne_new nt
      exact h.put nD nDp ((b4.trans (But.of st)).trans b5) hp (b5 _ _ nDp eD5) l ok oz no (b5 _ _ tp upd_same) hn
    refine ⟨L, rfl, ⟨_, .inl (.inl eL)⟩, for_it (walk_list (xs := zs.map V.str)) (fun i σ H' => SgIn p H H' D i ∧ H' L = some (.lst (zs.map V.str)) ∧ ∃ y3 y4 y5 y6, σ = [some (.ref p), some (.int (m : Nat)), some (.ref D), y3, y4, y5, y6])
      ⟨⟨(But.of sD).trans b1, hp1, [], b1 _ _ nDp upd_same, Nat.le_refl _, (fun _ h => nomatch h)⟩, eL, none, none, none, none, rfl⟩ (fun i σ H' _ h => .inl (.inl h.2.1)) ?_ ?_⟩
    · rintro i v σ H2 H3 hi ⟨sg, eL2, y3, y4, y5, y6, rfl⟩ ⟨rfl, hx⟩
      obtain ⟨z, hz, rfl⟩ : ∃ z, zs[i]? = some z ∧ v = V.str z := by
        rw [List.getElem?_map] at hx
        cases e : zs[i]? with
        | none => rw [e] at hx; cases hx
        | some z => rw [e] at hx; exact ⟨z, rfl, (Option.some.inj hx).symm⟩
      obtain ⟨z1, z8⟩ := nm_len (nm z (List.mem_of_getElem? hz))
      rw [List.length_map] at hi
      refine ⟨_, rfl, p, 5, rfl, by decide, by decide, sg.pool, fun H4 r b4 hp4 r0 r1 => ⟨_, _, rfl, rfl, _, rfl, p, 5, rfl, by decide, by decide, hp4, fun H5 r' b5 hp5 _ _ => ⟨_, _, rfl, rfl, by show 2 ≤ sizeLine; decide, fun t nt => ?_⟩⟩⟩
      obtain ⟨o, g, sg2, put⟩ := there (x := r - 2) (y := r' - 2) sg (b4.trans b5) hp5 nt
      have eL3 : upd H5 t (.tup [.int (r - 2), .int (r' - 2)]) L = some (.lst (zs.map V.str)) := same_upd nt _ _ ((b4.trans b5) _ _ nLp eL2)
      refine ⟨.ref t, rfl, .ref D, rfl, D, _, rfl, g, _, rfl, ?_⟩
      cases o with
      | some z' => exact iteDN rfl ⟨sg2, eL3, _, _, _, _, rfl⟩
      | none =>
        obtain ⟨c, hc⟩ := str_at (z := z) (i := 0) (by decide) (by omega)
        have hu := PyProof.Rows.len_upper (⟨#[c]⟩ : Str)
        have hu1 : (⟨#[c]⟩ : Str).length = 1 := rfl
        have hcut := cut_len z (some 1) none
        obtain ⟨H6, dp, sg3, old⟩ := put rfl (by omega) (z := Txt.upper ⟨#[c]⟩ ++ cutS z (some 1) none) (cap_ok (nm z (List.mem_of_getElem? hz)) z1 z8 hc) (But.refl _ _) sg2.pool
        refine iteDY rfl ⟨.str z, rfl, z, 0, c, rfl, rfl, thou (by omega), hc, rfl, _, rfl, rfl, (by rw [hu1]; decide), .str z, rfl, 1, rfl, z, rfl, thou (by omega), _, _, rfl, rfl, thou (by omega), ?_⟩
        exact ⟨.ref D, rfl, .ref t, rfl, D, H6, rfl, dp, sg3, old _ _ LD eL3, _, _, _, _, rfl⟩
    rintro σ H2 ⟨sg, _, y3, y4, y5, y6, rfl⟩
    rw [List.length_map] at sg
    refine ⟨.ref p, rfl, p, 4, rfl, by decide, by decide, sg.pool, fun H3 r b3 hp3 r0 r1 => ?_⟩
    obtain ⟨k, rfl⟩ : ∃ k : Nat, r = k := ⟨r.toNat, by omega⟩
    refine ⟨k, rfl, by omega, by omega, for_range (n := k) (fun i σ H' => SgIn p H H' D (zs.length + 1 + i) ∧ ∃ y3 y4 y5 y6, σ = [some (.ref p), some (.int (m : Nat)), some (.ref D), y3, y4, y5, y6]) ⟨sg.next nDp b3 hp3, _, _, _, _, rfl⟩ ?_ ?_⟩
    · rintro i σ H4 hi ⟨sg, y3, y4, y5, y6, rfl⟩
      refine ⟨_, rfl, p, 5, rfl, by decide, by decide, sg.pool, fun H5 r b5 hp5 r0 r1 => ⟨_, _, rfl, rfl, _, rfl, p, 5, rfl, by decide, by decide, hp5, fun H6 r' b6 hp6 _ _ => ⟨_, _, rfl, rfl, by show 2 ≤ sizeLine; decide, fun t nt => ?_⟩⟩⟩
      obtain ⟨o, g, sg2, put⟩ := there (x := r - 2) (y := r' - 2) sg (b5.trans b6) hp6 nt
      refine ⟨.ref t, rfl, .ref D, rfl, D, _, rfl, g, _, rfl, ?_⟩
      cases o with
      | some z' => exact iteDN rfl ⟨sg2, _, _, _, _, rfl⟩
      | none =>
        refine iteDY rfl ⟨by decide, fun t3 nt3 => ⟨.ref p, rfl, p, 3, rfl, by decide, by decide, (sg2.pool.same (same_upd nt3)), fun H7 j b7 hp7 j0 j1 => ?_⟩⟩
        obtain ⟨z, hz, oz⟩ := three j0 j1
        have st3 := same_upd (o := .tup [.str "oak", .str "elm", .str "x"]) nt3
        have t3p : t3 ≠ p := sg2.pool.ne_new nt3
        obtain ⟨H8, dp, sg3, old⟩ := put rfl (by omega) (z := z) oz ((But.of st3).trans b7) hp7
        exact ⟨t3, _, _, _, rfl, rfl, .inl (.inl (b7 _ _ t3p upd_same)), hz, .ref D, rfl, .ref t, rfl, D, H8, rfl, dp, sg3, _, _, _, _, rfl⟩
    rintro σ H4 ⟨sg, y3, y4, y5, y6, rfl⟩
    obtain ⟨sn, eD, _, sok⟩ := sg.ex
    refine ⟨Nat.zero_le _, fun S nS => ?_⟩
    have sS := same_upd (o := .lst []) nS
    have nS0 : H S = none := sg.but.free (sg.pool.ne_new nS) nS
    have nSp : S ≠ p := sg.pool.ne_new nS
    have DS : D ≠ S := ne_of_none eD nS
    refine ⟨.ref p, rfl, p, 8, rfl, by decide, by decide, sg.pool.same sS, fun H5 r b5 hp5 r0 r1 => ?_⟩
    obtain ⟨k, rfl⟩ : ∃ k : Nat, r = k := ⟨r.toNat, by omega⟩
    refine ⟨k, rfl, by omega, by omega, for_range (n := k) (fun i σ H' => But p H H' ∧ Pool H' p ∧ H' D = some (.dT (kvsL sn)) ∧ ∃ ss sh y3 y4 y5, H' S = some (.lst ss) ∧ ShsAt H' ss sh ∧ sh.length = i ∧ σ = [some (.ref p), some (.int (m : Nat)), some (.ref D), y3, y4, y5, some (.ref S)])
      ⟨(sg.but.trans (But.of sS)).trans b5, hp5, b5 _ _ nDp (sS _ _ eD), [], [], _, _, _, b5 _ _ nSp upd_same, .nil, rfl, rfl⟩ ?_ ?_⟩
    · rintro i σ H6 hi ⟨b6, hp6, eD6, ss, sh, y3, y4, y5, eS6, hs6, ls, rfl⟩
      refine ⟨.ref S, rfl, .inl ⟨rfl, _, .inl (.inl eS6)⟩, .ref p, rfl, p, 5, rfl, by decide, by decide, hp6, fun H7 r b7 hp7 _ _ => ⟨_, _, rfl, rfl, .ref p, rfl, p, 5, rfl, by decide, by decide, hp7, fun H8 r' b8 hp8 _ _ => ⟨_, _, rfl, rfl, .ref p, rfl, p, 2, rfl, by decide, by decide, hp8, fun H9 j b9 hp9 j0 j1 => ?_⟩⟩⟩
      obtain ⟨l, hl⟩ := ne_lt j0 j1
      refine ⟨_, _, _, rfl, rfl, by decide +kernel, hl, by show 3 ≤ sizeLine; decide, fun t nt => ?_⟩
      have b69 := (b7.trans b8).trans b9
      have st := same_upd (o := .tup [.int (r - 2), .int (r' - 2), .str (Lt l)]) nt
      have hp10 := hp9.upd (o := .tup [.int (r - 2), .int (r' - 2), .str (Lt l)]) (hp9.ne_new nt)
      have b6t := b69.trans (But.of st)
      have eS10 := b6t _ _ nSp eS6
      have tS : t ≠ S := Ne.symm (ne_of_none (b69 _ _ nSp eS6) nt)
      have put : ∀ {v : V} {w : Sht}, (∃ a, v = V.ref a ∧ upd H9 t (.tup [.int (r - 2), .int (r' - 2), .str (Lt l)]) a = some (.tup [.int w.1, .int w.2.1, .str (Lt w.2.2)])) → ∃ a, v = V.ref a ∧ upd (upd H9 t (.tup [.int (r - 2), .int (r' - 2), .str (Lt l)])) S (.lst (ss ++ [.ref t])) a = some (.tup [.int w.1, .int w.2.1, .str (Lt w.2.2)]) := fun ⟨a, ea, h⟩ =>
        ⟨a, ea, by rw [upd_ne (ne_of h eS10 (by intro z; cases z))]; exact h⟩
      refine ⟨S, ss, _, rfl, rfl, eS10, small1000 (by rw [hs6.len]; omega), (b6.trans b6t).mut nS0, hp10.upd nSp, by rw [upd_ne DS]; exact b6t _ _ nDp eD6, ss ++ [.ref t], sh ++ [(r - 2, r' - 2, l)], _, _, _, upd_same, ?_, by rw [List.length_append, ls]; rfl, rfl⟩
      exact F2.snoc ((hs6.but hp6 b6t).imp fun _ _ => put) ⟨t, rfl, by rw [upd_ne tS]; exact upd_same⟩
    · rintro σ H6 ⟨b6, hp6, eD6, ss, sh, y3, y4, y5, eS6, hs6, ls, rfl⟩
      refine ⟨.ref D, rfl, .ref S, rfl, by show 2 ≤ sizeLine; decide, fun t nt => ?_⟩
      have st := same_upd (o := .tup [.ref D, .ref S]) nt
      exact q _ t sn sh (b6.trans (But.of st)) (hp6.same st) ⟨⟨D, S, ss, upd_same, st _ _ eD6, nSp, st _ _ eS6, hs6.same st⟩, by omega⟩ sok
--@@SPLIT
theorem turnV : ∀ q : Fin 3, valV (mergeK [] [((Sum.inr (PySem.Str.ofString "left") : Key), V.int 3), (Sum.inr (PySem.Str.ofString "right"), .int 1), (Sum.inr (PySem.Str.ofString "back"), .int 2)]) (Sum.inr (ws (Ent.kind (.turn q)))) = some (.int ((tq q).val : Int))
  | 0 => rfl
  | 1 => rfl
  | 2 => rfl
/-! ### an entry written in the land -/
/-- an entry written at (x, y), looking to l: where it leads, and that all facts of it are so -/
structure StepOk (sg : List Sgn) (sh : List Sht) (x y : Int) (l : Fin 4) (e : Ent) (x' y' : Int) (l' : Fin 4) : Prop where
  swap : e.isSwap = false
  look : ∀ a, nlook a (some l) e = some l'
  east : x' = nx x (some l) e
  north : y' = ny y (some l) e
  so : ∀ (i : Nat) (k : Wk) (sx sy : Int), k.look = some l → k.x + sx = x → k.y + sy = y → ∀ d ∈ factsOf i k e, SoF sg sh sx sy d
theorem wx_add (x s : Int) (l : Fin 4) : wx x l + s = wx (x + s) l := by
  match l with
  | 3 => show x - 1 + s = x + s - 1; omega
  | 0 => rfl
  | 1 => rfl
  | 2 => rfl
theorem wy_add (y s : Int) (l : Fin 4) : wy y l + s = wy (y + s) l := by
  match l with
  | 2 => show y - 1 + s = y + s - 1; omega
  | 0 => rfl
  | 1 => rfl
  | 3 => rfl
def wayAt (x y : Int) (l : Fin 4) (j : Nat) : Sht := (wx (x + (j : Int) * dx l) l, wy (y + (j : Int) * dy l) l, wside l)
section
variable {sg : List Sgn} {sh : List Sht} {x y : Int} {l : Fin 4}
theorem step_turn (q : Fin 3) : StepOk sg sh x y l (.turn q) x y (l + tq q) := ⟨rfl, fun _ => rfl, rfl, rfl, fun _ _ _ _ _ _ _ _ m => nomatch m⟩
theorem step_bump (h : wayAt x y l 0 ∈ sh) : StepOk sg sh x y l .bump x y l := ⟨rfl, fun _ => rfl, rfl, rfl, fun i k sx sy el ex ey d m => by
  have ef : factsOf i k .bump = [wayD i "shut" k.x k.y l] := by unfold factsOf; rw [el]
  rw [ef] at m
  rw [List.mem_singleton.mp m]
  refine .shut ?_
  rw [wx_add, wy_add, ex, ey]
  have e : wayAt x y l 0 = (wx x l, wy y l, wside l) := by
    show (wx (x + 0 * dx l) l, wy (y + 0 * dy l) l, wside l) = _
    rw [Int.zero_mul, Int.zero_mul, Int.add_zero, Int.add_zero]
  exact e ▸ h⟩
theorem step_go {n : Fin 9} (h : ∀ j, j < n.val + 1 → wayAt x y l j ∉ sh) : StepOk sg sh x y l (.go n) (x + ((n.val : Int) + 1) * dx l) (y + ((n.val : Int) + 1) * dy l) l := ⟨rfl, fun _ => rfl, rfl, rfl, fun i k sx sy el ex ey d m => by
  have ef : factsOf i k (.go n) = openL i k.x k.y l (n.val + 1) := by unfold factsOf; rw [el]
  rw [ef] at m
  obtain ⟨j, hj, rfl⟩ := List.mem_map.mp m
  refine .opn ?_
  rw [wx_add, wy_add, show k.x + (j : Int) * dx l + sx = x + (j : Int) * dx l by omega, show k.y + (j : Int) * dy l + sy = y + (j : Int) * dy l by omega]
  exact h j (List.mem_range.mp hj)⟩
theorem step_spy {n : Fin 9} {z : Str} (h : sgAt sg (x + ((n.val : Int) + 1) * dx l) (y + ((n.val : Int) + 1) * dy l) = some z) : StepOk sg sh x y l (.spy n z) x y l := ⟨rfl, fun _ => rfl, rfl, rfl, fun i k sx sy el ex ey d m => by
  have ef : factsOf i k (.spy n z) = [factD i "sign" (k.x + ((n.val : Int) + 1) * dx l) (k.y + ((n.val : Int) + 1) * dy l) z] := by unfold factsOf; rw [el]
  rw [ef] at m
  rw [List.mem_singleton.mp m]
  refine .sign ?_
  rw [show k.x + ((n.val : Int) + 1) * dx l + sx = x + ((n.val : Int) + 1) * dx l by omega, show k.y + ((n.val : Int) + 1) * dy l + sy = y + ((n.val : Int) + 1) * dy l by omega]
  exact h⟩
theorem step_sign {z : Str} (h : sgAt sg x y = some z) : StepOk sg sh x y l (.sign z) x y l := ⟨rfl, fun _ => rfl, rfl, rfl, fun i k sx sy _ ex ey d m => by
  rw [List.mem_singleton.mp (show d ∈ [factD i "sign" k.x k.y z] from m)]
  refine .sign ?_
  rw [ex, ey]
  exact h⟩
theorem step_bare (h : sgAt sg x y = none) : StepOk sg sh x y l .bare x y l := ⟨rfl, fun _ => rfl, rfl, rfl, fun i k sx sy _ ex ey d m => by
  rw [List.mem_singleton.mp (show d ∈ [factD i "bare" k.x k.y ""] from m)]
  refine .bare ?_
  rw [ex, ey]
  exact h⟩
end
theorem three_w {r : Int} (h0 : 0 ≤ r) (h1 : r < 3) : ∃ q : Fin 3, atI [V.str (PySem.Str.ofString "left"), .str (PySem.Str.ofString "right"), .str (PySem.Str.ofString "back")] r = some (.str (ws (Ent.kind (.turn q)))) := by
  obtain rfl | rfl | rfl : r = 0 ∨ r = 1 ∨ r = 2 := by omega
  · exact ⟨0, rfl⟩
  · exact ⟨1, rfl⟩
  · exact ⟨2, rfl⟩
def spEntryL : Sp := fun vs H Q _ => ∃ (p t : Addr) (k : Int) (pl : Addr) (x y : Int) (l : Fin 4) (sg : List Sgn) (sh : List Sht), vs = [.ref p, .ref t, .int k, .ref pl, .str (Lt l)] ∧ 3 ≤ k ∧ k ≤ 11 ∧ Pool H p ∧ LandAt p H t sg sh ∧ H pl = some (.tup [.int x, .int y]) ∧
  ∀ H' r en pl' e x' y' l', But p H H' → Pool H' p → H' r = some (.tup [.ref en, .ref pl', .str (Lt l')]) → H' en = some (.tup (Ent.vs e)) → H' pl' = some (.tup [.int x', .int y']) → StepOk sg sh x y l e x' y' l' → Q (.ref r) H'
theorem ok_Lentry (T : Top w K mg) : FnOk P w K mg base CX0 3 T.a_Lentry T.fd_Lentry ["_law_pool_here", "_law_land_here", "_law_pick", "_law_place", "_law_look"] spEntryL := by
  have G_Ltake := ok_Ltake (P := P) (w := w) (base := base) T
  have G_Loff := ok_Loff (P := P) (w := w) (base := base) T
  have G_Lside := ok_Lside (P := P) (w := w) (base := base) T
  refine T.F_Lentry.ok sc_Lentry (fun vs H Q E h => ?_) (fun cdv A outer s H vs Q E hr h => ?_)
  · obtain ⟨p, t, k, pl, x, y, l, sg, sh, rfl, _⟩ := h
    rfl
  · obtain ⟨p, t, k, pl, x, y, l, sg, sh, rfl, k0, k1, hp, hl, hpl, q⟩ := h
    obtain ⟨⟨D, S, ss, ht, hD, Sp, hS, hss⟩, few⟩ := id hl
    refine ⟨_, (pss_cons (ps_asg (pv 1) (pg_tup rfl (pgs_cons (pg_name (i := 5) sc_Lentry.nd rfl (.inl rfl)) (pgs_cons (pg_name (i := 6) sc_Lentry.nd rfl (.inl rfl)) pgs_nil))))
      (pss_cons (ps_if (pt_cmpR op_eq (pv 2) pe_int (nomark _)) (pss_cons (ps_set (i := 7) sc_Lentry.nd rfl (.inl rfl) (pe_ix ix_tup (pe_tup (pa_cons pe_str (pa_cons pe_str (pa_cons pe_str pa_nil)))) (pe_call G_Ltake (hr.mono (by decide)) (by rfl) T.g_Ltake T.F_Ltake.kp T.b_Ltake .nil pass0 (pa_cons (pv 0) (pa_cons pe_int pa_nil))) (fun _ _ => rfl)))
      (pss_one (ps_ret (pe_tup (pa_cons (pe_tup (pa_cons (pv 7) pa_nil)) (pa_cons (pv 3) (pa_cons (pe_ix ix_str pe_str (pe_op op_mod (pe_op op_add (pe_bm PySem.F.plainAttrs_str PySem.F.slot_str_index PySem.F.type_str_index mt_sindex pe_str (pa_cons (pv 4) pa_nil)) (pe_dget (hu_of hr) (pe_disp (pps_cons pe_str pe_int (pps_cons pe_str pe_int (pps_cons pe_str pe_int pps_nil))) (by rfl) (by rfl) (fun z => by cases z) (by decide)) (pv 7) (fun _ _ => rfl))) pe_int) (fun _ _ => rfl)) pa_nil))))))) pss_nil)
      (pss_cons (ps_if (pt_cmpR op_lt (pv 2) pe_int (nomark _)) (pss_cons (ps_set (i := 8) sc_Lentry.nd rfl (.inl rfl) (pe_op op_add pe_int (pe_call G_Ltake (hr.mono (by decide)) (by rfl) T.g_Ltake T.F_Ltake.kp T.b_Ltake .nil pass0 (pa_cons (pv 0) (pa_cons pe_int pa_nil)))))
      (pss_cons (ps_set (i := 9) sc_Lentry.nd rfl (.inl rfl) pe_int)
      (pss_cons (ps_while PassesOwn.never (PW.pt (pw_and (pt_cmpR op_lt (pv 9) (pv 8) (nomark _)) (pw_and1 (pt_cmpR (op_notInD (units65 hr)) (pe_call G_Lside hr (by rfl) T.g_Lside T.F_Lside.kp T.b_Lside .nil pass0 (pa_cons (pe_call G_Loff (hr.mono (by decide)) (by rfl) T.g_Loff T.F_Loff.kp T.b_Loff .nil pass0 (pa_cons (pv 3) (pa_cons (pv 4) (pa_cons (pv 9) pa_nil)))) (pa_cons (pv 4) pa_nil))) (pv 6) (by rfl))))) (pss_one (ps_set (i := 9) sc_Lentry.nd rfl (.inl rfl) (pe_op op_add (pv 9) pe_int))))
      (pss_cons (ps_if (pt_cmpR op_eq (pv 9) pe_int (nomark _)) (pss_one (ps_ret (pe_tup (pa_cons (pe_tup (pa_cons pe_str pa_nil)) (pa_cons (pv 3) (pa_cons (pv 4) pa_nil)))))) pss_nil)
      (pss_one (ps_ret (pe_tup (pa_cons (pe_tup (pa_cons pe_str (pa_cons (pv 9) pa_nil))) (pa_cons (pe_call G_Loff (hr.mono (by decide)) (by rfl) T.g_Loff T.F_Loff.kp T.b_Loff .nil pass0 (pa_cons (pv 3) (pa_cons (pv 4) (pa_cons (pv 9) pa_nil)))) (pa_cons (pv 4) pa_nil)))))))))) pss_nil)
      (pss_cons (ps_set (i := 10) sc_Lentry.nd rfl (.inl rfl) (pe_op op_add pe_int (pe_call G_Ltake (hr.mono (by decide)) (by rfl) T.g_Ltake T.F_Ltake.kp T.b_Ltake .nil pass0 (pa_cons (pv 0) (pa_cons pe_int pa_nil)))))
      (Evl.pss_cut (ps_if (PW.pt (pw_and (pt_cmpR op_eq (pv 2) pe_int (nomark _)) (pw_and1 (pt_cmp (pc_din (hu_of hr) (pe_call G_Loff (hr.mono (by decide)) (by rfl) T.g_Loff T.F_Loff.kp T.b_Loff .nil pass0 (pa_cons (pv 3) (pa_cons (pv 4) (pa_cons (pv 10) pa_nil)))) (pv 5)))))) (pss_one (ps_ret (pe_tup (pa_cons (pe_tup (pa_cons pe_str (pa_cons (pv 10) (pa_cons (pe_dget (hu_of hr) (pv 5) (pe_call G_Loff (hr.mono (by decide)) (by rfl) T.g_Loff T.F_Loff.kp T.b_Loff .nil pass0 (pa_cons (pv 3) (pa_cons (pv 4) (pa_cons (pv 10) pa_nil)))) (fun _ _ => rfl)) pa_nil)))) (pa_cons (pv 3) (pa_cons (pv 4) pa_nil)))))) pss_nil)
      (pss_cons (ps_if (pt_cmp (pc_din (hu_of hr) (pv 3) (pv 5))) (pss_one (ps_ret (pe_tup (pa_cons (pe_tup (pa_cons pe_str (pa_cons (pe_dget (hu_of hr) (pv 5) (pv 3) (fun _ _ => rfl)) pa_nil))) (pa_cons (pv 3) (pa_cons (pv 4) pa_nil)))))) pss_nil)
      (pss_one (ps_ret (pe_tup (pa_cons (pe_tup (pa_cons pe_str pa_nil)) (pa_cons (pv 3) (pa_cons (pv 4) pa_nil)))))))))))), ?_⟩
    refine ⟨.ref t, rfl, t, _, rfl, .inl (.inl ht), rfl, _, _, rfl, _, _, rfl, rfl, ?_⟩
    -- what is told at the end
    have fin : ∀ (H' : Hp) (e : Ent) (pl' : Addr) (x' y' : Int) (l' : Fin 4), But p H H' → Pool H' p → H' pl' = some (.tup [.int x', .int y']) → StepOk sg sh x y l e x' y' l' → ∀ en, H' en = none → ∀ r, upd H' en (.tup (Ent.vs e)) r = none →
        Q (.ref r) (upd (upd H' en (.tup (Ent.vs e))) r (.tup [.ref en, .ref pl', .str (Lt l')])) := fun H' e pl' x' y' l' b hp' hpl' st en nen r nr => by
      have s1 := same_upd (o := .tup (Ent.vs e)) nen
      have s2 := same_upd (o := .tup [.ref en, .ref pl', .str (Lt l')]) nr
      exact q _ r en pl' e x' y' l' (b.trans (But.of (s1.trans s2))) (hp'.same (s1.trans s2)) upd_same (s2 _ _ upd_same) ((s1.trans s2) _ _ hpl') st
    refine ⟨.int k, rfl, rfl, _, rfl, ite2 (fun e3 => ?_) (fun e3 => ?_)⟩
    · -- it turns
      refine ⟨by show 3 ≤ sizeLine; decide, fun t3 nt3 => ⟨.ref p, rfl, p, 3, rfl, by decide, by decide, hp.same (same_upd nt3), fun H1 j b1 hp1 j0 j1 => ?_⟩⟩
      obtain ⟨w3, hw3⟩ := three_w j0 j1
      have b01 := (But.of (same_upd (o := .tup [.str "left", .str "right", .str "back"]) nt3)).trans b1
      have t3p : t3 ≠ p := hp.ne_new nt3
      refine ⟨t3, _, _, _, rfl, rfl, .inl (.inl (b1 _ _ t3p upd_same)), hw3, ?_⟩
      have hpl1 := b01 _ _ (hp.ne_tup hpl) hpl
      refine ⟨_, rfl, by show 1 ≤ sizeLine; decide, fun en nen => ⟨.ref pl, rfl, rfl, _, rfl, _, _, l.val, [], rfl, rfl, occ l, ?_⟩⟩
      intro d nd
      have s1 := same_upd (o := .tup [.str (ws (Ent.kind (.turn w3)))]) nen
      have sd := same_upd (o := .dK []) nd
      refine ⟨upd_same, [(Sum.inr (PySem.Str.ofString "left"), .int 3), (Sum.inr (PySem.Str.ofString "right"), .int 1), (Sum.inr (PySem.Str.ofString "back"), .int 2)], rfl, Nat.le_of_ble_eq_true rfl, ?_⟩
      have sd2 : Same (upd H1 en (.tup [.str (ws (Ent.kind (.turn w3)))])) (upd (upd (upd H1 en (.tup [.str (ws (Ent.kind (.turn w3)))])) d (.dK [])) d (.dK (mergeK [] [((Sum.inr (PySem.Str.ofString "left") : Key), V.int 3), (Sum.inr (PySem.Str.ofString "right"), .int 1), (Sum.inr (PySem.Str.ofString "back"), .int 2)]))) := fun c o z => by
        rw [upd_ne (ne_of_none z nd)]
        exact sd _ _ z
      refine ⟨_, rfl, d, .int ((tq w3).val : Int), rfl, ?_, ?_⟩
      · have g := DGet.k (k := Sum.inr (ws (Ent.kind (.turn w3)))) (H := upd (upd (upd H1 en (.tup [.str (ws (Ent.kind (.turn w3)))])) d (.dK [])) d (.dK (mergeK [] [((Sum.inr (PySem.Str.ofString "left") : Key), V.int 3), (Sum.inr (PySem.Str.ofString "right"), .int 1), (Sum.inr (PySem.Str.ofString "back"), .int 2)]))) (a := d) upd_same
        rw [turnV w3] at g
        exact g
      · refine ⟨_, _, rfl, rfl, _, _, rfl, rfl, by show (0 : Int) < 4; decide, _, _, _, rfl, rfl, nesw_len, at_turn l w3, by show 3 ≤ sizeLine; decide, fun r nr => ?_⟩
        have s2 := same_upd (o := .tup [.ref en, .ref pl, .str (Lt (l + tq w3))]) nr
        have s02 := (s1.trans sd2).trans s2
        exact q _ r en pl (.turn w3) x y (l + tq w3) (b01.trans (But.of s02)) (hp1.same s02) upd_same ((sd2.trans s2) _ _ upd_same) (s02 _ _ hpl1) (step_turn w3)
    have k4 : ¬ k = 3 := fun z => e3 (by rw [z]; exact decide_eq_true rfl)
    refine ⟨.int k, rfl, _, _, rfl, rfl, _, rfl, ite2 (fun e8 => ?_) (fun e8 => ?_)⟩
    · -- it goes as far as it may
      refine ⟨.ref p, rfl, p, 3, rfl, by decide, by decide, hp, fun H1 j b1 hp1 j0 j1 => ⟨_, _, rfl, rfl, ?_⟩⟩
      obtain ⟨g, hg, g1, g3⟩ : ∃ g : Nat, 1 + j = (g : Int) ∧ 1 ≤ g ∧ g ≤ 3 := ⟨(1 + j).toNat, by omega, by omega, by omega⟩
      rw [show (fun i j => V.int (i + j)) 1 j = V.int (g : Int) from congrArg V.int hg]
      refine ⟨fun m σ' H' => ∃ n : Nat, n + m = g ∧ Same H1 H' ∧ σ' = [some (.ref p), some (.ref t), some (.int k), some (.ref pl), some (.str (Lt l)), some (.ref D), some (.ref S), none, some (.int (g : Nat)), some (.int (n : Nat)), none] ∧ ∀ j, j < n → wayAt x y l j ∉ sh, ⟨g, 0, by omega, Same.refl _, rfl, fun j h => nomatch h⟩, ?_⟩
      rintro m σ' H2 ⟨n, hn, s2, rfl, free⟩
      have b02 := b1.trans (But.of s2)
      have hp2 := hp1.same s2
      have hpl2 := b02 _ _ (hp.ne_tup hpl) hpl
      obtain ⟨l0, c0, kk, n0, _, pat⟩ := id hp
      have hS2 := b02 _ _ Sp hS
      have hss2 := hss.but hp b02
      refine ⟨.int (n : Nat), rfl, .int (g : Nat), rfl, _, _, rfl, rfl, _, rfl, ite2 (fun lt => ?_) (fun ge => ?_)⟩
      · have lt : (n : Int) < g := of_decide_eq_true lt
        refine ⟨.ref pl, rfl, .str (Lt l), rfl, .int (n : Nat), rfl, pl, x, y, n, l, rfl, .inl (.inl hpl2), fun H3 a s3 na ea => ⟨.str (Lt l), rfl, a, _, _, l, rfl, .inl (.inl ea), fun H4 c s4 nc ec => ?_⟩⟩
        have s24 := s3.trans s4
        have hD : Dp K H4 (.ref c) (shD (wayAt x y l n)) := .tup (.inl (.inl ec)) (.cons (.int _) (.cons (.int _) (.cons (.str _) .nil)))
        have hE : Dp K H4 (.ref S) (.list (sh.map shD)) := .lst (.inl (.inl (s24 _ _ hS2))) ((hss2.same s24).dp)
        refine ⟨.ref S, rfl, _, _, hD, hE, shD_shaped _, shs_shaped _, _, rfl, ?_⟩
        rw [sh_any]
        by_cases mem : wayAt x y l n ∈ sh
        · refine iteDN (by rw [decide_eq_true mem]; rfl) ?_
          have sx : Same H1 H4 := s2.trans s24
          have bx := b1.trans (But.of sx)
          have px := hp1.same sx
          have plx := bx _ _ (hp.ne_tup hpl) hpl
          refine ⟨.int (n : Nat), rfl, rfl, _, rfl, ite2 (fun z => ?_) (fun z => ?_)⟩
          · have z : V.int (n : Nat) = V.int 0 := of_decide_eq_true z
            have n0 : n = 0 := by injection z with z; omega
            subst n0
            exact ⟨by show 1 ≤ sizeLine; decide, fun en nen => ⟨.ref pl, rfl, .str (Lt l), rfl, by show 3 ≤ sizeLine; decide, fun r nr => fin _ .bump pl x y l bx px plx (step_bump mem) en nen r nr⟩⟩
          · have n0 : n ≠ 0 := fun z' => z (by rw [z']; exact decide_eq_true rfl)
            obtain ⟨q9, hq9⟩ : ∃ q : Fin 9, n = q.val + 1 := ⟨⟨n - 1, by omega⟩, by show n = n - 1 + 1; omega⟩
            subst hq9
            refine ⟨.int ((q9.val + 1 : Nat) : Int), rfl, by show 2 ≤ sizeLine; decide, fun en nen => ⟨.ref pl, rfl, .str (Lt l), rfl, .int ((q9.val + 1 : Nat) : Int), rfl, pl, x, y, ((q9.val + 1 : Nat) : Int), l, rfl, .inl (.inl (same_upd nen _ _ plx)), fun H5 a s5 na ea => ⟨.str (Lt l), rfl, by show 3 ≤ sizeLine; decide, fun r nr => ?_⟩⟩⟩
            have se := same_upd (o := .tup [.str "go", .int ((q9.val + 1 : Nat) : Int)]) nen
            have sr := same_upd (o := .tup [.ref en, .ref a, .str (Lt l)]) nr
            exact q _ r en a (.go q9) _ _ l (bx.trans (But.of ((se.trans s5).trans sr))) (px.same ((se.trans s5).trans sr)) upd_same ((s5.trans sr) _ _ upd_same) (sr _ _ ea) (step_go free)
        · refine iteDY (by rw [decide_eq_false mem]; rfl) ⟨_, fun σ' H' (z : H4 = H' ∧ σ' = [some (.ref p), some (.ref t), some (.int k), some (.ref pl), some (.str (Lt l)), some (.ref D), some (.ref S), none, some (.int (g : Nat)), some (.int ((n + 1 : Nat) : Int)), none]) => ⟨m - 1, by omega, n + 1, by omega, z.1 ▸ s2.trans s24, z.2, fun j hj => ?_⟩, .int (n : Nat), rfl, _, _, rfl, rfl, rfl, rfl⟩
          by_cases e : j = n
          · exact e ▸ mem
          · exact free j (by omega)
      · have ge : ¬ (n : Int) < g := fun z => ge (decide_eq_true z)
        refine iteDN rfl ?_
        have sx : Same H1 H2 := s2.trans (Same.refl H2)
        have bx := b1.trans (But.of sx)
        have px := hp1.same sx
        have plx := bx _ _ (hp.ne_tup hpl) hpl
        refine ⟨.int (n : Nat), rfl, rfl, _, rfl, ite2 (fun z => ?_) (fun z => ?_)⟩
        · have z : V.int (n : Nat) = V.int 0 := of_decide_eq_true z
          have n0 : n = 0 := by injection z with z; omega
          subst n0
          exact ⟨by show 1 ≤ sizeLine; decide, fun en nen => ⟨.ref pl, rfl, .str (Lt l), rfl, by show 3 ≤ sizeLine; decide, fun r nr => fin _ .bump pl x y l bx px plx (step_bump (by omega)) en nen r nr⟩⟩
        · have n0 : n ≠ 0 := fun z' => z (by rw [z']; exact decide_eq_true rfl)
          obtain ⟨q9, hq9⟩ : ∃ q : Fin 9, n = q.val + 1 := ⟨⟨n - 1, by omega⟩, by show n = n - 1 + 1; omega⟩
          subst hq9
          refine ⟨.int ((q9.val + 1 : Nat) : Int), rfl, by show 2 ≤ sizeLine; decide, fun en nen => ⟨.ref pl, rfl, .str (Lt l), rfl, .int ((q9.val + 1 : Nat) : Int), rfl, pl, x, y, ((q9.val + 1 : Nat) : Int), l, rfl, .inl (.inl (same_upd nen _ _ plx)), fun H5 a s5 na ea => ⟨.str (Lt l), rfl, by show 3 ≤ sizeLine; decide, fun r nr => ?_⟩⟩⟩
          have se := same_upd (o := .tup [.str "go", .int ((q9.val + 1 : Nat) : Int)]) nen
          have sr := same_upd (o := .tup [.ref en, .ref a, .str (Lt l)]) nr
          exact q _ r en a (.go q9) _ _ l (bx.trans (But.of ((se.trans s5).trans sr))) (px.same ((se.trans s5).trans sr)) upd_same ((s5.trans sr) _ _ upd_same) (sr _ _ ea) (step_go free)
    -- it tells what stands there, or ahead
    have sgn : ∀ {H' : Hp} {a : Addr} {u v : Int}, But p H H' → H' a = some (.tup [.int u, .int v]) → DGet H' D (.ref a) ((sgAt sg u v).map V.str) := fun {H' a u v} b ea => by
      obtain ⟨l0, c0, kk, n0, _, pat⟩ := id hp
      have g := DGet.t (k := [.inl u, .inl v]) (b _ _ (ne_of hD pat (by intro z; cases z)) hD) ea
      rw [valV_sg] at g
      exact g
    refine ⟨.ref p, rfl, p, 4, rfl, by decide, by decide, hp, fun H1 j b1 hp1 j0 j1 => ⟨_, _, rfl, rfl, ?_⟩⟩
    obtain ⟨n, hn⟩ : ∃ n : Fin 9, 1 + j = (n.val : Int) + 1 := ⟨⟨j.toNat, by omega⟩, by show 1 + j = (j.toNat : Int) + 1; omega⟩
    rw [show (fun i j => V.int (i + j)) 1 j = V.int ((n.val : Int) + 1) from congrArg V.int hn]
    have hpl1 := b1 _ _ (hp.ne_tup hpl) hpl
    refine ⟨fun σ' H' => But p H H' ∧ Pool H' p ∧ σ' = [some (.ref p), some (.ref t), some (.int k), some (.ref pl), some (.str (Lt l)), some (.ref D), some (.ref S), none, none, none, some (.int ((n.val : Int) + 1))], ?_, ?_⟩
    · refine ⟨.int k, rfl, rfl, _, rfl, ite2 (fun e => ?_) (fun e => iteF ⟨b1, hp1, rfl⟩)⟩
      refine ⟨.ref pl, rfl, .str (Lt l), rfl, .int ((n.val : Int) + 1), rfl, pl, x, y, (n.val : Int) + 1, l, rfl, .inl (.inl hpl1), fun H2 a s2 na ea => ?_⟩
      have b2 := b1.trans (But.of s2)
      refine ⟨.ref D, rfl, D, _, rfl, sgn b2 ea, _, rfl, ?_⟩
      cases ez : sgAt sg (x + ((n.val : Int) + 1) * dx l) (y + ((n.val : Int) + 1) * dy l) with
      | none => exact iteDN rfl ⟨b2, hp1.same s2, rfl⟩
      | some z =>
        refine iteDY rfl ⟨.int ((n.val : Int) + 1), rfl, .ref D, rfl, .ref pl, rfl, .str (Lt l), rfl, .int ((n.val : Int) + 1), rfl, pl, x, y, (n.val : Int) + 1, l, rfl, .inl (.inl (s2 _ _ hpl1)), fun H3 a3 s3 na3 ea3 => ?_⟩
        have b3 := b2.trans (But.of s3)
        have g := sgn b3 ea3
        rw [ez] at g
        exact ⟨D, .str z, rfl, g, by show 3 ≤ sizeLine; decide, fun en nen => ⟨.ref pl, rfl, .str (Lt l), rfl, by show 3 ≤ sizeLine; decide, fun r nr => fin _ (.spy n z) pl x y l b3 (hp1.same (s2.trans s3)) (b3 _ _ (hp.ne_tup hpl) hpl) (step_spy ez) en nen r nr⟩⟩
    · rintro σ' H2 ⟨b2, hp2, rfl⟩
      have hpl2 := b2 _ _ (hp.ne_tup hpl) hpl
      refine ⟨.ref pl, rfl, .ref D, rfl, D, _, rfl, sgn b2 hpl2, _, rfl, ?_⟩
      cases ez : sgAt sg x y with
      | none => exact iteDN rfl ⟨by show 1 ≤ sizeLine; decide, fun en nen => ⟨.ref pl, rfl, .str (Lt l), rfl, by show 3 ≤ sizeLine; decide, fun r nr => fin _ .bare pl x y l b2 hp2 hpl2 (step_bare ez) en nen r nr⟩⟩
      | some z =>
        have g := sgn b2 hpl2
        rw [ez] at g
        exact iteDY rfl ⟨.ref D, rfl, .ref pl, rfl, D, .str z, rfl, g, by show 2 ≤ sizeLine; decide, fun en nen => ⟨.ref pl, rfl, .str (Lt l), rfl, by show 3 ≤ sizeLine; decide, fun r nr => fin _ (.sign z) pl x y l b2 hp2 hpl2 (step_sign ez) en nen r nr⟩⟩
--@@SPLIT
/-! ### a log written in the land -/
theorem nx_add (a s : Int) (o : Option (Fin 4)) (e : Ent) : nx a o e + s = nx (a + s) o e := by
  cases e with
  | go n => cases o with
    | none => rfl
    | some l => show a + _ + s = a + s + _; omega
  | _ => rfl
theorem ny_add (a s : Int) (o : Option (Fin 4)) (e : Ent) : ny a o e + s = ny (a + s) o e := by
  cases e with
  | go n => cases o with
    | none => rfl
    | some l => show a + _ + s = a + s + _; omega
  | _ => rfl
/-- a tuple, its object known or not -/
def FT (H : Hp) (a : Addr) (xs : List V) : Prop := ∃ o, H a = some o ∧ (o = .tup xs ∨ ∃ q, OwnI.PlainT q ∧ o = .frz q (.tup xs))
theorem FT.same {H H' : Hp} {a : Addr} {xs : List V} (h : FT H a xs) (s : Same H H') : FT H' a xs := by
  obtain ⟨o, h, w⟩ := h
  exact ⟨o, s _ _ h, w⟩
theorem FT.ne {H : Hp} {p a : Addr} {xs : List V} (h : FT H a xs) (hp : Pool H p) : a ≠ p := fun e => by
  obtain ⟨o, h, w⟩ := h
  obtain ⟨l, c, k, n, _, h1⟩ := hp
  rw [e, h1] at h
  cases h
  rcases w with w | ⟨q, _, w⟩ <;> cases w
theorem FT.but {H H' : Hp} {p a : Addr} {xs : List V} (h : FT H a xs) (hp : Pool H p) (b : But p H H') : FT H' a xs := by
  have n := h.ne hp
  obtain ⟨o, h, w⟩ := h
  exact ⟨o, b _ _ n h, w⟩
theorem FT.sq {K : PySem.W.Frag} {H : Hp} {a : Addr} {xs : List V} (h : FT H a xs) : SqT K H a xs := by
  obtain ⟨o, h, rfl | ⟨q, _, rfl⟩⟩ := h
  · exact .inl (.inl h)
  · exact .inl (.inr ⟨q, h⟩)
def spWritten (K : PySem.W.Frag) : Sp := fun vs H Q _ => ∃ (p t lo pl : Addr) (m : Nat) (sx sy : Int) (lots : List (Fin 8)) (sg : List Sgn) (sh : List Sht), vs = [.ref p, .ref t, .int (m : Nat), .ref lo, .ref pl] ∧ m ≤ 40 ∧ Pool H p ∧ LandAt p H t sg sh ∧ FT H lo (lots.map lotV) ∧ 1 ≤ lots.length ∧ lots.length ≤ 8 ∧ H pl = some (.tup [.int sx, .int sy]) ∧
  ∀ H' r vs es, But p H H' → Pool H' p → SqT K H' r vs → EntsAt H' vs es → es.length ≤ 50 → lots.length = 1 + M.swaps es → Right es → AllSo sg sh sx sy lots es → Q (.ref r) H'
/-- how far the log is written -/
structure Wrt (p L : Addr) (H H' : Hp) (sg : List Sgn) (sh : List Sht) (sx sy : Int) (lots : List (Fin 8)) (es : List Ent) (vs : List V) : Prop where
  but : But p H H'
  pool : Pool H' p
  list : H' L = some (.lst vs)
  ents : EntsAt H' vs es
  right : Right es
  so : AllSo sg sh sx sy lots es
theorem Wrt.next {p L : Addr} {H H1 H2 : Hp} {sg : List Sgn} {sh : List Sht} {sx sy : Int} {lots : List (Fin 8)} {es : List Ent} {vs : List V} (h : Wrt p L H H1 sg sh sx sy lots es vs) (Lp : L ≠ p) (b : But p H1 H2) (hp : Pool H2 p) : Wrt p L H H2 sg sh sx sy lots es vs :=
  ⟨h.but.trans b, hp, b _ _ Lp h.list, h.ents.but h.pool b, h.right, h.so⟩
theorem ok_Lwritten (T : Top w K mg) : FnOk P w K mg base CX0 4 T.a_Lwritten T.fd_Lwritten ["_law_pool_here", "_law_land_here", "_law_many", "_law_lots", "_law_place"] (spWritten K) := by
  have G_Ltake := ok_Ltake (P := P) (w := w) (base := base) T
  have G_Ltrue := ok_Ltrue (P := P) (w := w) (base := base) T
  have G_Lentry := ok_Lentry (P := P) (w := w) (base := base) T
  refine T.F_Lwritten.ok sc_Lwritten (fun vs H Q E h => ?_) (fun cdv A outer s H vs Q E hr h => ?_)
  · obtain ⟨p, t, lo, pl, m, sx, sy, lots, sg, sh, rfl, _⟩ := h
    rfl
  · obtain ⟨p, t, lo, pl, m, sx, sy, lots, sg, sh, rfl, hm, hp, hl, hlo, l1, l8, hpl, q⟩ := h
    refine ⟨_, (pss_cons (ps_set (i := 5) sc_Lwritten.nd rfl (.inl rfl) (pe_lst pa_nil))
      (pss_cons (ps_asg (pe_tup (pa_cons pe_str (pa_cons pe_int pa_nil))) (pg_tup rfl (pgs_cons (pg_name (i := 6) sc_Lwritten.nd rfl (.inl rfl)) (pgs_cons (pg_name (i := 7) sc_Lwritten.nd rfl (.inl rfl)) pgs_nil))))
      (pss_cons (ps_for PassesOwn.never rfl (pi_range1 (by rfl) T.m_range (pa_cons (pv 2) pa_nil)) (pg_name (i := 8) sc_Lwritten.nd rfl (.inl rfl)) (pss_cons (ps_set (i := 9) sc_Lwritten.nd rfl (.inl rfl) (pe_call G_Ltake (hr.mono (by decide)) (by rfl) T.g_Ltake T.F_Ltake.kp T.b_Ltake .nil pass0 (pa_cons (pv 0) (pa_cons pe_int pa_nil))))
      (Evl.pss_cut (ps_if (PW.pt (pw_and (pt_cmpR op_eq (pv 9) pe_int (nomark _)) (pw_and1 (pt_cmpR op_lt (pe_op op_add (pv 7) pe_int) (pe_callB call_len_seq (by rfl) T.m_len (by decide +kernel) (pa_cons (pv 3) pa_nil)) (nomark _))))) (pss_cons (ps_set (i := 7) sc_Lwritten.nd rfl (.inl rfl) (pe_op op_add (pv 7) pe_int))
      (pss_one (ps_set (i := 10) sc_Lwritten.nd rfl (.inl rfl) (pe_tup (pa_cons pe_str pa_nil))))) (pss_one (ps_if (PW.pt (pw_or (pt_cmpR op_eq (pv 6) pe_str (nomark _)) (pw_or1 (pt_cmpR op_lt (pv 9) pe_int (nomark _))))) (pss_cons (ps_set (i := 10) sc_Lwritten.nd rfl (.inl rfl) (pe_tup (pa_cons pe_str (pa_cons (pe_ix ix_str pe_str (pe_call G_Ltake (hr.mono (by decide)) (by rfl) T.g_Ltake T.F_Ltake.kp T.b_Ltake .nil pass0 (pa_cons (pv 0) (pa_cons pe_int pa_nil))) (fun _ _ => rfl)) pa_nil))))
      (pss_one (ps_set (i := 6) sc_Lwritten.nd rfl (.inl rfl) (pe_call G_Ltrue (hr.mono (by decide)) (by rfl) T.g_Ltrue T.F_Ltrue.kp T.b_Ltrue .nil pass0 (pa_cons (pe_ix ix_tup (pv 3) (pv 7) (fun _ _ => rfl)) (pa_cons (pe_ix ix_tup (pv 10) pe_int (fun _ _ => rfl)) pa_nil)))))) (pss_one (ps_asg (pe_call G_Lentry hr (by rfl) T.g_Lentry T.F_Lentry.kp T.b_Lentry .nil pass0 (pa_cons (pv 0) (pa_cons (pv 1) (pa_cons (pv 9) (pa_cons (pv 4) (pa_cons (pv 6) pa_nil)))))) (pg_tup rfl (pgs_cons (pg_name (i := 10) sc_Lwritten.nd rfl (.inl rfl)) (pgs_cons (pg_name (i := 4) sc_Lwritten.nd rfl (.inl rfl)) (pgs_cons (pg_name (i := 6) sc_Lwritten.nd rfl (.inl rfl)) pgs_nil)))))))))
      (pss_one (ps_expr (pe_bm PySem.F.plainAttrs_list PySem.F.slot_list_append PySem.F.type_list_append mt_append (pv 5) (pa_cons (pv 10) pa_nil)))))))
      (pss_one (ps_ret (pe_op op_catA (pe_callTy call_tuple_of (by rfl) T.m_tuple (by decide +kernel) (pa_cons (pv 5) pa_nil)) (pe_op RepN.op_repN (pe_tup (pa_cons (pe_tup (pa_cons pe_str pa_nil)) pa_nil)) (pe_op op_sub (pe_op op_sub (pe_callB call_len_seq (by rfl) T.m_len (by decide +kernel) (pa_cons (pv 3) pa_nil)) pe_int) (pv 7))))))))), ?_⟩
    refine ⟨Nat.zero_le _, fun L nL => ?_⟩
    have sL := same_upd (o := .lst []) nL
    have Lp : L ≠ p := hp.ne_new nL
    refine ⟨by show 2 ≤ sizeLine; decide, fun c0 nc0 => ⟨c0, _, rfl, .inl (.inl upd_same), rfl, _, _, rfl, _, _, rfl, rfl, ?_⟩⟩
    have s0 := sL.trans (same_upd (o := .tup [.str "", .int 0]) nc0)
    have loL : lo ≠ L := ne_of_none hlo.choose_spec.1 nL
    refine ⟨.int (m : Nat), rfl, m, rfl, by omega, by omega, for_range (n := m) (fun i σ H' => ∃ es vs pl' y8 y9 y10, Wrt p L H H' sg sh sx sy lots es vs ∧ es.length = i ∧ M.swaps es + 1 ≤ lots.length ∧ H' pl' = some (.tup [.int ((wat lots es es.length).x + sx), .int ((wat lots es es.length).y + sy)]) ∧
      σ = [some (.ref p), some (.ref t), some (.int (m : Nat)), some (.ref lo), some (.ref pl'), some (.ref L), some (.str (lk (wat lots es es.length).look)), some (.int ((wat lots es es.length).leg : Nat)), y8, y9, y10])
      ⟨[], [], pl, none, none, none, ⟨But.of s0, hp.same s0, same_upd nc0 _ _ upd_same, .nil, Right.nil, allSo_nil⟩, rfl, l1, ?_, ?_⟩ ?_ ?_⟩
    · rw [show ([] : List Ent).length = 0 from rfl, wat_zero]
      show _ = some (HO.tup [.int (0 + sx), .int (0 + sy)])
      rw [Int.zero_add, Int.zero_add]
      exact s0 _ _ hpl
    · rw [show ([] : List Ent).length = 0 from rfl, wat_zero]
      rfl
    · rintro i σ H2 hi ⟨es, vs, pl', y8, y9, y10, wr, le, lsw, hpl', rfl⟩
      have hwa := fun e => wat_snoc lots es e
      obtain ⟨W', hwW⟩ : ∃ W', wat lots es es.length = W' := ⟨_, rfl⟩
      have wlook : (wat lots es es.length).look.isSome = es.any Ent.isFace := by rw [wat_look, List.take_length]
      have wleg : (wat lots es es.length).leg = M.swaps es := by rw [wat_leg, List.take_length]
      rw [hwW] at hwa wlook wleg hpl' ⊢
      revert hwW
      generalize W' = W at *
      intro hwW
      refine ⟨.ref p, rfl, p, 12, rfl, by decide, by decide, wr.pool, fun H3 r b3 hp3 r0 r1 => ?_⟩
      have wr3 := wr.next Lp b3 hp3
      have hlo3 := hlo.but hp wr3.but
      have hpl3 := b3 _ _ (wr.pool.ne_tup hpl') hpl'
      have lb : W.leg < lots.length := by omega
      obtain ⟨a, hga⟩ : ∃ a, lots[W.leg]? = some a := ⟨_, List.getElem?_eq_getElem lb⟩
      have hgd : lots.getD W.leg 0 = a := by rw [List.getD_eq_getElem?_getD, hga]; rfl
      have ha : (lots.map lotV)[W.leg]? = some (lotV a) := by rw [List.getElem?_map, hga]; rfl
      refine ⟨fun σ' H' => ∃ e en pl2 y8 y9, Wrt p L H H' sg sh sx sy lots es vs ∧ H' en = some (.tup (Ent.vs e)) ∧ (e.need = true → es.any Ent.isFace = true) ∧ (∀ d ∈ factsOf es.length W e, SoF sg sh sx sy d) ∧ M.swaps (es ++ [e]) + 1 ≤ lots.length ∧ H' pl2 = some (.tup [.int ((next lots W e).x + sx), .int ((next lots W e).y + sy)]) ∧ σ' = [some (.ref p), some (.ref t), some (.int (m : Nat)), some (.ref lo), some (.ref pl2), some (.ref L), some (.str (lk (next lots W e).look)), some (.int ((next lots W e).leg : Nat)), y8, y9, some (.ref en)], ?_, ?_⟩
      · refine ⟨.int r, rfl, rfl, _, rfl, ite2 (fun e11 => ?_) (fun n11 => iteF ?_)⟩
        · refine ⟨.int (W.leg : Nat), rfl, _, _, rfl, rfl, .ref lo, rfl, lo, _, rfl, .inr hlo3.sq, _, _, rfl, rfl, _, rfl, ite2 (fun more => ?_) (fun more => ?_)⟩
          · have more : (W.leg : Int) + 1 < ((lots.map lotV).length : Int) := of_decide_eq_true more
            rw [List.length_map] at more
            refine ⟨.int (W.leg : Nat), rfl, _, _, rfl, rfl, by show 1 ≤ sizeLine; decide, fun en nen => ?_⟩
            have se := same_upd (o := .tup [.str "swap"]) nen
            refine ⟨.swap, en, pl', some (.int (0 + (i : Nat))), some (.int r), wr3.next Lp (But.of se) (hp3.same se), upd_same, (fun z => nomatch z), (fun d z => nomatch z), ?_, se _ _ hpl3, rfl⟩
            rw [swaps_snoc]
            show M.swaps es + 1 + 1 ≤ lots.length
            omega
          · skip
            refine ⟨.str (lk W.look), rfl, rfl, _, rfl, ite2 (fun e => iteT ?_) (fun ne => ?_)⟩
            · refine ⟨.ref p, rfl, p, 4, rfl, by decide, by decide, hp3, fun H4 j b4 hp4 j0 j1 => ?_⟩
              obtain ⟨l, hl4⟩ := nesw_lt j0 j1
              refine ⟨_, _, _, rfl, rfl, by decide +kernel, hl4, by show 2 ≤ sizeLine; decide, fun en nen => ?_⟩
              have se := same_upd (o := .tup [.str "face", .str (Lt l)]) nen
              have b3e := b4.trans (But.of se)
              have hp5 := hp4.same se
              refine ⟨.ref lo, rfl, .int (W.leg : Nat), rfl, lo, _, _, _, rfl, rfl, (hlo3.but hp3 b3e).sq, atI_nat ha, .ref en, rfl, en, _, 1, .str (Lt l), rfl, rfl, .inl (.inl upd_same), rfl, a, l, rfl, ?_⟩
              refine ⟨.face l, en, pl', some (.int (0 + (i : Nat))), some (.int r), wr3.next Lp b3e hp5, upd_same, (fun z => nomatch z), (fun d z => nomatch z), ?_, b3e _ _ (hp3.ne_tup hpl3) hpl3, ?_⟩
              · rw [swaps_snoc]; exact lsw
              · show _ = [some (V.ref p), some (.ref t), some (.int (m : Nat)), some (.ref lo), some (.ref pl'), some (.ref L), some (.str (Lt (tr (lots.getD W.leg 0) l))), some (.int (W.leg : Nat)), some (.int (0 + (i : Nat))), some (.int r), some (.ref en)]
                rw [hgd]
                rfl
            · have hlk : W.look.isSome = true := by
                cases ew : W.look with
                | some l => rfl
                | none => exact absurd (by rw [ew]; exact decide_eq_true rfl) ne
              refine ⟨.int r, rfl, _, _, rfl, rfl, _, rfl, ite2 (fun e3 => ?_) (fun e3 => ?_)⟩
              · refine ⟨.ref p, rfl, p, 4, rfl, by decide, by decide, hp3, fun H4 j b4 hp4 j0 j1 => ?_⟩
                obtain ⟨l, hl4⟩ := nesw_lt j0 j1
                refine ⟨_, _, _, rfl, rfl, by decide +kernel, hl4, by show 2 ≤ sizeLine; decide, fun en nen => ?_⟩
                have se := same_upd (o := .tup [.str "face", .str (Lt l)]) nen
                have b3e := b4.trans (But.of se)
                have hp5 := hp4.same se
                refine ⟨.ref lo, rfl, .int (W.leg : Nat), rfl, lo, _, _, _, rfl, rfl, (hlo3.but hp3 b3e).sq, atI_nat ha, .ref en, rfl, en, _, 1, .str (Lt l), rfl, rfl, .inl (.inl upd_same), rfl, a, l, rfl, ?_⟩
                refine ⟨.face l, en, pl', some (.int (0 + (i : Nat))), some (.int r), wr3.next Lp b3e hp5, upd_same, (fun z => nomatch z), (fun d z => nomatch z), ?_, b3e _ _ (hp3.ne_tup hpl3) hpl3, ?_⟩
                · rw [swaps_snoc]; exact lsw
                · show _ = [some (V.ref p), some (.ref t), some (.int (m : Nat)), some (.ref lo), some (.ref pl'), some (.ref L), some (.str (Lt (tr (lots.getD W.leg 0) l))), some (.int (W.leg : Nat)), some (.int (0 + (i : Nat))), some (.int r), some (.ref en)]
                  rw [hgd]
                  rfl
              · have r3 : ¬ r < 3 := fun z => e3 (decide_eq_true z)
                obtain ⟨l, el⟩ := Option.isSome_iff_exists.mp hlk
                refine ⟨.ref p, rfl, .ref t, rfl, .int r, rfl, .ref pl', rfl, .str (lk W.look), rfl, p, t, r, pl', _, _, l, sg, sh, by rw [el]; rfl, by omega, by omega, hp3, hl.but hp wr3.but, hpl3, fun H4 rr en pl2 e x' y' l' b4 hp4 err een epl st => ⟨rr, _, rfl, .inl (.inl err), rfl, _, _, rfl, _, _, rfl, _, _, rfl, rfl, ?_⟩⟩
                have lg : nleg W.leg e = W.leg := by unfold nleg; rw [st.swap]; rfl
                refine ⟨e, en, pl2, some (.int (0 + (i : Nat))), some (.int r), wr3.next Lp b4 hp4, een, (fun _ => by rw [← wlook, hlk]), (fun d z => st.so es.length W sx sy el rfl rfl d z), ?_, ?_, ?_⟩
                · rw [swaps_snoc, st.swap]; exact lsw
                · show H4 pl2 = some (.tup [.int (nx W.x W.look e + sx), .int (ny W.y W.look e + sy)])
                  rw [nx_add, ny_add, el, ← st.east, ← st.north]
                  exact epl
                · show _ = [some (V.ref p), some (.ref t), some (.int (m : Nat)), some (.ref lo), some (.ref pl2), some (.ref L), some (.str (lk (nlook (lots.getD (nleg W.leg e) 0) W.look e))), some (.int (nleg W.leg e : Nat)), some (.int (0 + (i : Nat))), some (.int r), some (.ref en)]
                  rw [el, st.look, lg]
                  rfl
        · skip
          refine ⟨.str (lk W.look), rfl, rfl, _, rfl, ite2 (fun e => iteT ?_) (fun ne => ?_)⟩
          · refine ⟨.ref p, rfl, p, 4, rfl, by decide, by decide, hp3, fun H4 j b4 hp4 j0 j1 => ?_⟩
            obtain ⟨l, hl4⟩ := nesw_lt j0 j1
            refine ⟨_, _, _, rfl, rfl, by decide +kernel, hl4, by show 2 ≤ sizeLine; decide, fun en nen => ?_⟩
            have se := same_upd (o := .tup [.str "face", .str (Lt l)]) nen
            have b3e := b4.trans (But.of se)
            have hp5 := hp4.same se
            refine ⟨.ref lo, rfl, .int (W.leg : Nat), rfl, lo, _, _, _, rfl, rfl, (hlo3.but hp3 b3e).sq, atI_nat ha, .ref en, rfl, en, _, 1, .str (Lt l), rfl, rfl, .inl (.inl upd_same), rfl, a, l, rfl, ?_⟩
            refine ⟨.face l, en, pl', some (.int (0 + (i : Nat))), some (.int r), wr3.next Lp b3e hp5, upd_same, (fun z => nomatch z), (fun d z => nomatch z), ?_, b3e _ _ (hp3.ne_tup hpl3) hpl3, ?_⟩
            · rw [swaps_snoc]; exact lsw
            · show _ = [some (V.ref p), some (.ref t), some (.int (m : Nat)), some (.ref lo), some (.ref pl'), some (.ref L), some (.str (Lt (tr (lots.getD W.leg 0) l))), some (.int (W.leg : Nat)), some (.int (0 + (i : Nat))), some (.int r), some (.ref en)]
              rw [hgd]
              rfl
          · have hlk : W.look.isSome = true := by
              cases ew : W.look with
              | some l => rfl
              | none => exact absurd (by rw [ew]; exact decide_eq_true rfl) ne
            refine ⟨.int r, rfl, _, _, rfl, rfl, _, rfl, ite2 (fun e3 => ?_) (fun e3 => ?_)⟩
            · refine ⟨.ref p, rfl, p, 4, rfl, by decide, by decide, hp3, fun H4 j b4 hp4 j0 j1 => ?_⟩
              obtain ⟨l, hl4⟩ := nesw_lt j0 j1
              refine ⟨_, _, _, rfl, rfl, by decide +kernel, hl4, by show 2 ≤ sizeLine; decide, fun en nen => ?_⟩
              have se := same_upd (o := .tup [.str "face", .str (Lt l)]) nen
              have b3e := b4.trans (But.of se)
              have hp5 := hp4.same se
              refine ⟨.ref lo, rfl, .int (W.leg : Nat), rfl, lo, _, _, _, rfl, rfl, (hlo3.but hp3 b3e).sq, atI_nat ha, .ref en, rfl, en, _, 1, .str (Lt l), rfl, rfl, .inl (.inl upd_same), rfl, a, l, rfl, ?_⟩
              refine ⟨.face l, en, pl', some (.int (0 + (i : Nat))), some (.int r), wr3.next Lp b3e hp5, upd_same, (fun z => nomatch z), (fun d z => nomatch z), ?_, b3e _ _ (hp3.ne_tup hpl3) hpl3, ?_⟩
              · rw [swaps_snoc]; exact lsw
              · show _ = [some (V.ref p), some (.ref t), some (.int (m : Nat)), some (.ref lo), some (.ref pl'), some (.ref L), some (.str (Lt (tr (lots.getD W.leg 0) l))), some (.int (W.leg : Nat)), some (.int (0 + (i : Nat))), some (.int r), some (.ref en)]
                rw [hgd]
                rfl
            · have r3 : ¬ r < 3 := fun z => e3 (decide_eq_true z)
              obtain ⟨l, el⟩ := Option.isSome_iff_exists.mp hlk
              refine ⟨.ref p, rfl, .ref t, rfl, .int r, rfl, .ref pl', rfl, .str (lk W.look), rfl, p, t, r, pl', _, _, l, sg, sh, by rw [el]; rfl, by omega, by omega, hp3, hl.but hp wr3.but, hpl3, fun H4 rr en pl2 e x' y' l' b4 hp4 err een epl st => ⟨rr, _, rfl, .inl (.inl err), rfl, _, _, rfl, _, _, rfl, _, _, rfl, rfl, ?_⟩⟩
              have lg : nleg W.leg e = W.leg := by unfold nleg; rw [st.swap]; rfl
              refine ⟨e, en, pl2, some (.int (0 + (i : Nat))), some (.int r), wr3.next Lp b4 hp4, een, (fun _ => by rw [← wlook, hlk]), (fun d z => st.so es.length W sx sy el rfl rfl d z), ?_, ?_, ?_⟩
              · rw [swaps_snoc, st.swap]; exact lsw
              · show H4 pl2 = some (.tup [.int (nx W.x W.look e + sx), .int (ny W.y W.look e + sy)])
                rw [nx_add, ny_add, el, ← st.east, ← st.north]
                exact epl
              · show _ = [some (V.ref p), some (.ref t), some (.int (m : Nat)), some (.ref lo), some (.ref pl2), some (.ref L), some (.str (lk (nlook (lots.getD (nleg W.leg e) 0) W.look e))), some (.int (nleg W.leg e : Nat)), some (.int (0 + (i : Nat))), some (.int r), some (.ref en)]
                rw [el, st.look, lg]
                rfl
      · rintro σ' H4 ⟨e, en, pl2, y8, y9, wr4, hen, hneed, hso, hsw, hpl2, rfl⟩
        have lv := wr4.ents.len
        refine ⟨.ref L, rfl, .inl ⟨rfl, _, .inl (.inl wr4.list)⟩, .ref en, rfl, L, vs, _, rfl, rfl, wr4.list, small1000 (by omega), ?_⟩
        have notL : ∀ {c : Addr} {us : List V}, H4 c = some (.tup us) → c ≠ L := fun h => ne_of h wr4.list (by intro z; cases z)
        refine ⟨es ++ [e], vs ++ [.ref en], pl2, y8, y9, some (.ref en), ⟨wr4.but.mut nL, wr4.pool.upd Lp, upd_same, F2.snoc (wr4.ents.imp fun v x ⟨c, ev, hc⟩ => ⟨c, ev, by rw [upd_ne (notL hc)]; exact hc⟩) ⟨en, rfl, by rw [upd_ne (notL hen)]; exact hen⟩, wr4.right.snoc hneed, wr4.so.snoc (by rw [hwW]; exact hso)⟩, by rw [List.length_append, le]; rfl, hsw, ?_, ?_⟩
        · rw [hwa, upd_ne (notL hpl2)]
          exact hpl2
        · rw [hwa]
    · rintro σ H2 ⟨es, vs, pl', y8, y9, y10, wr, le, lsw, hpl', rfl⟩
      have wleg : (wat lots es es.length).leg = M.swaps es := by rw [wat_leg, List.take_length]
      have hlo2 := hlo.but hp wr.but
      have lv := wr.ents.len
      refine ⟨.ref L, rfl, L, vs, rfl, .inl ⟨.inl (.inl wr.list), fun r nr => ?_⟩⟩
      have sr := same_upd (o := .tup vs) nr
      refine ⟨by show 1 ≤ sizeLine; decide, fun t1 n1 => ⟨by show 1 ≤ sizeLine; decide, fun t2 n2 => ?_⟩⟩
      have s1 := same_upd (o := .tup [.str "swap"]) n1
      have s2 := same_upd (o := .tup [.ref t1]) n2
      have s02 := (sr.trans s1).trans s2
      obtain ⟨k, hk⟩ : ∃ k : Nat, k + (M.swaps es + 1) = lots.length := ⟨lots.length - (M.swaps es + 1), by omega⟩
      refine ⟨.ref lo, rfl, lo, _, rfl, .inr (hlo2.same s02).sq, _, _, rfl, rfl, _, rfl, _, _, rfl, rfl, t2, .ref t1, k, rfl, ?_, .inl (.inl upd_same), by omega, fun pp HH sm hpp => ?_⟩
      · show V.int (((lots.map lotV).length : Int) - 1 - ((wat lots es es.length).leg : Nat)) = .int (k : Nat)
        rw [List.length_map, wleg]
        congr 1
        omega
      have s0H := s02.trans sm
      have qq : ∀ H' rr, Same HH H' → SqT K H' rr (vs ++ List.replicate k (.ref t1)) → Q (.ref rr) H' := fun H' rr s' hrr => by
        have sall := s0H.trans s'
        refine q H' rr _ (es ++ List.replicate k .swap) (wr.but.trans (But.of sall)) (wr.pool.same sall) hrr (F2.app (wr.ents.same sall) (F2.rep k ⟨t1, rfl, s' _ _ (sm _ _ (s2 _ _ upd_same))⟩)) ?_ ?_ (wr.right.swaps k) (wr.so.swaps k)
        · rw [List.length_append, List.length_replicate]; omega
        · rw [swaps_rep]; omega
      refine ⟨r, pp, vs, _, rfl, rfl, .inl (.inl (sm _ _ (s2 _ _ (s1 _ _ upd_same)))), hpp, Nat.le_of_lt (small1000 (by rw [List.length_replicate]; omega)), fun e0 => ?_, fun _ e0 => ?_, fun _ _ rr nrr => ?_⟩
      · subst e0; exact qq _ pp (Same.refl _) hpp
      · refine qq _ r (Same.refl _) ?_
        rw [e0, List.append_nil]
        exact .inl (.inl (sm _ _ (s2 _ _ (s1 _ _ upd_same))))
      · exact qq _ rr (same_upd nrr) (.inl (.inl upd_same))
--@@SPLIT
/-! ### what is so in a land whose signs are signs is told by entries that are entries -/
theorem fact_inj {i j : Nat} {v w : Str} {x y x' y' : Int} {z z' : Str} (e : factD i v x y z = factD j w x' y' z') : v = w ∧ z = z' := by
  unfold factD at e
  injection e with e
  injection e with _ e
  injection e with e1 e
  injection e with _ e
  injection e with e2 _
  exact ⟨PyData.str.inj e1, PyData.str.inj e2⟩
theorem sg_in {sg : List Sgn} {x y : Int} {z : Str} (h : sgAt sg x y = some z) : ∃ s ∈ sg, s.2 = z := by
  unfold sgAt at h
  obtain ⟨s, hs, e⟩ := Option.map_eq_some_iff.mp h
  exact ⟨s, List.mem_of_find?_eq_some hs, e⟩
theorem so_sign {sg : List Sgn} {sh : List Sht} {sx sy : Int} {d : PyData} (h : SoF sg sh sx sy d) {i : Nat} {x y : Int} {z : Str} (e : d = factD i "sign" x y z) : ∃ s ∈ sg, s.2 = z := by
  cases h with
  | sign h => obtain ⟨_, rfl⟩ := fact_inj e; exact sg_in h
  | bare _ => exact absurd (fact_inj e).1 (by decide +kernel)
  | opn _ => exact absurd (fact_inj e).1 (by decide +kernel)
  | shut _ => exact absurd (fact_inj e).1 (by decide +kernel)
theorem facts_in (lots : List (Fin 8)) (es : List Ent) {i : Nat} {d : PyData} (hd : d ∈ factsAt lots es i) : ∀ n, i < n → d ∈ factsL lots es n
  | 0, h => absurd h (Nat.not_lt_zero _)
  | n + 1, h => by
    by_cases e : i = n
    · subst e
      exact List.mem_append_right _ hd
    · exact List.mem_append_left _ (facts_in lots es hd n (by omega))
theorem so_ok {sg : List Sgn} {sh : List Sht} {sx sy : Int} {lots : List (Fin 8)} {es : List Ent} (h : AllSo sg sh sx sy lots es) (r : Right es) (ok : ∀ s ∈ sg, SgnOk s.2) : ∀ e ∈ es, e.ok := fun e he => by
  obtain ⟨i, hi⟩ := List.mem_iff_getElem?.mp he
  have lt : i < es.length := (List.getElem?_eq_some_iff.mp hi).1
  have fact : ∀ d ∈ factsOf i (wat lots es i) e, SoF sg sh sx sy d := fun d hd => h d (facts_in lots es (by rw [factsAt_eq hi]; exact hd) _ lt)
  have good : ∀ {z : Str}, (∃ s ∈ sg, s.2 = z) → SgnOk z := fun ⟨s, hs, e⟩ => e ▸ ok s hs
  cases e with
  | sign z => exact good (so_sign (fact _ (List.mem_singleton.mpr rfl)) rfl)
  | spy n z =>
    have hl : (wat lots es i).look.isSome = true := by rw [wat_look]; exact r i _ hi rfl
    obtain ⟨l, el⟩ := Option.isSome_iff_exists.mp hl
    refine good (so_sign (fact (factD i "sign" ((wat lots es i).x + ((n.val : Int) + 1) * dx l) ((wat lots es i).y + ((n.val : Int) + 1) * dy l) z) ?_) rfl)
    show _ ∈ (match (wat lots es i).look with | some l => [factD i "sign" ((wat lots es i).x + ((n.val : Int) + 1) * dx l) ((wat lots es i).y + ((n.val : Int) + 1) * dy l) z] | none => [])
    rw [el]
    exact List.mem_singleton.mpr rfl
  | _ => trivial
--@@SPLIT
/-! ### a land, a box, logs by names that walkers wrote in it, the true dealing -/
def spWorld (K : PySem.W.Frag) : Sp := fun vs H Q _ => ∃ (p : Addr) (n x m : Nat), vs = [.ref p, .int (n : Nat), .int (x : Nat), .int (m : Nat)] ∧ 1 ≤ n ∧ n ≤ 4 ∧ n + x ≤ 6 ∧ m ≤ 30 ∧ Pool H p ∧
  ∀ H' (t b R D l : Addr) (box : List Nat) (us : List V) (rs : List Row) (lots : List (Fin 8)), But p H H' → Pool H' p → H' t = some (.tup [.ref l, .ref b, .ref R, .ref D]) → SqT K H' b (boxV box) → box.length = 8 → SqT K H' R us → RowsAt K H' us rs → (∀ r ∈ rs, RowOk r) → Srt rs → rs.length = n → SqT K H' D (lots.map lotV) → lots.length = (legL rs).length → dueL box (lots.map lotDt) = true → Q (.ref t) H'
theorem rep1 (n : Nat) : (List.replicate ((n : Int)).toNat [V.int 1]).flatten = boxV (List.replicate n 1) := by
  rw [Int.toNat_natCast]
  unfold boxV
  induction n with
  | zero => rfl
  | succ n ih => rw [List.replicate_succ, List.flatten_cons, ih, List.replicate_succ, List.map_cons]; rfl
theorem sum_set : ∀ {ks : List Nat} {j k : Nat}, ks[j]? = some k → (ks.set j (k + 1)).sum = ks.sum + 1
  | _ :: _, 0, _, h => by cases h; simp; omega
  | a :: ks, j + 1, k, h => by
    have := sum_set (ks := ks) (j := j) h
    simp only [List.set_cons_succ, List.sum_cons, this]
    omega
theorem mem_sum {k : Nat} : ∀ {ks : List Nat}, k ∈ ks → k ≤ ks.sum
  | a :: ks, h => by
    rw [List.sum_cons]
    rcases List.mem_cons.mp h with e | h
    · omega
    · have := mem_sum h
      omega
theorem box_set {box : List Nat} {j n : Nat} (h : box[j]? = some n) : (boxV box).set j (.int ((n : Int) + 1)) = boxV (box.set j (n + 1)) := by
  unfold boxV
  rw [List.map_set]
  congr 1
theorem flat_lots : ∀ lots : List (Fin 8), (lots.map lotV).all flatV = true
  | [] => rfl
  | a :: r => by rw [List.map_cons, List.all_cons, flat_lots r]; rfl
theorem set_le {box : List Nat} {j n : Nat} (h : box[j]? = some n) (k : Nat) : box.getD k 0 ≤ (box.set j (n + 1)).getD k 0 := by
  rw [List.getD_eq_getElem?_getD, List.getD_eq_getElem?_getD, List.getElem?_set]
  by_cases e : j = k
  · subst e
    rw [if_pos rfl, if_pos (List.getElem?_eq_some_iff.mp h).1, h]
    exact Nat.le_succ n
  · rw [if_neg e]
    exact Nat.le_refl _
theorem lotD_all : ∀ a : Fin 8, lotD (lotDt a) = true := by decide
theorem cnt_lots (k : Nat) (lots : List (Fin 8)) : cntI k (lots.map lotDt) = (lots.map lotV).countP fun z => eqV z (.int (k : Nat)) := by
  unfold cntI
  rw [List.countP_map, List.countP_map]
  rfl
theorem eight {r : Int} (h0 : 0 ≤ r) (h1 : r < 8) : ∃ a : Fin 8, V.int r = lotV a := ⟨⟨r.toNat, by omega⟩, by show V.int r = .int ((r.toNat : Nat) : Int); rw [Int.toNat_of_nonneg h0]⟩
/-- so far: the legs of each walker -/
structure WLegs (p : Addr) (Hb H' : Hp) (L : Addr) (n s : Nat) (ks : List Nat) : Prop where
  but : But p Hb H'
  pool : Pool H' p
  list : H' L = some (.lst (boxV ks))
  len : ks.length = n
  one : ∀ k ∈ ks, 1 ≤ k
  sum : ks.sum = s
/-- the dealing: nothing yet, or a tuple whose object is known -/
def DealF (K : PySem.W.Frag) (H : Hp) (D : Addr) (lots : List (Fin 8)) : Prop := (lots = [] ∧ SqT K H D []) ∨ ∃ o, OwnI.PlainT o ∧ H D = some (.frz o (.tup (lots.map lotV)))
theorem DealF.sq {K : PySem.W.Frag} {H : Hp} {D : Addr} {lots : List (Fin 8)} (h : DealF K H D lots) : SqT K H D (lots.map lotV) := by
  rcases h with ⟨rfl, h⟩ | ⟨o, _, h⟩
  · exact h
  · exact .inl (.inr ⟨o, h⟩)
theorem DealF.tp {K : PySem.W.Frag} {H H' : Hp} {D : Addr} {lots : List (Fin 8)} (h : DealF K H D lots) (t : Tp H H') : DealF K H' D lots := by
  rcases h with ⟨e, h⟩ | ⟨o, po, h⟩
  · exact .inl ⟨e, sqt_kp t h⟩
  · exact .inr ⟨o, po, t _ _ rfl h⟩
/-- so far: the rows and the dealing -/
structure WRows (K : PySem.W.Frag) (p : Addr) (Hb H' : Hp) (L R D : Addr) (ks : List Nat) (ys : List Str) (us : List V) (rs : List Row) (lots : List (Fin 8)) (i : Nat) : Prop where
  but : But p Hb H'
  pool : Pool H' p
  list : H' L = some (.lst (boxV ks))
  rows : H' R = some (.lst us)
  at_ : RowsAt K H' us rs
  ok : ∀ r ∈ rs, RowOk r
  nm : nms rs = ys.take i
  deal : DealF K H' D lots
  legs : lots.length = (legL rs).length
  few : lots.length = (ks.take i).sum
theorem ok_Lworld (T : Top w K mg) : FnOk P w K mg base CX0 5 T.a_Lworld T.fd_Lworld ["_law_pool_here", "_law_walkers", "_law_extra", "_law_many"] (spWorld K) := by
  have G_Ltake := ok_Ltake (P := P) (w := w) (base := base) T
  have G_Lnames := ok_Lnames (P := P) (w := w) (base := base) T
  have G_Lland := ok_Lland (P := P) (w := w) (base := base) T
  have G_Lwritten := ok_Lwritten (P := P) (w := w) (base := base) T
  refine T.F_Lworld.ok sc_Lworld (fun vs H Q E h => ?_) (fun cdv A outer s H vs Q E hr h => ?_)
  · obtain ⟨p, n, x, m, rfl, _⟩ := h
    rfl
  · obtain ⟨p, n, x, m, rfl, n1, n4, nx, m30, hp, q⟩ := h
    refine ⟨_, (pss_cons (ps_set (i := 4) sc_Lworld.nd rfl (.inl rfl) (pe_call G_Lland hr (by rfl) T.g_Lland T.F_Lland.kp T.b_Lland .nil pass0 (pa_cons (pv 0) (pa_cons pe_int pa_nil))))
      (pss_cons (ps_set (i := 5) sc_Lworld.nd rfl (.inl rfl) (pe_callB cr_sortedS (by rfl) T.m_sorted (by decide +kernel) (pa_cons (pe_call G_Lnames (hr.mono (by decide)) (by rfl) T.g_Lnames T.F_Lnames.kp T.b_Lnames .nil pass0 (pa_cons (pv 0) (pa_cons (pv 1) pa_nil))) pa_nil)))
      (pss_cons (ps_set (i := 6) sc_Lworld.nd rfl (.inl rfl) (pe_op op_rep (pe_lst (pa_cons pe_int pa_nil)) (pv 1)))
      (pss_cons (ps_for PassesOwn.never rfl (pi_range1 (by rfl) T.m_range (pa_cons (pv 2) pa_nil)) (pg_name (i := 7) sc_Lworld.nd rfl (.inl rfl)) (pss_one (ps_augS (pv 6) (pe_call G_Ltake (hr.mono (by decide)) (by rfl) T.g_Ltake T.F_Ltake.kp T.b_Ltake .nil pass0 (pa_cons (pv 0) (pa_cons (pv 1) pa_nil))) SeqW.get_list pe_int ip_add set_list)))
      (pss_cons (ps_asg (pe_tup (pa_cons (pe_lst pa_nil) (pa_cons (pe_tup pa_nil) pa_nil))) (pg_tup rfl (pgs_cons (pg_name (i := 8) sc_Lworld.nd rfl (.inl rfl)) (pgs_cons (pg_name (i := 9) sc_Lworld.nd rfl (.inr rfl)) pgs_nil))))
      (pss_cons (ps_for PassesOwn.never rfl (pi_zip (by rfl) T.m_zip (pa_cons (pv 5) (pa_cons (pv 6) pa_nil))) (pg_tup rfl (pgs_cons (pg_name (i := 10) sc_Lworld.nd rfl (.inl rfl)) (pgs_cons (pg_name (i := 11) sc_Lworld.nd rfl (.inl rfl)) pgs_nil))) (pss_cons (ps_set (i := 12) sc_Lworld.nd rfl (.inl rfl) (pe_callTy OwnI.call_tuple_frz (by rfl) T.m_tuple (by decide +kernel) (pa_cons (pe_lc (own := [("_law_k", 7)]) (g := gName 7) (by rfl) sc_Lworld.nd (pi_range1 (by rfl) T.m_range (pa_cons (pv 11) pa_nil)) (blkOk_by (own := [("_law_k", 7)]) (N := ["_law_pool_here", "_law_walkers", "_law_extra", "_law_many", "_law_land_here", "_law_names_here", "_law_legs", "_law_k", "_law_rows", "_law_dealing", "_law_name_here", "_law_size", "_law_lots", "_law_place", "_law_box", "_law_lot"]) (sc := defScope s_Lworld) (by decide +kernel)) (fun _ _ _ _ _ => (pg_name (i := 7) sc_Lworld.nd rfl (Or.inl rfl))) (fun _ _ _ _ _ => pts_nil) (fun _ _ _ _ _ => (pe_call G_Ltake (hr.mono (by decide)) (by rfl) T.g_Ltake T.F_Ltake.kp T.b_Ltake .nil pass0 (pa_cons (pv 0) (pa_cons pe_int pa_nil))))) pa_nil)))
      (pss_cons (ps_set (i := 13) sc_Lworld.nd rfl (.inl rfl) (pe_tup (pa_cons (pe_op op_sub (pe_call G_Ltake (hr.mono (by decide)) (by rfl) T.g_Ltake T.F_Ltake.kp T.b_Ltake .nil pass0 (pa_cons (pv 0) (pa_cons pe_int pa_nil))) pe_int) (pa_cons (pe_op op_sub (pe_call G_Ltake (hr.mono (by decide)) (by rfl) T.g_Ltake T.F_Ltake.kp T.b_Ltake .nil pass0 (pa_cons (pv 0) (pa_cons pe_int pa_nil))) pe_int) pa_nil))))
      (pss_cons (ps_expr (pe_bm PySem.F.plainAttrs_list PySem.F.slot_list_append PySem.F.type_list_append mt_append (pv 8) (pa_cons (pe_tup (pa_cons (pv 10) (pa_cons (pe_call G_Lwritten hr (by rfl) T.g_Lwritten T.F_Lwritten.kp T.b_Lwritten .nil pass0 (pa_cons (pv 0) (pa_cons (pv 4) (pa_cons (pv 3) (pa_cons (pv 12) (pa_cons (pv 13) pa_nil)))))) pa_nil))) pa_nil)))
      (pss_one (ps_set (i := 9) sc_Lworld.nd rfl (.inr rfl) (pe_op CatF.op_catF (pv 9) (pv 12))))))))
      (pss_cons (ps_setLc (i := 14) (own := [("_law_lot", 15)]) (g := gName 15) (by rfl) sc_Lworld.nd rfl rfl (sw_true rfl rfl rfl (by decide +kernel)) (pi_range1 (by rfl) T.m_range (pa_cons pe_int pa_nil)) (blkOk_by (own := [("_law_lot", 15)]) (N := ["_law_pool_here", "_law_walkers", "_law_extra", "_law_many", "_law_land_here", "_law_names_here", "_law_legs", "_law_k", "_law_rows", "_law_dealing", "_law_name_here", "_law_size", "_law_lots", "_law_place", "_law_box", "_law_lot"]) (sc := defScope s_Lworld) (by decide +kernel)) (fun _ _ _ _ _ => (pg_name (i := 15) sc_Lworld.nd rfl (Or.inl rfl))) (fun _ _ _ _ _ => pts_nil) (fun _ _ _ _ _ => (OwnI.pe_cnt (K := K) rfl (pv 9) (pa_cons (pv 15) pa_nil))))
      (pss_cons (ps_for PassesOwn.never rfl (pi_range1 (by rfl) T.m_range (pa_cons (pe_call G_Ltake (hr.mono (by decide)) (by rfl) T.g_Ltake T.F_Ltake.kp T.b_Ltake .nil pass0 (pa_cons (pv 0) (pa_cons (pe_op op_sub (pe_op op_sub pe_int (pe_callTy call_int1 (by rfl) T.m_int (by decide +kernel) (pa_cons (pe_cmpR op_gt (pe_callB call_len_seq (by rfl) T.m_len (by decide +kernel) (pa_cons (pv 9) pa_nil)) pe_int (nomark _)) pa_nil))) (pe_callTy call_int1 (by rfl) T.m_int (by decide +kernel) (pa_cons (pe_cmpR op_gt (pe_callB call_len_seq (by rfl) T.m_len (by decide +kernel) (pa_cons (pv 9) pa_nil)) pe_int (nomark _)) pa_nil))) pa_nil))) pa_nil)) (pg_name (i := 7) sc_Lworld.nd rfl (.inl rfl)) (pss_one (ps_augS (pv 14) (pe_call G_Ltake (hr.mono (by decide)) (by rfl) T.g_Ltake T.F_Ltake.kp T.b_Ltake .nil pass0 (pa_cons (pv 0) (pa_cons pe_int pa_nil))) SeqW.get_list pe_int ip_add set_list)))
      (pss_one (ps_ret (pe_tup (pa_cons (pv 4) (pa_cons (pe_callTy call_tuple_of (by rfl) T.m_tuple (by decide +kernel) (pa_cons (pv 14) pa_nil)) (pa_cons (pe_callTy call_tuple_of (by rfl) T.m_tuple (by decide +kernel) (pa_cons (pv 8) pa_nil)) (pa_cons (pv 9) pa_nil))))))))))))))), ?_⟩
    refine ⟨.ref p, rfl, p, 3, rfl, by decide, hp, fun H1 t1 sg sh b1 hp1 land sok => ?_⟩
    refine ⟨.ref p, rfl, .int (n : Nat), rfl, p, n, rfl, by omega, hp1, fun H2 L zs b2 hp2 nL eL lz nd nm => ⟨L, zs, rfl, .inl (.inl eL), by omega, fun ys q5 perm srt nq => ?_⟩⟩
    have sq := same_upd (o := .lst (ys.map V.str)) nq
    have q5p : q5 ≠ p := hp2.ne_new nq
    refine ⟨by show 1 ≤ sizeLine; decide, fun l nl => ⟨.int (n : Nat), rfl, l, (n : Nat), [.int 1], rfl, rfl, upd_same, by omega, by omega, Nat.le_of_lt (small1000 (by show 1 * ((n : Int)).toNat ≤ 1000; omega)), fun L6 nL6 => ?_⟩⟩
    have sl := same_upd (o := .lst [V.int 1]) nl
    have bb : But p H (upd (upd H2 q5 (.lst (ys.map V.str))) l (.lst [V.int 1])) := (b1.trans b2).trans (But.of (sq.trans sl))
    have hpb : Pool (upd (upd H2 q5 (.lst (ys.map V.str))) l (.lst [V.int 1])) p := hp2.same (sq.trans sl)
    have land_b : LandAt p (upd (upd H2 q5 (.lst (ys.map V.str))) l (.lst [V.int 1])) t1 sg sh := land.but hp1 (b2.trans (But.of (sq.trans sl)))
    have eq5 : (upd (upd H2 q5 (.lst (ys.map V.str))) l (.lst [V.int 1])) q5 = some (.lst (ys.map V.str)) := sl _ _ upd_same
    rw [rep1]
    generalize (upd (upd H2 q5 (.lst (ys.map V.str))) l (.lst [V.int 1])) = Hb at bb hpb land_b eq5 nL6 ⊢
    have nb : Hb L6 = none := nL6
    have L6p : L6 ≠ p := hpb.ne_new nL6
    refine ⟨.int (x : Nat), rfl, (x : Nat), rfl, by omega, by omega, for_range (n := x) (fun i σ H' => ∃ ks y7, WLegs p Hb H' L6 n (n + i) ks ∧ σ = [some (.ref p), some (.int (n : Nat)), some (.int (x : Nat)), some (.int (m : Nat)), some (.ref t1), some (.ref q5), some (.ref L6), y7, none, none, none, none, none, none, none, none]) ⟨List.replicate n 1, none, ⟨But.of (same_upd nL6), hpb.same (same_upd nL6), upd_same, List.length_replicate, fun k hk => by rw [List.eq_of_mem_replicate hk]; exact Nat.le_refl _, by rw [List.sum_replicate_nat]; omega⟩, rfl⟩ ?_ ?_⟩
    · rintro i σ H3 hi ⟨ks, y7, wl, rfl⟩
      refine ⟨.ref L6, rfl, .ref p, rfl, .int (n : Nat), rfl, p, n, rfl, by omega, by omega, wl.pool, fun H4 j b4 hp4 j0 j1 => ?_⟩
      obtain ⟨j, rfl⟩ : ∃ jj : Nat, j = jj := ⟨j.toNat, by omega⟩
      have hj : j < ks.length := by rw [wl.len]; omega
      have eb : ks[j]? = some ks[j] := List.getElem?_eq_getElem hj
      have eL4 := b4 _ _ L6p wl.list
      have lbv : (boxV ks).length = ks.length := List.length_map _
      refine ⟨L6, boxV ks, j, .int (ks[j] : Nat), rfl, rfl, .inl (.inl eL4), by unfold boxV; rw [List.getElem?_map, eb]; rfl, _, _, rfl, rfl, L6, boxV ks, j, j, rfl, rfl, eL4, Evl.ixN_nat (by omega), ?_⟩
      refine ⟨ks.set j (ks[j] + 1), _, ⟨(wl.but.trans b4).mut nb, hp4.upd L6p, by rw [upd_same, box_set eb], by rw [List.length_set]; exact wl.len, fun k hk => ?_, by rw [sum_set eb, wl.sum]; omega⟩, rfl⟩
      rcases List.mem_or_eq_of_mem_set hk with h | h
      · exact wl.one k h
      · omega
    rintro σ H3 ⟨ks, y7, wl, rfl⟩
    have land3 := land_b.but hpb wl.but
    refine ⟨Nat.zero_le _, fun R nR => ⟨Nat.zero_le _, fun D0 nD0 => ⟨by show 2 ≤ sizeLine; decide, fun tt ntt => ⟨tt, _, rfl, .inl (.inl upd_same), rfl, _, _, rfl, _, _, rfl, rfl, ?_⟩⟩⟩⟩
    have sR := same_upd (o := .lst []) nR
    have sD0 := same_upd (o := .tup []) nD0
    have stt := same_upd (o := .tup [.ref R, .ref D0]) ntt
    have Rp : R ≠ p := wl.pool.ne_new nR
    have nRb : Hb R = none := wl.but.free Rp nR
    have L6R : L6 ≠ R := ne_of_none wl.list nR
    have s3 := (sR.trans sD0).trans stt
    have w0 : WRows K p Hb (upd (upd (upd H3 R (.lst [])) D0 (.tup [])) tt (.tup [.ref R, .ref D0])) L6 R D0 ks ys [] [] [] 0 := ⟨wl.but.trans (But.of s3), wl.pool.same s3, s3 _ _ wl.list, stt _ _ (sD0 _ _ upd_same), .nil, (fun _ h => nomatch h), rfl, .inl ⟨rfl, .inl (.inl (stt _ _ upd_same))⟩, rfl, rfl⟩
    have lys : ys.length = n := by rw [perm.length_eq]; exact lz
    generalize (upd (upd (upd H3 R (.lst [])) D0 (.tup [])) tt (.tup [.ref R, .ref D0])) = H5 at w0 ⊢
    refine ⟨.ref q5, rfl, .ref L6, rfl, q5, L6, ys.map V.str, boxV ks, rfl, .inl (.inl (w0.but _ _ q5p eq5)), .inl (.inl w0.list), for_it (walk_zip (xs := ys.map V.str) (ys := boxV ks) (n := n) (by unfold boxV; rw [List.length_map, List.length_map, wl.len, lys]; exact (Nat.min_self n).symm)) (fun i σ H' => ∃ us rs D lots y7 y10 y11 y12 y13, WRows K p Hb H' L6 R D ks ys us rs lots i ∧ σ = [some (.ref p), some (.int (n : Nat)), some (.int (x : Nat)), some (.int (m : Nat)), some (.ref t1), some (.ref q5), some (.ref L6), y7, some (.ref R), some (.ref D), y10, y11, y12, y13, none, none]) ⟨[], [], D0, [], y7, none, none, none, none, w0, rfl⟩ (fun i σ H' _ h => ?_) ?_ ?_⟩
    · obtain ⟨us, rs, D, lots, y7, y10, y11, y12, y13, w1, _⟩ := h
      exact ⟨.inl (.inl (w1.but _ _ q5p eq5)), .inl (.inl w1.list)⟩
    · rintro i v σ H6 H7 hi ⟨us, rs, D, lots, y7, y10, y11, y12, y13, w1, rfl⟩ ⟨t, u1, u2, rfl, nt, rfl, e1, e2⟩
      obtain ⟨z, hz, rfl⟩ : ∃ z, ys[i]? = some z ∧ u1 = V.str z := by
        have e1 : (ys.map V.str)[i]? = some u1 := e1
        rw [List.getElem?_map] at e1
        cases e : ys[i]? with
        | none => rw [e] at e1; cases e1
        | some z => rw [e] at e1; exact ⟨z, rfl, (Option.some.inj e1).symm⟩
      obtain ⟨k, hk, rfl⟩ : ∃ k, ks[i]? = some k ∧ u2 = V.int (k : Nat) := by
        have e2 : (ks.map fun n : Nat => V.int (n : Nat))[i]? = some u2 := e2
        rw [List.getElem?_map] at e2
        cases e : ks[i]? with
        | none => rw [e] at e2; cases e2
        | some k => rw [e] at e2; exact ⟨k, rfl, (Option.some.inj e2).symm⟩
      have k1 := wl.one k (List.mem_of_getElem? hk)
      have k6 : k ≤ 6 := by
        have := mem_sum (List.mem_of_getElem? hk)
        rw [wl.sum] at this
        omega
      have sz := same_upd (o := .tup [.str z, .int (k : Nat)]) nt
      have hp7 := w1.pool.same sz
      refine ⟨t, _, rfl, .inl (.inl upd_same), rfl, _, _, rfl, _, _, rfl, rfl, ?_⟩
      generalize (upd H6 t (.tup [.str z, .int (k : Nat)])) = H7 at sz hp7 ⊢
      refine ⟨.int (k : Nat), rfl, (k : Nat), rfl, by omega, by omega, fun D2 hD2 => lc_it (walk_range (n := k)) (fun j H' => But p H7 H' ∧ Pool H' p ∧ ∃ lots : List (Fin 8), lots.length = j ∧ H' D2 = some (.lst (lots.map lotV))) ⟨But.of (same_upd hD2), hp7.same (same_upd hD2), [], rfl, upd_same⟩ (fun i H' _ h => trivial) ?_ ?_⟩
      · rintro j v H8 H9 hj ⟨b8, hp8, nl, lnl, eD2⟩ ⟨rfl, rfl⟩
        have nD2 : D2 ≠ p := hp7.ne_new hD2
        refine ⟨rfl, .ref p, rfl, p, 8, rfl, by decide, by decide, hp8, fun Ha r ba hpa r0 r1 => ?_⟩
        obtain ⟨a, ea⟩ := eight r0 r1
        rw [ea]
        refine ⟨_, ba _ _ nD2 eD2, small1000 (by rw [List.length_map]; omega), (b8.trans ba).mut hD2, hpa.upd nD2, nl ++ [a], by rw [List.length_append, lnl]; rfl, ?_⟩
        rw [upd_same, List.map_append]
        rfl
      · rintro H8 ⟨b8, hp8, nl, lnl, eD2⟩
        refine ⟨D2, _, rfl, .inl (.inl eD2), fun lo olo plo nlo => ?_⟩
        have slo := same_upd (o := .frz olo (.tup (nl.map lotV))) nlo
        have b9 := b8.trans (But.of slo)
        have hp9 := hp8.same slo
        have elo : (upd H8 lo (.frz olo (.tup (nl.map lotV)))) lo = some (.frz olo (.tup (nl.map lotV))) := upd_same
        generalize (upd H8 lo (.frz olo (.tup (nl.map lotV)))) = H9 at slo b9 hp9 elo ⊢
        have lop : lo ≠ p := FT.ne (xs := nl.map lotV) ⟨_, elo, .inr ⟨olo, plo, rfl⟩⟩ hp9
        refine ⟨_, rfl, p, 5, rfl, by decide, by decide, hp9, fun Ha r ba hpa _ _ => ⟨_, _, rfl, rfl, _, rfl, p, 5, rfl, by decide, by decide, hpa, fun Hc r' bc hpc _ _ => ⟨_, _, rfl, rfl, by show 2 ≤ sizeLine; decide, fun pl npl => ?_⟩⟩⟩
        have spl := same_upd (o := .tup [.int (r - 2), .int (r' - 2)]) npl
        have epl : (upd Hc pl (.tup [.int (r - 2), .int (r' - 2)])) pl = some (.tup [.int (r - 2), .int (r' - 2)]) := upd_same
        have b7d : But p H7 (upd Hc pl (.tup [.int (r - 2), .int (r' - 2)])) := ((b9.trans ba).trans bc).trans (But.of spl)
        have elod := spl _ _ (bc _ _ lop (ba _ _ lop elo))
        have hpd := hpc.same spl
        generalize (upd Hc pl (.tup [.int (r - 2), .int (r' - 2)])) = Hd at epl b7d elod hpd ⊢
        have b6d : But p H6 Hd := (But.of sz).trans b7d
        have bbd := w1.but.trans b6d
        have eRd := b6d _ _ Rp w1.rows
        have landd := land_b.but hpb bbd
        refine ⟨.ref R, rfl, .inl ⟨rfl, _, .inl (.inl eRd)⟩, .str z, rfl, .ref p, rfl, .ref t1, rfl, .int (m : Nat), rfl, .ref lo, rfl, .ref pl, rfl, p, t1, lo, pl, m, r - 2, r' - 2, nl, sg, sh, rfl, by omega, hpd, landd, ⟨_, elod, .inr ⟨olo, plo, rfl⟩⟩, by omega, by omega, epl, fun He lg vs es be hpe hlg hes les sw right so => ?_⟩
        refine ⟨by show 2 ≤ sizeLine; decide, fun rt nrt => ?_⟩
        have srt' := same_upd (o := .tup [.str z, .ref lg]) nrt
        have ert : (upd He rt (.tup [.str z, .ref lg])) rt = some (.tup [.str z, .ref lg]) := upd_same
        have b6f : But p H6 (upd He rt (.tup [.str z, .ref lg])) := (b6d.trans be).trans (But.of srt')
        have hpf := hpe.same srt'
        have hlgf := sqt_same srt' hlg
        have hesf := hes.same srt'
        have elof := srt' _ _ (be _ _ lop elod)
        generalize (upd He rt (.tup [.str z, .ref lg])) = Hf at ert b6f hpf hlgf hesf elof ⊢
        have eRf := b6f _ _ Rp w1.rows
        have lus : us.length ≤ 4 := by
          rw [w1.at_.len]
          have := congrArg List.length w1.nm
          unfold nms at this
          rw [List.length_map, List.length_take] at this
          omega
        refine ⟨R, us, _, rfl, rfl, eRf, small1000 (by omega), ?_⟩
        have tpR : Tp Hf (upd Hf R (.lst (us ++ [.ref rt]))) := Tp.lst eRf
        have tp6 : Tp H6 (upd Hf R (.lst (us ++ [.ref rt]))) := (Tp.but w1.pool b6f).trans tpR
        have esok : ∀ e ∈ es, e.ok := so_ok so right sok
        have znm : nmL z.cps.toList = true := nm z (perm.mem_iff.mp (List.mem_of_getElem? hz))
        have rowok : RowOk (z, es) := ⟨znm, esok, right, by show es.length ≤ 100; omega⟩
        have rowat : RowAt K (upd Hf R (.lst (us ++ [.ref rt]))) (.ref rt) (z, es) := RowAt.tp ⟨rt, lg, rfl, ert, .tup hlgf hesf.dp⟩ (by show es.length ≤ 1000; omega) tpR
        have rows8 := (w1.at_.tp (fun r hr => Nat.le_trans (w1.ok r hr).len (by decide)) tp6).snoc rowat
        have fin : ∀ (H' : Hp) (D' : Addr), Same (upd Hf R (.lst (us ++ [.ref rt]))) H' → DealF K H' D' (lots ++ nl) → WRows K p Hb H' L6 R D' ks ys (us ++ [.ref rt]) (rs ++ [(z, es)]) (lots ++ nl) (i + 1) := fun H' D' s' hD' =>
          ⟨(((w1.but.trans b6f).mut nRb).trans (But.of s')), (hpf.upd Rp).same s', s' _ _ ((upd_ne L6R).trans (b6f _ _ L6p w1.list)), s' _ _ upd_same,
           rows8.tp (fun r hr => by
             rcases List.mem_append.mp hr with hr | hr
             · exact Nat.le_trans (w1.ok r hr).len (by decide)
             · cases List.mem_singleton.mp hr
               exact Nat.le_trans rowok.len (by decide)) (Tp.of s'),
           (fun r hr => by
             rcases List.mem_append.mp hr with hr | hr
             · exact w1.ok r hr
             · cases List.mem_singleton.mp hr
               exact rowok),
           by rw [List.take_add_one, hz, ← w1.nm]; exact List.map_append, hD', by rw [legL_snoc, List.length_append, List.length_append, List.length_map, List.length_range, w1.legs, sw], by rw [List.take_add_one, hk, List.sum_append, List.length_append, w1.few, lnl]; simp⟩
        have lf : lots.length ≤ 6 := by
          rw [w1.few]
          have := congrArg List.sum (List.take_append_drop i ks)
          rw [List.sum_append, wl.sum] at this
          omega
        have hDf := w1.deal.tp tp6
        have elog : (upd Hf R (.lst (us ++ [.ref rt]))) lo = some (.frz olo (.tup (nl.map lotV))) := tpR _ _ rfl elof
        refine ⟨.ref D, rfl, .ref lo, rfl, D, lo, _, _, rfl, rfl, hDf.sq, .inl (.inr ⟨_, elog⟩), Nat.le_of_lt (small1000 (by rw [List.length_map, List.length_map]; omega)), fun e0 => ?_, fun e1 e0 => ?_, fun _ _ D' oD pD nD' => ?_⟩
        · refine ⟨_, _, _, _, _, _, _, _, _, fin _ lo (Same.refl _) (.inr ⟨olo, plo, ?_⟩), rfl⟩
          rw [List.map_eq_nil_iff.mp e0]
          exact elog
        · have : nl = [] := List.map_eq_nil_iff.mp e0
          rw [this] at lnl
          have : 0 = k := lnl
          omega
        · refine ⟨_, _, _, _, _, _, _, _, _, fin _ D' (same_upd nD') (.inr ⟨oD, pD, ?_⟩), rfl⟩
          rw [List.map_append]
          exact upd_same
    · rintro σ H6 ⟨us, rs, D, lots, y7, y10, y11, y12, y13, w1, rfl⟩
      have lk : (ks.take n).sum = n + x := by rw [List.take_of_length_le (Nat.le_of_eq wl.len)]; exact wl.sum
      have few := w1.few
      rw [lk] at few
      obtain ⟨oD, pD, eD⟩ : ∃ o, OwnI.PlainT o ∧ H6 D = some (.frz o (.tup (lots.map lotV))) := by
        rcases w1.deal with ⟨e, _⟩ | h
        · rw [e] at few
          have : 0 = n + x := few
          omega
        · exact h
      refine ⟨_, rfl, by decide, by decide, fun B hB => lc_it (walk_range (n := 8)) (fun i H' => Same H6 H' ∧ H' B = some (.lst (boxV ((List.range i).map fun k => (lots.map lotV).countP fun z => eqV z (.int (k : Nat)))))) ⟨same_upd hB, upd_same⟩ (fun i H' _ h => trivial) ?_ ?_⟩
      · rintro k v H7 H8 hk ⟨s7, eB⟩ ⟨rfl, rfl⟩
        have e0 : (0 : Int) + (k : Int) = ((k : Nat) : Int) := by omega
        simp only [e0]
        refine ⟨rfl, .ref D, rfl, D, lots.map lotV, rfl, .inr ⟨⟨oD, s7 _ _ eD, pD⟩, _, rfl, _, rfl, .inl (.inr ⟨oD, s7 _ _ eD⟩), rfl, flat_lots lots, _, eB, ?_, ?_, ?_⟩⟩
        · unfold boxV
          rw [List.length_map, List.length_map, List.length_range]
          exact small1000 (by omega)
        · exact fun c o h => by rw [upd_ne (ne_of_none h hB)]; exact s7 _ _ h
        · rw [upd_same, List.range_succ, List.map_append]
          unfold boxV
          rw [List.map_append]
          rfl
      · rintro H7 ⟨s7, eB⟩
        have eD7 := s7 _ _ eD
        have hD7 : SqT K H7 D (lots.map lotV) := .inl (.inr ⟨oD, eD7⟩)
        have hm : ∀ a b : Bool, 0 < (3 : Int) - (if a = true then 1 else 0) - (if b = true then 1 else 0) ∧ (3 : Int) - (if a = true then 1 else 0) - (if b = true then 1 else 0) < 4 := by decide
        have Bp : B ≠ p := w1.pool.ne_new hB
        refine ⟨.ref p, rfl, .ref D, rfl, D, _, rfl, .inr hD7, _, _, rfl, rfl, .inr ⟨_, rfl, _, _, rfl, rfl, .ref D, rfl, D, _, rfl, .inr hD7, _, _, rfl, rfl, .inr ⟨_, rfl, _, _, rfl, rfl, p, _, rfl, (hm _ _).1, Int.lt_trans (hm _ _).2 (by decide), w1.pool.same s7, fun H8 r b8 hp8 r0 r1 => ?_⟩⟩⟩
        have r4 := Int.lt_trans r1 (hm _ _).2
        obtain ⟨j, rfl⟩ : ∃ jj : Nat, r = jj := ⟨r.toNat, by omega⟩
        refine ⟨_, rfl, by omega, by omega, for_range (n := j) (fun i σ H' => But p H6 H' ∧ Pool H' p ∧ ∃ y7 y15 box, H' B = some (.lst (boxV box)) ∧ box.length = 8 ∧ (∀ k, ((List.range 8).map fun k => (lots.map lotV).countP fun z => eqV z (.int (k : Nat))).getD k 0 ≤ box.getD k 0) ∧ σ = [some (.ref p), some (.int (n : Nat)), some (.int (x : Nat)), some (.int (m : Nat)), some (.ref t1), some (.ref q5), some (.ref L6), y7, some (.ref R), some (.ref D), y10, y11, y12, y13, some (.ref B), y15]) ⟨(But.of s7).trans b8, hp8, y7, _, _, b8 _ _ Bp eB, by rw [List.length_map, List.length_range], fun k => Nat.le_refl _, rfl⟩ ?_ ?_⟩
        · rintro i σ H9 hi ⟨b9, hp9, y7, y15, box, eB9, l8, le, rfl⟩
          refine ⟨.ref B, rfl, .ref p, rfl, p, 8, rfl, by decide, by decide, hp9, fun Ha g ba hpa g0 g1 => ?_⟩
          obtain ⟨g, rfl⟩ : ∃ gg : Nat, g = gg := ⟨g.toNat, by omega⟩
          have hg : g < box.length := by omega
          have eb : box[g]? = some box[g] := List.getElem?_eq_getElem hg
          have eBa := ba _ _ Bp eB9
          have lbv : (boxV box).length = box.length := List.length_map _
          refine ⟨B, boxV box, g, .int (box[g] : Nat), rfl, rfl, .inl (.inl eBa), by unfold boxV; rw [List.getElem?_map, eb]; rfl, _, _, rfl, rfl, B, boxV box, g, g, rfl, rfl, eBa, Evl.ixN_nat (by omega), ?_⟩
          refine ⟨(b9.trans ba).mut hB, hpa.upd Bp, _, _, box.set g (box[g] + 1), by rw [upd_same, box_set eb], by rw [List.length_set]; exact l8, fun k => Nat.le_trans (le k) (set_le eb k), rfl⟩
        · rintro σ H9 ⟨b9, hp9, y7, y15, box, eB9, l8, le, rfl⟩
          have t69 : Tp H6 H9 := Tp.but w1.pool b9
          have eR9 := b9 _ _ Rp w1.rows
          refine ⟨.ref t1, rfl, .ref B, rfl, B, _, rfl, .inl ⟨.inl (.inl eB9), fun bt nbt => ⟨.ref R, rfl, R, us, rfl, .inl ⟨.inl (.inl (same_upd nbt _ _ eR9)), fun Rt nRt => ⟨.ref D, rfl, by show 4 ≤ sizeLine; decide, fun t nt => ?_⟩⟩⟩⟩⟩
          have sb := same_upd (o := .tup (boxV box)) nbt
          have sRt := same_upd (o := .tup us) nRt
          have st := same_upd (o := .tup [.ref t1, .ref bt, .ref Rt, .ref D]) nt
          have sall := (sb.trans sRt).trans st
          have bH6 : But p H H6 := bb.trans w1.but
          have nmr : nms rs = ys := by rw [w1.nm, ← lys, List.take_length]
          have lrs : rs.length = n := by rw [← lys, ← nmr]; unfold nms; rw [List.length_map]
          refine q _ t bt Rt D t1 box us rs lots ((bH6.trans b9).trans (But.of sall)) (hp9.same sall) upd_same (.inl (.inl (st _ _ (sRt _ _ upd_same)))) l8 (.inl (.inl (st _ _ upd_same))) (w1.at_.tp (fun r hr => Nat.le_trans (w1.ok r hr).len (by decide)) (t69.trans (Tp.of sall))) w1.ok (srt_of (by rw [nmr]; exact perm.nodup_iff.mpr nd) (by rw [nmr]; exact sortedS_pw ys srt)) lrs (sqt_kp (t69.trans (Tp.of sall)) w1.deal.sq) w1.legs ?_
          refine Bool.and_eq_true_iff.mpr ⟨List.all_eq_true.mpr fun d hd => ?_, List.all_eq_true.mpr fun k hk => decide_eq_true ?_⟩
          · obtain ⟨a, _, rfl⟩ := List.mem_map.mp hd
            exact lotD_all a
          · have := le k
            rw [List.getD_eq_getElem?_getD, List.getElem?_map, List.getElem?_range (List.mem_range.mp hk)] at this
            exact Nat.le_trans (Nat.le_of_eq (cnt_lots k lots)) this
--@@SPLIT
/-! ### all things of some rows -/
def strsD (ls : List (List Str)) : List PyData := ls.map fun l => .tuple (l.map PyData.str)
theorem strs_vals {K : PySem.W.Frag} {H : Hp} : ∀ {l : List Str} {vs : List V}, DpAll K H vs (l.map PyData.str) → vs = l.map V.str
  | [], _, h => by cases h; rfl
  | z :: l, _, h => by
    cases h with
    | cons h1 h2 =>
      cases h1
      rw [strs_vals h2]
      rfl
theorem flat_succ {ls : List (List Str)} {i : Nat} {l : List Str} (h : ls[i]? = some l) : (ls.take (i + 1)).flatMap id = (ls.take i).flatMap id ++ l := by
  rw [List.take_add_one, h, List.flatMap_append]
  show _ ++ [l].flatMap id = _
  rw [List.flatMap_cons, List.flatMap_nil, List.append_nil]
  rfl
theorem flat_le (ls : List (List Str)) (i : Nat) : ((ls.take i).flatMap id).length ≤ (ls.flatMap id).length := (flat_sub id (List.take_sublist _ _)).length_le
theorem strs_at {K : PySem.W.Frag} {H : Hp} {xs : List V} {ls : List (List Str)} {i : Nat} {v : V} (h : DpAll K H xs (strsD ls)) (hv : xs[i]? = some v) : ∃ l t, ls[i]? = some l ∧ v = .ref t ∧ SqT K H t (l.map V.str) := by
  obtain ⟨d, fd, gd⟩ := dpa_at _ xs h i v hv
  unfold strsD at fd
  rw [List.getElem?_map] at fd
  cases e : ls[i]? with
  | none => rw [e] at fd; cases fd
  | some l =>
    rw [e] at fd
    cases Option.some.inj fd
    cases gd with
    | tup hs ha => exact ⟨l, _, rfl, rfl, by rw [← strs_vals ha]; exact hs⟩
def spFlat (K : PySem.W.Frag) : Sp := fun vs H Q _ => ∃ (L : Addr) (xs : List V) (ls : List (List Str)), vs = [.ref L] ∧ SqA K H L xs ∧ DpAll K H xs (strsD ls) ∧ (ls.flatMap id).length ≤ 60 ∧ ∀ H' D, Same H H' → H D = none → H' D = some (.lst ((ls.flatMap id).map V.str)) → Q (.ref D) H'
theorem ok_Lflat (T : Top w K mg) : FnOk P w K mg base CX0 1 T.a_Lflat T.fd_Lflat ["_law_rows"] (spFlat K) := by
  refine T.F_Lflat.ok sc_Lflat (fun vs H Q E h => ?_) (fun cdv A outer s H vs Q E hr h => ?_)
  · obtain ⟨L, xs, ls, rfl, _⟩ := h
    rfl
  · obtain ⟨L, xs, ls, rfl, hL, hx, few, q⟩ := h
    refine ⟨_, (pss_cons (ps_set (i := 1) sc_Lflat.nd rfl (.inl rfl) (pe_lst pa_nil))
      (pss_cons (ps_for PassesOwn.never rfl (SeqW.pi_seq (pv 0)) (pg_name (i := 2) sc_Lflat.nd rfl (.inl rfl)) (pss_one (ps_expr (pe_bm PySem.F.plainAttrs_list PySem.F.slot_list_extend PySem.F.type_list_extend mt_extend (pv 1) (pa_cons (pe_callTy call_list_of (by rfl) T.m_list (by decide +kernel) (pa_cons (pv 2) pa_nil)) pa_nil)))))
      (pss_one (ps_ret (pv 1))))), ?_⟩
    refine ⟨Nat.zero_le _, fun D nD => ?_⟩
    have sD := same_upd (o := .lst []) nD
    have lx := dpa_len2 hx
    unfold strsD at lx
    rw [List.length_map] at lx
    refine ⟨.ref L, rfl, L, xs, rfl, (fun H' => Same H H'), kpA hL, sD, fun J G wk hG => for_it wk (fun i σ H' => Same H H' ∧ H' D = some (.lst (((ls.take i).flatMap id).map V.str)) ∧ ∃ y2, σ = [some (.ref L), some (.ref D), y2]) ⟨sD, upd_same, none, rfl⟩ (fun i σ H' _ h => hG _ h.1) ?_ ?_⟩
    · rintro i v σ H1 H2 hi ⟨s1, e1, y2, rfl⟩ ⟨rfl, hv⟩
      obtain ⟨l, t, hl, rfl, ht⟩ := strs_at (dpa_same s1 _ _ hx) hv
      have fl := flat_le ls (i + 1)
      rw [flat_succ hl, List.length_append] at fl
      refine ⟨.ref D, rfl, .inl ⟨rfl, _, .inl (.inl e1)⟩, .ref t, rfl, t, _, rfl, .inr ht, fun c nc => ?_⟩
      have sc := same_upd (o := .lst (l.map V.str)) nc
      refine ⟨D, c, _, _, rfl, rfl, sc _ _ e1, upd_same, Nat.le_of_lt (small1000 (by rw [List.length_map, List.length_map]; omega)), fun b o h => ?_, ?_, _, rfl⟩
      · rw [upd_ne (ne_of_none h nD)]
        exact sc _ _ (s1 _ _ h)
      · rw [upd_same, flat_succ hl, List.map_append]
    · rintro σ H1 ⟨s1, e1, y2, rfl⟩
      rw [lx, List.take_length] at e1
      exact ⟨_, rfl, q _ D s1 nD e1⟩
theorem flat_strsC : ∀ l : List Str, (l.map V.str).all flatV = true
  | [] => rfl
  | z :: l => by rw [List.map_cons, List.all_cons, flat_strsC l]; rfl
/-! ### rows of names, each called as the other name at its place -/
def callN (ns os : List Str) (z : Str) : Str := os.getD (ns.findIdx fun y => decide (y = z)) ""
def spCalled (K : PySem.W.Frag) : Sp := fun vs H Q _ => ∃ (R N O : Addr) (xs : List V) (ls : List (List Str)) (ns os : List Str), vs = [.ref R, .ref N, .ref O] ∧ SqT K H R xs ∧ DpAll K H xs (strsD ls) ∧ SqL K H N (ns.map V.str) ∧ SqL K H O (os.map V.str) ∧ os.length = ns.length ∧ ls.length ≤ 60 ∧ (∀ l ∈ ls, l.length ≤ 60 ∧ ∀ z ∈ l, z ∈ ns) ∧ ∀ H' D ys, Same H H' → H' D = some (.lst ys) → All2 (TL H') ys (ls.map fun l => l.map (callN ns os)) → Q (.ref D) H'
theorem ok_Lcalled (T : Top w K mg) : FnOk P w K mg base CX0 1 T.a_Lcalled T.fd_Lcalled ["_law_rows", "_law_names_here", "_law_others"] (spCalled K) := by
  refine T.F_Lcalled.ok sc_Lcalled (fun vs H Q E h => ?_) (fun cdv A outer s H vs Q E hr h => ?_)
  · obtain ⟨R, N, O, xs, ls, ns, os, rfl, _⟩ := h
    rfl
  · obtain ⟨R, N, O, xs, ls, ns, os, rfl, hR, hx, hN, hO, lo, fl, ok, q⟩ := h
    refine ⟨_, (pss_one (ps_ret (pe_lc (own := [("_law_row", 3)]) (g := gName 3) (by rfl) sc_Lcalled.nd (pi_tup (pv 0)) (blkOk_by (own := [("_law_row", 3)]) (N := ["_law_rows", "_law_names_here", "_law_others", "_law_row", "_law_name_here"]) (sc := defScope s_Lcalled) (by decide +kernel)) (fun _ _ _ _ _ => (pg_name (i := 3) sc_Lcalled.nd rfl (Or.inl rfl))) (fun _ _ _ _ _ => pts_nil) (fun _ _ _ _ _ => (pe_callTy (r := rTupOf K) (T := "tuple") (call_tupK rfl) (by rfl) T.m_tuple (by decide +kernel) (pa_cons (pe_lc (own := [("_law_name_here", 4)]) (g := gName 4) (by rfl) sc_Lcalled.nd (SeqK.pi_seqK (K := K) rfl (pv 3)) (blkOk_by (own := [("_law_name_here", 4)]) (N := ["_law_rows", "_law_names_here", "_law_others", "_law_row", "_law_name_here"]) (sc := ({ kind := PySem.ScopeKind.function, names := [ (PySem.Str.ofString ".0", PySem.NameKind.local), (PySem.Str.ofString "_law_row", PySem.NameKind.local), (PySem.Str.ofString "tuple", PySem.NameKind.globalImplicit), (PySem.Str.ofString "_law_names_here", PySem.NameKind.cell), (PySem.Str.ofString "_law_others", PySem.NameKind.cell)], isGenerator := false, isCoroutine := false, more := [] : PySem.Scope })) (by decide +kernel)) (fun _ _ _ _ _ => (pg_name (i := 4) sc_Lcalled.nd rfl (Or.inl rfl))) (fun _ _ _ _ _ => pts_nil) (fun _ _ _ _ _ => (pe_ix (r := rIx K) (SeqW.ix_seqK rfl) (pv 2) (SeqK.pe_bmK (K := K) rfl PySem.F.plainAttrs_list PySem.F.slot_list_index PySem.F.type_list_index (r := rIndex K) (SeqK.indexK rfl) (pv 1) (pa_cons (pv 4) pa_nil)) (fun _ _ => rfl)))) pa_nil)))))), ?_⟩
    have lx := dpa_len2 hx
    unfold strsD at lx
    rw [List.length_map] at lx
    refine ⟨.ref R, rfl, R, rfl, ⟨xs, hR⟩, fun D hD => lc_it (walk_tup (xs := xs)) (fun i H' => Same H H' ∧ ∃ ws, H' D = some (.lst ws) ∧ All2 (TL H') ws ((ls.take i).map fun l => l.map (callN ns os))) ⟨same_upd hD, [], upd_same, .nil⟩ (fun i H' _ h => sqt_same h.1 hR) ?_ ?_⟩
    · rintro i v H2 H3 hi ⟨s3, ws, eD, hw⟩ ⟨rfl, hv⟩
      obtain ⟨l, t, hl, rfl, ht⟩ := strs_at (dpa_same s3 _ _ hx) hv
      obtain ⟨l60, lin⟩ := ok l (List.mem_of_getElem? hl)
      have lw := hw.len
      rw [List.length_map, List.length_take] at lw
      refine ⟨rfl, .ref t, rfl, t, _, rfl, (fun H' => Same H3 H'), kpA (.inr ht), Same.refl _, fun J G wk hG D2 hD2 => lc_it wk (fun j H' => Same H3 H' ∧ H' D2 = some (.lst (((l.take j).map (callN ns os)).map V.str))) ⟨same_upd hD2, upd_same⟩ (fun j H' _ h => hG _ h.1) ?_ ?_⟩
      · rintro j v H4 H5 hj ⟨s5, e2⟩ ⟨rfl, hz⟩
        rw [List.getElem?_map] at hz
        obtain ⟨z, fz, rfl⟩ : ∃ z, l[j]? = some z ∧ V.str z = v := by
          cases e : l[j]? with
          | none => rw [e] at hz; cases hz
          | some z => rw [e] at hz; exact ⟨z, rfl, Option.some.inj hz⟩
        have zin := lin z (List.mem_of_getElem? fz)
        have lt : (ns.findIdx fun y => decide (y = z)) < ns.length := List.findIdx_lt_length_of_exists ⟨z, zin, decide_eq_true rfl⟩
        have at1 : ns[ns.findIdx fun y => decide (y = z)]? = some z := by
          rw [List.getElem?_eq_getElem lt]
          exact congrArg some (of_decide_eq_true (List.findIdx_getElem (w := lt)))
        have s35 := s3.trans s5
        have hN5 := Evl.ex_l (show Evl.Ex H H5 from s35) hN
        have hO5 := Evl.ex_l (show Evl.Ex H H5 from s35) hO
        refine ⟨rfl, .ref O, rfl, .ref N, rfl, .inl ⟨rfl, _, hN5⟩, .str z, rfl, N, ns.map V.str, .str z, ns.findIdx fun y => decide (y = z), .str z, rfl, rfl, hN5, rfl, flat_strsC ns, by rw [List.getElem?_map, at1]; rfl, by show decide (z = z) = true; exact decide_eq_true rfl, fun m z' hm hz' => ?_, ?_⟩
        · rw [List.getElem?_map] at hz'
          have lm : m < ns.length := Nat.lt_trans hm lt
          rw [List.getElem?_eq_getElem lm] at hz'
          cases hz'
          show decide (ns[m] = z) = false
          exact List.not_of_lt_findIdx hm
        · refine ixA (.inl hO5) (show (os.map V.str)[_]? = some (V.str (callN ns os z)) from ?_) ?_
          · have lt2 : (ns.findIdx fun y => decide (y = z)) < os.length := by rw [lo]; exact lt
            unfold callN
            rw [List.getElem?_map, List.getElem?_eq_getElem lt2, List.getD_eq_getElem?_getD, List.getElem?_eq_getElem lt2]
            rfl
          · refine ⟨_, e2, small1000 (by rw [List.length_map, List.length_map, List.length_take]; omega), fun b o h => ?_, ?_⟩
            · rw [upd_ne (ne_of_none h hD2)]
              exact s5 _ _ h
            · rw [upd_same, List.take_add_one, fz, List.map_append, List.map_append]
              rfl
      · rintro H5 ⟨s5, e2⟩
        rw [List.length_map, List.take_length] at e2
        refine ⟨D2, _, rfl, .inl ⟨.inl (.inl e2), fun c nc => ?_⟩⟩
        have sc := same_upd (o := .tup ((l.map (callN ns os)).map V.str)) nc
        have eD5 := sc _ _ (s5 _ _ eD)
        have ncD : c ≠ D := Ne.symm (ne_of_none (s5 _ _ eD) nc)
        refine ⟨ws, eD5, small1000 (by omega), fun b o h => ?_, ws ++ [.ref c], upd_same, ?_⟩
        · rw [upd_ne (ne_of_none h hD)]
          exact sc _ _ (s5 _ _ (s3 _ _ h))
        · rw [List.take_add_one, hl, List.map_append]
          refine (hw.imp fun v' l' h => ?_).snoc ⟨c, rfl, ?_⟩
          · obtain ⟨b, e1, e3⟩ := h
            refine ⟨b, e1, ?_⟩
            rw [upd_ne (fun z => by rw [z, eD] at e3; cases e3)]
            exact sc _ _ (s5 _ _ e3)
          · rw [upd_ne ncD]
            exact upd_same
    · rintro H2 ⟨s2, ws, eD, hw⟩
      rw [lx, List.take_length] at hw
      exact q H2 D ws s2 eD hw
--@@SPLIT
theorem strs_lay0 : ∀ ws : List Str, (∀ z ∈ ws, PyData.strOk z = true) → PyData.canLayAll0 (ws.map PyData.str) = true ∧ PyData.depthAll (ws.map PyData.str) = 0
  | [], _ => ⟨rfl, rfl⟩
  | z :: ws, h => by
    obtain ⟨h1, h2⟩ := strs_lay0 ws fun x hx => h x (List.mem_cons_of_mem _ hx)
    exact ⟨Bool.and_eq_true_iff.mpr ⟨h z List.mem_cons_self, h1⟩, by show max _ _ = 0; rw [h2]; rfl⟩
/-! ### the lone signs that a group tells -/
def sgnE : Ent → Option Str
  | .sign z => some z
  | .spy _ z => some z
  | _ => none
def sgnsL (es : List Ent) : List Str := es.filterMap sgnE
def greatF (z : Str) : Bool := match z.cps.toList with
  | c :: _ => grC c
  | [] => false
theorem sgns_succ {es : List Ent} {i : Nat} {e : Ent} (h : es[i]? = some e) : sgnsL (es.take (i + 1)) = sgnsL (es.take i) ++ (sgnE e).toList := by
  unfold sgnsL
  rw [List.take_add_one, h, List.filterMap_append]
  congr 1
theorem sgns_le (es : List Ent) : (sgnsL es).length ≤ es.length := List.length_filterMap_le _ _
theorem sgn_none {e : Ent} (h : ¬ (e.kind = 6 ∨ e.kind = 8)) : sgnE e = none := by
  cases e with
  | sign z => exact absurd (.inl rfl) h
  | spy n z => exact absurd (.inr rfl) h
  | _ => rfl
theorem sgn_some {K : PySem.W.Frag} {H : Hp} {a : Addr} {us : List V} {e : Ent} (hk : e.kind = 6 ∨ e.kind = 8) (hq : SqA K H a (.str (ws e.kind) :: us)) (hu : DpAll K H us e.rest) : ∃ z : Str, sgnE e = some z ∧ ∀ (H' : Hp) (Q : VK), Same H H' → Q (.str z) H' → rIx K (.ref a) (.int (-1)) H' Q := by
  rcases hk with h | h
  · obtain ⟨z, rfl⟩ := sign_kind h
    cases hu with
    | cons h1 h2 =>
      cases h1
      cases h2
      exact ⟨z, rfl, fun H' Q s q => ixL2 (hq.same s) q⟩
  · obtain ⟨n, z, rfl⟩ := spy_kind h
    cases hu with
    | cons h1 h2 =>
      cases h1
      cases h2 with
      | cons h3 h4 =>
        cases h3
        cases h4
        exact ⟨z, rfl, fun H' Q s q => ixL3 (hq.same s) q⟩
theorem great_lone {z : Str} (h : Ent.sgS z = true) (n : z.length ≠ 0) : greatF z = loL z.cps.toList := by
  obtain ⟨⟨l⟩⟩ := z
  cases l with
  | nil => exact absurd rfl n
  | cons c r => exact (lo_gr h).symm
theorem sgS_ne {z : Str} (h : Ent.sgS z = true) : z.length ≠ 0 := by
  obtain ⟨⟨l⟩⟩ := z
  cases l with
  | nil => exact absurd h (by decide +kernel)
  | cons c r => exact fun e => nomatch e
theorem sgn_sg {e : Ent} {z : Str} (ok : e.ok) (h : sgnE e = some z) : Ent.sgS z = true := by
  cases e with
  | sign y => cases h; exact ok.2.2
  | spy n y => cases h; exact ok.2.2
  | _ => cases h
theorem sgns_lones {es : List Ent} (ok : ∀ e ∈ es, e.ok) : (sgnsL es).filter greatF = lonesL es := by
  induction es with
  | nil => rfl
  | cons e es ih =>
    have ih := ih fun x m => ok x (List.mem_cons_of_mem _ m)
    unfold sgnsL lonesL at *
    have h1 := ok e List.mem_cons_self
    cases e with
    | sign z =>
      have g := great_lone h1.2.2 (sgS_ne h1.2.2)
      show (z :: es.filterMap sgnE).filter greatF = _
      rw [List.filter_cons, ih, List.filterMap_cons]
      have e : lonE (.sign z) = if loL z.cps.toList = true then some z else none := rfl
      rw [e, g]
      by_cases l : loL z.cps.toList = true
      · rw [if_pos l, if_pos l]
      · rw [if_neg l, if_neg l]
    | spy n z =>
      have g := great_lone h1.2.2 (sgS_ne h1.2.2)
      show (z :: es.filterMap sgnE).filter greatF = _
      rw [List.filter_cons, ih, List.filterMap_cons]
      have e : lonE (.spy n z) = if loL z.cps.toList = true then some z else none := rfl
      rw [e, g]
      by_cases l : loL z.cps.toList = true
      · rw [if_pos l, if_pos l]
      · rw [if_neg l, if_neg l]
    | _ => exact ih
/-- all signs of the walkers of a group -/
def sgnG (rs : List Row) (g : List Str) : List Str := rs.flatMap fun r => if r.1 ∈ g then sgnsL r.2 else []
theorem sgnG_succ {rs : List Row} {i : Nat} {r : Row} (h : rs[i]? = some r) (g : List Str) : sgnG (rs.take (i + 1)) g = sgnG (rs.take i) g ++ (if r.1 ∈ g then sgnsL r.2 else []) := by
  unfold sgnG
  rw [List.take_add_one, h, List.flatMap_append]
  congr 1
  show List.flatMap _ [r] = _
  rw [List.flatMap_cons, List.flatMap_nil, List.append_nil]
theorem sgnG_len {rs : List Row} (h : ∀ r ∈ rs, r.2.length ≤ 100) (g : List Str) : (sgnG rs g).length ≤ 100 * rs.length := by
  induction rs with
  | nil => exact Nat.le_refl 0
  | cons r rs ih =>
    have h1 := ih fun x m => h x (List.mem_cons_of_mem _ m)
    have h2 := h r List.mem_cons_self
    have h3 := sgns_le r.2
    show ((if r.1 ∈ g then sgnsL r.2 else []) ++ sgnG rs g).length ≤ 100 * (rs.length + 1)
    rw [List.length_append]
    split
    · omega
    · show 0 + _ ≤ _
      omega
theorem sgnG_of {rs : List Row} (h : ∀ r ∈ rs, RowOk r) (g : List Str) : (sgnG rs g).filter greatF = ofNames (pairsG rs) g := by
  induction rs with
  | nil => rfl
  | cons r rs ih =>
    have h1 := ih fun x m => h x (List.mem_cons_of_mem _ m)
    have h2 := sgns_lones (h r List.mem_cons_self).ok
    show ((if r.1 ∈ g then sgnsL r.2 else []) ++ sgnG rs g).filter greatF = (((r.1, lonesL r.2) :: pairsG rs).filter fun k => decide (k.1 ∈ g)).flatMap (·.2)
    rw [List.filter_append, h1, List.filter_cons]
    by_cases m : r.1 ∈ g
    · rw [if_pos m, if_pos (decide_eq_true m), h2]
      rfl
    · rw [if_neg m, if_neg (by simpa using m)]
      rfl
theorem sgnG_sg {rs : List Row} (h : ∀ r ∈ rs, RowOk r) {g : List Str} {z : Str} (m : z ∈ sgnG rs g) : Ent.sgS z = true := by
  obtain ⟨r, hr, m⟩ := List.mem_flatMap.mp m
  split at m
  · obtain ⟨e, he, ez⟩ := List.mem_filterMap.mp m
    exact sgn_sg ((h r hr).ok e he) ez
  · cases m
theorem sgS_small {z : Str} (h : Ent.sgS z = true) : z.length ≤ 8 := by
  have h1 : shL z.cps.toList = true := by
    rcases Bool.or_eq_true_iff.mp (show (nmL z.cps.toList || loL z.cps.toList) = true from h) with h | h
    · exact (Bool.and_eq_true_iff.mp (show (shL z.cps.toList && z.cps.toList.all smC) = true from h)).1
    · generalize z.cps.toList = l at h ⊢
      cases l with
      | nil => cases h
      | cons c r => exact (Bool.and_eq_true_iff.mp h).1
  have h2 := of_decide_eq_true (Bool.and_eq_true_iff.mp h1).2
  have h3 := len_toList z
  omega
theorem filter_step {α : Type} {p : α → Bool} {l : List α} {j : Nat} {x : α} (h : l[j]? = some x) : (l.take (j + 1)).filter p = (l.take j).filter p ++ (if p x = true then [x] else []) := by
  rw [List.take_add_one, h, List.filter_append]
  congr 1
  show List.filter p [x] = _
  rw [List.filter_cons]
  rfl
--@@SPLIT
def spSigns (K : PySem.W.Frag) : Sp := fun vs H Q _ => ∃ (R G : Addr) (us : List V) (rs : List Row) (g : List Str), vs = [.ref R, .ref G] ∧ SqA K H R us ∧ RowsAt K H us rs ∧ (∀ r ∈ rs, RowOk r) ∧ rs.length ≤ 60 ∧ SqA K H G (g.map V.str) ∧ ∀ H' D, Same H H' → H D = none → H' D = some (.lst ((ofNames (pairsG rs) g).map V.str)) → Q (.ref D) H'
theorem ok_Lsigns (T : Top w K mg) : FnOk P w K mg base CX0 1 T.a_Lsigns T.fd_Lsigns ["_law_rows", "_law_group"] (spSigns K) := by
  refine T.F_Lsigns.ok sc_Lsigns (fun vs H Q E h => ?_) (fun cdv A outer s H vs Q E hr h => ?_)
  · obtain ⟨R, G, us, rs, g, rfl, _⟩ := h
    rfl
  · obtain ⟨R, G, us, rs, g, rfl, hR, hus, hok, hlen, hG, q⟩ := h
    refine ⟨_, (pss_cons (ps_set (i := 2) sc_Lsigns.nd rfl (.inl rfl) (pe_lst pa_nil))
      (pss_cons (ps_for PassesOwn.never rfl (SeqW.pi_seq (pv 0)) (pg_tup rfl (pgs_cons (pg_name (i := 3) sc_Lsigns.nd rfl (.inr rfl)) (pgs_cons (pg_name (i := 4) sc_Lsigns.nd rfl (.inl rfl)) pgs_nil))) (pss_one (ps_expr (pe_bm PySem.F.plainAttrs_list PySem.F.slot_list_extend PySem.F.type_list_extend mt_extend (pv 2) (pa_cons (pe_lc (own := [("_law_entry_here", 6)]) (g := gName 6) (by rfl) sc_Lsigns.nd (SeqW.pi_seq (pv 4)) (blkOk_by (own := [("_law_entry_here", 6)]) (N := ["_law_rows", "_law_group", "_law_found", "_law_name_here", "_law_log", "_law_sign", "_law_entry_here"]) (sc := defScope s_Lsigns) (by decide +kernel)) (fun _ _ _ _ _ => (pg_name (i := 6) sc_Lsigns.nd rfl (Or.inl rfl))) (fun _ _ _ _ _ => (pts_one (PW.pt (pw_and (pt_cmpR (r := rIn K false) (SeqW.in_K rfl) (pv 3) (pv 1) (by rfl)) (pw_and1 (pt_cmpR (r := rIn K false) (SeqW.in_K rfl) (pe_ix (r := rIx K) (SeqW.ix_seqK rfl) (pv 6) pe_int (fun _ _ => rfl)) (pe_tup (pa_cons pe_str (pa_cons pe_str pa_nil))) (by rfl))))))) (fun _ _ _ _ _ => (pe_ix (r := rIx K) (SeqW.ix_seqK rfl) (pv 6) (pe_un un_neg pe_int) (fun _ _ => rfl)))) pa_nil)))))
      (pss_one (ps_ret (pe_lc (own := [("_law_sign", 5)]) (g := gName 5) (by rfl) sc_Lsigns.nd (pi_list (pv 2)) (blkOk_by (own := [("_law_sign", 5)]) (N := ["_law_rows", "_law_group", "_law_found", "_law_name_here", "_law_log", "_law_sign", "_law_entry_here"]) (sc := defScope s_Lsigns) (by decide +kernel)) (fun _ _ _ _ _ => (pg_name (i := 5) sc_Lsigns.nd rfl (Or.inl rfl))) (fun _ _ _ _ _ => (pts_one (pt_cmpR op_in_sign (pe_ix ix_str (pv 5) pe_int (fun _ _ => rfl)) pe_str (by rfl)))) (fun _ _ _ _ _ => (pv 5))))))), ?_⟩
    refine ⟨Nat.zero_le _, fun F nF => ?_⟩
    have sF := same_upd (o := .lst []) nF
    have lu := hus.len
    have len100 : ∀ r ∈ rs, r.2.length ≤ 100 := fun r m => (hok r m).len
    refine ⟨.ref R, rfl, R, us, rfl, (fun H' => Same H H'), kpA hR, sF, fun J G1 wk hJ => for_it wk (fun i σ H' => Same H H' ∧ H' F = some (.lst ((sgnG (rs.take i) g).map V.str)) ∧ ∃ y3 y4, σ = [some (.ref R), some (.ref G), some (.ref F), y3, y4, none, none]) ⟨sF, upd_same, none, none, rfl⟩ (fun i σ H' _ h => hJ _ h.1) ?_ ?_⟩
    · rintro i v σ H1 H2 hi ⟨sm, eF, y3, y4, rfl⟩ ⟨rfl, hv⟩
      obtain ⟨r, fr, t, l, rfl, ht, hl⟩ := hus.at_ hv
      have ro := hok r (List.mem_of_getElem? fr)
      obtain ⟨a, xs, e0, hsx, hrw⟩ := log_rows hl
      cases e0
      have lx := hrw.len
      have few := sgnG_len (rs := rs.take (i + 1)) (fun x m => len100 x (List.mem_of_mem_take m)) g
      rw [sgnG_succ fr, List.length_append, List.length_take] at few
      have few2 := sgns_le r.2
      have r100 := ro.len
      refine ⟨t, _, rfl, .inl (.inl (sm _ _ ht)), rfl, _, _, rfl, _, _, rfl, rfl, ?_⟩
      refine ⟨.ref F, rfl, .inl ⟨rfl, _, .inl (.inl eF)⟩, .ref l, rfl, l, xs, rfl, (fun H' => Same H2 H'), kpA (.inr (sqt_same sm hsx)), Same.refl _, fun J2 G2 wk2 hJ2 D hD => lc_it wk2 (fun j H' => Same H2 H' ∧ H' D = some (.lst ((if r.1 ∈ g then sgnsL (r.2.take j) else []).map V.str))) ⟨same_upd hD, by rw [upd_same]; split <;> rfl⟩ (fun j H' _ h => hJ2 _ h.1) ?_ ?_⟩
      · rintro j v H3 H4 hj ⟨s3, eD⟩ ⟨rfl, hx⟩
        obtain ⟨en, fe, b, us', rfl, hq, hu⟩ := (hrw.same (sm.trans s3)).at_ hx
        have s13 := sm.trans s3
        have stop : ∀ H', Same H4 H' → (r.1 ∈ g → sgnE en = none) → Same H2 H' ∧ H' D = some (.lst ((if r.1 ∈ g then sgnsL (r.2.take (j + 1)) else []).map V.str)) := fun H' s' no => by
          refine ⟨s3.trans s', ?_⟩
          rw [s' _ _ eD, sgns_succ fe]
          by_cases m : r.1 ∈ g
          · rw [if_pos m, if_pos m, no m]
            show _ = some (HO.lst ((sgnsL (r.2.take j) ++ []).map V.str))
            rw [List.append_nil]
          · rw [if_neg m, if_neg m]
        refine ⟨rfl, .str r.1, rfl, .ref G, rfl, G, _, rfl, hG.same s13, rfl, flat_strs g, _, rfl, ite2 (fun e1 => ?_) (fun e1 => iteF (stop _ (Same.refl _) fun m => absurd (in_strs.trans (decide_eq_true m)) e1))⟩
        have m : r.1 ∈ g := of_decide_eq_true (in_strs.symm.trans e1)
        refine ⟨.ref b, rfl, ixA (j := 0) hq rfl ⟨by show 2 ≤ sizeLine; decide, fun tp ntp => ⟨tp, _, rfl, .inr (.inl (.inl upd_same)), rfl, by decide +kernel, _, rfl, ?_⟩⟩⟩
        have s4 := same_upd (o := .tup ([PySem.Str.ofString "sign", PySem.Str.ofString "spy"].map V.str)) ntp
        show if inV (.str (ws en.kind)) ([PySem.Str.ofString "sign", PySem.Str.ofString "spy"].map V.str) = true then _ else _
        rw [ss_in]
        refine ite2 (fun e2 => ?_) (fun e2 => stop _ s4 fun _ => sgn_none (fun z => e2 (decide_eq_true z)))
        obtain ⟨z, ez, ix⟩ := sgn_some (of_decide_eq_true e2) hq hu
        have ll := sgns_le (r.2.take j)
        rw [List.length_take] at ll
        rw [if_pos m] at eD
        refine ⟨.ref b, rfl, _, rfl, ix _ _ s4 ⟨_, s4 _ _ eD, small1000 (by rw [List.length_map]; omega), fun c o h => ?_, ?_⟩⟩
        · rw [upd_ne (ne_of_none h hD)]
          exact s4 _ _ (s3 _ _ h)
        · rw [upd_same, if_pos m, sgns_succ fe, ez, List.map_append]
          rfl
      · rintro H3 ⟨s3, eD⟩
        rw [lx, List.take_length] at eD
        have s13 := sm.trans s3
        have eF3 := s3 _ _ eF
        have ld : (if r.1 ∈ g then sgnsL r.2 else []).length ≤ 100 := by
          split
          · omega
          · exact Nat.zero_le _
        refine ⟨F, D, _, _, rfl, rfl, eF3, eD, Nat.le_of_lt (Nat.lt_of_lt_of_le (show _ < 100000 by rw [List.length_map, List.length_map]; omega) (by decide)), fun c o h => ?_, ?_, _, _, rfl⟩
        · rw [upd_ne (ne_of_none h nF)]
          exact s13 _ _ h
        · rw [upd_same, sgnG_succ fr, List.map_append]
    · rintro σ H1 ⟨sm, eF, y3, y4, rfl⟩
      rw [lu, List.take_length] at eF
      have few := sgnG_len len100 g
      refine ⟨.ref F, rfl, F, rfl, ⟨_, .inl (.inl eF)⟩, fun D hD => lc_it (walk_list (xs := (sgnG rs g).map V.str)) (fun j H' => Same H1 H' ∧ H' D = some (.lst ((((sgnG rs g).take j).filter greatF).map V.str))) ⟨same_upd hD, upd_same⟩ (fun j H' _ h => .inl (.inl (h.1 _ _ eF))) ?_ ?_⟩
      · rintro j v H3 H4 hj ⟨s3, eD⟩ ⟨rfl, hx⟩
        rw [List.getElem?_map] at hx
        obtain ⟨z, fz, rfl⟩ : ∃ z, (sgnG rs g)[j]? = some z ∧ V.str z = v := by
          cases e : (sgnG rs g)[j]? with
          | none => rw [e] at hx; cases hx
          | some z => rw [e] at hx; exact ⟨z, rfl, Option.some.inj hx⟩
        have sg := sgnG_sg hok (List.mem_of_getElem? fz)
        have z8 := sgS_small sg
        have z0 := sgS_ne sg
        rw [filter_step fz]
        have lfl := List.length_filter_le greatF ((sgnG rs g).take j)
        rw [List.length_take] at lfl
        obtain ⟨⟨cs⟩⟩ := z
        match cs, fz, z8, z0 with
        | [], _, _, z0 => exact absurd rfl z0
        | c :: r, fz, z8, z0 =>
        have z8 : r.length + 1 ≤ 8 := z8
        refine ⟨rfl, _, rfl, ⟨_, 0, c, rfl, rfl, thou (by show r.length + 1 ≤ 1000; omega), atI_nat (j := 0) rfl, c, _, rfl, rfl, _, rfl, ite2 (fun e2 => ?_) (fun e2 => ?_)⟩⟩
        · have e2 : greatF ⟨⟨c :: r⟩⟩ = true := e2
          rw [if_pos e2]
          refine ⟨_, rfl, _, eD, Nat.lt_of_lt_of_le (show _ < 100000 by rw [List.length_map]; omega) (by decide), fun b o h => ?_, ?_⟩
          · rw [upd_ne (ne_of_none h hD)]
            exact s3 _ _ h
          · rw [upd_same, List.map_append]
            rfl
        · have e2 : ¬ greatF ⟨⟨c :: r⟩⟩ = true := e2
          rw [if_neg e2, List.append_nil]
          exact ⟨s3, eD⟩
      · rintro H3 ⟨s3, eD⟩
        rw [List.length_map, List.take_length, sgnG_of hok] at eD
        exact q _ D (sm.trans s3) (sm.free hD) eD
--@@SPLIT
def withQ (rs : List Row) (d : PyData) : List Row := rs.filter fun r => !eqS d r.1
theorem with_nodup {rs : List Row} {d : PyData} (h : (nms rs).Nodup) : (nms (withQ rs d)).Nodup := h.sublist (List.filter_sublist.map _)
/-- the pairs kept so far: new tuples, of names and of the logs that stood at H0 -/
structure KeptAt (K : PySem.W.Frag) (H0 : Hp) (D : Addr) (rs : List Row) (d : PyData) (i : Nat) (H : Hp) : Prop where
  same : Same H0 H
  had : ∃ zs, H D = some (.lst zs) ∧ zs.length = (withQ (rs.take i) d).length ∧ ∀ (j : Nat) (v : V), zs[j]? = some v → ∃ r T l, (withQ (rs.take i) d)[j]? = some r ∧ v = .ref T ∧ H T = some (.tup [.str r.1, .ref l]) ∧ Dp K H0 (.ref l) (logD r)
theorem logD_ref {K : PySem.W.Frag} {H : Hp} {v : V} {r : Row} (h : Dp K H v (logD r)) : ∃ l xs, v = .ref l ∧ SqT K H l xs ∧ DpAll K H xs (r.2.map Ent.tup) := by
  cases h with
  | tup h a => exact ⟨_, _, rfl, h, a⟩
theorem kept_step {K : PySem.W.Frag} {H0 H : Hp} {D T : Addr} {rs : List Row} {ls : List V} {d : PyData} {i : Nat} {x y : V} (hls : DpAll K H0 ls (rs.map logD)) (nD : H0 D = none) (p : KeptAt K H0 D rs d i H) (hlen : rs.length ≤ 60) (nT : H T = none) (ex : (namV rs)[i]? = some x) (ey : ls[i]? = some y) :
    ∃ r, r ∈ rs ∧ x = .str r.1 ∧ (eqS d r.1 = true → KeptAt K H0 D rs d (i + 1) (upd H T (.tup [x, y]))) ∧ (eqS d r.1 = false → ∃ acc, (upd H T (.tup [x, y])) D = some (.lst acc) ∧ acc.length < sizeLine ∧ KeptAt K H0 D rs d (i + 1) (upd (upd H T (.tup [x, y])) D (.lst (acc ++ [.ref T])))) := by
  obtain ⟨s, zs, eD, lz, hz⟩ := p
  obtain ⟨r, fr, rfl⟩ : ∃ r, rs[i]? = some r ∧ V.str r.1 = x := by
    unfold namV nms at ex
    rw [List.map_map, List.getElem?_map] at ex
    cases e : rs[i]? with
    | none => rw [e] at ex; cases ex
    | some r => rw [e] at ex; exact ⟨r, rfl, Option.some.inj ex⟩
  obtain ⟨dd, fd, gd⟩ := dpa_at _ ls hls i y ey
  rw [List.getElem?_map, fr] at fd
  cases fd
  obtain ⟨l, xs, rfl, hx, ha⟩ := logD_ref gd
  have tk : withQ (rs.take (i + 1)) d = withQ (rs.take i) d ++ (if (!eqS d r.1) = true then [r] else []) := by
    unfold withQ
    rw [List.take_add_one, fr, List.filter_append]
    show _ ++ List.filter (fun r : Row => !eqS d r.1) [r] = _
    cases h : eqS d r.1 <;> simp [h]
  have sT := same_upd (o := .tup [.str r.1, .ref l]) nT
  have nTD : T ≠ D := fun e => by rw [e, eD] at nT; cases nT
  have few : zs.length ≤ 60 := by
    rw [lz]
    unfold withQ
    have := List.length_filter_le (fun r => !eqS d r.1) (rs.take i)
    rw [List.length_take] at this
    omega
  refine ⟨r, List.mem_of_getElem? fr, rfl, fun e => ⟨s.trans sT, zs, sT _ _ eD, ?_, fun j v hv => ?_⟩, fun e => ⟨zs, sT _ _ eD, by show zs.length < sizeLine; exact small1000 (by omega), fun c o h => ?_, _, upd_same, ?_, fun j v hv => ?_⟩⟩
  · rw [tk, e, lz]
    simp
  · obtain ⟨q, T', l', h1, h2, h3, h4⟩ := hz j v hv
    refine ⟨q, T', l', ?_, h2, sT _ _ h3, h4⟩
    rw [tk, e]
    simpa using h1
  · rw [upd_ne (ne_of_none h nD)]
    exact sT _ _ (s _ _ h)
  · rw [tk, e, List.length_append, List.length_append, lz]
    rfl
  · rw [tk, e]
    by_cases hj : j < zs.length
    · rw [List.getElem?_append_left hj] at hv
      obtain ⟨q, T', l', h1, h2, h3, h4⟩ := hz j v hv
      refine ⟨q, T', l', ?_, h2, ?_, h4⟩
      · rw [List.getElem?_append_left (by rw [← lz]; exact hj)]
        exact h1
      · rw [upd_ne (fun e => by rw [e, eD] at h3; cases h3)]
        exact sT _ _ h3
    · rw [List.getElem?_append_right (by omega)] at hv
      have hj2 : j = zs.length := by
        have := (List.getElem?_eq_some_iff.mp hv).1
        have : j - zs.length < 1 := this
        omega
      subst hj2
      rw [Nat.sub_self] at hv
      cases hv
      refine ⟨r, T, l, ?_, rfl, (upd_ne nTD).trans upd_same, gd⟩
      rw [List.getElem?_append_right (by omega), lz, Nat.sub_self]
      rfl
/-! ### with a log, without one, where nothing is refused -/
theorem Pairs.of_at {K : PySem.W.Frag} {H : Hp} : ∀ {vs : List V} {rs : List Row}, vs.length = rs.length → (∀ (j : Nat) (v : V), vs[j]? = some v → ∃ r, rs[j]? = some r ∧ PairAt K H v r) → Pairs K H vs rs
  | [], [], _, _ => .nil
  | v :: vs, r :: rs, e, h => by
    obtain ⟨_, e1, h1⟩ := h 0 v rfl
    cases e1
    exact .cons h1 (Pairs.of_at (Nat.succ.inj e) fun j w hw => h (j + 1) w hw)
  | [], _ :: _, e, _ => nomatch e
  | _ :: _, [], e, _ => nomatch e
theorem kept_pairs {K : PySem.W.Frag} {H0 H : Hp} {D : Addr} {rs : List Row} {d : PyData} (p : KeptAt K H0 D rs d rs.length H) : ∃ zs, H D = some (.lst zs) ∧ zs.length ≤ rs.length ∧ ∀ H', Same H H' → Pairs K H' zs (withQ rs d) := by
  obtain ⟨s, zs, eD, lz, hz⟩ := p
  rw [List.take_length] at lz hz
  refine ⟨zs, eD, by rw [lz]; exact List.length_filter_le _ _, fun H' s' => Pairs.of_at lz fun j v hv => ?_⟩
  obtain ⟨r, T, l, h1, h2, h3, h4⟩ := hz j v hv
  obtain ⟨_, xs, e, hx, hr⟩ := log_rows h4
  cases e
  exact ⟨r, h1, T, l, xs, h2, .inr (.inl (.inl (s' _ _ h3))), .inr (sqt_same (s.trans s') hx), hr.same (s.trans s')⟩
theorem eqS_str (z s : Str) : eqS (.str z) s = decide (s = z) := by
  by_cases h : s = z
  · subst h
    exact (beq_self_eq_true _).trans (decide_eq_true rfl).symm
  · exact (beq_eq_false_iff_ne.mpr h).trans (decide_eq_false h).symm
theorem with_out {rs : List Row} {z : Str} : z ∉ nms (withQ rs (.str z)) := fun m => by
  obtain ⟨r, hr, e⟩ := List.mem_map.mp m
  have := (List.mem_filter.mp hr).2
  rw [eqS_str, decide_eq_true e] at this
  cases this
/-- nobody of that name: all stay -/
theorem with_new {rs : List Row} {z : Str} (h : z ∉ nms rs) : withQ rs (.str z) = rs := List.filter_eq_self.mpr fun r hr => by
  rw [eqS_str, decide_eq_false (fun e => h (List.mem_map.mpr ⟨r, hr, e⟩))]
  rfl
theorem iteNy {x y : V} {A B : Prop} (n : x ≠ y) (h : A) : if (!decide (x = y)) = true then A else B := by
  rw [decide_eq_false n]
  exact h
theorem with_nodupK {rs : List Row} {d : PyData} (h : (nms rs).Nodup) : (nms (withQ rs d)).Nodup := h.sublist (List.filter_sublist.map _)
def spWithK (K : PySem.W.Frag) (C : Addr) : Sp := fun vs H Q _ => ∃ (x lg : Addr) (z : Str) (xs : List V) (es : List Ent) (box : List Nat) (rs : List Row), vs = [.ref x, .str z, .ref lg] ∧ AtlasAt K C H x box rs ∧ box.length = 8 ∧ SqA K H lg xs ∧ Rows K H xs es ∧ RowOk (z, es) ∧ Srt rs ∧ (∀ r ∈ rs, RowOk r) ∧ rs.length ≤ 50 ∧
  ∀ H' y rs', Same H H' → rs'.Perm (withQ rs (.str z) ++ [(z, es)]) → Srt rs' → AtlasAt K C H' y box rs' → Q (.ref y) H'
theorem ok_with_logK (T : Top w K mg) : FnOk P w K mg base CX0 10 T.a_Atlas_with_log T.fd_Atlas_with_log ["self", "name", "log"] (spWithK K T.a_Atlas) := by
  have G_Atlas_init := ok_Atlas_init (P := P) (w := w) (base := base) T
  refine T.F_Atlas_with_log.ok sc_Atlas_with_log (fun vs H Q E h => ?_) (fun cdv A outer s H vs Q E hr h => ?_)
  · obtain ⟨x, lg, z, xs, es, box, rs, rfl, _⟩ := h
    rfl
  · obtain ⟨x, lg, z, xs, es, box, rs, rfl, hA, h8, hl, hes, hrow, hsrt, hok, hlen, q⟩ := h
    have hA' := hA
    obtain ⟨dx, b, n, l, ls, on, po, h1, h2, hn, h4, h5⟩ := hA'
    have h3 : SqT K H n (namV rs) := .inl (.inr ⟨on, hn⟩)
    refine ⟨_, (pss_cons (ps_setLc (i := 3) (own := [("pair", 4)]) (g := gName 4) (by rfl) sc_Atlas_with_log.nd rfl rfl (sw_true rfl rfl rfl (by decide +kernel)) (ZipW.pi_zipN (by rfl) T.m_zip (pa_cons (pe_fld (pv 0) rfl) (pa_cons (pe_fld (pv 0) rfl) pa_nil))) (blkOk_by (own := [("pair", 4)]) (N := ["self", "name", "log", "others", "pair"]) (sc := defScope s_Atlas_with_log) (by decide +kernel)) (fun _ _ _ _ _ => (pg_name (i := 4) sc_Atlas_with_log.nd rfl (Or.inl rfl))) (fun _ _ _ _ _ => (pts_one (pt_cmpR op_ne (pe_ix (r := rIx K) (SeqW.ix_seqK rfl) (pv 4) pe_int (fun _ _ => rfl)) (pv 1) (nomark _)))) (fun _ _ _ _ _ => (pv 4)))
      (pss_one (ps_ret (pe_make T.mk_Atlas G_Atlas_init hr (by rfl) T.g_Atlas T.b_Atlas_init .nil pass0 (pa_cons (pe_fld (pv 0) rfl) (pa_cons (pe_lst (StX.pa_star (pv 3) (pa_cons (pe_tup (pa_cons (pv 1) (pa_cons (pv 2) pa_nil))) pa_nil))) pa_nil)))))), ?_⟩
    refine ⟨.ref x, rfl, x, T.a_Atlas, dx, _, _, rfl, h1, T.cl_Atlas, T.nf_Atlas_names, fl_names b n l, .ref x, rfl, x, T.a_Atlas, dx, _, _, rfl, h1, T.cl_Atlas, T.nf_Atlas_logs, fl_logs b n l, ?_⟩
    refine ⟨n, l, namV rs, ls, rfl, true, true, h3, h4, fun D nD => lc_it (ZipG.walk_zipG (t1 := true) (t2 := true) (xs := namV rs) (ys := ls) (n := rs.length) ?_) (KeptAt K H D rs (.str z)) ⟨same_upd nD, [], upd_same, rfl, fun j v hv => nomatch hv⟩ (fun i H' _ h => ⟨sqt_same h.same h3, sqt_same h.same h4⟩) ?_ ?_⟩
    · rw [show (namV rs).length = rs.length by unfold namV nms; rw [List.length_map, List.length_map], (dpa_len _ _ h5).trans (List.length_map _), Nat.min_self]
    · rintro i v H1 H2 hi p ⟨T', u1, u2, rfl, nT, rfl, ex, ey⟩
      obtain ⟨r, hr, rfl, yes, no⟩ := kept_step h5 nD p (by omega) nT ex ey
      refine ⟨rfl, .ref T', rfl, ixA (j := 0) (.inr (.inl (.inl upd_same))) rfl ⟨.str z, rfl, rfl, _, rfl, ?_⟩⟩
      rw [eqS_str] at yes no
      by_cases e : r.1 = z
      · exact iteN (by rw [e]) (yes (decide_eq_true e))
      · exact iteNy (fun y => e (V.str.inj y)) ⟨.ref T', rfl, no (decide_eq_false e)⟩
    · intro H1 p
      obtain ⟨zs, eD, lz, hp⟩ := kept_pairs p
      refine ⟨.ref x, rfl, x, T.a_Atlas, dx, _, _, rfl, p.same _ _ h1, T.cl_Atlas, T.nf_Atlas_box, fl_box b n l, ?_⟩
      refine ⟨.ref D, rfl, D, zs, rfl, .inr (.inl (.inl eD)), .str z, rfl, .ref lg, rfl, by show 2 ≤ sizeLine; decide, fun t nt => ⟨Nat.le_of_lt (small1000 (by rw [List.length_append]; show zs.length + 1 ≤ 1000; omega)), fun L nL y dy ny ndy ne => ?_⟩⟩
      generalize eH2 : upd (upd (upd (upd H1 t (.tup [.str z, .ref lg])) L (.lst (zs ++ [.ref t]))) dy (.own y)) y (.ins T.a_Atlas dy []) = H2
      have y2 : H2 y = some (.ins T.a_Atlas dy []) := by rw [← eH2]; exact upd_same
      have st := same_upd (o := .tup [.str z, .ref lg]) nt
      have sL := same_upd (o := .lst (zs ++ [.ref t])) nL
      have sy : Same (upd (upd H1 t (.tup [.str z, .ref lg])) L (.lst (zs ++ [.ref t]))) H2 := fun c o h => by
        rw [← eH2, upd_ne (ne_of_none h ny)]
        exact same_upd ndy _ _ h
      have eL := sy _ _ (upd_same (H := upd H1 t (.tup [.str z, .ref lg])) (a := L))
      have et := sy _ _ (sL _ _ (upd_same (H := H1) (a := t)))
      have s12 := (st.trans sL).trans sy
      have s2 := p.same.trans s12
      have ny0 : H y = none := (p.same.trans (st.trans sL)).free ny
      have wl : (withQ rs (.str z)).length ≤ rs.length := List.length_filter_le _ _
      refine ⟨y, dy, b, L, box, zs ++ [.ref t], withQ rs (.str z) ++ [(z, es)], rfl, y2, .inr (sqt_same s2 h2), h8, .inl (.inl (.inl eL)), (hp _ s12).snoc ⟨t, lg, xs, rfl, .inr (.inl (.inl et)), hl.same s2, hes.same s2⟩, fun r hr => ?_, ?_, by rw [List.length_append]; show _ + 1 ≤ 60; omega, fun H' rs' bt prm srt at_ => ⟨rfl, q H' y rs' (fun c o h => bt _ _ (ne_of_none h ny0) (s2 _ _ h)) prm srt at_⟩⟩
      · rcases List.mem_append.mp hr with h | h
        · exact hok r (List.mem_filter.mp h).1
        · rw [List.mem_singleton.mp h]
          exact hrow
      · rw [show nms (withQ rs (.str z) ++ [(z, es)]) = nms (withQ rs (.str z)) ++ [z] from List.map_append]
        refine List.nodup_append.mpr ⟨with_nodupK hsrt.nodup, List.nodup_cons.mpr ⟨(fun h => nomatch h), .nil⟩, fun a ha c hc e => with_out (rs := rs) (z := z) ?_⟩
        exact (e.trans (List.mem_singleton.mp hc)) ▸ ha
def spWithoutK (K : PySem.W.Frag) (C : Addr) : Sp := fun vs H Q _ => ∃ (x : Addr) (z : Str) (box : List Nat) (rs : List Row), vs = [.ref x, .str z] ∧ AtlasAt K C H x box rs ∧ box.length = 8 ∧ z ∈ nms rs ∧ Srt rs ∧ (∀ r ∈ rs, RowOk r) ∧ rs.length ≤ 50 ∧
  ∀ H' y rs', Same H H' → rs'.Perm (withQ rs (.str z)) → Srt rs' → AtlasAt K C H' y box rs' → Q (.ref y) H'
theorem ok_withoutK (T : Top w K mg) : FnOk P w K mg base CX0 10 T.a_Atlas_without T.fd_Atlas_without ["self", "name"] (spWithoutK K T.a_Atlas) := by
  have G_Atlas_init := ok_Atlas_init (P := P) (w := w) (base := base) T
  refine T.F_Atlas_without.ok sc_Atlas_without (fun vs H Q E h => ?_) (fun cdv A outer s H vs Q E hr h => ?_)
  · obtain ⟨x, z, box, rs, rfl, _⟩ := h
    rfl
  · obtain ⟨x, z, box, rs, rfl, hA, h8, hin, hsrt, hok, hlen, q⟩ := h
    have hA' := hA
    obtain ⟨dx, b, n, l, ls, on, po, h1, h2, hn, h4, h5⟩ := hA'
    have h3 : SqT K H n (namV rs) := .inl (.inr ⟨on, hn⟩)
    refine ⟨_, (pss_cons (ps_if (pt_cmpR op_notIn_seq (pv 1) (pe_fld (pv 0) rfl) (by rfl)) (pss_one ps_never) pss_nil)
      (pss_one (ps_ret (pe_make T.mk_Atlas G_Atlas_init hr (by rfl) T.g_Atlas T.b_Atlas_init .nil pass0 (pa_cons (pe_fld (pv 0) rfl) (pa_cons (pe_lc (own := [("pair", 2)]) (g := gName 2) (by rfl) sc_Atlas_without.nd (ZipW.pi_zipN (by rfl) T.m_zip (pa_cons (pe_fld (pv 0) rfl) (pa_cons (pe_fld (pv 0) rfl) pa_nil))) (blkOk_by (own := [("pair", 2)]) (N := ["self", "name", "pair"]) (sc := defScope s_Atlas_without) (by decide +kernel)) (fun _ _ _ _ _ => (pg_name (i := 2) sc_Atlas_without.nd rfl (Or.inl rfl))) (fun _ _ _ _ _ => (pts_one (pt_cmpR op_ne (pe_ix (r := rIx K) (SeqW.ix_seqK rfl) (pv 2) pe_int (fun _ _ => rfl)) (pv 1) (nomark _)))) (fun _ _ _ _ _ => (pv 2))) pa_nil)))))), ?_⟩
    refine ⟨.str z, rfl, .ref x, rfl, x, T.a_Atlas, dx, _, _, rfl, h1, T.cl_Atlas, T.nf_Atlas_names, fl_names b n l, n, _, rfl, .inr h3, rfl, flat_strs (nms rs), _, rfl, ?_⟩
    rw [show inV (.str z) (namV rs) = true from in_strs.trans (decide_eq_true hin)]
    refine iteF ?_
    refine ⟨.ref x, rfl, x, T.a_Atlas, dx, _, _, rfl, h1, T.cl_Atlas, T.nf_Atlas_box, fl_box b n l, ?_⟩
    refine ⟨.ref x, rfl, x, T.a_Atlas, dx, _, _, rfl, h1, T.cl_Atlas, T.nf_Atlas_names, fl_names b n l, .ref x, rfl, x, T.a_Atlas, dx, _, _, rfl, h1, T.cl_Atlas, T.nf_Atlas_logs, fl_logs b n l, ?_⟩
    refine ⟨n, l, namV rs, ls, rfl, true, true, h3, h4, fun D nD => lc_it (ZipG.walk_zipG (t1 := true) (t2 := true) (xs := namV rs) (ys := ls) (n := rs.length) ?_) (KeptAt K H D rs (.str z)) ⟨same_upd nD, [], upd_same, rfl, fun j v hv => nomatch hv⟩ (fun i H' _ h => ⟨sqt_same h.same h3, sqt_same h.same h4⟩) ?_ ?_⟩
    · rw [show (namV rs).length = rs.length by unfold namV nms; rw [List.length_map, List.length_map], (dpa_len _ _ h5).trans (List.length_map _), Nat.min_self]
    · rintro i v H1 H2 hi p ⟨T', u1, u2, rfl, nT, rfl, ex, ey⟩
      obtain ⟨r, hr, rfl, yes, no⟩ := kept_step h5 nD p (by omega) nT ex ey
      refine ⟨rfl, .ref T', rfl, ixA (j := 0) (.inr (.inl (.inl upd_same))) rfl ⟨.str z, rfl, rfl, _, rfl, ?_⟩⟩
      rw [eqS_str] at yes no
      by_cases e : r.1 = z
      · exact iteN (by rw [e]) (yes (decide_eq_true e))
      · exact iteNy (fun y => e (V.str.inj y)) ⟨.ref T', rfl, no (decide_eq_false e)⟩
    · intro H1 p y dy ny ndy ne
      obtain ⟨zs, eD, lz, hp⟩ := kept_pairs p
      have s1 : Same H1 (upd (upd H1 dy (.own y)) y (.ins T.a_Atlas dy [])) := fun c o h => by
        rw [upd_ne (ne_of_none h ny)]
        exact same_upd ndy _ _ h
      have wl : (withQ rs (.str z)).length ≤ rs.length := List.length_filter_le _ _
      exact ⟨y, dy, b, D, box, zs, withQ rs (.str z), rfl, upd_same, .inr (sqt_same (p.same.trans s1) h2), h8, .inl (.inl (.inl (s1 _ _ eD))), hp _ s1, fun r hr => hok r (List.mem_filter.mp hr).1, with_nodupK hsrt.nodup, by omega, fun H' rs' bt prm srt at_ => ⟨rfl, q H' y rs' (fun c o h => bt _ _ (fun e => by rw [e] at h; rw [p.same _ _ h] at ny; cases ny) (s1 _ _ (p.same _ _ h))) prm srt at_⟩⟩
--@@SPLIT
/-! ### groups as lists of texts, wherever they stand -/
def TQ (K : PySem.W.Frag) (H : Hp) (v : V) (l : List Str) : Prop := ∃ t, v = .ref t ∧ SqT K H t (l.map V.str)
theorem TQ.same {K : PySem.W.Frag} {H H' : Hp} {v : V} {l : List Str} (h : TQ K H v l) (s : Same H H') : TQ K H' v l := by
  obtain ⟨t, e, h⟩ := h
  exact ⟨t, e, sqt_same s h⟩
theorem strV_inj : ∀ {l m : List Str}, l.map V.str = m.map V.str → l = m
  | [], [], _ => rfl
  | [], _ :: _, e => nomatch e
  | _ :: _, [], e => nomatch e
  | a :: l, b :: m, e => by
    obtain ⟨e1, e2⟩ := List.cons.inj (show V.str a :: l.map V.str = V.str b :: m.map V.str from e)
    rw [V.str.inj e1, strV_inj e2]
open Classical in
noncomputable def firstOf (K : PySem.W.Frag) (H : Hp) (v : V) : Str := if h : ∃ l, TQ K H v l ∧ l ≠ [] then hdS h.choose else ⟨#[]⟩
theorem first_is {X : Cx} {pins : List (Addr × Obj)} {σ : L2.St} {H : Hp} {s : Shared} {v : V} {l : List Str} (I : Inv X pins σ H s) (h : TQ X.K H v l) (ne : l ≠ []) : firstOf X.K H v = hdS l := by
  have ex : ∃ l, TQ X.K H v l ∧ l ≠ [] := ⟨l, h, ne⟩
  unfold firstOf
  rw [dif_pos ex]
  obtain ⟨⟨t, e1, h1⟩, _⟩ := ex.choose_spec
  obtain ⟨t', e2, h2⟩ := h
  rw [e1] at e2
  cases e2
  rw [strV_inj (I.tuple_inj h1 h2)]
def rSortedTB (K : PySem.W.Frag) : List V → Hp → VK → Prop := fun vs H Q => ∃ (a : Addr) (xs : List V) (ls : List (List Str)), vs = [V.ref a] ∧ SqA K H a xs ∧ All2 (TQ K H) xs ls ∧ (∀ l ∈ ls, l ≠ []) ∧ (ls.map hdS).Nodup ∧
  ∀ ys ms p, All2 (TQ K H) ys ms → ms.Perm ls → (ms.Pairwise fun a b => ¬ (hdS b).cps.toList < (hdS a).cps.toList) → H p = none → Q (.ref p) (upd H p (.lst ys))
theorem nodup_ix {ls : List (List Str)} (nd : (ls.map hdS).Nodup) {i j : Nat} {a b : List Str} (ea : ls[i]? = some a) (eb : ls[j]? = some b) (e : hdS a = hdS b) : i = j := by
  have la := (List.getElem?_eq_some_iff.mp ea).1
  have lb := (List.getElem?_eq_some_iff.mp eb).1
  have h1 : (ls.map hdS)[i]? = some (hdS a) := by rw [List.getElem?_map, ea]; rfl
  have h2 : (ls.map hdS)[j]? = some (hdS b) := by rw [List.getElem?_map, eb]; rfl
  obtain ⟨g1, e1⟩ := List.getElem?_eq_some_iff.mp h1
  obtain ⟨g2, e2⟩ := List.getElem?_eq_some_iff.mp h2
  rcases Nat.lt_trichotomy i j with h | h | h
  · exact absurd (e1.trans (e.trans e2.symm)) ((List.pairwise_iff_getElem.mp nd) i j g1 g2 h)
  · exact h
  · exact absurd (e2.trans (e.symm.trans e1.symm)) ((List.pairwise_iff_getElem.mp nd) j i g2 g1 h)
theorem cr_sortedTB {X : Cx} {K : PySem.W.Frag} (hK : X.K = K) : CallR X (.builtin "sorted") (rSortedTB K) := fun pins s σ H vs us Q I rv ⟨a, xs, ls, e, hs, hx, ne, nd, q⟩ => by
  subst hK
  have k_is : ∀ {i : Nat} {x : V}, xs[i]? = some x → ∃ l, ls[i]? = some l ∧ TQ X.K H x l ∧ firstOf X.K H x = hdS l := fun {i x} ei => by
    obtain ⟨l, el, hl⟩ := hx.at_ ei
    exact ⟨l, el, hl, first_is I hl (ne l (List.mem_of_getElem? el))⟩
  refine cr_sortedTA rfl pins s σ H vs us Q I rv ⟨a, xs, firstOf X.K H, e, hs, fun x m => ?_, fun x m y m' e => ?_, fun ys p srt prm np => ?_⟩
  · obtain ⟨i, ei⟩ := List.mem_iff_getElem?.mp m
    obtain ⟨l, el, ⟨t, et, ht⟩, ek⟩ := k_is ei
    have nl := ne l (List.mem_of_getElem? el)
    cases l with
    | nil => exact absurd rfl nl
    | cons z r => exact ⟨t, r, et, by rw [ek]; exact ht⟩
  · obtain ⟨i, ei⟩ := List.mem_iff_getElem?.mp m
    obtain ⟨j, ej⟩ := List.mem_iff_getElem?.mp m'
    obtain ⟨l, el, _, ek⟩ := k_is ei
    obtain ⟨l', el', _, ek'⟩ := k_is ej
    have ij := nodup_ix nd el el' (ek.symm.trans (e.trans ek'))
    rw [ij, ej] at ei
    exact (Option.some.inj ei).symm
  · obtain ⟨ms, hm, pm⟩ := hx.perm prm
    refine q ys ms p hm pm ?_ np
    have nm : ∀ l ∈ ms, l ≠ [] := fun l m => ne l (pm.mem_iff.mp m)
    clear pm prm np q
    induction hm with
    | nil => exact .nil
    | @cons a b as bs h1 ht ih =>
      obtain ⟨p1, p2⟩ := List.pairwise_cons.mp (show List.Pairwise _ (a :: as) from srt)
      refine List.pairwise_cons.mpr ⟨fun b' hb' z => ?_, ih p2 fun l m => nm l (List.mem_cons_of_mem _ m)⟩
      obtain ⟨j, hj⟩ := List.mem_iff_getElem?.mp hb'
      have lj : j < as.length := by rw [ht.len]; exact (List.getElem?_eq_some_iff.mp hj).1
      obtain ⟨b2, fb, hb2⟩ := ht.at_ (List.getElem?_eq_getElem lj)
      rw [hj] at fb
      cases fb
      have := show SrtSP.ltS (firstOf X.K H as[j]) (firstOf X.K H a) = false from p1 as[j] (List.getElem_mem lj)
      rw [first_is I hb2 (nm _ (List.mem_cons_of_mem _ hb')), first_is I h1 (nm _ List.mem_cons_self)] at this
      have y : SrtSP.ltS (hdS b') (hdS b) = true := decide_eq_true z
      rw [this] at y
      cases y
theorem tq_dpa {K : PySem.W.Frag} {H : Hp} {xs : List V} {ls : List (List Str)} (h : All2 (TQ K H) xs ls) : DpAll K H xs (strsD ls) := by
  induction h with
  | nil => exact .nil
  | cons h1 _ ih =>
    obtain ⟨t, rfl, ht⟩ := h1
    exact .cons (.tup ht (dpa_strs _)) ih
theorem dpa_tq {K : PySem.W.Frag} {H : Hp} : ∀ {ls : List (List Str)} {xs : List V}, DpAll K H xs (strsD ls) → All2 (TQ K H) xs ls
  | [], _, h => by cases h; exact .nil
  | l :: ls, _, h => by
    cases h with
    | cons h1 h2 =>
      cases h1 with
      | tup hs ha => exact .cons ⟨_, rfl, by rw [← strs_vals ha]; exact hs⟩ (dpa_tq h2)
theorem heads_nodup : ∀ {ls : List (List Str)}, (ls.flatMap id).Nodup → (∀ l ∈ ls, l ≠ []) → (ls.map hdS).Nodup
  | [], _, _ => .nil
  | l :: ls, nd, ne => by
    rw [List.flatMap_cons, List.nodup_append] at nd
    refine List.nodup_cons.mpr ⟨fun z => ?_, heads_nodup nd.2.1 fun k m => ne k (List.mem_cons_of_mem _ m)⟩
    obtain ⟨k, hk, e⟩ := List.mem_map.mp z
    exact nd.2.2 _ (hdS_mem (ne l List.mem_cons_self)) _ (List.mem_flatMap.mpr ⟨k, hk, hdS_mem (ne k (List.mem_cons_of_mem _ hk))⟩) e.symm
theorem heads_eq {a b : List (List Str)} (p : a.Perm b) (nd : (b.map hdS).Nodup) (sa : a.Pairwise fun x y => ¬ (hdS y).cps.toList < (hdS x).cps.toList) (sb : b.Pairwise fun x y => ¬ (hdS y).cps.toList < (hdS x).cps.toList) : a = b :=
  p.eq_of_pairwise (le := fun x y => ¬ (hdS y).cps.toList < (hdS x).cps.toList) (fun x y hx hy h1 h2 => by
    obtain ⟨i, ei⟩ := List.mem_iff_getElem?.mp (p.mem_iff.mp hx)
    obtain ⟨j, ej⟩ := List.mem_iff_getElem?.mp hy
    have := nodup_ix nd ei ej (str_inj (List.le_antisymm (List.not_lt.mp h1) (List.not_lt.mp h2)))
    rw [this, ej] at ei
    exact (Option.some.inj ei).symm) sa sb
/-- groups can be shown -/
theorem strs_shaped {ls : List (List Str)} (h : ∀ l ∈ ls, ∀ z ∈ l, PyData.strOk z = true) : SeqAt.shaped (.tuple (strsD ls)) = true ∧ ∀ l ∈ ls, SeqAt.shaped (.tuple (l.map PyData.str)) = true := by
  have one : ∀ l ∈ ls, SeqAt.shaped (.tuple (l.map PyData.str)) = true := fun l m => by
    obtain ⟨h1, h2⟩ := strs_lay0 l (h l m)
    refine Bool.and_eq_true_iff.mpr ⟨h1, decide_eq_true ?_⟩
    show PyData.depthAll _ + 1 ≤ 64
    omega
  refine ⟨?_, one⟩
  have all : ∀ {ks : List (List Str)}, (∀ l ∈ ks, ∀ z ∈ l, PyData.strOk z = true) → PyData.canLayAll0 (strsD ks) = true ∧ PyData.depthAll (strsD ks) ≤ 1 := fun {ks} => by
    induction ks with
    | nil => exact fun _ => ⟨rfl, Nat.zero_le _⟩
    | cons k ks ih =>
      intro h
      obtain ⟨i1, i2⟩ := ih fun l m => h l (List.mem_cons_of_mem _ m)
      obtain ⟨h1, h2⟩ := strs_lay0 k (h k List.mem_cons_self)
      refine ⟨Bool.and_eq_true_iff.mpr ⟨h1, i1⟩, ?_⟩
      show max (PyData.depthAll (k.map PyData.str) + 1) (PyData.depthAll (strsD ks)) ≤ 1
      omega
  obtain ⟨h1, h2⟩ := all h
  refine Bool.and_eq_true_iff.mpr ⟨h1, decide_eq_true ?_⟩
  show PyData.depthAll _ + 1 ≤ 64
  omega
--@@SPLIT
/-! ### called otherwise, as rows -/
theorem callN_at {ns os : List Str} (nd : ns.Nodup) {j : Nat} {z y : Str} (h1 : ns[j]? = some z) (h2 : os[j]? = some y) : callN ns os z = y := by
  obtain ⟨l1, e1⟩ := List.getElem?_eq_some_iff.mp h1
  have e : (ns.findIdx fun x => decide (x = z)) = j := by
    have some_ : (ns.findIdx fun x => decide (x = z)) < ns.length := List.findIdx_lt_length_of_exists ⟨z, List.mem_of_getElem? h1, decide_eq_true rfl⟩
    have at_ : ns[ns.findIdx fun x => decide (x = z)] = z := of_decide_eq_true (List.findIdx_getElem (w := some_))
    rcases Nat.lt_trichotomy (ns.findIdx fun x => decide (x = z)) j with h | h | h
    · exact absurd (at_.trans e1.symm) ((List.pairwise_iff_getElem.mp nd) _ j some_ l1 h)
    · exact h
    · exact absurd (e1.trans at_.symm) ((List.pairwise_iff_getElem.mp nd) j _ l1 some_ h)
  unfold callN
  rw [e, List.getD_eq_getElem?_getD, h2]
  rfl
theorem callN_map {ns os : List Str} (nd : ns.Nodup) (l : os.length = ns.length) : ns.map (callN ns os) = os := by
  refine List.ext_getElem? fun j => ?_; rw [List.getElem?_map]
  by_cases h : j < ns.length
  · have h2 : j < os.length := by omega
    rw [List.getElem?_eq_getElem h, List.getElem?_eq_getElem h2]
    exact congrArg some (callN_at nd (List.getElem?_eq_getElem h) (List.getElem?_eq_getElem h2))
  · rw [List.getElem?_eq_none (by omega), List.getElem?_eq_none (by omega)]
    rfl
def calledR (f : Str → Str) (rs : List Row) : List Row := rs.map fun r => (f r.1, r.2)
theorem nms_called (f : Str → Str) (rs : List Row) : nms (calledR f rs) = (nms rs).map f := by
  unfold nms calledR; rw [List.map_map, List.map_map]; rfl
theorem pairsG_called (f : Str → Str) (rs : List Row) : pairsG (calledR f rs) = (pairsG rs).map fun r => (f r.1, r.2) := by
  unfold pairsG calledR; rw [List.map_map, List.map_map]; rfl
/-- rising names, called rising names -/
theorem call_mono {ns os : List Str} (nd : ns.Nodup) (l : os.length = ns.length) (sn : ns.Pairwise fun a b => ¬ b.cps.toList < a.cps.toList) (so : os.Pairwise fun a b => ¬ b.cps.toList < a.cps.toList) :
    ∀ a ∈ ns, ∀ b ∈ ns, ¬ b.cps.toList < a.cps.toList → ¬ (callN ns os b).cps.toList < (callN ns os a).cps.toList := fun a ha b hb h => by
  obtain ⟨i, ei⟩ := List.mem_iff_getElem?.mp ha
  obtain ⟨j, ej⟩ := List.mem_iff_getElem?.mp hb
  obtain ⟨li, e1⟩ := List.getElem?_eq_some_iff.mp ei
  obtain ⟨lj, e2⟩ := List.getElem?_eq_some_iff.mp ej
  rw [callN_at nd ei (List.getElem?_eq_getElem (show i < os.length by omega)), callN_at nd ej (List.getElem?_eq_getElem (show j < os.length by omega))]
  rcases Nat.lt_trichotomy i j with g | g | g
  · exact (List.pairwise_iff_getElem.mp so) i j _ _ g
  · subst g
    exact List.lt_irrefl _
  · have := (List.pairwise_iff_getElem.mp sn) j i lj li g
    rw [e1, e2] at this
    have same : a = b := str_inj (List.le_antisymm (List.not_lt.mp h) (List.not_lt.mp this))
    exact absurd (e1.trans (same.trans e2.symm)).symm ((List.pairwise_iff_getElem.mp nd) j i lj li g)
theorem srt_nms {rs : List Row} (h : Srt rs) : (nms rs).Pairwise fun a b => ¬ b.cps.toList < a.cps.toList := List.pairwise_map.mpr (h.imp fun {a b} z => fun (y : b.1.cps.toList < a.1.cps.toList) => List.lt_irrefl _ (List.lt_trans (show a.1.cps.toList < b.1.cps.toList from z) y))
theorem groups_called {rs : List Row} {os : List Str} (srt : Srt rs) (l : os.length = (nms rs).length) (no : os.Nodup) (so : os.Pairwise fun a b => ¬ b.cps.toList < a.cps.toList) :
    groupsT (runG (pairsG (calledR (callN (nms rs) os) rs))) = (groupsT (runG (pairsG rs))).map fun g => g.map (callN (nms rs) os) := by
  rw [pairsG_called, runG_call]
  have pm : ((runG (pairsG rs)).flatMap (·.1)).Perm (nms rs) := by
    rw [← pairsG_names]
    exact runG_names _
  refine groups_call (runG_ne _) ?_ fun a ha b hb => call_mono srt.nodup l (srt_nms srt) so a (pm.mem_iff.mp ha) b (pm.mem_iff.mp hb)
  refine (pm.map _).nodup_iff.mpr ?_
  rw [callN_map srt.nodup l]
  exact no
def renD (f : Str → Str) : PyData → PyData
  | .tuple (.str n :: r) => .tuple (.str (f n) :: r)
  | d => d
theorem legL_called (f : Str → Str) (rs : List Row) : legL (calledR f rs) = (legL rs).map (renD f) := by
  unfold legL calledR
  rw [List.flatMap_map, List.map_flatMap]
  refine congrArg (fun g => List.flatMap g rs) (funext fun r => ?_)
  rw [List.map_map]
  rfl
theorem pk_called {rs : List Row} {f : Str → Str} {z : Str} (one : ∀ y ∈ nms rs, f y = f z → y = z) (lots : List (Fin 8)) : pk (f z) ((legL (calledR f rs)).zip lots) = pk z ((legL rs).zip lots) := by
  rw [legL_called, List.zip_map_left]
  unfold pk
  rw [List.filter_map, List.map_map]
  have e : (((legL rs).zip lots).filter ((fun p : PyData × Fin 8 => decide (nmD p.1 = f z)) ∘ Prod.map (renD f) id)) = ((legL rs).zip lots).filter fun p => decide (nmD p.1 = z) := List.filter_congr fun p hp => by
    obtain ⟨r, hr, hk⟩ := List.mem_flatMap.mp (show p.1 ∈ legL rs from (List.of_mem_zip hp).1)
    obtain ⟨k, _, ek⟩ := List.mem_map.mp hk
    show decide (nmD (renD f p.1) = f z) = decide (nmD p.1 = z)
    rw [← ek]
    show decide (f r.1 = f z) = decide (r.1 = z)
    exact decide_eq_decide.mpr ⟨one r.1 (List.mem_map.mpr ⟨r, hr, rfl⟩), fun y => by rw [y]⟩
  rw [e]
  rfl
/-! ### facts can be shown -/
theorem facts_lay : ∀ ds : List PyData, (∀ d ∈ ds, ∃ (i : Nat) (w : Str) (x y : Int) (z : Str), d = factD i w x y z ∧ PyData.strOk w = true ∧ PyData.strOk z = true) → PyData.canLayAll0 ds = true ∧ PyData.depthAll ds ≤ 2
  | [], _ => ⟨rfl, Nat.zero_le _⟩
  | d :: r, h => by
    obtain ⟨i1, i2⟩ := facts_lay r (fun x hx => h x (List.mem_cons_of_mem _ hx))
    obtain ⟨i, w, x, y, z, rfl, hw, hz⟩ := h d List.mem_cons_self
    refine ⟨?_, ?_⟩
    · show ((true && (PyData.strOk w && ((true && (true && true)) && (PyData.strOk z && true)))) && PyData.canLayAll0 r) = true
      rw [hw, hz, i1]
      rfl
    · show max (PyData.depth (factD i w x y z)) (PyData.depthAll r) ≤ 2
      exact Nat.max_le.mpr ⟨Nat.le_refl 2, i2⟩
theorem fact_form {i : Nat} {p : Wk} {e : Ent} (ok : e.ok) {d : PyData} (h : d ∈ factsOf i p e) : ∃ (i : Nat) (w : Str) (x y : Int) (z : Str), d = factD i w x y z ∧ PyData.strOk w = true ∧ PyData.strOk z = true := by
  have so : PyData.strOk "sign" = true := by decide +kernel
  have sb : PyData.strOk "bare" = true := by decide +kernel
  have sp : PyData.strOk "open" = true := by decide +kernel
  have ss : PyData.strOk "shut" = true := by decide +kernel
  have s0 : PyData.strOk "" = true := by decide +kernel
  have sl : ∀ l : Fin 4, PyData.strOk (Lt l) = true := by decide +kernel
  cases e with
  | sign z =>
    cases List.mem_singleton.mp h
    exact ⟨_, _, _, _, _, rfl, so, ok.2.1⟩
  | bare =>
    cases List.mem_singleton.mp h
    exact ⟨_, _, _, _, _, rfl, sb, s0⟩
  | spy n z =>
    unfold factsOf at h
    cases el : p.look with
    | none => rw [el] at h; cases h
    | some l =>
      rw [el] at h
      cases List.mem_singleton.mp h
      exact ⟨_, _, _, _, _, rfl, so, ok.2.1⟩
  | go n =>
    unfold factsOf at h
    cases el : p.look with
    | none => rw [el] at h; cases h
    | some l =>
      rw [el] at h
      obtain ⟨k, _, rfl⟩ := List.mem_map.mp (show d ∈ (List.range (n.val + 1)).map _ from h)
      exact ⟨_, _, _, _, _, rfl, sp, sl _⟩
  | bump =>
    unfold factsOf at h
    cases el : p.look with
    | none => rw [el] at h; cases h
    | some l =>
      rw [el] at h
      cases List.mem_singleton.mp h
      exact ⟨_, _, _, _, _, rfl, ss, sl _⟩
  | face l => cases h
  | turn q => cases h
  | swap => cases h
theorem facts_shaped {L : List (Fin 8)} {es : List Ent} (ok : ∀ e ∈ es, e.ok) : SeqAt.shaped (factsD L es) = true := by
  have all : ∀ n, ∀ d ∈ factsL L es n, ∃ (i : Nat) (w : Str) (x y : Int) (z : Str), d = factD i w x y z ∧ PyData.strOk w = true ∧ PyData.strOk z = true := fun n => by
    induction n with
    | zero => exact fun _ h => nomatch h
    | succ n ih =>
      intro d h
      rcases List.mem_append.mp (show d ∈ factsL L es n ++ factsAt L es n from h) with h | h
      · exact ih d h
      · unfold factsAt at h
        cases e : es[n]? with
        | none => rw [e] at h; cases h
        | some en =>
          rw [e] at h
          exact fact_form (ok en (List.mem_of_getElem? e)) h
  obtain ⟨h1, h2⟩ := facts_lay _ (all es.length)
  refine Bool.and_eq_true_iff.mpr ⟨h1, decide_eq_true ?_⟩
  show PyData.depthAll _ + 1 ≤ 64
  omega
/-! ### one more walker -/
theorem pairsG_perm {rs ss : List Row} (h : rs.Perm ss) : (pairsG rs).Perm (pairsG ss) := h.map _
theorem pairsG_nd {rs : List Row} (h : (nms rs).Nodup) : ((pairsG rs).map (·.1)).Nodup := by
  rw [pairsG_names]
  exact h
theorem pairsG_snoc (rs : List Row) (r : Row) : pairsG (rs ++ [r]) = pairsG rs ++ [(r.1, lonesL r.2)] := List.map_append
theorem groups_more {rs ss : List Row} {z : Str} {es : List Ent} (nd : (nms rs).Nodup) (out : z ∉ nms rs) (h : ss.Perm (rs ++ [(z, es)])) : groupsT (runG (pairsG ss)) = groupsT (stepG (runG (pairsG rs)) (z, lonesL es)) := by
  have n2 : (nms (rs ++ [(z, es)])).Nodup := by
    unfold nms
    rw [List.map_append]
    exact List.nodup_append.mpr ⟨nd, List.nodup_cons.mpr ⟨(fun h => nomatch h), .nil⟩, fun a ha c hc e => out ((show a = z from e.trans (List.mem_singleton.mp hc)) ▸ ha)⟩
  rw [groups_order (pairsG_nd ((show (nms ss).Perm _ from h.map _).nodup_iff.mpr n2)) (pairsG_perm h), pairsG_snoc, runG_snoc]
theorem groups_alone {rs ss : List Row} {z : Str} {es : List Ent} (nd : (nms rs).Nodup) (out : z ∉ nms rs) (none : lonesL es = []) (h : ss.Perm (rs ++ [(z, es)])) : (groupsT (runG (pairsG ss))).Perm (groupsT (runG (pairsG rs)) ++ [[z]]) := by
  rw [groups_more nd out h, none, step_none]
  refine (groupsT_perm _).trans ?_
  rw [List.map_append]
  refine List.Perm.append (groupsT_perm _).symm (List.Perm.of_eq ?_)
  show [sortN [z]] = [[z]]
  rw [← sortN_uniq (ys := [z]) (l := [z]) (.refl _) (List.pairwise_singleton _ _)]
theorem flat_nodup {rs : List Row} (nd : (nms rs).Nodup) : ((groupsT (runG (pairsG rs))).flatMap id).Nodup := groupsT_flat.nodup_iff.mpr (pairsG_nd nd)
theorem groups_heads {rs : List Row} (nd : (nms rs).Nodup) : ((groupsT (runG (pairsG rs))).map hdS).Nodup := heads_nodup (flat_nodup nd) groupsT_ne
theorem in_groups {rs : List Row} {l : List Str} {z : Str} (h : l ∈ groupsT (runG (pairsG rs))) (m : z ∈ l) : z ∈ nms rs := by
  rw [← pairsG_names]
  exact groupsT_flat.mem_iff.mp (List.mem_flatMap.mpr ⟨l, h, m⟩)
theorem ofNames_in {rs : List Row} {l : List Str} {z : Str} (h : z ∈ ofNames (pairsG rs) l) : ∃ r ∈ rs, z ∈ lonesL r.2 := by
  obtain ⟨p, hp, hz⟩ := List.mem_flatMap.mp h
  obtain ⟨r, hr, rfl⟩ := List.mem_map.mp (List.mem_filter.mp hp).1
  exact ⟨r, hr, hz⟩
theorem lon_of {e : Ent} {z : Str} (h : lonE e = some z) : loL z.cps.toList = true := by
  cases e with
  | sign y =>
    have h : (if loL y.cps.toList = true then some y else none) = some z := h
    by_cases l : loL y.cps.toList = true
    · rw [if_pos l] at h
      exact Option.some.inj h ▸ l
    · rw [if_neg l] at h
      cases h
  | spy n y =>
    have h : (if loL y.cps.toList = true then some y else none) = some z := h
    by_cases l : loL y.cps.toList = true
    · rw [if_pos l] at h
      exact Option.some.inj h ▸ l
    · rw [if_neg l] at h
      cases h
  | _ => cases h
theorem lones_signs : ∀ {ss : List Str}, (∀ z ∈ ss, loL z.cps.toList = true) → lonesL (ss.map Ent.sign) = ss
  | [], _ => rfl
  | z :: ss, h => by
    have h1 := h z List.mem_cons_self
    have ih := lones_signs fun y m => h y (List.mem_cons_of_mem _ m)
    unfold lonesL at *
    rw [List.map_cons, List.filterMap_cons]
    have e : lonE (.sign z) = some z := (show lonE (.sign z) = if loL z.cps.toList = true then some z else none from rfl).trans (if_pos h1)
    rw [e, ih]
theorem nm_sOk {z : Str} (h : nmL z.cps.toList = true) : PyData.strOk z = true := ok_of_mem fun c m => small_ok c (of_decide_eq_true (List.all_eq_true.mp (Bool.and_eq_true_iff.mp (show (shL z.cps.toList && z.cps.toList.all smC) = true from h)).2 c m))
theorem nms_succ {rs : List Row} {i : Nat} {r : Row} (h : rs[i]? = some r) : (nms (rs.take (i + 1))).map V.str = (nms (rs.take i)).map V.str ++ [.str r.1] := by
  rw [List.take_add_one, h]
  unfold nms
  rw [List.map_append, List.map_append]
  rfl
theorem sorted_names {ns ys : List Str} (sn : ns.Pairwise fun a b => ¬ b.cps.toList < a.cps.toList) (p : ys.Perm ns) (h : sortedS ys = true) : ys = ns :=
  (sortN_uniq p (sortedS_pw ys h)).trans (sortN_uniq (.refl ns) sn).symm
theorem strs_sh {ns : List Str} (h : ∀ z ∈ ns, PyData.strOk z = true) : SeqAt.shaped (.list (ns.map PyData.str)) = true := by
  obtain ⟨h1, h2⟩ := strs_lay0 ns h
  refine Bool.and_eq_true_iff.mpr ⟨h1, decide_eq_true ?_⟩
  show PyData.depthAll _ + 1 ≤ 64
  omega
theorem due_is {box : List Nat} {m : Nat} {lots : List (Fin 8)} (l : lots.length = m) (h : dueL box (lots.map lotDt) = true) : dueB box m (.tuple (lots.map lotDt)) = true := by
  show (decide ((lots.map lotDt).length = m) && dueL box (lots.map lotDt)) = true
  rw [h, List.length_map, decide_eq_true l]
  rfl
theorem at_called {rs : List Row} {f : Str → Str} {j : Nat} {r : Row} (h : rs[j]? = some r) : (calledR f rs)[j]? = some (f r.1, r.2) := by
  unfold calledR
  rw [List.getElem?_map, h]
  rfl
theorem called_ok {rs : List Row} {f : Str → Str} (ok : ∀ r ∈ rs, RowOk r) (nm : ∀ z ∈ nms rs, nmL (f z).cps.toList = true) : ∀ r ∈ calledR f rs, RowOk r := fun r hr => by
  obtain ⟨q, hq, rfl⟩ := List.mem_map.mp hr
  have o := ok q hq
  exact ⟨nm q.1 (List.mem_map.mpr ⟨q, hq, rfl⟩), o.ok, o.right, o.len⟩
theorem RowsAt.of_at {K : PySem.W.Frag} {H : Hp} : ∀ {vs : List V} {rs : List Row}, vs.length = rs.length → (∀ (j : Nat) (v : V), vs[j]? = some v → ∃ r, rs[j]? = some r ∧ RowAt K H v r) → RowsAt K H vs rs
  | [], [], _, _ => .nil
  | v :: vs, r :: rs, e, h => by
    obtain ⟨_, e1, h1⟩ := h 0 v rfl
    cases e1
    exact .cons h1 (RowsAt.of_at (Nat.succ.inj e) fun j w hw => h (j + 1) w hw)
  | [], _ :: _, e, _ => nomatch e
  | _ :: _, [], e, _ => nomatch e
theorem few_in : ∀ {a b : List Str}, a.Nodup → (∀ x ∈ a, x ∈ b) → a.length ≤ b.length
  | [], b, _, _ => Nat.zero_le b.length
  | x :: a, b, nd, h => by
    obtain ⟨s, t, rfl⟩ := List.append_of_mem (h x List.mem_cons_self)
    obtain ⟨fresh, n2⟩ := List.nodup_cons.mp nd
    have := few_in (a := a) (b := s ++ t) n2 fun y m => by
      have ne : y ≠ x := fun e => fresh (e ▸ m)
      rcases List.mem_append.mp (h y (List.mem_cons_of_mem _ m)) with z | z
      · exact List.mem_append.mpr (.inl z)
      · exact List.mem_append_right _ ((List.mem_cons.mp z).resolve_left ne)
    rw [List.length_append] at this
    rw [List.length_append, List.length_cons, List.length_cons]
    omega
def six : List Str := ["za", "zb", "zc", "zd", "ze", "zf"]
theorem six_nd : six.Nodup := by decide +kernel
theorem six_nm : ∀ z ∈ six, nmL z.cps.toList = true := by decide +kernel
def outOf (ns : List Str) (l : List Str) : List Str := l.filter fun z => !decide (z ∈ ns)
theorem six_free {ns : List Str} (h : ns.length ≤ 5) : ∃ z r, outOf ns six = z :: r ∧ z ∈ six ∧ z ∉ ns := by
  cases e : outOf ns six with
  | nil =>
    have := few_in six_nd fun x m => by
      have := List.filter_eq_nil_iff.mp e x m
      simpa using this
    have l : six.length = 6 := rfl
    omega
  | cons z r =>
    have m : z ∈ outOf ns six := by rw [e]; exact List.mem_cons_self
    obtain ⟨m1, m2⟩ := List.mem_filter.mp m
    exact ⟨z, r, rfl, m1, by simpa using m2⟩
theorem all_trueN (n : Nat) : (List.replicate n true).all id = true := by
  induction n with
  | zero => rfl
  | succ n ih => rw [List.replicate_succ, List.all_cons, ih]; rfl
/-- a walker that tells a bare place and a sign that isn't lone -/
def aloneE : List Ent := [.bare, .sign "oak"]
theorem alone_row {z : Str} (h : nmL z.cps.toList = true) : RowOk (z, aloneE) where
  nm := h
  ok := fun e m => by
    rcases List.mem_cons.mp m with m | m
    · rw [m]; trivial
    · rw [List.mem_singleton.mp m]
      exact ⟨by decide +kernel, by decide +kernel, by decide +kernel⟩
  right := fun i e m n => by
    match i, m with
    | 0, m => cases m; cases n
    | 1, m => cases m; cases n
  len := by show 2 ≤ 100; decide
theorem alone_none : lonesL aloneE = [] := by decide +kernel
theorem pairs_heads {gs : List (List Str)} {z : Str} (nd : (gs.flatMap id).Nodup) (ne : ∀ l ∈ gs, l ≠ []) (out : z ∉ gs.flatMap id) : ((gs ++ [[z]]).map hdS).Nodup := heads_nodup (by
  rw [List.flatMap_append]
  exact List.nodup_append.mpr ⟨nd, List.nodup_cons.mpr ⟨(fun h => nomatch h), .nil⟩, fun a ha c hc e => out ((show a = z from e.trans (List.mem_singleton.mp hc)) ▸ ha)⟩) fun l m => by
  rcases List.mem_append.mp m with m | m
  · exact ne l m
  · rw [List.mem_singleton.mp m]
    exact fun h => nomatch h
theorem callN_one {ns os : List Str} (nd : ns.Nodup) (no : os.Nodup) (l : os.length = ns.length) {z : Str} (hz : z ∈ ns) : ∀ y ∈ ns, callN ns os y = callN ns os z → y = z := fun y hy e => by
  obtain ⟨i, ei⟩ := List.mem_iff_getElem?.mp hz
  obtain ⟨j, ej⟩ := List.mem_iff_getElem?.mp hy
  have li := (List.getElem?_eq_some_iff.mp ei).1
  have lj := (List.getElem?_eq_some_iff.mp ej).1
  rw [callN_at nd ei (List.getElem?_eq_getElem (show i < os.length by omega)), callN_at nd ej (List.getElem?_eq_getElem (show j < os.length by omega))] at e
  have ij : j = i := by
    rcases Nat.lt_trichotomy j i with h | h | h
    · exact absurd e ((List.pairwise_iff_getElem.mp no) j i _ _ h)
    · exact h
    · exact absurd e.symm ((List.pairwise_iff_getElem.mp no) i j _ _ h)
  rw [ij, ei] at ej
  exact (Option.some.inj ej).symm
theorem called_at {rs rs2 : List Row} {os : List Str} (srt : Srt rs) (no : os.Nodup) (l : os.length = (nms rs).length) (e : calledR (callN (nms rs) os) rs = rs2) {i : Nat} {r : Row} {z : Str} (fr : rs[i]? = some r) (fo : os[i]? = some z) (lots : List (Fin 8)) :
    rs2[i]? = some (z, r.2) ∧ pk z ((legL rs2).zip lots) = pk r.1 ((legL rs).zip lots) := by
  have fn : (nms rs)[i]? = some r.1 := by
    unfold nms
    rw [List.getElem?_map, fr]
    rfl
  have ci := callN_at srt.nodup fn fo
  subst e
  refine ⟨by rw [at_called fr, ci], ?_⟩
  have := pk_called (z := r.1) (callN_one srt.nodup no l (List.mem_of_getElem? fn)) lots
  rw [ci] at this
  exact this
theorem near_lone {rs : List Row} {G : List (List Str)} {y : Str} (h : y ∈ nearS (pairsG rs) G) : ∃ r ∈ rs, y ∈ lonesL r.2 := by
  obtain ⟨l, hl, rfl⟩ := List.mem_map.mp h
  exact ofNames_in (hdS_mem (near_in hl).2)
theorem lones_lo {es : List Ent} {y : Str} (h : y ∈ lonesL es) : loL y.cps.toList = true := by
  obtain ⟨e, _, he⟩ := List.mem_filterMap.mp h
  exact lon_of he
theorem near_row {rs : List Row} {z : Str} (rok : ∀ r ∈ rs, RowOk r) (znm : nmL z.cps.toList = true) (G : List (List Str)) : RowOk (z, (nearS (pairsG rs) G).map Ent.sign) where
  nm := znm
  ok := fun e m => by
    obtain ⟨y, hy, rfl⟩ := List.mem_map.mp m
    obtain ⟨r, hr, hl⟩ := near_lone hy
    obtain ⟨o1, o2⟩ := lones_ok (rok r hr).ok y hl
    refine ⟨o1, o2, ?_⟩
    show (nmL y.cps.toList || loL y.cps.toList) = true
    rw [lones_lo hl, Bool.or_true]
  right := fun i e m n => by
    rw [List.getElem?_map] at m
    cases h : (nearS (pairsG rs) G)[i]? with
    | none => rw [h] at m; cases m
    | some y => rw [h] at m; cases m; cases n
  len := by
    have h1 : (nearT (pairsG rs) G).length ≤ 2 := by
      unfold nearT
      rw [List.length_take]
      exact Nat.min_le_left _ _
    show ((nearS (pairsG rs) G).map Ent.sign).length ≤ 100
    unfold nearS
    rw [List.length_map, List.length_map]
    omega
theorem wider_perm {rs ss : List Row} {z : Str} (nd : (nms rs).Nodup) (out : z ∉ nms rs) (h : ss.Perm (rs ++ [(z, (nearS (pairsG rs) (groupsT (runG (pairsG rs)))).map Ent.sign)])) :
    (groupsT (runG (pairsG ss))).Perm ((groupsT (runG (pairsG rs))).filter (fun l => !decide (l ∈ nearT (pairsG rs) (groupsT (runG (pairsG rs))))) ++ [sortN ((nearT (pairsG rs) (groupsT (runG (pairsG rs)))).flatMap id ++ [z])]) := by
  rw [groups_more nd out h, lones_signs fun y hy => by
    obtain ⟨r, _, hl⟩ := near_lone hy
    exact lones_lo hl]
  exact groups_wider (pairsG_nd nd) z
/-- without the new walker the rows are those that were -/
theorem back_perm {rs ss ts : List Row} {z : Str} {es : List Ent} (out : z ∉ nms rs) (h : ss.Perm (withQ rs (.str z) ++ [(z, es)])) (h2 : ts.Perm (withQ ss (.str z))) : ts.Perm rs := by
  rw [with_new out] at h
  refine h2.trans ((h.filter _).trans ?_)
  rw [List.filter_append, List.filter_eq_self.mpr fun r hr => by
    rw [eqS_str, decide_eq_false (fun e => out (List.mem_map.mpr ⟨r, hr, e⟩))]
    rfl]
  rw [List.filter_cons, List.filter_nil, eqS_str, decide_eq_true rfl]
  exact List.Perm.of_eq (List.append_nil _)
theorem cut_two : ∀ xs : List V, cutV xs none (some 2) = xs.take 2
  | [] => rfl
  | [_] => rfl
  | _ :: _ :: r => by
    show List.take _ (List.drop 0 _) = _
    rfl
theorem eqv_strs : ∀ a b : List Str, PyData.eqvAll (a.map PyData.str) (b.map PyData.str) = decide (a = b)
  | [], [] => by simp [PyData.eqvAll]
  | [], _ :: _ => by simp [PyData.eqvAll]
  | _ :: _, [] => by simp [PyData.eqvAll]
  | x :: a, y :: b => by
    rw [List.map_cons, List.map_cons, PyData.eqvAll, eqv_strs a b, PyData.eqv]
    by_cases e : x = y
    · subst e
      rw [beq_self_eq_true, Bool.true_and]
      exact decide_eq_decide.mpr ⟨fun h => by rw [h], fun h => (List.cons.inj h).2⟩
    · rw [beq_eq_false_iff_ne.mpr e, Bool.false_and]
      exact (decide_eq_false fun h => e (List.cons.inj h).1).symm
theorem any_strs (ks : List (List Str)) (l : List Str) : ((strsD ks).any fun z => PyData.eqv z (.tuple (l.map PyData.str))) = decide (l ∈ ks) := by
  induction ks with
  | nil => rfl
  | cons k ks ih =>
    show (PyData.eqv (.tuple (k.map PyData.str)) (.tuple (l.map PyData.str)) || ((strsD ks).any fun z => PyData.eqv z (.tuple (l.map PyData.str)))) = _
    rw [ih, show PyData.eqv (.tuple (k.map PyData.str)) (.tuple (l.map PyData.str)) = PyData.eqvAll (k.map PyData.str) (l.map PyData.str) by rw [PyData.eqv], eqv_strs]
    by_cases e : k = l
    · subst e
      rw [decide_eq_true rfl, Bool.true_or]
      exact (decide_eq_true List.mem_cons_self).symm
    · rw [decide_eq_false e, Bool.false_or]
      exact decide_eq_decide.mpr ⟨List.mem_cons_of_mem _, fun h => (List.mem_cons.mp h).resolve_left fun z => e z.symm⟩
theorem groups_some {rs : List Row} (h : rs ≠ []) : groupsT (runG (pairsG rs)) ≠ [] := fun e => by
  have p := (groupsT_flat (rs := pairsG rs)).length_eq
  rw [e, pairsG_names] at p
  unfold nms at p
  rw [List.length_map] at p
  exact h (List.eq_nil_of_length_eq_zero p.symm)
theorem All2.take {α β : Type} {R : α → β → Prop} {as : List α} {bs : List β} (h : All2 R as bs) : ∀ n, All2 R (as.take n) (bs.take n) := by
  induction h with
  | nil => intro n; rw [List.take_nil, List.take_nil]; exact .nil
  | cons h1 _ ih =>
    intro n
    cases n with
    | zero => exact .nil
    | succ n => exact .cons h1 (ih n)
theorem op_neDK {X : Cx} {K : PySem.W.Frag} (h : X.K = K) (hu : X.A.units + 64 < cLine) : OpR X (compareOp .NotEq) (rNeD K) := h ▸ op_neD hu
theorem op_eqDK {X : Cx} {K : PySem.W.Frag} (h : X.K = K) (hu : X.A.units + 64 < cLine) : OpR X (compareOp .Eq) (rEqD K) := h ▸ op_eqD hu
def rLenS (K : PySem.W.Frag) : List V → Hp → VK → Prop := fun vs H Q => ∃ p ys, vs = [.ref p] ∧ (SqL K H p ys ∨ SqT K H p ys) ∧ Q (.int ys.length) H
theorem len_seqK {X : Cx} {K : PySem.W.Frag} (h : X.K = K) : CallR X (.builtin "len") (rLenS K) := by
  subst h
  exact call_len_seq
--@@SPLIT
def spLaw (K : PySem.W.Frag) : Sp := fun vs H Q _ => ∃ (a : Addr) (ns : List Int), vs = [.ref a] ∧ SqL K H a (ns.map V.int) ∧ ns.length ≤ 63 ∧ ∀ H', Q (.bl true) H'
theorem ok_law (T : Top w K mg) : FnOk P w K mg base CX0 11 T.a_law T.fd_law ["_law_script"] (spLaw K) := by
  have G_Lpool := ok_Lpool (P := P) (w := w) (base := base) T
  have G_Ltake := ok_Ltake (P := P) (w := w) (base := base) T
  have G_Lnames := ok_Lnames (P := P) (w := w) (base := base) T
  have G_Lworld := ok_Lworld (P := P) (w := w) (base := base) T
  have G_Lmix := ok_LmixP (P := P) (w := w) (base := base) T
  have G_Lflat := ok_Lflat (P := P) (w := w) (base := base) T
  have G_Lcalled := ok_Lcalled (P := P) (w := w) (base := base) T
  have G_Lsigns := ok_Lsigns (P := P) (w := w) (base := base) T
  have G_groups := ok_groups (P := P) (w := w) (base := base) T
  have G_told := ok_told (P := P) (w := w) (base := base) T
  have G_is_dealt := ok_is_dealt (P := P) (w := w) (base := base) T
  have G_Atlas_init := ok_Atlas_init (P := P) (w := w) (base := base) T
  have G_Atlas_with_log := ok_with_logK (P := P) (w := w) (base := base) T
  have G_Atlas_without := ok_withoutK (P := P) (w := w) (base := base) T
  refine T.F_law.ok sc_law (fun vs H Q E h => ?_) (fun cdv A outer s H vs Q E hr h => ?_)
  · obtain ⟨a, ns, rfl, _⟩ := h
    rfl
  · obtain ⟨a, ns, rfl, hS, hlen, q⟩ := h
    refine ⟨_, (pss_cons (ps_set (i := 1) sc_law.nd rfl (.inl rfl) (pe_call G_Lpool (hr.mono (by decide)) (by rfl) T.g_Lpool T.F_Lpool.kp T.b_Lpool .nil pass0 (pa_cons (pv 0) (pa_cons pe_int pa_nil))))
      (pss_cons (ps_asg (pe_call G_Lworld (hr.mono (by decide)) (by rfl) T.g_Lworld T.F_Lworld.kp T.b_Lworld .nil pass0 (pa_cons (pv 1) (pa_cons (pe_op op_add pe_int (pe_call G_Ltake (hr.mono (by decide)) (by rfl) T.g_Ltake T.F_Ltake.kp T.b_Ltake .nil pass0 (pa_cons (pv 1) (pa_cons pe_int pa_nil)))) (pa_cons (pe_call G_Ltake (hr.mono (by decide)) (by rfl) T.g_Ltake T.F_Ltake.kp T.b_Ltake .nil pass0 (pa_cons (pv 1) (pa_cons pe_int pa_nil))) (pa_cons pe_int pa_nil))))) (pg_tup rfl (pgs_cons (pg_name (i := 2) sc_law.nd rfl (.inl rfl)) (pgs_cons (pg_name (i := 3) sc_law.nd rfl (.inl rfl)) (pgs_cons (pg_name (i := 4) sc_law.nd rfl (.inr rfl)) (pgs_cons (pg_name (i := 5) sc_law.nd rfl (.inr rfl)) pgs_nil))))))
      (pss_cons (ps_set (i := 6) sc_law.nd rfl (.inr rfl) (pe_make T.mk_Atlas G_Atlas_init (hr.mono (by decide)) (by rfl) T.g_Atlas T.b_Atlas_init .nil pass0 (pa_cons (pv 3) (pa_cons (pv 4) pa_nil))))
      (pss_cons (ps_asg (pe_lc (own := [("_law_name_here", 16), ("_law_log", 7)]) (g := gTup K 2 (gCons (gName 16) (gCons (gName 7) gNil))) (by rfl) sc_law.nd (pi_tup (pv 4)) (blkOk_by (own := [("_law_name_here", 16), ("_law_log", 7)]) (N := ["_law_script", "_law_pool_here", "_law_land_here", "_law_box", "_law_rows", "_law_dealing", "_law_atlas", "_law_log", "_law_names_here", "_law_others", "_law_other", "_law_fresh", "_law_alone", "_law_near", "_law_wider", "_law_due", "_law_name_here", "_law_group", "_law_its"]) (sc := defScope s_law) (by decide +kernel)) (fun _ _ _ _ _ => (pg_tup rfl (pgs_cons (pg_name (i := 16) sc_law.nd rfl (Or.inl rfl)) (pgs_cons (pg_name (i := 7) sc_law.nd rfl (Or.inl rfl)) pgs_nil)))) (fun _ _ _ _ _ => pts_nil) (fun _ _ _ _ _ => (pv 16))) (pg_name (i := 8) sc_law.nd rfl (.inr rfl)))
      (pss_cons (ps_if (PW.pt (pw_or (pt_not (pt_val (pe_call G_is_dealt (hr.mono (by decide)) (by rfl) T.g_is_dealt T.F_is_dealt.kp T.b_is_dealt .nil pass0 (pa_cons (pv 6) (pa_cons (pv 5) pa_nil))))) (pw_or1 (pt_cmpR (r := rNeD K) (op_neDK rfl hr.units) (pe_callB cr_sortedS (by rfl) T.m_sorted (by decide +kernel) (pa_cons (pe_call G_Lflat (hr.mono (by decide)) (by rfl) T.g_Lflat T.F_Lflat.kp T.b_Lflat .nil pass0 (pa_cons (pe_call G_groups (hr.mono (by decide)) (by rfl) T.g_groups T.F_groups.kp T.b_groups .nil pass0 (pa_cons (pv 6) pa_nil)) pa_nil)) pa_nil)) (pv 8) (nomark _))))) (pss_one (ps_ret pe_bl)) pss_nil)
      (pss_cons (ps_set (i := 9) sc_law.nd rfl (.inl rfl) (pe_callB cr_sortedS (by rfl) T.m_sorted (by decide +kernel) (pa_cons (pe_call G_Lnames (hr.mono (by decide)) (by rfl) T.g_Lnames T.F_Lnames.kp T.b_Lnames .nil pass0 (pa_cons (pv 1) (pa_cons (pe_callB call_len_seq (by rfl) T.m_len (by decide +kernel) (pa_cons (pv 8) pa_nil)) pa_nil))) pa_nil)))
      (pss_cons (ps_set (i := 10) sc_law.nd rfl (.inr rfl) (pe_make T.mk_Atlas G_Atlas_init (hr.mono (by decide)) (by rfl) T.g_Atlas T.b_Atlas_init .nil pass0 (pa_cons (pv 3) (pa_cons (pe_call G_Lmix (hr.mono (by decide)) (by rfl) T.g_Lmix T.F_Lmix.kp T.b_Lmix .nil pass0 (pa_cons (pv 1) (pa_cons (ZipL.pe_listZip (by rfl) (by rfl) T.m_list (by decide +kernel) (by rfl) T.m_zip (pa_cons (pv 9) (pa_cons (pe_lc (own := [("_law_name_here", 16), ("_law_log", 7)]) (g := gTup K 2 (gCons (gName 16) (gCons (gName 7) gNil))) (by rfl) sc_law.nd (pi_tup (pv 4)) (blkOk_by (own := [("_law_name_here", 16), ("_law_log", 7)]) (N := ["_law_script", "_law_pool_here", "_law_land_here", "_law_box", "_law_rows", "_law_dealing", "_law_atlas", "_law_log", "_law_names_here", "_law_others", "_law_other", "_law_fresh", "_law_alone", "_law_near", "_law_wider", "_law_due", "_law_name_here", "_law_group", "_law_its"]) (sc := defScope s_law) (by decide +kernel)) (fun _ _ _ _ _ => (pg_tup rfl (pgs_cons (pg_name (i := 16) sc_law.nd rfl (Or.inl rfl)) (pgs_cons (pg_name (i := 7) sc_law.nd rfl (Or.inl rfl)) pgs_nil)))) (fun _ _ _ _ _ => pts_nil) (fun _ _ _ _ _ => (pv 7))) pa_nil))) pa_nil))) pa_nil))))
      (pss_cons (ps_if (pt_cmpR (r := rNeD K) (op_neDK rfl hr.units) (pe_callTy call_list_of (by rfl) T.m_list (by decide +kernel) (pa_cons (pe_call G_groups (hr.mono (by decide)) (by rfl) T.g_groups T.F_groups.kp T.b_groups .nil pass0 (pa_cons (pv 10) pa_nil)) pa_nil)) (pe_call G_Lcalled (hr.mono (by decide)) (by rfl) T.g_Lcalled T.F_Lcalled.kp T.b_Lcalled .nil pass0 (pa_cons (pe_call G_groups (hr.mono (by decide)) (by rfl) T.g_groups T.F_groups.kp T.b_groups .nil pass0 (pa_cons (pv 6) pa_nil)) (pa_cons (pv 8) (pa_cons (pv 9) pa_nil)))) (nomark _)) (pss_one (ps_ret pe_bl)) pss_nil)
      (pss_cons (ps_if (pt_not (pt_val (pe_callB (cr_all rfl) (by rfl) T.m_all (by decide +kernel) (pa_cons (pe_lc (own := [("_law_name_here", 16), ("_law_its", 18)]) (g := gTup K 2 (gCons (gName 16) (gCons (gName 18) gNil))) (by rfl) sc_law.nd (pi_zip (by rfl) T.m_zip (pa_cons (pv 8) (pa_cons (pv 9) pa_nil))) (blkOk_by (own := [("_law_name_here", 16), ("_law_its", 18)]) (N := ["_law_script", "_law_pool_here", "_law_land_here", "_law_box", "_law_rows", "_law_dealing", "_law_atlas", "_law_log", "_law_names_here", "_law_others", "_law_other", "_law_fresh", "_law_alone", "_law_near", "_law_wider", "_law_due", "_law_name_here", "_law_group", "_law_its"]) (sc := defScope s_law) (by decide +kernel)) (fun _ _ _ _ _ => (pg_tup rfl (pgs_cons (pg_name (i := 16) sc_law.nd rfl (Or.inl rfl)) (pgs_cons (pg_name (i := 18) sc_law.nd rfl (Or.inl rfl)) pgs_nil)))) (fun _ _ _ _ _ => pts_nil) (fun _ _ _ _ _ => (pe_cmpR (r := rEqD K) (op_eqDK rfl hr.units) (pe_call G_told (hr.mono (by decide)) (by rfl) T.g_told T.F_told.kp T.b_told .nil pass0 (pa_cons (pv 10) (pa_cons (pv 5) (pa_cons (pv 18) pa_nil)))) (pe_call G_told (hr.mono (by decide)) (by rfl) T.g_told T.F_told.kp T.b_told .nil pass0 (pa_cons (pv 6) (pa_cons (pv 5) (pa_cons (pv 16) pa_nil)))) (nomark _)))) pa_nil)))) (pss_one (ps_ret pe_bl)) pss_nil)
      (pss_cons (ps_set (i := 11) sc_law.nd rfl (.inl rfl) (pe_ix ix_list (pe_lc (own := [("_law_name_here", 16)]) (g := gName 16) (by rfl) sc_law.nd (pi_tup (pe_tup (pa_cons pe_str (pa_cons pe_str (pa_cons pe_str (pa_cons pe_str (pa_cons pe_str (pa_cons pe_str pa_nil)))))))) (blkOk_by (own := [("_law_name_here", 16)]) (N := ["_law_script", "_law_pool_here", "_law_land_here", "_law_box", "_law_rows", "_law_dealing", "_law_atlas", "_law_log", "_law_names_here", "_law_others", "_law_other", "_law_fresh", "_law_alone", "_law_near", "_law_wider", "_law_due", "_law_name_here", "_law_group", "_law_its"]) (sc := defScope s_law) (by decide +kernel)) (fun _ _ _ _ _ => (pg_name (i := 16) sc_law.nd rfl (Or.inl rfl))) (fun _ _ _ _ _ => (pts_one (pt_cmpR (r := rIn K true) (SeqW.notIn_K rfl) (pv 16) (pv 8) (by rfl)))) (fun _ _ _ _ _ => (pv 16))) pe_int (fun _ _ => rfl)))
      (pss_cons (ps_set (i := 12) sc_law.nd rfl (.inl rfl) (pe_meth (pv 6) T.cl_Atlas T.me_Atlas_with_log G_Atlas_with_log hr T.b_Atlas_with_log .nil pass0 (pa_cons (pv 11) (pa_cons (pe_tup (pa_cons (pe_tup (pa_cons pe_str pa_nil)) (pa_cons (pe_tup (pa_cons pe_str (pa_cons pe_str pa_nil))) pa_nil))) pa_nil))))
      (pss_cons (ps_if (pt_cmpR (r := rNeD K) (op_neDK rfl hr.units) (pe_callB (r := rSortedTB K) (cr_sortedTB rfl) (by rfl) T.m_sorted (by decide +kernel) (pa_cons (pe_call G_groups (hr.mono (by decide)) (by rfl) T.g_groups T.F_groups.kp T.b_groups .nil pass0 (pa_cons (pv 12) pa_nil)) pa_nil)) (pe_callB (r := rSortedTB K) (cr_sortedTB rfl) (by rfl) T.m_sorted (by decide +kernel) (pa_cons (pe_op op_catA (pe_call G_groups (hr.mono (by decide)) (by rfl) T.g_groups T.F_groups.kp T.b_groups .nil pass0 (pa_cons (pv 6) pa_nil)) (pe_tup (pa_cons (pe_tup (pa_cons (pv 11) pa_nil)) pa_nil))) pa_nil)) (nomark _)) (pss_one (ps_ret pe_bl)) pss_nil)
      (pss_cons (ps_set (i := 13) sc_law.nd rfl (.inr rfl) (pe_slice sl_list (pe_lc (own := [("_law_group", 17)]) (g := gName 17) (by rfl) sc_law.nd (pi_tup (pe_call G_groups (hr.mono (by decide)) (by rfl) T.g_groups T.F_groups.kp T.b_groups .nil pass0 (pa_cons (pv 6) pa_nil))) (blkOk_by (own := [("_law_group", 17)]) (N := ["_law_script", "_law_pool_here", "_law_land_here", "_law_box", "_law_rows", "_law_dealing", "_law_atlas", "_law_log", "_law_names_here", "_law_others", "_law_other", "_law_fresh", "_law_alone", "_law_near", "_law_wider", "_law_due", "_law_name_here", "_law_group", "_law_its"]) (sc := defScope s_law) (by decide +kernel)) (fun _ _ _ _ _ => (pg_name (i := 17) sc_law.nd rfl (Or.inl rfl))) (fun _ _ _ _ _ => (pts_one (pt_cmpR op_gt (pe_callB (r := rLenS K) (id := "len") (len_seqK rfl) (by rfl) T.m_len (by decide +kernel) (pa_cons (pe_call G_Lsigns (hr.mono (by decide)) (by rfl) T.g_Lsigns T.F_Lsigns.kp T.b_Lsigns .nil pass0 (pa_cons (pv 4) (pa_cons (pv 17) pa_nil))) pa_nil)) pe_int (nomark _)))) (fun _ _ _ _ _ => (pv 17))) po_none (po_some pe_int)))
      (pss_cons (ps_set (i := 7) sc_law.nd rfl (.inl rfl) (pe_callTy call_tuple_of (by rfl) T.m_tuple (by decide +kernel) (pa_cons (pe_lc (own := [("_law_group", 17)]) (g := gName 17) (by rfl) sc_law.nd (pi_list (pv 13)) (blkOk_by (own := [("_law_group", 17)]) (N := ["_law_script", "_law_pool_here", "_law_land_here", "_law_box", "_law_rows", "_law_dealing", "_law_atlas", "_law_log", "_law_names_here", "_law_others", "_law_other", "_law_fresh", "_law_alone", "_law_near", "_law_wider", "_law_due", "_law_name_here", "_law_group", "_law_its"]) (sc := defScope s_law) (by decide +kernel)) (fun _ _ _ _ _ => (pg_name (i := 17) sc_law.nd rfl (Or.inl rfl))) (fun _ _ _ _ _ => pts_nil) (fun _ _ _ _ _ => (pe_tup (pa_cons pe_str (pa_cons (pe_ix (r := rIx K) (SeqW.ix_seqK rfl) (pe_call G_Lsigns (hr.mono (by decide)) (by rfl) T.g_Lsigns T.F_Lsigns.kp T.b_Lsigns .nil pass0 (pa_cons (pv 4) (pa_cons (pv 17) pa_nil))) pe_int (fun _ _ => rfl)) pa_nil))))) pa_nil)))
      (pss_cons (ps_set (i := 14) sc_law.nd rfl (.inl rfl) (pe_meth (pv 6) T.cl_Atlas T.me_Atlas_with_log G_Atlas_with_log hr T.b_Atlas_with_log .nil pass0 (pa_cons (pv 11) (pa_cons (pv 7) pa_nil))))
      (pss_cons (ps_set (i := 15) sc_law.nd rfl (.inl rfl) (pe_op op_cat (pe_lc (own := [("_law_group", 17)]) (g := gName 17) (by rfl) sc_law.nd (pi_tup (pe_call G_groups (hr.mono (by decide)) (by rfl) T.g_groups T.F_groups.kp T.b_groups .nil pass0 (pa_cons (pv 6) pa_nil))) (blkOk_by (own := [("_law_group", 17)]) (N := ["_law_script", "_law_pool_here", "_law_land_here", "_law_box", "_law_rows", "_law_dealing", "_law_atlas", "_law_log", "_law_names_here", "_law_others", "_law_other", "_law_fresh", "_law_alone", "_law_near", "_law_wider", "_law_due", "_law_name_here", "_law_group", "_law_its"]) (sc := defScope s_law) (by decide +kernel)) (fun _ _ _ _ _ => (pg_name (i := 17) sc_law.nd rfl (Or.inl rfl))) (fun _ _ _ _ _ => (pts_one (pt_cmpR (r := rNotInD K) (notInD_K rfl (units65 hr)) (pv 17) (pv 13) (by rfl)))) (fun _ _ _ _ _ => (pv 17))) (pe_lst (pa_cons (pe_callTy call_tuple_of (by rfl) T.m_tuple (by decide +kernel) (pa_cons (pe_callB cr_sortedS (by rfl) T.m_sorted (by decide +kernel) (pa_cons (pe_op op_cat (pe_call G_Lflat (hr.mono (by decide)) (by rfl) T.g_Lflat T.F_Lflat.kp T.b_Lflat .nil pass0 (pa_cons (pv 13) pa_nil)) (pe_lst (pa_cons (pv 11) pa_nil))) pa_nil)) pa_nil)) pa_nil))))
      (pss_one (ps_ret (pe_and (pe_cmpR (r := rEqD K) (op_eqDK rfl hr.units) (pe_callB (r := rSortedTB K) (cr_sortedTB rfl) (by rfl) T.m_sorted (by decide +kernel) (pa_cons (pe_call G_groups (hr.mono (by decide)) (by rfl) T.g_groups T.F_groups.kp T.b_groups .nil pass0 (pa_cons (pv 14) pa_nil)) pa_nil)) (pe_callB (r := rSortedTB K) (cr_sortedTB rfl) (by rfl) T.m_sorted (by decide +kernel) (pa_cons (pv 15) pa_nil)) (nomark _)) (pe_one (pe_cmpR (r := rEqD K) (op_eqDK rfl hr.units) (pe_call G_groups (hr.mono (by decide)) (by rfl) T.g_groups T.F_groups.kp T.b_groups .nil pass0 (pa_cons (pe_meth (pv 14) T.cl_Atlas T.me_Atlas_without G_Atlas_without hr T.b_Atlas_without .nil pass0 (pa_cons (pv 11) pa_nil)) pa_nil)) (pe_call G_groups (hr.mono (by decide)) (by rfl) T.g_groups T.F_groups.kp T.b_groups .nil pass0 (pa_cons (pv 6) pa_nil)) (nomark _)))))))))))))))))))))), ?_⟩
    rw [show L2.start [PySem.Str.ofString "_law_script", PySem.Str.ofString "_law_pool_here", PySem.Str.ofString "_law_land_here", PySem.Str.ofString "_law_box", PySem.Str.ofString "_law_rows", PySem.Str.ofString "_law_dealing", PySem.Str.ofString "_law_atlas", PySem.Str.ofString "_law_log", PySem.Str.ofString "_law_names_here", PySem.Str.ofString "_law_others", PySem.Str.ofString "_law_other", PySem.Str.ofString "_law_fresh", PySem.Str.ofString "_law_alone", PySem.Str.ofString "_law_near", PySem.Str.ofString "_law_wider", PySem.Str.ofString "_law_due", PySem.Str.ofString "_law_name_here", PySem.Str.ofString "_law_group", PySem.Str.ofString "_law_its"] [V.ref a] = [some (V.ref a), none, none, none, none, none, none, none, none, none, none, none, none, none, none, none, none, none, none] from rfl]
    refine ⟨.ref a, rfl, a, ns, 0, rfl, hS, hlen, by decide, fun H1 p sm np hp => ?_⟩
    refine ⟨.ref p, rfl, .ref p, rfl, p, 4, rfl, by decide, by decide, hp, fun H2 k b2 hp2 k0 k1 => ?_⟩
    obtain ⟨k, rfl⟩ : ∃ kk : Nat, k = kk := ⟨k.toNat, by omega⟩
    refine ⟨_, _, rfl, rfl, .ref p, rfl, p, 2, rfl, by decide, by decide, hp2, fun H3 m b3 hp3 m0 m1 => ?_⟩
    obtain ⟨m, rfl⟩ : ∃ mm : Nat, m = mm := ⟨m.toNat, by omega⟩
    refine ⟨p, 1 + k, m, 5, by (show [V.ref p, V.int (1 + (k : Int)), V.int (m : Int), V.int 5] = [V.ref p, V.int ((1 + k : Nat) : Int), V.int (m : Nat), V.int 5]; congr 3), by omega, by omega, by omega, by decide, hp3, fun H4 t b R D l box us rs lots b4 hp4 et hb h8 hR hrs rok srt lrs hD llots hdue => ?_⟩
    refine ⟨t, _, rfl, .inl (.inl et), rfl, _, _, rfl, _, _, rfl, _, _, rfl, _, _, rfl, rfl, ?_⟩
    try dsimp only [List.set_cons_succ, List.set_cons_zero, wipe, List.map]
    refine ⟨.ref b, rfl, .ref R, rfl, fun x dx nx ndx nedx => ?_⟩
    have s9 : Same H4 (upd (upd H4 dx (.own x)) x (.ins T.a_Atlas dx [])) := fun c o h => by
      rw [upd_ne (ne_of_none h nx), upd_ne (ne_of_none h ndx)]
      exact h
    refine ⟨x, dx, b, R, box, us, rs, rfl, upd_same, .inr (sqt_same s9 hb), h8, .inr (sqt_same s9 hR), (hrs.same s9).pairs, rok, srt.nodup, by omega, fun H5 rs' b5 prm hsrt hA => ⟨rfl, ?_⟩⟩
    obtain rfl : rs' = rs := srt_uniq prm hsrt srt
    have s5 : Same H4 H5 := fun c o h => b5 _ _ (ne_of_none h nx) (s9 _ _ h)
    have hR5 := sqt_same s5 hR
    have hrs5 := hrs.same s5
    have hD5 := sqt_same s5 hD
    have hb5 := sqt_same s5 hb
    have hp5 := hp4.same s5
    have lu := hrs.len
    try dsimp only [List.set_cons_succ, List.set_cons_zero, wipe, List.map]
    refine ⟨.ref R, rfl, R, rfl, ⟨us, hR5⟩, fun N hN => lc_it (walk_tup (xs := us)) (fun i H' => Same H5 H' ∧ H' N = some (.lst ((nms (rs'.take i)).map V.str))) ⟨same_upd hN, upd_same⟩ (fun i H' _ h => sqt_same h.1 hR5) ?_ ?_⟩
    · rintro i v H6 H7 hi ⟨s7, eN⟩ ⟨rfl, hv⟩
      obtain ⟨r, fr, t1, l1, rfl, ht, hl⟩ := (hrs5.same s7).at_ hv
      refine ⟨t1, _, rfl, .inl (.inl ht), rfl, _, _, rfl, _, _, rfl, rfl, rfl, .str r.1, rfl, _, eN, small1000 (by unfold nms; rw [List.length_map, List.length_map, List.length_take]; omega), fun c o h => ?_, ?_⟩
      · rw [upd_ne (ne_of_none h hN)]
        exact s7 _ _ h
      · rw [upd_same, nms_succ fr]
    rintro H6 ⟨s6, eN⟩
    rw [lu, List.take_length] at eN
    have hA6 := hA.same s6
    have hD6 := sqt_same s6 hD5
    try dsimp only [List.set_cons_succ, List.set_cons_zero, wipe, List.map]
    refine ⟨.ref x, rfl, .ref D, rfl, x, .ref D, box, rs', .tuple (lots.map lotDt), rfl, hA6, h8, rok, by omega, .tup hD6 (lots_dpa lots), fun H7 s7 => ⟨_, rfl, ?_⟩⟩
    rw [due_is llots hdue]
    refine iteF ?_
    have lnm : (nms rs').length = rs'.length := List.length_map _
    have nmok : ∀ z ∈ nms rs', PyData.strOk z = true := fun z hz => by
      obtain ⟨r, hr, rfl⟩ := List.mem_map.mp hz
      exact nm_sOk (rok r hr).nm
    have flatP : ((groupsT (runG (pairsG rs'))).flatMap id).Perm (nms rs') := by
      rw [← pairsG_names]
      exact groupsT_flat
    refine ⟨.ref x, rfl, x, box, rs', rfl, hA6.same s7, rok, srt.nodup, by omega, fun H8 g s8 hg => ?_⟩
    cases hg with
    | @tup _ gs _ hgs hga =>
    refine ⟨g, gs, _, rfl, .inr hgs, hga, by rw [flatP.length_eq]; omega, fun H9 F s9' nF eF => ⟨F, _, rfl, .inl (.inl eF), by rw [flatP.length_eq]; omega, fun ys q5 perm srtd nq => ?_⟩⟩
    obtain rfl : ys = nms rs' := sorted_names (srt_nms srt) (perm.trans flatP) srtd
    have sq := same_upd (o := .lst ((nms rs').map V.str)) nq
    have s6q := ((s7.trans s8).trans s9').trans sq
    have eN9 := s6q _ _ eN
    refine ⟨.ref N, rfl, .list ((nms rs').map PyData.str), .list ((nms rs').map PyData.str), .lst (.inl (.inl upd_same)) (dpa_strs _), .lst (.inl (.inl eN9)) (dpa_strs _), strs_sh nmok, strs_sh nmok, _, rfl, iteNE rfl (strs_sh nmok) ?_⟩
    have s5q := s6.trans s6q
    clear eF sq
    generalize (upd H9 q5 (.lst ((nms rs').map V.str))) = Ha at s6q eN9 s5q ⊢
    have hAa := hA.same s5q
    have hpa := hp5.same s5q
    try dsimp only [List.set_cons_succ, List.set_cons_zero, wipe, List.map]
    refine ⟨.ref p, rfl, .ref N, rfl, N, _, rfl, .inl (.inl (.inl eN9)), p, (nms rs').length, by rw [List.length_map]; rfl, by omega, hpa, fun Hb L zs bb hpb nL eL lz nd nm => ⟨L, zs, rfl, .inl (.inl eL), by omega, fun os O perm2 srt2 nO => ?_⟩⟩
    have Np : N ≠ p := hp5.ne_new hN
    have Op : O ≠ p := hpb.ne_new nO
    have sO := same_upd (o := .lst (os.map V.str)) nO
    have lo : os.length = (nms rs').length := by rw [perm2.length_eq, lz]
    have ono : os.Nodup := perm2.nodup_iff.mpr nd
    have oso := sortedS_pw os srt2
    have bO : But p Ha (upd Hb O (.lst (os.map V.str))) := bb.trans (But.of sO)
    have hpO := hpb.same sO
    have eO : (upd Hb O (.lst (os.map V.str))) O = some (.lst (os.map V.str)) := upd_same
    have eNO := bO _ _ Np eN9
    have tO : Tp Ha (upd Hb O (.lst (os.map V.str))) := Tp.but hpa bO
    clear sO eL
    generalize (upd Hb O (.lst (os.map V.str))) = Hc at bO hpO eO eNO tO ⊢
    have r1000 : ∀ r ∈ rs', r.2.length ≤ 1000 := fun r hr => Nat.le_trans (rok r hr).len (by decide)
    have hAc : AtlasAt K T.a_Atlas Hc x box rs' := hAa.kp r1000 (Kp.but hpa bO)
    have hRc := sqt_kp tO (sqt_same s5q hR5)
    have hrsc := (hrs5.same s5q).tp r1000 tO
    have hDc := sqt_kp tO (sqt_same s5q hD5)
    have hbc := sqt_kp tO (sqt_same s5q hb5)
    try dsimp only [List.set_cons_succ, List.set_cons_zero, wipe, List.map]
    refine ⟨.ref b, rfl, .ref p, rfl, .ref O, rfl, .ref R, rfl, R, rfl, ⟨us, hRc⟩, fun G hG => lc_it (walk_tup (xs := us)) (fun i H' => Same Hc H' ∧ ∃ ls, H' G = some (.lst ls) ∧ DpAll K Hc ls ((rs'.take i).map logD)) ⟨same_upd hG, [], upd_same, .nil⟩ (fun i H' _ h => sqt_same h.1 hRc) ?_ ?_⟩
    · rintro i v H6' H7' hi ⟨s7', ls, eG, hls⟩ ⟨rfl, hv⟩
      obtain ⟨r, fr, t1, l1, rfl, ht, hl⟩ := hrsc.at_ hv
      have ll := dpa_len _ _ hls
      rw [List.length_map, List.length_take] at ll
      refine ⟨t1, _, rfl, .inl (.inl (s7' _ _ ht)), rfl, _, _, rfl, _, _, rfl, rfl, rfl, .ref l1, rfl, _, eG, small1000 (by omega), fun c o h => ?_, _, upd_same, ?_⟩
      · rw [upd_ne (ne_of_none h hG)]
        exact s7' _ _ h
      · rw [List.take_add_one, fr, List.map_append]
        exact dpa_snoc hl _ _ hls
    rintro Hd ⟨sd, ls, eG, hls⟩
    rw [lu, List.take_length] at hls
    have lls := dpa_len _ _ hls
    rw [List.length_map] at lls
    have min_is : min (os.map V.str).length ls.length = rs'.length := by rw [List.length_map]; omega
    refine ⟨O, G, os.map V.str, ls, rfl, false, false, .inl (.inl (sd _ _ eO)), .inl (.inl eG), by rw [min_is]; exact Nat.le_of_lt (small1000 (by omega)), fun He Z ts ke nZ nts lts eZ prs => ?_⟩
    rw [min_is] at lts
    have ke : Same Hd He := ke
    have sce := sd.trans ke
    have hpe := hpO.same sce
    have Zp : Z ≠ p := (hpO.same sd).ne_new nZ
    have hrows : RowsAt K He (ts.map V.ref) (calledR (callN (nms rs') os) rs') := RowsAt.of_at (by rw [List.length_map, lts]; unfold calledR; rw [List.length_map]) fun j v hv => by
      rw [List.getElem?_map] at hv
      obtain ⟨tj, ej, rfl⟩ : ∃ tj, ts[j]? = some tj ∧ V.ref tj = v := by
        cases e : ts[j]? with
        | none => rw [e] at hv; cases hv
        | some tj => rw [e] at hv; exact ⟨tj, rfl, Option.some.inj hv⟩
      obtain ⟨u1, u2, e1, e2, e3⟩ := prs j tj ej
      have lj : j < rs'.length := by rw [← lts]; exact (List.getElem?_eq_some_iff.mp ej).1
      have fr : rs'[j]? = some rs'[j] := List.getElem?_eq_getElem lj
      have fo : os[j]? = some os[j] := List.getElem?_eq_getElem (show j < os.length by omega)
      have fn : (nms rs')[j]? = some rs'[j].1 := by unfold nms; rw [List.getElem?_map, fr]; rfl
      rw [List.getElem?_map, fo] at e1
      obtain ⟨d, fd, gd⟩ := dpa_at _ ls hls j u2 e2
      rw [List.getElem?_map, fr] at fd
      cases fd
      obtain ⟨l2, xs2, rfl, _, _⟩ := log_rows gd
      refine ⟨_, at_called fr, tj, l2, rfl, ?_, dp_same sce _ _ gd⟩
      rw [callN_at srt.nodup fn fo, e3, ← Option.some.inj e1]
    have rok2 : ∀ r ∈ calledR (callN (nms rs') os) rs', RowOk r := called_ok rok fun z hz => by
      obtain ⟨j, ej⟩ := List.mem_iff_getElem?.mp hz
      have lj := (List.getElem?_eq_some_iff.mp ej).1
      have fo : os[j]? = some os[j] := List.getElem?_eq_getElem (show j < os.length by omega)
      rw [callN_at srt.nodup ej fo]
      exact nm _ (perm2.mem_iff.mp (List.mem_of_getElem? fo))
    have nms2 : nms (calledR (callN (nms rs') os) rs') = os := by rw [nms_called, callN_map srt.nodup lo]
    have l2 : (calledR (callN (nms rs') os) rs').length = rs'.length := List.length_map _
    have srt2' : Srt (calledR (callN (nms rs') os) rs') := srt_of (by rw [nms2]; exact ono) (by rw [nms2]; exact oso)
    obtain ⟨rs2, ers2⟩ : ∃ rs2, calledR (callN (nms rs') os) rs' = rs2 := ⟨_, rfl⟩
    rw [ers2] at hrows rok2 nms2 l2 srt2'
    refine ⟨p, Z, ts.map V.ref, rfl, hpe, Zp, .inl (.inl eZ), by rw [List.length_map]; omega, fun Hf M ms bf nM eM pmm hpf => ?_⟩
    obtain ⟨rsM, hrsM, pmM⟩ := (hrows.tp (fun r hr => Nat.le_trans (rok2 r hr).len (by decide)) (Tp.but hpe bf)).perm pmm
    have tcf : Tp Hc Hf := (Tp.of sce).trans (Tp.but hpe bf)
    try dsimp only [List.set_cons_succ, List.set_cons_zero, wipe, List.map]
    refine fun x2 dx2 nx2 ndx2 ned2 => ?_
    have s2 : Same Hf (upd (upd Hf dx2 (.own x2)) x2 (.ins T.a_Atlas dx2 [])) := fun c o h => by
      rw [upd_ne (ne_of_none h nx2), upd_ne (ne_of_none h ndx2)]
      exact h
    refine ⟨x2, dx2, b, M, box, ms, rsM, rfl, upd_same, .inr (sqt_same s2 (sqt_kp tcf hbc)), h8, .inl (.inl (.inl (s2 _ _ eM))), (hrsM.same s2).pairs, fun r hr => rok2 r (pmM.mem_iff.mp hr), (show (nms rsM).Perm (nms rs2) from pmM.map _).nodup_iff.mpr srt2'.nodup, by rw [pmM.length_eq]; omega, fun Hg rsN bg prmN hsN hA2 => ⟨rfl, ?_⟩⟩
    obtain rfl : rsN = rs2 := srt_uniq (prmN.trans pmM) hsN srt2'
    have sfg : Same Hf Hg := fun c o h => bg _ _ (ne_of_none h nx2) (s2 _ _ h)
    have bcg : But p Hc Hg := ((But.of sce).trans bf).trans (But.of sfg)
    have hAg : AtlasAt K T.a_Atlas Hg x box rs' := hAc.kp r1000 (((Kp.of sce).trans (Kp.but hpe bf)).trans (Kp.of sfg))
    have eNg : Hg N = some (.lst ((nms rs').map V.str)) := bcg _ _ Np eNO
    have eOg : Hg O = some (.lst (os.map V.str)) := bcg _ _ Op eO
    have tcg : Tp Hc Hg := tcf.trans (Tp.of sfg)
    have hDg := sqt_kp tcg hDc
    have hRg := sqt_kp tcg hRc
    have hrsg := hrsc.tp r1000 tcg
    clear hrows hrsM hA hA6 hAa hAc hRc hrsc hDc hbc hR5 hrs5 hD5 hb5 hD6 hga hgs eN eNO eO bO tO
    have nd2 : (nms rsN).Nodup := srt2'.nodup
    try dsimp only [List.set_cons_succ, List.set_cons_zero, wipe, List.map]
    refine ⟨.ref x2, rfl, x2, box, rsN, rfl, hA2, rok2, nd2, by omega, fun Hh g2 sh hg2 => ?_⟩
    cases hg2 with
    | @tup _ gs2 _ hgs2 hga2 =>
    refine ⟨g2, gs2, rfl, .inr hgs2, fun L1 nL1 => ?_⟩
    have s1 := same_upd (o := .lst gs2) nL1
    have eL1 : (upd Hh L1 (.lst gs2)) L1 = some (.lst gs2) := upd_same
    have hga2' := dpa_same s1 _ _ hga2
    have sgh := sh.trans s1
    generalize (upd Hh L1 (.lst gs2)) = Hi at s1 eL1 hga2' sgh ⊢
    refine ⟨.ref x, rfl, x, box, rs', rfl, hAg.same sgh, rok, srt.nodup, by omega, fun Hj g1 sj hg1 => ?_⟩
    cases hg1 with
    | @tup _ gs1 _ hgs1 hga1 =>
    have sgj := sgh.trans sj
    have glen : ∀ l ∈ groupsT (runG (pairsG rs')), l.length ≤ 60 ∧ ∀ z ∈ l, z ∈ nms rs' := fun l hl => ⟨by
      have h1 := List.sublist_flatten_of_mem (List.mem_map.mpr ⟨l, hl, rfl⟩ : id l ∈ (groupsT (runG (pairsG rs'))).map id)
      rw [← List.flatMap_def] at h1
      have h2 := h1.length_le
      rw [flatP.length_eq] at h2
      have h2 : l.length ≤ (nms rs').length := h2
      omega, fun z hz => in_groups hl hz⟩
    have gcnt : (groupsT (runG (pairsG rs'))).length ≤ 60 := by
      have h1 := (groupsT_perm (runG (pairsG rs'))).length_eq
      have h2 := runG_len (pairsG rs')
      rw [List.length_map] at h1
      have h3 : (pairsG rs').length = rs'.length := List.length_map _
      omega
    refine ⟨.ref N, rfl, .ref O, rfl, g1, N, O, gs1, _, nms rs', os, rfl, hgs1, hga1, .inl (.inl (sgj _ _ eNg)), .inl (.inl (sgj _ _ eOg)), lo, gcnt, glen, fun Hk D1 ys1 sk eD1 hall => ?_⟩
    have hall := hall.imp fun v l h => (show TQ K Hk v l from by obtain ⟨tt, e1, e2⟩ := h; exact ⟨tt, e1, .inl (.inl e2)⟩)
    have geq := groups_called srt lo ono oso
    rw [ers2] at geq
    have gsh : SeqAt.shaped (.list (strsD (groupsT (runG (pairsG rsN))))) = true := (strs_shaped fun l hl z hz => by
      have h1 := in_groups hl hz
      rw [nms2] at h1
      exact nm_sOk (nm z (perm2.mem_iff.mp h1))).1
    refine ⟨.list (strsD (groupsT (runG (pairsG rsN)))), .list (strsD (groupsT (runG (pairsG rsN)))), .lst (.inl (.inl (sk _ _ (sj _ _ eL1)))) (dpa_same (sj.trans sk) _ _ hga2'), .lst (.inl (.inl eD1)) (by rw [geq]; exact tq_dpa hall), gsh, gsh, _, rfl, iteNE rfl gsh ?_⟩
    have sgk := sgj.trans sk
    have hAk := hAg.same sgk
    have hA2k := hA2.same sgk
    have eNk := sgk _ _ eNg
    have eOk := sgk _ _ eOg
    have hDk := sqt_same sgk hDg
    have hRk := sqt_same sgk hRg
    have hrsk := hrsg.same sgk
    clear hall hgs1 hga1 hgs2 hga2 hga2' eL1 eD1 sgk sgj sgh sj sk sh s1 hAg hA2 eNg eOg hDg hRg hrsg
    have llots2 : lots.length = (legL rsN).length := by rw [llots, ← ers2, legL_called, List.length_map]
    try dsimp only [List.set_cons_succ, List.set_cons_zero, wipe, List.map]
    refine ⟨.ref N, rfl, .ref O, rfl, N, O, (nms rs').map V.str, os.map V.str, rfl, .inl (.inl eNk), .inl (.inl eOk), fun B hB => lc_it (walk_zip (xs := (nms rs').map V.str) (ys := os.map V.str) (n := rs'.length) (by rw [List.length_map, List.length_map]; omega)) (fun i H' => Same Hk H' ∧ H' B = some (.lst ((List.replicate i true).map V.bl))) ⟨same_upd hB, upd_same⟩ (fun i H' _ h => ⟨.inl (.inl (h.1 _ _ eNk)), .inl (.inl (h.1 _ _ eOk))⟩) ?_ ?_⟩
    · rintro i v H6' H7' hi ⟨s7', eB⟩ ⟨tt, u1, u2, rfl, nt, rfl, e1, e2⟩
      have fr : rs'[i]? = some rs'[i] := List.getElem?_eq_getElem hi
      have fn : (nms rs')[i]? = some rs'[i].1 := by unfold nms; rw [List.getElem?_map, fr]; rfl
      have fo : os[i]? = some os[i] := List.getElem?_eq_getElem (show i < os.length by omega)
      have e1 : ((nms rs').map V.str)[i]? = some u1 := e1
      have e2 : (os.map V.str)[i]? = some u2 := e2
      rw [List.getElem?_map, fn] at e1
      rw [List.getElem?_map, fo] at e2
      cases e1
      cases e2
      have st := same_upd (o := .tup [.str rs'[i].1, .str os[i]]) nt
      have sk7 := s7'.trans st
      obtain ⟨f2, pk_eq⟩ := called_at srt ono lo ers2 fr fo lots
      refine ⟨tt, _, rfl, .inl (.inl upd_same), rfl, _, _, rfl, _, _, rfl, rfl, rfl, .ref x2, rfl, .ref D, rfl, .str os[i], rfl, x2, D, box, rsN, lots, i, (os[i], rs'[i].2), rfl, hA2k.same sk7, h8, rok2, nd2, by omega, .inr (sqt_same sk7 hDk), llots2, hdue, f2, fun H8' w1 s8' hd1 => ?_⟩
      refine ⟨.ref x, rfl, .ref D, rfl, .str rs'[i].1, rfl, x, D, box, rs', lots, i, rs'[i], rfl, hAk.same (sk7.trans s8'), h8, rok, srt.nodup, by omega, .inr (sqt_same (sk7.trans s8') hDk), llots, hdue, fr, fun H9' w2 s9'' hd2 => ?_⟩
      have fsh := facts_shaped (L := pk rs'[i].1 ((legL rs').zip lots)) (rok rs'[i] (List.getElem_mem hi)).ok
      have hd1 := dp_same s9'' _ _ hd1
      rw [pk_eq] at hd1
      refine ⟨_, _, hd1, hd2, fsh, fsh, _, (s9'' _ _ (s8' _ _ (st _ _ eB))), small1000 (by rw [List.length_map, List.length_replicate]; omega), fun c o h => ?_, ?_⟩
      · rw [upd_ne (ne_of_none h hB)]
        exact s9'' _ _ (s8' _ _ (sk7 _ _ h))
      · rw [upd_same, SeqAt.eqv_refl _ (SeqAt.canLay_of_shaped fsh), List.replicate_succ', List.map_append]
        rfl
    rintro Hl ⟨sl, eB⟩
    refine ⟨B, _, rfl, .inl (.inl eB), ?_⟩
    rw [all_trueN]
    refine ⟨_, rfl, iteF ?_⟩
    refine ⟨by show 6 ≤ sizeLine; decide, fun tz ntz => ?_⟩
    have stz := same_upd (o := .tup [.str (PySem.Str.ofString "za"), .str (PySem.Str.ofString "zb"), .str (PySem.Str.ofString "zc"), .str (PySem.Str.ofString "zd"), .str (PySem.Str.ofString "ze"), .str (PySem.Str.ofString "zf")]) ntz
    have etz : (upd Hl tz (.tup [.str (PySem.Str.ofString "za"), .str (PySem.Str.ofString "zb"), .str (PySem.Str.ofString "zc"), .str (PySem.Str.ofString "zd"), .str (PySem.Str.ofString "ze"), .str (PySem.Str.ofString "zf")])) tz = some (.tup (six.map V.str)) := upd_same
    have slz := sl.trans stz
    clear eB
    generalize (upd Hl tz (.tup [.str (PySem.Str.ofString "za"), .str (PySem.Str.ofString "zb"), .str (PySem.Str.ofString "zc"), .str (PySem.Str.ofString "zd"), .str (PySem.Str.ofString "ze"), .str (PySem.Str.ofString "zf")])) = Hm at stz etz slz ⊢
    refine ⟨tz, rfl, ⟨six.map V.str, .inl (.inl etz)⟩, fun F1 hF1 => lc_it (walk_tup (xs := six.map V.str)) (fun i H' => Same Hm H' ∧ H' F1 = some (.lst ((outOf (nms rs') (six.take i)).map V.str))) ⟨same_upd hF1, upd_same⟩ (fun i H' _ h => .inl (.inl (h.1 _ _ etz))) ?_ ?_⟩
    · rintro i v H6' H7' hi ⟨s7', eF1⟩ ⟨rfl, hv⟩
      obtain ⟨z, fz, rfl⟩ : ∃ z, six[i]? = some z ∧ V.str z = v := by
        rw [List.getElem?_map] at hv
        cases e : six[i]? with
        | none => rw [e] at hv; cases hv
        | some z => rw [e] at hv; exact ⟨z, rfl, Option.some.inj hv⟩
      have eN7 := s7' _ _ (slz _ _ eNk)
      have lo6 : (outOf (nms rs') (six.take i)).length ≤ 6 := Nat.le_trans (List.length_filter_le _ _) (by rw [List.length_take]; exact Nat.min_le_right _ _)
      have step : outOf (nms rs') (six.take (i + 1)) = outOf (nms rs') (six.take i) ++ (if (!decide (z ∈ nms rs')) = true then [z] else []) := filter_step fz
      rw [step]
      refine ⟨rfl, .str z, rfl, .ref N, rfl, N, _, rfl, .inl (.inl (.inl eN7)), rfl, flat_strs _, _, rfl, ?_⟩
      rw [in_strs]
      refine ite2 (fun e1 => ?_) (fun e1 => ?_)
      · rw [if_pos (show (!decide (z ∈ nms rs')) = true from e1)]
        refine ⟨.str z, rfl, _, eF1, small1000 (by rw [List.length_map]; omega), fun c o h => ?_, ?_⟩
        · rw [upd_ne (ne_of_none h hF1)]
          exact s7' _ _ h
        · rw [upd_same, List.map_append]
          rfl
      · rw [if_neg (show ¬ (!decide (z ∈ nms rs')) = true from e1), List.append_nil]
        exact ⟨s7', eF1⟩
    rintro Hn ⟨sn, eF1⟩
    rw [List.length_map, List.take_length] at eF1
    obtain ⟨z, zr, ez, zin, zout⟩ := six_free (ns := nms rs') (by omega)
    have znm := six_nm z zin
    rw [ez] at eF1
    refine ⟨F1, _, 0, .str z, rfl, rfl, .inl (.inl eF1), atI_nat (j := 0) rfl, ?_⟩
    try dsimp only [List.set_cons_succ, List.set_cons_zero, wipe, List.map]
    have skn := slz.trans sn
    have hAn := hAk.same skn
    have hRn := sqt_same skn hRk
    have hrsn := hrsk.same skn
    clear hA2k hDk eOk hAk hRk hrsk eF1 etz slz stz
    obtain ⟨dxA, bA, nA, lA, lsA, onA, poA, hinsA, _⟩ := id hAn
    refine ⟨.ref x, rfl, x, dxA, _, rfl, hinsA, fl_no bA nA lA (by decide +kernel) (by decide +kernel) (by decide +kernel), .str z, rfl, by show 1 ≤ sizeLine; decide, fun t1 n1 => ⟨by show 2 ≤ sizeLine; decide, fun t2 n2 => ⟨by show 2 ≤ sizeLine; decide, fun lg nlg => ?_⟩⟩⟩
    have q1 := same_upd (o := .tup [.str (PySem.Str.ofString "bare")]) n1
    have q2 := same_upd (o := .tup [.str (PySem.Str.ofString "sign"), .str (PySem.Str.ofString "oak")]) n2
    have q3 := same_upd (o := .tup [.ref t1, .ref t2]) nlg
    have q23 := q2.trans q3
    have q13 := q1.trans q23
    refine ⟨x, lg, z, [.ref t1, .ref t2], aloneE, box, rs', rfl, hAn.same q13, h8, .inr (.inl (.inl upd_same)), rows_tup (.cons (.tup (.inl (.inl (q23 _ _ upd_same))) (.cons (.str _) .nil)) (.cons (.tup (.inl (.inl (q3 _ _ upd_same))) (.cons (.str _) (.cons (.str _) .nil))) .nil)), alone_row znm, srt, rok, by omega, fun Ho y rs3 so pm3 srt3 hA3 => ?_⟩
    have sno := q13.trans so
    clear q1 q2 q3 q23 q13 so
    rw [with_new zout] at pm3
    have l3 : rs3.length = rs'.length + 1 := by rw [pm3.length_eq, List.length_append]; rfl
    have rok3 : ∀ r ∈ rs3, RowOk r := fun r hr => by
      rcases List.mem_append.mp (pm3.mem_iff.mp hr) with h | h
      · exact rok r h
      · rw [List.mem_singleton.mp h]
        exact alone_row znm
    try dsimp only [List.set_cons_succ, List.set_cons_zero, wipe, List.map]
    refine ⟨.ref y, rfl, y, box, rs3, rfl, hA3, rok3, srt3.nodup, by omega, fun Hp1 ga sa hga => ?_⟩
    cases hga with
    | @tup _ gsa _ hgsa hgaa =>
    refine ⟨ga, gsa, _, rfl, .inr hgsa, dpa_tq hgaa, groupsT_ne, groups_heads srt3.nodup, fun ysA msA qA allA pmA srtA nqA => ?_⟩
    have sqA := same_upd (o := .lst ysA) nqA
    have allA := allA.imp fun v l h => h.same sqA
    have eqA : (upd Hp1 qA (.lst ysA)) qA = some (.lst ysA) := upd_same
    have snp := (sno.trans sa).trans sqA
    generalize (upd Hp1 qA (.lst ysA)) = Hp2 at allA eqA snp ⊢
    refine ⟨.ref x, rfl, x, box, rs', rfl, hAn.same snp, rok, srt.nodup, by omega, fun Hp3 gb sb hgb => ?_⟩
    cases hgb with
    | @tup _ gsb _ hgsb hgab =>
    have lgb := dpa_len2 hgab
    unfold strsD at lgb
    rw [List.length_map] at lgb
    have rne : rs' ≠ [] := fun e => by rw [e] at lrs; have : (0 : Nat) = 1 + k := lrs; omega
    have gne : gsb ≠ [] := fun e => by
      rw [e] at lgb
      exact groups_some rne (List.eq_nil_of_length_eq_zero lgb.symm)
    refine ⟨.str z, rfl, by show 1 ≤ sizeLine; decide, fun tz1 ntz1 => ⟨by show 1 ≤ sizeLine; decide, fun tz2 ntz2 => ?_⟩⟩
    have qz1 := same_upd (o := .tup [.str z]) ntz1
    have qz2 := same_upd (o := .tup [.ref tz1]) ntz2
    refine ⟨gb, tz2, gsb, [.ref tz1], rfl, rfl, sqt_same (qz1.trans qz2) hgsb, .inl (.inl upd_same), Nat.le_of_lt (small1000 (by show gsb.length + 1 ≤ 1000; omega)), fun e0 => absurd e0 gne, fun _ e0 => (by cases e0), fun _ _ rr nrr => ?_⟩
    have qrr := same_upd (o := .tup (gsb ++ [.ref tz1])) nrr
    have q12 := qz1.trans (qz2.trans qrr)
    have allB0 : All2 (TQ K (upd (upd (upd Hp3 tz1 (.tup [.str z])) tz2 (.tup [.ref tz1])) rr (.tup (gsb ++ [.ref tz1])))) (gsb ++ [.ref tz1]) (groupsT (runG (pairsG rs')) ++ [[z]]) := ((dpa_tq hgab).imp fun v l h => h.same q12).snoc ⟨tz1, rfl, .inl (.inl (qrr _ _ (qz2 _ _ upd_same)))⟩
    have erz : (upd (upd (upd Hp3 tz1 (.tup [.str z])) tz2 (.tup [.ref tz1])) rr (.tup (gsb ++ [.ref tz1]))) rr = some (.tup (gsb ++ [.ref tz1])) := upd_same
    have spq := sb.trans q12
    generalize (upd (upd (upd Hp3 tz1 (.tup [.str z])) tz2 (.tup [.ref tz1])) rr (.tup (gsb ++ [.ref tz1]))) = Hp4 at allB0 erz spq ⊢
    have zflat : z ∉ (groupsT (runG (pairsG rs'))).flatMap id := fun h => zout (flatP.mem_iff.mp h)
    have hdB := pairs_heads (flat_nodup srt.nodup) groupsT_ne zflat
    refine ⟨rr, gsb ++ [.ref tz1], _, rfl, .inr (.inl (.inl erz)), allB0, fun l hl => ?_, hdB, fun ysB msB qB allB pmB srtB nqB => ?_⟩
    · rcases List.mem_append.mp hl with h | h
      · exact groupsT_ne l h
      · rw [List.mem_singleton.mp h]
        exact fun h => nomatch h
    have sqB := same_upd (o := .lst ysB) nqB
    obtain rfl : msA = msB := heads_eq (pmA.trans ((groups_alone srt.nodup zout alone_none pm3).trans pmB.symm)) ((pmB.map _).nodup_iff.mpr hdB) srtA srtB
    have shB : SeqAt.shaped (.list (strsD msA)) = true := (strs_shaped fun l hl y hy => by
      rcases List.mem_append.mp (pmB.mem_iff.mp hl) with h | h
      · exact nmok y (in_groups h hy)
      · rw [List.mem_singleton.mp h] at hy
        rw [List.mem_singleton.mp hy]
        exact nm_sOk znm).1
    have sAB := spq.trans sqB
    refine ⟨.list (strsD msA), .list (strsD msA), .lst (.inl (.inl (sAB _ _ eqA))) (tq_dpa (allA.imp fun v l h => h.same sAB)), .lst (.inl (.inl upd_same)) (tq_dpa (allB.imp fun v l h => h.same sqB)), shB, shB, _, rfl, iteNE rfl shB ?_⟩
    have snq := snp.trans sAB
    clear allA allB allB0 erz eqA sqA sqB spq sAB snp sno hgab hgsb hgaa hgsa hA3 q12 qz1 qz2 qrr sa sb hinsA poA
    generalize (upd Hp4 qB (.lst ysB)) = Hq at snq ⊢
    have hAq := hAn.same snq
    have hRq := sqt_same snq hRn
    have hrsq := hrsn.same snq
    try dsimp only [List.set_cons_succ, List.set_cons_zero, wipe, List.map]
    obtain ⟨GT, hGT⟩ : ∃ GT, groupsT (runG (pairsG rs')) = GT := ⟨_, rfl⟩
    have gin : ∀ l ∈ GT, ∀ y ∈ l, y ∈ nms rs' := fun l hl y hy => in_groups (hGT ▸ hl) hy
    have gne : ∀ l ∈ GT, l ≠ [] := fun l hl => groupsT_ne l (hGT ▸ hl)
    refine ⟨.ref x, rfl, x, box, rs', rfl, hAq, rok, srt.nodup, by omega, fun Hr gc sc hgc => ?_⟩
    cases hgc with
    | @tup _ gsc _ hgsc hgac =>
    have hgac : DpAll K Hr gsc (strsD (groupsT (runG (pairsG rs')))) := hgac
    rw [hGT] at hgac
    have lgc := dpa_len2 hgac
    unfold strsD at lgc
    rw [List.length_map] at lgc
    have gcnt : GT.length ≤ 60 := hGT ▸ gcnt
    refine ⟨gc, rfl, ⟨gsc, hgsc⟩, fun E1 hE1 => lc_it (walk_tup (xs := gsc)) (fun i H' => Same Hr H' ∧ ∃ vs, H' E1 = some (.lst vs) ∧ vs.length ≤ i ∧ All2 (TQ K Hr) vs ((GT.take i).filter fun l => decide (0 < (ofNames (pairsG rs') l).length))) ⟨same_upd hE1, [], upd_same, Nat.le_refl 0, .nil⟩ (fun i H' _ h => sqt_same h.1 hgsc) ?_ ?_⟩
    · rintro i v H6' H7' hi ⟨s7', vs, eE1, lv, hvs⟩ ⟨rfl, hv⟩
      obtain ⟨l, fl, tl, rfl, htl⟩ := (dpa_tq hgac).at_ hv
      rw [filter_step fl]
      have htl7 := sqt_same s7' htl
      refine ⟨rfl, .ref R, rfl, .ref tl, rfl, R, tl, us, rs', l, rfl, .inr (sqt_same (sc.trans s7') hRq), hrsq.same (sc.trans s7'), rok, by omega, .inr htl7, fun H8' S8 s8' nS8 eS8 => ⟨S8, _, rfl, .inl (.inl (.inl eS8)), _, _, rfl, rfl, _, rfl, ?_⟩⟩
      rw [List.length_map]
      have big : (((ofNames (pairsG rs') l).length : Int) > 0) ↔ 0 < (ofNames (pairsG rs') l).length := by omega
      refine ite2 (fun e1 => ?_) (fun e1 => ?_)
      · rw [if_pos (decide_eq_true (big.mp (of_decide_eq_true e1)))]
        refine ⟨.ref tl, rfl, vs, s8' _ _ eE1, small1000 (by omega), fun c o h => ?_, _, upd_same, by rw [List.length_append]; exact Nat.succ_le_succ lv, hvs.snoc ⟨tl, rfl, htl⟩⟩
        rw [upd_ne (ne_of_none h hE1)]
        exact s8' _ _ (s7' _ _ h)
      · rw [if_neg (fun h => e1 (decide_eq_true (big.mpr (of_decide_eq_true h)))), List.append_nil]
        exact ⟨s7'.trans s8', vs, s8' _ _ eE1, Nat.le_succ_of_le lv, hvs⟩
    rintro Hs ⟨ss, vsN, eE1, lvN, hvsN⟩
    rw [lgc, List.take_length] at hvsN
    refine ⟨2, rfl, E1, vsN, rfl, .inl (.inl eE1), fun NE nNE => ?_⟩
    rw [cut_two]
    have sNE := same_upd (o := .lst (vsN.take 2)) nNE
    have hNT : All2 (TQ K Hr) (vsN.take 2) (nearT (pairsG rs') GT) := hvsN.take 2
    have eNE : (upd Hs NE (.lst (vsN.take 2))) NE = some (.lst (vsN.take 2)) := upd_same
    generalize vsN.take 2 = nvs at hNT eNE sNE ⊢
    have srs := ss.trans sNE
    generalize (upd Hs NE (.lst nvs)) = Ht at eNE srs ⊢
    have lnv := hNT.len
    have lnt : (nearT (pairsG rs') GT).length ≤ 2 := by
      unfold nearT
      rw [List.length_take]
      exact Nat.min_le_left _ _
    have hNTt : All2 (TQ K Ht) nvs (nearT (pairsG rs') GT) := hNT.imp fun v l h => h.same srs
    have sqt := sc.trans srs
    have hAt := hAq.same sqt
    have hRt := sqt_same sqt hRq
    have hrst := hrsq.same sqt
    clear hvsN eE1 hNT sNE hgac hgsc srs sqt sc ss hAq hRq hrsq hAn hRn hrsn
    try dsimp only [List.set_cons_succ, List.set_cons_zero, wipe, List.map]
    refine ⟨.ref NE, rfl, NE, rfl, ⟨nvs, .inl (.inl eNE)⟩, fun LG hLG => lc_it (walk_list (xs := nvs)) (fun i H' => Same Ht H' ∧ ∃ ws, H' LG = some (.lst ws) ∧ ws.length = i ∧ DpAll K (wo H' (fun c => c = LG)) ws ((((nearT (pairsG rs') GT).take i).map fun l => Ent.sign (hdS (ofNames (pairsG rs') l))).map Ent.tup)) ⟨same_upd hLG, [], upd_same, rfl, .nil⟩ (fun i H' _ h => .inl (.inl (h.1 _ _ eNE))) ?_ ?_⟩
    · rintro i v H6' H7' hi ⟨s7', ws, eLG, lw, hws⟩ ⟨rfl, hv⟩
      obtain ⟨l, fl, tl, rfl, htl⟩ := hNTt.at_ hv
      have htl7 := sqt_same s7' htl
      obtain ⟨_, lsome⟩ := near_in (List.mem_of_getElem? fl)
      obtain ⟨s1, sr, es1⟩ : ∃ s1 sr, ofNames (pairsG rs') l = s1 :: sr := by
        cases e : ofNames (pairsG rs') l with
        | nil => exact absurd e lsome
        | cons s1 sr => exact ⟨s1, sr, rfl⟩
      refine ⟨rfl, .ref R, rfl, .ref tl, rfl, R, tl, us, rs', l, rfl, .inr (sqt_same s7' hRt), hrst.same s7', rok, by omega, .inr htl7, fun H8' S8 s8' nS8 eS8 => ?_⟩
      rw [es1] at eS8
      refine ixA (j := 0) (.inl (.inl (.inl eS8))) rfl ⟨by show 2 ≤ sizeLine; decide, fun te nte => ?_⟩
      have ste := same_upd (o := .tup [.str (PySem.Str.ofString "sign"), .str s1]) nte
      have s79 := s8'.trans ste
      have eLG9 := s79 _ _ eLG
      have teL : te ≠ LG := fun e => by rw [e, s8' _ _ eLG] at nte; cases nte
      have wk : Same (wo H7' (fun c => c = LG)) (wo (upd (upd H8' te (.tup [.str (PySem.Str.ofString "sign"), .str s1])) LG (.lst (ws ++ [.ref te]))) (fun c => c = LG)) := fun c o h => by
        have h2 := wo_some h
        rw [wo_in (X := fun c => c = LG) h2.1, upd_ne h2.1]
        exact s79 _ _ h2.2
      refine ⟨ws, eLG9, small1000 (by omega), fun c o h => ?_, _, upd_same, by rw [List.length_append, lw]; rfl, ?_⟩
      · rw [upd_ne (ne_of_none h hLG)]
        exact s79 _ _ (s7' _ _ h)
      · rw [List.take_add_one, fl, List.map_append, List.map_append]
        refine dpa_snoc ?_ _ _ (dpa_same wk _ _ hws)
        show Dp K _ _ (Ent.tup (Ent.sign (hdS (ofNames (pairsG rs') l))))
        rw [es1]
        refine .tup (xs := [.str (PySem.Str.ofString "sign"), .str s1]) (.inl (.inl ?_)) (.cons (.str _) (.cons (.str _) .nil))
        rw [wo_in (X := fun c => c = LG) teL, upd_ne teL]
        exact upd_same
    rintro Hu ⟨su, ws, eLG, lw, hws⟩
    rw [lnv, List.take_length] at hws
    have hws := dpa_same wo_same _ _ hws
    rw [show ((nearT (pairsG rs') GT).map fun l => Ent.sign (hdS (ofNames (pairsG rs') l))) = (nearS (pairsG rs') GT).map Ent.sign by unfold nearS; rw [List.map_map]; rfl] at hws
    refine ⟨LG, ws, rfl, .inl ⟨.inl (.inl eLG), fun lg2 nlg2 => ?_⟩⟩
    have slg := same_upd (o := .tup ws) nlg2
    have hws := dpa_same slg _ _ hws
    have elg : (upd Hu lg2 (.tup ws)) lg2 = some (.tup ws) := upd_same
    have stv := su.trans slg
    clear eLG slg su
    generalize (upd Hu lg2 (.tup ws)) = Hv at hws elg stv ⊢
    have hAv := hAt.same stv
    have hNTv := hNTt.imp fun v l h => h.same stv
    have eNEv := stv _ _ eNE
    clear hAt hRt hrst hNTt eNE stv
    try dsimp only [List.set_cons_succ, List.set_cons_zero, wipe, List.map]
    obtain ⟨dxB, bB, nB, lB, lsB, onB, poB, hinsB, _⟩ := id hAv
    refine ⟨.ref x, rfl, x, dxB, _, rfl, hinsB, fl_no bB nB lB (by decide +kernel) (by decide +kernel) (by decide +kernel), .str z, rfl, .ref lg2, rfl, ?_⟩
    refine ⟨x, lg2, z, ws, (nearS (pairsG rs') GT).map Ent.sign, box, rs', rfl, hAv, h8, .inr (.inl (.inl elg)), rows_tup hws, near_row rok znm GT, srt, rok, by omega, fun Hw y2 rs5 sw pm5 srt5 hA5 => ?_⟩
    have pm5' := pm5
    rw [with_new zout] at pm5'
    have l5 : rs5.length = rs'.length + 1 := by rw [pm5'.length_eq, List.length_append]; rfl
    have rok5 : ∀ r ∈ rs5, RowOk r := fun r hr => by
      rcases List.mem_append.mp (pm5'.mem_iff.mp hr) with h | h
      · exact rok r h
      · rw [List.mem_singleton.mp h]
        exact near_row rok znm GT
    have hAw := hAv.same sw
    have hNTw := hNTv.imp fun v l h => h.same sw
    have eNEw := sw _ _ eNEv
    clear hws elg hAv hNTv eNEv sw hinsB poB
    try dsimp only [List.set_cons_succ, List.set_cons_zero, wipe, List.map]
    refine ⟨.ref x, rfl, x, box, rs', rfl, hAw, rok, srt.nodup, by omega, fun Hx gd sd2 hgd => ?_⟩
    cases hgd with
    | @tup _ gsd _ hgsd hgad =>
    have hgad : DpAll K Hx gsd (strsD (groupsT (runG (pairsG rs')))) := hgad
    rw [hGT] at hgad
    have lgd := dpa_len2 hgad
    unfold strsD at lgd
    rw [List.length_map] at lgd
    have hNTx := hNTw.imp fun v l h => h.same sd2
    have eNEx := sd2 _ _ eNEw
    have ntin : ∀ l ∈ nearT (pairsG rs') GT, l ∈ GT := fun l hl => (near_in hl).1
    have ntsh : SeqAt.shaped (.list (strsD (nearT (pairsG rs') GT))) = true := (strs_shaped fun l hl y hy => nmok y (gin l (ntin l hl) y hy)).1
    have gsh1 : ∀ l ∈ GT, SeqAt.shaped (.tuple (l.map PyData.str)) = true := (strs_shaped fun l hl y hy => nmok y (gin l hl y hy)).2
    refine ⟨gd, rfl, ⟨gsd, hgsd⟩, fun E2 hE2 => lc_it (walk_tup (xs := gsd)) (fun i H' => Same Hx H' ∧ ∃ vs, H' E2 = some (.lst vs) ∧ vs.length ≤ i ∧ All2 (TQ K Hx) vs ((GT.take i).filter fun l => !decide (l ∈ nearT (pairsG rs') GT))) ⟨same_upd hE2, [], upd_same, Nat.le_refl 0, .nil⟩ (fun i H' _ h => sqt_same h.1 hgsd) ?_ ?_⟩
    · rintro i v H6' H7' hi ⟨s7', vs, eE2, lv, hvs⟩ ⟨rfl, hv⟩
      obtain ⟨l, fl, tl, rfl, htl⟩ := (dpa_tq hgad).at_ hv
      rw [filter_step fl]
      refine ⟨rfl, .ref tl, rfl, .ref NE, rfl, .tuple (l.map PyData.str), strsD (nearT (pairsG rs') GT), .tup (sqt_same s7' htl) (dpa_strs _), .lst (.inl (.inl (s7' _ _ eNEx))) (tq_dpa (hNTx.imp fun v l h => h.same s7')), gsh1 l (List.mem_of_getElem? fl), ntsh, _, rfl, ?_⟩
      rw [any_strs]
      refine ite2 (fun e1 => ?_) (fun e1 => ?_)
      · rw [if_pos e1]
        refine ⟨.ref tl, rfl, vs, eE2, small1000 (by omega), fun c o h => ?_, _, upd_same, by rw [List.length_append]; exact Nat.succ_le_succ lv, hvs.snoc ⟨tl, rfl, htl⟩⟩
        rw [upd_ne (ne_of_none h hE2)]
        exact s7' _ _ h
      · rw [if_neg e1, List.append_nil]
        exact ⟨s7', vs, eE2, Nat.le_succ_of_le lv, hvs⟩
    rintro Hy ⟨sy, vsD, eE2, lvD, hvsD⟩
    rw [lgd, List.take_length] at hvsD
    have ntflat : ((nearT (pairsG rs') GT).flatMap id).length ≤ (nms rs').length := by
      have h1 := (flat_sub id (near_sub (pairsG rs') GT)).length_le
      rw [← hGT] at h1 ⊢
      rw [flatP.length_eq] at h1
      exact h1
    refine ⟨.ref NE, rfl, NE, nvs, nearT (pairsG rs') GT, rfl, .inl (.inl (.inl (sy _ _ eNEx))), tq_dpa (hNTx.imp fun v l h => h.same sy), by omega, fun Hz FL sz nFL eFL => ?_⟩
    refine ⟨.str z, rfl, by show 1 ≤ sizeLine; decide, fun l1 nl1 => ?_⟩
    have sl1 := same_upd (o := .lst [.str z]) nl1
    refine ⟨FL, l1, _, _, rfl, rfl, sl1 _ _ eFL, upd_same, Nat.le_of_lt (small1000 (by rw [List.length_map]; show _ + 1 ≤ 1000; omega)), fun c1 nc1 => ?_⟩
    have sc1 := same_upd (o := .lst (((nearT (pairsG rs') GT).flatMap id).map V.str ++ [.str z])) nc1
    refine ⟨c1, (nearT (pairsG rs') GT).flatMap id ++ [z], rfl, .inl (.inl (by rw [List.map_append]; exact upd_same)), by rw [List.length_append]; show _ + 1 < 64; omega, fun yz qz pmz srtz nqz => ?_⟩
    have sqz := same_upd (o := .lst (yz.map V.str)) nqz
    refine ⟨qz, _, rfl, .inl ⟨.inl (.inl upd_same), fun tq ntq => ⟨by show 1 ≤ sizeLine; decide, fun dl ndl => ?_⟩⟩⟩
    have stq := same_upd (o := .tup (yz.map V.str)) ntq
    have sdl := same_upd (o := .lst [.ref tq]) ndl
    have sall := ((((sz.trans sl1).trans sc1).trans sqz).trans stq).trans sdl
    have eE2z := sall _ _ eE2
    refine ⟨E2, dl, _, _, rfl, rfl, eE2z, upd_same, Nat.le_of_lt (small1000 (by show vsD.length + 1 ≤ 1000; omega)), fun du ndu => ?_⟩
    have sdu := same_upd (o := .lst (vsD ++ [.ref tq])) ndu
    have hDue0 : All2 (TQ K (upd (upd (upd (upd (upd (upd Hz l1 (.lst [.str z])) c1 (.lst (((nearT (pairsG rs') GT).flatMap id).map V.str ++ [.str z]))) qz (.lst (yz.map V.str))) tq (.tup (yz.map V.str))) dl (.lst [.ref tq])) du (.lst (vsD ++ [.ref tq])))) (vsD ++ [.ref tq]) (GT.filter (fun l => !decide (l ∈ nearT (pairsG rs') GT)) ++ [sortN ((nearT (pairsG rs') GT).flatMap id ++ [z])]) := by
      refine (hvsD.imp fun v l h => h.same ((sy.trans sall).trans sdu)).snoc ⟨tq, rfl, .inl (.inl ?_)⟩
      rw [← sortN_uniq pmz (sortedS_pw yz srtz)]
      exact sdu _ _ (sdl _ _ upd_same)
    have eDu : (upd (upd (upd (upd (upd (upd Hz l1 (.lst [.str z])) c1 (.lst (((nearT (pairsG rs') GT).flatMap id).map V.str ++ [.str z]))) qz (.lst (yz.map V.str))) tq (.tup (yz.map V.str))) dl (.lst [.ref tq])) du (.lst (vsD ++ [.ref tq]))) du = some (.lst (vsD ++ [.ref tq])) := upd_same
    have swa := ((sd2.trans sy).trans sall).trans sdu
    clear eE2z eE2 eFL sl1 sc1 sqz stq sdl sdu sall hvsD hNTx eNEx hNTw eNEw
    generalize (upd (upd (upd (upd (upd (upd Hz l1 (.lst [.str z])) c1 (.lst (((nearT (pairsG rs') GT).flatMap id).map V.str ++ [.str z]))) qz (.lst (yz.map V.str))) tq (.tup (yz.map V.str))) dl (.lst [.ref tq])) du (.lst (vsD ++ [.ref tq]))) = I0 at hDue0 eDu swa ⊢
    try dsimp only [List.set_cons_succ, List.set_cons_zero, wipe, List.map]
    have hA5i := hA5.same swa
    have hAi := hAw.same swa
    refine ⟨.ref y2, rfl, y2, box, rs5, rfl, hA5i, rok5, srt5.nodup, by omega, fun I1 ge se hge => ?_⟩
    cases hge with
    | @tup _ gse _ hgse hgae =>
    refine ⟨ge, gse, _, rfl, .inr hgse, dpa_tq hgae, groupsT_ne, groups_heads srt5.nodup, fun ysC msC qC allC pmC srtC nqC => ?_⟩
    have sqC := same_upd (o := .lst ysC) nqC
    have wper := wider_perm srt.nodup zout (ss := rs5) (by rw [hGT]; exact pm5')
    rw [hGT] at wper
    have hdD := (wper.map hdS).nodup_iff.mp (groups_heads srt5.nodup)
    refine ⟨.ref du, rfl, du, vsD ++ [.ref tq], _, rfl, .inl (.inl (.inl (sqC _ _ (se _ _ eDu)))), hDue0.imp fun v l h => h.same (se.trans sqC), fun l hl => ?_, hdD, fun ysE msE qE allE pmE srtE nqE => ?_⟩
    · rcases List.mem_append.mp hl with h | h
      · exact gne l (List.mem_filter.mp h).1
      · rw [List.mem_singleton.mp h]
        exact sortN_ne fun e => by cases (List.append_eq_nil_iff.mp e).2
    have sqE := same_upd (o := .lst ysE) nqE
    obtain rfl : msC = msE := heads_eq (pmC.trans (wper.trans pmE.symm)) ((pmE.map _).nodup_iff.mpr hdD) srtC srtE
    have nm5 : ∀ y ∈ nms rs5, PyData.strOk y = true := fun y hy => by
      obtain ⟨r, hr, rfl⟩ := List.mem_map.mp hy
      exact nm_sOk (rok5 r hr).nm
    have shE : SeqAt.shaped (.list (strsD msC)) = true := (strs_shaped fun l hl y hy => nm5 y (in_groups (pmC.mem_iff.mp hl) hy)).1
    refine ⟨.list (strsD msC), .list (strsD msC), .lst (.inl (.inl (sqE _ _ upd_same))) (tq_dpa (allC.imp fun v l h => (h.same sqC).same sqE)), .lst (.inl (.inl upd_same)) (tq_dpa (allE.imp fun v l h => h.same sqE)), shE, shE, _, rfl, ?_⟩
    rw [SeqAt.eqv_refl _ (SeqAt.canLay_of_shaped shE)]
    refine iteT ?_
    have sfin := (se.trans sqC).trans sqE
    have hA5j := hA5i.same sfin
    have hAj := hAi.same sfin
    obtain ⟨dxC, bC, nC, lC, lsC, onC, poC, hinsC, _⟩ := id hA5j
    have zin5 : z ∈ nms rs5 := List.mem_map.mpr ⟨_, pm5'.mem_iff.mpr (List.mem_append_right _ List.mem_cons_self), rfl⟩
    refine ⟨.ref y2, rfl, y2, dxC, _, rfl, hinsC, fl_no bC nC lC (by decide +kernel) (by decide +kernel) (by decide +kernel), .str z, rfl, ?_⟩
    refine ⟨y2, z, box, rs5, rfl, hA5j, h8, zin5, srt5, rok5, by omega, fun J1 y3 rs6 sj1 pm6 srt6 hA6' => ?_⟩
    obtain rfl : rs6 = rs' := srt_uniq (back_perm zout pm5 pm6) srt6 srt
    refine ⟨y3, box, rs6, rfl, hA6', rok, srt.nodup, by omega, fun J2 gf sf hgf => ?_⟩
    refine ⟨.ref x, rfl, x, box, rs6, rfl, (hAj.same sj1).same sf, rok, srt.nodup, by omega, fun J3 gg sg hgg => ?_⟩
    have shG : SeqAt.shaped (groupsD (runG (pairsG rs6))) = true := (strs_shaped fun l hl y hy => nmok y (in_groups hl hy)).1
    refine ⟨groupsD (runG (pairsG rs6)), groupsD (runG (pairsG rs6)), dp_same sg _ _ hgf, hgg, shG, shG, ?_⟩
    rw [SeqAt.eqv_refl _ (SeqAt.canLay_of_shaped shG)]
    exact q _
--@@SPLIT
end
theorem all_mk {l : PySem.W.OpenLaw} {w : World} {K : PySem.W.Frag} {h : Heap} {mg : Str → Option Value} {fa : Addr} (X : K.In h) (G : h.Ns mainGlobals mg) (hfa : mg "law" = some (.ref fa))
    {f_Atlas : Addr}
    {f_is_whole : Addr} {od_is_whole an_is_whole : Option Addr} {sl_is_whole : Array (Option Value)} {oc_is_whole kV_is_whole dc_is_whole pm_is_whole cd_is_whole ct_is_whole : Value}
    {f_is_row : Addr} {od_is_row an_is_row : Option Addr} {sl_is_row : Array (Option Value)} {oc_is_row kV_is_row dc_is_row pm_is_row cd_is_row ct_is_row : Value}
    {f_is_letter : Addr} {od_is_letter an_is_letter : Option Addr} {sl_is_letter : Array (Option Value)} {oc_is_letter kV_is_letter dc_is_letter pm_is_letter cd_is_letter ct_is_letter : Value}
    {f_step : Addr} {od_step an_step : Option Addr} {sl_step : Array (Option Value)} {oc_step kV_step dc_step pm_step cd_step ct_step : Value}
    {f_way_of : Addr} {od_way_of an_way_of : Option Addr} {sl_way_of : Array (Option Value)} {oc_way_of kV_way_of dc_way_of pm_way_of cd_way_of ct_way_of : Value}
    {f_is_lot : Addr} {od_is_lot an_is_lot : Option Addr} {sl_is_lot : Array (Option Value)} {oc_is_lot kV_is_lot dc_is_lot pm_is_lot cd_is_lot ct_is_lot : Value}
    {f_refuse_unless_lot : Addr} {od_refuse_unless_lot an_refuse_unless_lot : Option Addr} {sl_refuse_unless_lot : Array (Option Value)} {oc_refuse_unless_lot kV_refuse_unless_lot dc_refuse_unless_lot pm_refuse_unless_lot cd_refuse_unless_lot ct_refuse_unless_lot : Value}
    {f_mirrors : Addr} {od_mirrors an_mirrors : Option Addr} {sl_mirrors : Array (Option Value)} {oc_mirrors kV_mirrors dc_mirrors pm_mirrors cd_mirrors ct_mirrors : Value}
    {f_true : Addr} {od_true an_true : Option Addr} {sl_true : Array (Option Value)} {oc_true kV_true dc_true pm_true cd_true ct_true : Value}
    {f_is_short_text : Addr} {od_is_short_text an_is_short_text : Option Addr} {sl_is_short_text : Array (Option Value)} {oc_is_short_text kV_is_short_text dc_is_short_text pm_is_short_text cd_is_short_text ct_is_short_text : Value}
    {f_are_small : Addr} {od_are_small an_are_small : Option Addr} {sl_are_small : Array (Option Value)} {oc_are_small kV_are_small dc_are_small pm_are_small cd_are_small ct_are_small : Value}
    {f_is_name : Addr} {od_is_name an_is_name : Option Addr} {sl_is_name : Array (Option Value)} {oc_is_name kV_is_name dc_is_name pm_is_name cd_is_name ct_is_name : Value}
    {f_is_lone : Addr} {od_is_lone an_is_lone : Option Addr} {sl_is_lone : Array (Option Value)} {oc_is_lone kV_is_lone dc_is_lone pm_is_lone cd_is_lone ct_is_lone : Value}
    {f_is_sign : Addr} {od_is_sign an_is_sign : Option Addr} {sl_is_sign : Array (Option Value)} {oc_is_sign kV_is_sign dc_is_sign pm_is_sign cd_is_sign ct_is_sign : Value}
    {f_is_many : Addr} {od_is_many an_is_many : Option Addr} {sl_is_many : Array (Option Value)} {oc_is_many kV_is_many dc_is_many pm_is_many cd_is_many ct_is_many : Value}
    {f_is_pair_entry : Addr} {od_is_pair_entry an_is_pair_entry : Option Addr} {sl_is_pair_entry : Array (Option Value)} {oc_is_pair_entry kV_is_pair_entry dc_is_pair_entry pm_is_pair_entry cd_is_pair_entry ct_is_pair_entry : Value}
    {f_is_entry : Addr} {od_is_entry an_is_entry : Option Addr} {sl_is_entry : Array (Option Value)} {oc_is_entry kV_is_entry dc_is_entry pm_is_entry cd_is_entry ct_is_entry : Value}
    {f_held_log : Addr} {od_held_log an_held_log : Option Addr} {sl_held_log : Array (Option Value)} {oc_held_log kV_held_log dc_held_log pm_held_log cd_held_log ct_held_log : Value}
    {f_legs_in : Addr} {od_legs_in an_legs_in : Option Addr} {sl_legs_in : Array (Option Value)} {oc_legs_in kV_legs_in dc_legs_in pm_legs_in cd_legs_in ct_legs_in : Value}
    {f_refuse_unless_lots : Addr} {od_refuse_unless_lots an_refuse_unless_lots : Option Addr} {sl_refuse_unless_lots : Array (Option Value)} {oc_refuse_unless_lots kV_refuse_unless_lots dc_refuse_unless_lots pm_refuse_unless_lots cd_refuse_unless_lots ct_refuse_unless_lots : Value}
    {f_gone : Addr} {od_gone an_gone : Option Addr} {sl_gone : Array (Option Value)} {oc_gone kV_gone dc_gone pm_gone cd_gone ct_gone : Value}
    {f_look_behind : Addr} {od_look_behind an_look_behind : Option Addr} {sl_look_behind : Array (Option Value)} {oc_look_behind kV_look_behind dc_look_behind pm_look_behind cd_look_behind ct_look_behind : Value}
    {f_track : Addr} {od_track an_track : Option Addr} {sl_track : Array (Option Value)} {oc_track kV_track dc_track pm_track cd_track ct_track : Value}
    {f_way_fact : Addr} {od_way_fact an_way_fact : Option Addr} {sl_way_fact : Array (Option Value)} {oc_way_fact kV_way_fact dc_way_fact pm_way_fact cd_way_fact ct_way_fact : Value}
    {f_facts_of_entry : Addr} {od_facts_of_entry an_facts_of_entry : Option Addr} {sl_facts_of_entry : Array (Option Value)} {oc_facts_of_entry kV_facts_of_entry dc_facts_of_entry pm_facts_of_entry cd_facts_of_entry ct_facts_of_entry : Value}
    {f_facts : Addr} {od_facts an_facts : Option Addr} {sl_facts : Array (Option Value)} {oc_facts kV_facts dc_facts pm_facts cd_facts ct_facts : Value}
    {f_held_box : Addr} {od_held_box an_held_box : Option Addr} {sl_held_box : Array (Option Value)} {oc_held_box kV_held_box dc_held_box pm_held_box cd_held_box ct_held_box : Value}
    {f_held_log_of : Addr} {od_held_log_of an_held_log_of : Option Addr} {sl_held_log_of : Array (Option Value)} {oc_held_log_of kV_held_log_of dc_held_log_of pm_held_log_of cd_held_log_of ct_held_log_of : Value}
    {f_lots_left_in : Addr} {od_lots_left_in an_lots_left_in : Option Addr} {sl_lots_left_in : Array (Option Value)} {oc_lots_left_in kV_lots_left_in dc_lots_left_in pm_lots_left_in cd_lots_left_in ct_lots_left_in : Value}
    {f_first_not_dealt : Addr} {od_first_not_dealt an_first_not_dealt : Option Addr} {sl_first_not_dealt : Array (Option Value)} {oc_first_not_dealt kV_first_not_dealt dc_first_not_dealt pm_first_not_dealt cd_first_not_dealt ct_first_not_dealt : Value}
    {f_refuse_unless_dealt : Addr} {od_refuse_unless_dealt an_refuse_unless_dealt : Option Addr} {sl_refuse_unless_dealt : Array (Option Value)} {oc_refuse_unless_dealt kV_refuse_unless_dealt dc_refuse_unless_dealt pm_refuse_unless_dealt cd_refuse_unless_dealt ct_refuse_unless_dealt : Value}
    {f_is_dealt : Addr} {od_is_dealt an_is_dealt : Option Addr} {sl_is_dealt : Array (Option Value)} {oc_is_dealt kV_is_dealt dc_is_dealt pm_is_dealt cd_is_dealt ct_is_dealt : Value}
    {f_told : Addr} {od_told an_told : Option Addr} {sl_told : Array (Option Value)} {oc_told kV_told dc_told pm_told cd_told ct_told : Value}
    {f_lone_signs : Addr} {od_lone_signs an_lone_signs : Option Addr} {sl_lone_signs : Array (Option Value)} {oc_lone_signs kV_lone_signs dc_lone_signs pm_lone_signs cd_lone_signs ct_lone_signs : Value}
    {f_groups : Addr} {od_groups an_groups : Option Addr} {sl_groups : Array (Option Value)} {oc_groups kV_groups dc_groups pm_groups cd_groups ct_groups : Value}
    {f_Lpool : Addr} {od_Lpool an_Lpool : Option Addr} {sl_Lpool : Array (Option Value)} {oc_Lpool kV_Lpool dc_Lpool pm_Lpool cd_Lpool ct_Lpool : Value}
    {f_Ltake : Addr} {od_Ltake an_Ltake : Option Addr} {sl_Ltake : Array (Option Value)} {oc_Ltake kV_Ltake dc_Ltake pm_Ltake cd_Ltake ct_Ltake : Value}
    {f_Lmix : Addr} {od_Lmix an_Lmix : Option Addr} {sl_Lmix : Array (Option Value)} {oc_Lmix kV_Lmix dc_Lmix pm_Lmix cd_Lmix ct_Lmix : Value}
    {f_Ltrue : Addr} {od_Ltrue an_Ltrue : Option Addr} {sl_Ltrue : Array (Option Value)} {oc_Ltrue kV_Ltrue dc_Ltrue pm_Ltrue cd_Ltrue ct_Ltrue : Value}
    {f_Loff : Addr} {od_Loff an_Loff : Option Addr} {sl_Loff : Array (Option Value)} {oc_Loff kV_Loff dc_Loff pm_Loff cd_Loff ct_Loff : Value}
    {f_Lside : Addr} {od_Lside an_Lside : Option Addr} {sl_Lside : Array (Option Value)} {oc_Lside kV_Lside dc_Lside pm_Lside cd_Lside ct_Lside : Value}
    {f_Lname : Addr} {od_Lname an_Lname : Option Addr} {sl_Lname : Array (Option Value)} {oc_Lname kV_Lname dc_Lname pm_Lname cd_Lname ct_Lname : Value}
    {f_Lnames : Addr} {od_Lnames an_Lnames : Option Addr} {sl_Lnames : Array (Option Value)} {oc_Lnames kV_Lnames dc_Lnames pm_Lnames cd_Lnames ct_Lnames : Value}
    {f_Lland : Addr} {od_Lland an_Lland : Option Addr} {sl_Lland : Array (Option Value)} {oc_Lland kV_Lland dc_Lland pm_Lland cd_Lland ct_Lland : Value}
    {f_Lentry : Addr} {od_Lentry an_Lentry : Option Addr} {sl_Lentry : Array (Option Value)} {oc_Lentry kV_Lentry dc_Lentry pm_Lentry cd_Lentry ct_Lentry : Value}
    {f_Lwritten : Addr} {od_Lwritten an_Lwritten : Option Addr} {sl_Lwritten : Array (Option Value)} {oc_Lwritten kV_Lwritten dc_Lwritten pm_Lwritten cd_Lwritten ct_Lwritten : Value}
    {f_Lworld : Addr} {od_Lworld an_Lworld : Option Addr} {sl_Lworld : Array (Option Value)} {oc_Lworld kV_Lworld dc_Lworld pm_Lworld cd_Lworld ct_Lworld : Value}
    {f_Lsigns : Addr} {od_Lsigns an_Lsigns : Option Addr} {sl_Lsigns : Array (Option Value)} {oc_Lsigns kV_Lsigns dc_Lsigns pm_Lsigns cd_Lsigns ct_Lsigns : Value}
    {f_Lflat : Addr} {od_Lflat an_Lflat : Option Addr} {sl_Lflat : Array (Option Value)} {oc_Lflat kV_Lflat dc_Lflat pm_Lflat cd_Lflat ct_Lflat : Value}
    {f_Lcalled : Addr} {od_Lcalled an_Lcalled : Option Addr} {sl_Lcalled : Array (Option Value)} {oc_Lcalled kV_Lcalled dc_Lcalled pm_Lcalled cd_Lcalled ct_Lcalled : Value}
    {f_law : Addr} {od_law an_law : Option Addr} {sl_law : Array (Option Value)} {oc_law kV_law dc_law pm_law cd_law ct_law : Value}
    {f_Atlas_init : Addr} {od_Atlas_init an_Atlas_init : Option Addr} {sl_Atlas_init : Array (Option Value)} {oc_Atlas_init kV_Atlas_init dc_Atlas_init pm_Atlas_init cd_Atlas_init ct_Atlas_init : Value}
    {q_Atlas_init e_Atlas_init : Addr} {dd_Atlas_init de_Atlas_init : Option Addr} {sq_Atlas_init se_Atlas_init : Array (Option Value)} {nq_Atlas_init ne_Atlas_init : Nat}
    {f_Atlas_log : Addr} {od_Atlas_log an_Atlas_log : Option Addr} {sl_Atlas_log : Array (Option Value)} {oc_Atlas_log kV_Atlas_log dc_Atlas_log pm_Atlas_log cd_Atlas_log ct_Atlas_log : Value}
    {f_Atlas_legs : Addr} {od_Atlas_legs an_Atlas_legs : Option Addr} {sl_Atlas_legs : Array (Option Value)} {oc_Atlas_legs kV_Atlas_legs dc_Atlas_legs pm_Atlas_legs cd_Atlas_legs ct_Atlas_legs : Value}
    {f_Atlas_with_log : Addr} {od_Atlas_with_log an_Atlas_with_log : Option Addr} {sl_Atlas_with_log : Array (Option Value)} {oc_Atlas_with_log kV_Atlas_with_log dc_Atlas_with_log pm_Atlas_with_log cd_Atlas_with_log ct_Atlas_with_log : Value}
    {f_Atlas_without : Addr} {od_Atlas_without an_Atlas_without : Option Addr} {sl_Atlas_without : Array (Option Value)} {oc_Atlas_without kV_Atlas_without dc_Atlas_without pm_Atlas_without cd_Atlas_without ct_Atlas_without : Value}
    {f_Atlas_len : Addr} {od_Atlas_len an_Atlas_len : Option Addr} {sl_Atlas_len : Array (Option Value)} {oc_Atlas_len kV_Atlas_len dc_Atlas_len pm_Atlas_len cd_Atlas_len ct_Atlas_len : Value}
    {t_LETTERS : Tok}
    {f_STEPS : Addr}
    {es_STEPS : Array DictEntry} {n_STEPS : Nat}
    
    
    
    {q_STEPS_0 : Addr}
    {dd_STEPS_0 : Option Addr} {sl_STEPS_0 : Array (Option Value)} {nn_STEPS_0 : Nat} {tk_STEPS_0_0 : Tok} {tk_STEPS_0_1 : Tok}
    {q_STEPS_1 : Addr}
    {dd_STEPS_1 : Option Addr} {sl_STEPS_1 : Array (Option Value)} {nn_STEPS_1 : Nat} {tk_STEPS_1_0 : Tok} {tk_STEPS_1_1 : Tok}
    {q_STEPS_2 : Addr}
    {dd_STEPS_2 : Option Addr} {sl_STEPS_2 : Array (Option Value)} {nn_STEPS_2 : Nat} {tk_STEPS_2_0 : Tok} {tk_STEPS_2_1 : Tok}
    {q_STEPS_3 : Addr}
    {dd_STEPS_3 : Option Addr} {sl_STEPS_3 : Array (Option Value)} {nn_STEPS_3 : Nat} {tk_STEPS_3_0 : Tok} {tk_STEPS_3_1 : Tok}
    {t_SMALL : Tok}
    {t_GREAT : Tok}
    {t_LONGEST : Tok}
    {f_WORDS_ALONE : Addr}
    {dd_WORDS_ALONE : Option Addr} {sl_WORDS_ALONE : Array (Option Value)} {nn_WORDS_ALONE : Nat} {tk_WORDS_ALONE_0 : Tok} {tk_WORDS_ALONE_1 : Tok} {tk_WORDS_ALONE_2 : Tok} {tk_WORDS_ALONE_3 : Tok} {tk_WORDS_ALONE_4 : Tok} {tk_WORDS_ALONE_5 : Tok}
    {f_WORDS_BEHIND_A_FACE : Addr}
    {dd_WORDS_BEHIND_A_FACE : Option Addr} {sl_WORDS_BEHIND_A_FACE : Array (Option Value)} {nn_WORDS_BEHIND_A_FACE : Nat} {tk_WORDS_BEHIND_A_FACE_0 : Tok} {tk_WORDS_BEHIND_A_FACE_1 : Tok} {tk_WORDS_BEHIND_A_FACE_2 : Tok} {tk_WORDS_BEHIND_A_FACE_3 : Tok} {tk_WORDS_BEHIND_A_FACE_4 : Tok} {tk_WORDS_BEHIND_A_FACE_5 : Tok}
    {f_QUARTERS : Addr}
    {es_QUARTERS : Array DictEntry} {n_QUARTERS : Nat}
    
    
    
    {tk_QUARTERS_0 : Tok}
    {tk_QUARTERS_1 : Tok}
    {tk_QUARTERS_2 : Tok}
    {f_START : Addr}
    {tk_START_1 : Tok}
    {dd_START : Option Addr} {sl_START : Array (Option Value)} {nn_START : Nat}
    {q_START_0 : Addr} {dd_START_0 : Option Addr} {sl_START_0 : Array (Option Value)} {nn_START_0 : Nat} {tk_START_0_0 : Tok} {tk_START_0_1 : Tok}
    {t_HOW_MANY_LOTS : Tok}
    (A_Atlas : PySem.W.nsIn K mainGlobals "Atlas" = some (some (.ref f_Atlas))) (pg_Atlas : PySem.W.plainGet K f_Atlas Str.empty = true) (hd_Atlas : PySem.W.hasDictIn K f_Atlas = true) (po_Atlas : PySem.W.plainOver K f_Atlas = true) (sa_Atlas : PySem.W.findIn K (.ref f_Atlas) "__setattr__" = some (some (.builtin "object.__setattr__"))) (mk_Atlas : PySem.W.makesIn K f_Atlas = true) (kc_Atlas : PySem.W.keepIn K (.ref f_Atlas) = true)
    (nf_Atlas_box : PySem.W.findIn K (.ref f_Atlas) "box" = some none)
    (nf_Atlas_names : PySem.W.findIn K (.ref f_Atlas) "names" = some none)
    (nf_Atlas_logs : PySem.W.findIn K (.ref f_Atlas) "logs" = some none)
    (A_is_whole : PySem.W.nsIn K mainGlobals "is_whole" = some (some (.ref f_is_whole))) (L_is_whole : K.lookup f_is_whole = some ⟨oc_is_whole, od_is_whole, .func (PySem.W.fnOf "is_whole" "is_whole" (defArgs s_is_whole) (defBody s_is_whole) (defScope s_is_whole) .none kV_is_whole dc_is_whole pm_is_whole an_is_whole cd_is_whole ct_is_whole), sl_is_whole⟩) (C_is_whole : PySem.W.codeIn K cd_is_whole "is_whole" = true) (K_is_whole : PySem.W.keepIn K (.ref f_is_whole) = true)
    (A_is_row : PySem.W.nsIn K mainGlobals "is_row" = some (some (.ref f_is_row))) (L_is_row : K.lookup f_is_row = some ⟨oc_is_row, od_is_row, .func (PySem.W.fnOf "is_row" "is_row" (defArgs s_is_row) (defBody s_is_row) (defScope s_is_row) .none kV_is_row dc_is_row pm_is_row an_is_row cd_is_row ct_is_row), sl_is_row⟩) (C_is_row : PySem.W.codeIn K cd_is_row "is_row" = true) (K_is_row : PySem.W.keepIn K (.ref f_is_row) = true)
    (A_is_letter : PySem.W.nsIn K mainGlobals "is_letter" = some (some (.ref f_is_letter))) (L_is_letter : K.lookup f_is_letter = some ⟨oc_is_letter, od_is_letter, .func (PySem.W.fnOf "is_letter" "is_letter" (defArgs s_is_letter) (defBody s_is_letter) (defScope s_is_letter) .none kV_is_letter dc_is_letter pm_is_letter an_is_letter cd_is_letter ct_is_letter), sl_is_letter⟩) (C_is_letter : PySem.W.codeIn K cd_is_letter "is_letter" = true) (K_is_letter : PySem.W.keepIn K (.ref f_is_letter) = true)
    (A_step : PySem.W.nsIn K mainGlobals "step" = some (some (.ref f_step))) (L_step : K.lookup f_step = some ⟨oc_step, od_step, .func (PySem.W.fnOf "step" "step" (defArgs s_step) (defBody s_step) (defScope s_step) .none kV_step dc_step pm_step an_step cd_step ct_step), sl_step⟩) (C_step : PySem.W.codeIn K cd_step "step" = true) (K_step : PySem.W.keepIn K (.ref f_step) = true)
    (A_way_of : PySem.W.nsIn K mainGlobals "way_of" = some (some (.ref f_way_of))) (L_way_of : K.lookup f_way_of = some ⟨oc_way_of, od_way_of, .func (PySem.W.fnOf "way_of" "way_of" (defArgs s_way_of) (defBody s_way_of) (defScope s_way_of) .none kV_way_of dc_way_of pm_way_of an_way_of cd_way_of ct_way_of), sl_way_of⟩) (C_way_of : PySem.W.codeIn K cd_way_of "way_of" = true) (K_way_of : PySem.W.keepIn K (.ref f_way_of) = true)
    (A_is_lot : PySem.W.nsIn K mainGlobals "is_lot" = some (some (.ref f_is_lot))) (L_is_lot : K.lookup f_is_lot = some ⟨oc_is_lot, od_is_lot, .func (PySem.W.fnOf "is_lot" "is_lot" (defArgs s_is_lot) (defBody s_is_lot) (defScope s_is_lot) .none kV_is_lot dc_is_lot pm_is_lot an_is_lot cd_is_lot ct_is_lot), sl_is_lot⟩) (C_is_lot : PySem.W.codeIn K cd_is_lot "is_lot" = true) (K_is_lot : PySem.W.keepIn K (.ref f_is_lot) = true)
    (A_refuse_unless_lot : PySem.W.nsIn K mainGlobals "refuse_unless_lot" = some (some (.ref f_refuse_unless_lot))) (L_refuse_unless_lot : K.lookup f_refuse_unless_lot = some ⟨oc_refuse_unless_lot, od_refuse_unless_lot, .func (PySem.W.fnOf "refuse_unless_lot" "refuse_unless_lot" (defArgs s_refuse_unless_lot) (defBody s_refuse_unless_lot) (defScope s_refuse_unless_lot) .none kV_refuse_unless_lot dc_refuse_unless_lot pm_refuse_unless_lot an_refuse_unless_lot cd_refuse_unless_lot ct_refuse_unless_lot), sl_refuse_unless_lot⟩) (C_refuse_unless_lot : PySem.W.codeIn K cd_refuse_unless_lot "refuse_unless_lot" = true) (K_refuse_unless_lot : PySem.W.keepIn K (.ref f_refuse_unless_lot) = true)
    (A_mirrors : PySem.W.nsIn K mainGlobals "mirrors" = some (some (.ref f_mirrors))) (L_mirrors : K.lookup f_mirrors = some ⟨oc_mirrors, od_mirrors, .func (PySem.W.fnOf "mirrors" "mirrors" (defArgs s_mirrors) (defBody s_mirrors) (defScope s_mirrors) .none kV_mirrors dc_mirrors pm_mirrors an_mirrors cd_mirrors ct_mirrors), sl_mirrors⟩) (C_mirrors : PySem.W.codeIn K cd_mirrors "mirrors" = true) (K_mirrors : PySem.W.keepIn K (.ref f_mirrors) = true)
    (A_true : PySem.W.nsIn K mainGlobals "true" = some (some (.ref f_true))) (L_true : K.lookup f_true = some ⟨oc_true, od_true, .func (PySem.W.fnOf "true" "true" (defArgs s_true) (defBody s_true) (defScope s_true) .none kV_true dc_true pm_true an_true cd_true ct_true), sl_true⟩) (C_true : PySem.W.codeIn K cd_true "true" = true) (K_true : PySem.W.keepIn K (.ref f_true) = true)
    (A_is_short_text : PySem.W.nsIn K mainGlobals "is_short_text" = some (some (.ref f_is_short_text))) (L_is_short_text : K.lookup f_is_short_text = some ⟨oc_is_short_text, od_is_short_text, .func (PySem.W.fnOf "is_short_text" "is_short_text" (defArgs s_is_short_text) (defBody s_is_short_text) (defScope s_is_short_text) .none kV_is_short_text dc_is_short_text pm_is_short_text an_is_short_text cd_is_short_text ct_is_short_text), sl_is_short_text⟩) (C_is_short_text : PySem.W.codeIn K cd_is_short_text "is_short_text" = true) (K_is_short_text : PySem.W.keepIn K (.ref f_is_short_text) = true)
    (A_are_small : PySem.W.nsIn K mainGlobals "are_small" = some (some (.ref f_are_small))) (L_are_small : K.lookup f_are_small = some ⟨oc_are_small, od_are_small, .func (PySem.W.fnOf "are_small" "are_small" (defArgs s_are_small) (defBody s_are_small) (defScope s_are_small) .none kV_are_small dc_are_small pm_are_small an_are_small cd_are_small ct_are_small), sl_are_small⟩) (C_are_small : PySem.W.codeIn K cd_are_small "are_small" = true) (K_are_small : PySem.W.keepIn K (.ref f_are_small) = true)
    (A_is_name : PySem.W.nsIn K mainGlobals "is_name" = some (some (.ref f_is_name))) (L_is_name : K.lookup f_is_name = some ⟨oc_is_name, od_is_name, .func (PySem.W.fnOf "is_name" "is_name" (defArgs s_is_name) (defBody s_is_name) (defScope s_is_name) .none kV_is_name dc_is_name pm_is_name an_is_name cd_is_name ct_is_name), sl_is_name⟩) (C_is_name : PySem.W.codeIn K cd_is_name "is_name" = true) (K_is_name : PySem.W.keepIn K (.ref f_is_name) = true)
    (A_is_lone : PySem.W.nsIn K mainGlobals "is_lone" = some (some (.ref f_is_lone))) (L_is_lone : K.lookup f_is_lone = some ⟨oc_is_lone, od_is_lone, .func (PySem.W.fnOf "is_lone" "is_lone" (defArgs s_is_lone) (defBody s_is_lone) (defScope s_is_lone) .none kV_is_lone dc_is_lone pm_is_lone an_is_lone cd_is_lone ct_is_lone), sl_is_lone⟩) (C_is_lone : PySem.W.codeIn K cd_is_lone "is_lone" = true) (K_is_lone : PySem.W.keepIn K (.ref f_is_lone) = true)
    (A_is_sign : PySem.W.nsIn K mainGlobals "is_sign" = some (some (.ref f_is_sign))) (L_is_sign : K.lookup f_is_sign = some ⟨oc_is_sign, od_is_sign, .func (PySem.W.fnOf "is_sign" "is_sign" (defArgs s_is_sign) (defBody s_is_sign) (defScope s_is_sign) .none kV_is_sign dc_is_sign pm_is_sign an_is_sign cd_is_sign ct_is_sign), sl_is_sign⟩) (C_is_sign : PySem.W.codeIn K cd_is_sign "is_sign" = true) (K_is_sign : PySem.W.keepIn K (.ref f_is_sign) = true)
    (A_is_many : PySem.W.nsIn K mainGlobals "is_many" = some (some (.ref f_is_many))) (L_is_many : K.lookup f_is_many = some ⟨oc_is_many, od_is_many, .func (PySem.W.fnOf "is_many" "is_many" (defArgs s_is_many) (defBody s_is_many) (defScope s_is_many) .none kV_is_many dc_is_many pm_is_many an_is_many cd_is_many ct_is_many), sl_is_many⟩) (C_is_many : PySem.W.codeIn K cd_is_many "is_many" = true) (K_is_many : PySem.W.keepIn K (.ref f_is_many) = true)
    (A_is_pair_entry : PySem.W.nsIn K mainGlobals "is_pair_entry" = some (some (.ref f_is_pair_entry))) (L_is_pair_entry : K.lookup f_is_pair_entry = some ⟨oc_is_pair_entry, od_is_pair_entry, .func (PySem.W.fnOf "is_pair_entry" "is_pair_entry" (defArgs s_is_pair_entry) (defBody s_is_pair_entry) (defScope s_is_pair_entry) .none kV_is_pair_entry dc_is_pair_entry pm_is_pair_entry an_is_pair_entry cd_is_pair_entry ct_is_pair_entry), sl_is_pair_entry⟩) (C_is_pair_entry : PySem.W.codeIn K cd_is_pair_entry "is_pair_entry" = true) (K_is_pair_entry : PySem.W.keepIn K (.ref f_is_pair_entry) = true)
    (A_is_entry : PySem.W.nsIn K mainGlobals "is_entry" = some (some (.ref f_is_entry))) (L_is_entry : K.lookup f_is_entry = some ⟨oc_is_entry, od_is_entry, .func (PySem.W.fnOf "is_entry" "is_entry" (defArgs s_is_entry) (defBody s_is_entry) (defScope s_is_entry) .none kV_is_entry dc_is_entry pm_is_entry an_is_entry cd_is_entry ct_is_entry), sl_is_entry⟩) (C_is_entry : PySem.W.codeIn K cd_is_entry "is_entry" = true) (K_is_entry : PySem.W.keepIn K (.ref f_is_entry) = true)
    (A_held_log : PySem.W.nsIn K mainGlobals "held_log" = some (some (.ref f_held_log))) (L_held_log : K.lookup f_held_log = some ⟨oc_held_log, od_held_log, .func (PySem.W.fnOf "held_log" "held_log" (defArgs s_held_log) (defBody s_held_log) (defScope s_held_log) .none kV_held_log dc_held_log pm_held_log an_held_log cd_held_log ct_held_log), sl_held_log⟩) (C_held_log : PySem.W.codeIn K cd_held_log "held_log" = true) (K_held_log : PySem.W.keepIn K (.ref f_held_log) = true)
    (A_legs_in : PySem.W.nsIn K mainGlobals "legs_in" = some (some (.ref f_legs_in))) (L_legs_in : K.lookup f_legs_in = some ⟨oc_legs_in, od_legs_in, .func (PySem.W.fnOf "legs_in" "legs_in" (defArgs s_legs_in) (defBody s_legs_in) (defScope s_legs_in) .none kV_legs_in dc_legs_in pm_legs_in an_legs_in cd_legs_in ct_legs_in), sl_legs_in⟩) (C_legs_in : PySem.W.codeIn K cd_legs_in "legs_in" = true) (K_legs_in : PySem.W.keepIn K (.ref f_legs_in) = true)
    (A_refuse_unless_lots : PySem.W.nsIn K mainGlobals "refuse_unless_lots" = some (some (.ref f_refuse_unless_lots))) (L_refuse_unless_lots : K.lookup f_refuse_unless_lots = some ⟨oc_refuse_unless_lots, od_refuse_unless_lots, .func (PySem.W.fnOf "refuse_unless_lots" "refuse_unless_lots" (defArgs s_refuse_unless_lots) (defBody s_refuse_unless_lots) (defScope s_refuse_unless_lots) .none kV_refuse_unless_lots dc_refuse_unless_lots pm_refuse_unless_lots an_refuse_unless_lots cd_refuse_unless_lots ct_refuse_unless_lots), sl_refuse_unless_lots⟩) (C_refuse_unless_lots : PySem.W.codeIn K cd_refuse_unless_lots "refuse_unless_lots" = true) (K_refuse_unless_lots : PySem.W.keepIn K (.ref f_refuse_unless_lots) = true)
    (A_gone : PySem.W.nsIn K mainGlobals "gone" = some (some (.ref f_gone))) (L_gone : K.lookup f_gone = some ⟨oc_gone, od_gone, .func (PySem.W.fnOf "gone" "gone" (defArgs s_gone) (defBody s_gone) (defScope s_gone) .none kV_gone dc_gone pm_gone an_gone cd_gone ct_gone), sl_gone⟩) (C_gone : PySem.W.codeIn K cd_gone "gone" = true) (K_gone : PySem.W.keepIn K (.ref f_gone) = true)
    (A_look_behind : PySem.W.nsIn K mainGlobals "look_behind" = some (some (.ref f_look_behind))) (L_look_behind : K.lookup f_look_behind = some ⟨oc_look_behind, od_look_behind, .func (PySem.W.fnOf "look_behind" "look_behind" (defArgs s_look_behind) (defBody s_look_behind) (defScope s_look_behind) .none kV_look_behind dc_look_behind pm_look_behind an_look_behind cd_look_behind ct_look_behind), sl_look_behind⟩) (C_look_behind : PySem.W.codeIn K cd_look_behind "look_behind" = true) (K_look_behind : PySem.W.keepIn K (.ref f_look_behind) = true)
    (A_track : PySem.W.nsIn K mainGlobals "track" = some (some (.ref f_track))) (L_track : K.lookup f_track = some ⟨oc_track, od_track, .func (PySem.W.fnOf "track" "track" (defArgs s_track) (defBody s_track) (defScope s_track) .none kV_track dc_track pm_track an_track cd_track ct_track), sl_track⟩) (C_track : PySem.W.codeIn K cd_track "track" = true) (K_track : PySem.W.keepIn K (.ref f_track) = true)
    (A_way_fact : PySem.W.nsIn K mainGlobals "way_fact" = some (some (.ref f_way_fact))) (L_way_fact : K.lookup f_way_fact = some ⟨oc_way_fact, od_way_fact, .func (PySem.W.fnOf "way_fact" "way_fact" (defArgs s_way_fact) (defBody s_way_fact) (defScope s_way_fact) .none kV_way_fact dc_way_fact pm_way_fact an_way_fact cd_way_fact ct_way_fact), sl_way_fact⟩) (C_way_fact : PySem.W.codeIn K cd_way_fact "way_fact" = true) (K_way_fact : PySem.W.keepIn K (.ref f_way_fact) = true)
    (A_facts_of_entry : PySem.W.nsIn K mainGlobals "facts_of_entry" = some (some (.ref f_facts_of_entry))) (L_facts_of_entry : K.lookup f_facts_of_entry = some ⟨oc_facts_of_entry, od_facts_of_entry, .func (PySem.W.fnOf "facts_of_entry" "facts_of_entry" (defArgs s_facts_of_entry) (defBody s_facts_of_entry) (defScope s_facts_of_entry) .none kV_facts_of_entry dc_facts_of_entry pm_facts_of_entry an_facts_of_entry cd_facts_of_entry ct_facts_of_entry), sl_facts_of_entry⟩) (C_facts_of_entry : PySem.W.codeIn K cd_facts_of_entry "facts_of_entry" = true) (K_facts_of_entry : PySem.W.keepIn K (.ref f_facts_of_entry) = true)
    (A_facts : PySem.W.nsIn K mainGlobals "facts" = some (some (.ref f_facts))) (L_facts : K.lookup f_facts = some ⟨oc_facts, od_facts, .func (PySem.W.fnOf "facts" "facts" (defArgs s_facts) (defBody s_facts) (defScope s_facts) .none kV_facts dc_facts pm_facts an_facts cd_facts ct_facts), sl_facts⟩) (C_facts : PySem.W.codeIn K cd_facts "facts" = true) (K_facts : PySem.W.keepIn K (.ref f_facts) = true)
    (A_held_box : PySem.W.nsIn K mainGlobals "held_box" = some (some (.ref f_held_box))) (L_held_box : K.lookup f_held_box = some ⟨oc_held_box, od_held_box, .func (PySem.W.fnOf "held_box" "held_box" (defArgs s_held_box) (defBody s_held_box) (defScope s_held_box) .none kV_held_box dc_held_box pm_held_box an_held_box cd_held_box ct_held_box), sl_held_box⟩) (C_held_box : PySem.W.codeIn K cd_held_box "held_box" = true) (K_held_box : PySem.W.keepIn K (.ref f_held_box) = true)
    (A_held_log_of : PySem.W.nsIn K mainGlobals "held_log_of" = some (some (.ref f_held_log_of))) (L_held_log_of : K.lookup f_held_log_of = some ⟨oc_held_log_of, od_held_log_of, .func (PySem.W.fnOf "held_log_of" "held_log_of" (defArgs s_held_log_of) (defBody s_held_log_of) (defScope s_held_log_of) .none kV_held_log_of dc_held_log_of pm_held_log_of an_held_log_of cd_held_log_of ct_held_log_of), sl_held_log_of⟩) (C_held_log_of : PySem.W.codeIn K cd_held_log_of "held_log_of" = true) (K_held_log_of : PySem.W.keepIn K (.ref f_held_log_of) = true)
    (A_lots_left_in : PySem.W.nsIn K mainGlobals "lots_left_in" = some (some (.ref f_lots_left_in))) (L_lots_left_in : K.lookup f_lots_left_in = some ⟨oc_lots_left_in, od_lots_left_in, .func (PySem.W.fnOf "lots_left_in" "lots_left_in" (defArgs s_lots_left_in) (defBody s_lots_left_in) (defScope s_lots_left_in) .none kV_lots_left_in dc_lots_left_in pm_lots_left_in an_lots_left_in cd_lots_left_in ct_lots_left_in), sl_lots_left_in⟩) (C_lots_left_in : PySem.W.codeIn K cd_lots_left_in "lots_left_in" = true) (K_lots_left_in : PySem.W.keepIn K (.ref f_lots_left_in) = true)
    (A_first_not_dealt : PySem.W.nsIn K mainGlobals "first_not_dealt" = some (some (.ref f_first_not_dealt))) (L_first_not_dealt : K.lookup f_first_not_dealt = some ⟨oc_first_not_dealt, od_first_not_dealt, .func (PySem.W.fnOf "first_not_dealt" "first_not_dealt" (defArgs s_first_not_dealt) (defBody s_first_not_dealt) (defScope s_first_not_dealt) .none kV_first_not_dealt dc_first_not_dealt pm_first_not_dealt an_first_not_dealt cd_first_not_dealt ct_first_not_dealt), sl_first_not_dealt⟩) (C_first_not_dealt : PySem.W.codeIn K cd_first_not_dealt "first_not_dealt" = true) (K_first_not_dealt : PySem.W.keepIn K (.ref f_first_not_dealt) = true)
    (A_refuse_unless_dealt : PySem.W.nsIn K mainGlobals "refuse_unless_dealt" = some (some (.ref f_refuse_unless_dealt))) (L_refuse_unless_dealt : K.lookup f_refuse_unless_dealt = some ⟨oc_refuse_unless_dealt, od_refuse_unless_dealt, .func (PySem.W.fnOf "refuse_unless_dealt" "refuse_unless_dealt" (defArgs s_refuse_unless_dealt) (defBody s_refuse_unless_dealt) (defScope s_refuse_unless_dealt) .none kV_refuse_unless_dealt dc_refuse_unless_dealt pm_refuse_unless_dealt an_refuse_unless_dealt cd_refuse_unless_dealt ct_refuse_unless_dealt), sl_refuse_unless_dealt⟩) (C_refuse_unless_dealt : PySem.W.codeIn K cd_refuse_unless_dealt "refuse_unless_dealt" = true) (K_refuse_unless_dealt : PySem.W.keepIn K (.ref f_refuse_unless_dealt) = true)
    (A_is_dealt : PySem.W.nsIn K mainGlobals "is_dealt" = some (some (.ref f_is_dealt))) (L_is_dealt : K.lookup f_is_dealt = some ⟨oc_is_dealt, od_is_dealt, .func (PySem.W.fnOf "is_dealt" "is_dealt" (defArgs s_is_dealt) (defBody s_is_dealt) (defScope s_is_dealt) .none kV_is_dealt dc_is_dealt pm_is_dealt an_is_dealt cd_is_dealt ct_is_dealt), sl_is_dealt⟩) (C_is_dealt : PySem.W.codeIn K cd_is_dealt "is_dealt" = true) (K_is_dealt : PySem.W.keepIn K (.ref f_is_dealt) = true)
    (A_told : PySem.W.nsIn K mainGlobals "told" = some (some (.ref f_told))) (L_told : K.lookup f_told = some ⟨oc_told, od_told, .func (PySem.W.fnOf "told" "told" (defArgs s_told) (defBody s_told) (defScope s_told) .none kV_told dc_told pm_told an_told cd_told ct_told), sl_told⟩) (C_told : PySem.W.codeIn K cd_told "told" = true) (K_told : PySem.W.keepIn K (.ref f_told) = true)
    (A_lone_signs : PySem.W.nsIn K mainGlobals "lone_signs" = some (some (.ref f_lone_signs))) (L_lone_signs : K.lookup f_lone_signs = some ⟨oc_lone_signs, od_lone_signs, .func (PySem.W.fnOf "lone_signs" "lone_signs" (defArgs s_lone_signs) (defBody s_lone_signs) (defScope s_lone_signs) .none kV_lone_signs dc_lone_signs pm_lone_signs an_lone_signs cd_lone_signs ct_lone_signs), sl_lone_signs⟩) (C_lone_signs : PySem.W.codeIn K cd_lone_signs "lone_signs" = true) (K_lone_signs : PySem.W.keepIn K (.ref f_lone_signs) = true)
    (A_groups : PySem.W.nsIn K mainGlobals "groups" = some (some (.ref f_groups))) (L_groups : K.lookup f_groups = some ⟨oc_groups, od_groups, .func (PySem.W.fnOf "groups" "groups" (defArgs s_groups) (defBody s_groups) (defScope s_groups) .none kV_groups dc_groups pm_groups an_groups cd_groups ct_groups), sl_groups⟩) (C_groups : PySem.W.codeIn K cd_groups "groups" = true) (K_groups : PySem.W.keepIn K (.ref f_groups) = true)
    (A_Lpool : PySem.W.nsIn K mainGlobals "_law_pool" = some (some (.ref f_Lpool))) (L_Lpool : K.lookup f_Lpool = some ⟨oc_Lpool, od_Lpool, .func (PySem.W.fnOf "_law_pool" "_law_pool" (defArgs s_Lpool) (defBody s_Lpool) (defScope s_Lpool) .none kV_Lpool dc_Lpool pm_Lpool an_Lpool cd_Lpool ct_Lpool), sl_Lpool⟩) (C_Lpool : PySem.W.codeIn K cd_Lpool "_law_pool" = true) (K_Lpool : PySem.W.keepIn K (.ref f_Lpool) = true)
    (A_Ltake : PySem.W.nsIn K mainGlobals "_law_take" = some (some (.ref f_Ltake))) (L_Ltake : K.lookup f_Ltake = some ⟨oc_Ltake, od_Ltake, .func (PySem.W.fnOf "_law_take" "_law_take" (defArgs s_Ltake) (defBody s_Ltake) (defScope s_Ltake) .none kV_Ltake dc_Ltake pm_Ltake an_Ltake cd_Ltake ct_Ltake), sl_Ltake⟩) (C_Ltake : PySem.W.codeIn K cd_Ltake "_law_take" = true) (K_Ltake : PySem.W.keepIn K (.ref f_Ltake) = true)
    (A_Lmix : PySem.W.nsIn K mainGlobals "_law_mix" = some (some (.ref f_Lmix))) (L_Lmix : K.lookup f_Lmix = some ⟨oc_Lmix, od_Lmix, .func (PySem.W.fnOf "_law_mix" "_law_mix" (defArgs s_Lmix) (defBody s_Lmix) (defScope s_Lmix) .none kV_Lmix dc_Lmix pm_Lmix an_Lmix cd_Lmix ct_Lmix), sl_Lmix⟩) (C_Lmix : PySem.W.codeIn K cd_Lmix "_law_mix" = true) (K_Lmix : PySem.W.keepIn K (.ref f_Lmix) = true)
    (A_Ltrue : PySem.W.nsIn K mainGlobals "_law_true" = some (some (.ref f_Ltrue))) (L_Ltrue : K.lookup f_Ltrue = some ⟨oc_Ltrue, od_Ltrue, .func (PySem.W.fnOf "_law_true" "_law_true" (defArgs s_Ltrue) (defBody s_Ltrue) (defScope s_Ltrue) .none kV_Ltrue dc_Ltrue pm_Ltrue an_Ltrue cd_Ltrue ct_Ltrue), sl_Ltrue⟩) (C_Ltrue : PySem.W.codeIn K cd_Ltrue "_law_true" = true) (K_Ltrue : PySem.W.keepIn K (.ref f_Ltrue) = true)
    (A_Loff : PySem.W.nsIn K mainGlobals "_law_off" = some (some (.ref f_Loff))) (L_Loff : K.lookup f_Loff = some ⟨oc_Loff, od_Loff, .func (PySem.W.fnOf "_law_off" "_law_off" (defArgs s_Loff) (defBody s_Loff) (defScope s_Loff) .none kV_Loff dc_Loff pm_Loff an_Loff cd_Loff ct_Loff), sl_Loff⟩) (C_Loff : PySem.W.codeIn K cd_Loff "_law_off" = true) (K_Loff : PySem.W.keepIn K (.ref f_Loff) = true)
    (A_Lside : PySem.W.nsIn K mainGlobals "_law_side" = some (some (.ref f_Lside))) (L_Lside : K.lookup f_Lside = some ⟨oc_Lside, od_Lside, .func (PySem.W.fnOf "_law_side" "_law_side" (defArgs s_Lside) (defBody s_Lside) (defScope s_Lside) .none kV_Lside dc_Lside pm_Lside an_Lside cd_Lside ct_Lside), sl_Lside⟩) (C_Lside : PySem.W.codeIn K cd_Lside "_law_side" = true) (K_Lside : PySem.W.keepIn K (.ref f_Lside) = true)
    (A_Lname : PySem.W.nsIn K mainGlobals "_law_name" = some (some (.ref f_Lname))) (L_Lname : K.lookup f_Lname = some ⟨oc_Lname, od_Lname, .func (PySem.W.fnOf "_law_name" "_law_name" (defArgs s_Lname) (defBody s_Lname) (defScope s_Lname) .none kV_Lname dc_Lname pm_Lname an_Lname cd_Lname ct_Lname), sl_Lname⟩) (C_Lname : PySem.W.codeIn K cd_Lname "_law_name" = true) (K_Lname : PySem.W.keepIn K (.ref f_Lname) = true)
    (A_Lnames : PySem.W.nsIn K mainGlobals "_law_names" = some (some (.ref f_Lnames))) (L_Lnames : K.lookup f_Lnames = some ⟨oc_Lnames, od_Lnames, .func (PySem.W.fnOf "_law_names" "_law_names" (defArgs s_Lnames) (defBody s_Lnames) (defScope s_Lnames) .none kV_Lnames dc_Lnames pm_Lnames an_Lnames cd_Lnames ct_Lnames), sl_Lnames⟩) (C_Lnames : PySem.W.codeIn K cd_Lnames "_law_names" = true) (K_Lnames : PySem.W.keepIn K (.ref f_Lnames) = true)
    (A_Lland : PySem.W.nsIn K mainGlobals "_law_land" = some (some (.ref f_Lland))) (L_Lland : K.lookup f_Lland = some ⟨oc_Lland, od_Lland, .func (PySem.W.fnOf "_law_land" "_law_land" (defArgs s_Lland) (defBody s_Lland) (defScope s_Lland) .none kV_Lland dc_Lland pm_Lland an_Lland cd_Lland ct_Lland), sl_Lland⟩) (C_Lland : PySem.W.codeIn K cd_Lland "_law_land" = true) (K_Lland : PySem.W.keepIn K (.ref f_Lland) = true)
    (A_Lentry : PySem.W.nsIn K mainGlobals "_law_entry" = some (some (.ref f_Lentry))) (L_Lentry : K.lookup f_Lentry = some ⟨oc_Lentry, od_Lentry, .func (PySem.W.fnOf "_law_entry" "_law_entry" (defArgs s_Lentry) (defBody s_Lentry) (defScope s_Lentry) .none kV_Lentry dc_Lentry pm_Lentry an_Lentry cd_Lentry ct_Lentry), sl_Lentry⟩) (C_Lentry : PySem.W.codeIn K cd_Lentry "_law_entry" = true) (K_Lentry : PySem.W.keepIn K (.ref f_Lentry) = true)
    (A_Lwritten : PySem.W.nsIn K mainGlobals "_law_written" = some (some (.ref f_Lwritten))) (L_Lwritten : K.lookup f_Lwritten = some ⟨oc_Lwritten, od_Lwritten, .func (PySem.W.fnOf "_law_written" "_law_written" (defArgs s_Lwritten) (defBody s_Lwritten) (defScope s_Lwritten) .none kV_Lwritten dc_Lwritten pm_Lwritten an_Lwritten cd_Lwritten ct_Lwritten), sl_Lwritten⟩) (C_Lwritten : PySem.W.codeIn K cd_Lwritten "_law_written" = true) (K_Lwritten : PySem.W.keepIn K (.ref f_Lwritten) = true)
    (A_Lworld : PySem.W.nsIn K mainGlobals "_law_world" = some (some (.ref f_Lworld))) (L_Lworld : K.lookup f_Lworld = some ⟨oc_Lworld, od_Lworld, .func (PySem.W.fnOf "_law_world" "_law_world" (defArgs s_Lworld) (defBody s_Lworld) (defScope s_Lworld) .none kV_Lworld dc_Lworld pm_Lworld an_Lworld cd_Lworld ct_Lworld), sl_Lworld⟩) (C_Lworld : PySem.W.codeIn K cd_Lworld "_law_world" = true) (K_Lworld : PySem.W.keepIn K (.ref f_Lworld) = true)
    (A_Lsigns : PySem.W.nsIn K mainGlobals "_law_signs" = some (some (.ref f_Lsigns))) (L_Lsigns : K.lookup f_Lsigns = some ⟨oc_Lsigns, od_Lsigns, .func (PySem.W.fnOf "_law_signs" "_law_signs" (defArgs s_Lsigns) (defBody s_Lsigns) (defScope s_Lsigns) .none kV_Lsigns dc_Lsigns pm_Lsigns an_Lsigns cd_Lsigns ct_Lsigns), sl_Lsigns⟩) (C_Lsigns : PySem.W.codeIn K cd_Lsigns "_law_signs" = true) (K_Lsigns : PySem.W.keepIn K (.ref f_Lsigns) = true)
    (A_Lflat : PySem.W.nsIn K mainGlobals "_law_flat" = some (some (.ref f_Lflat))) (L_Lflat : K.lookup f_Lflat = some ⟨oc_Lflat, od_Lflat, .func (PySem.W.fnOf "_law_flat" "_law_flat" (defArgs s_Lflat) (defBody s_Lflat) (defScope s_Lflat) .none kV_Lflat dc_Lflat pm_Lflat an_Lflat cd_Lflat ct_Lflat), sl_Lflat⟩) (C_Lflat : PySem.W.codeIn K cd_Lflat "_law_flat" = true) (K_Lflat : PySem.W.keepIn K (.ref f_Lflat) = true)
    (A_Lcalled : PySem.W.nsIn K mainGlobals "_law_called" = some (some (.ref f_Lcalled))) (L_Lcalled : K.lookup f_Lcalled = some ⟨oc_Lcalled, od_Lcalled, .func (PySem.W.fnOf "_law_called" "_law_called" (defArgs s_Lcalled) (defBody s_Lcalled) (defScope s_Lcalled) .none kV_Lcalled dc_Lcalled pm_Lcalled an_Lcalled cd_Lcalled ct_Lcalled), sl_Lcalled⟩) (C_Lcalled : PySem.W.codeIn K cd_Lcalled "_law_called" = true) (K_Lcalled : PySem.W.keepIn K (.ref f_Lcalled) = true)
    (A_law : PySem.W.nsIn K mainGlobals "law" = some (some (.ref f_law))) (L_law : K.lookup f_law = some ⟨oc_law, od_law, .func (PySem.W.fnOf "law" "law" (defArgs s_law) (defBody s_law) (defScope s_law) .none kV_law dc_law pm_law an_law cd_law ct_law), sl_law⟩) (C_law : PySem.W.codeIn K cd_law "law" = true) (K_law : PySem.W.keepIn K (.ref f_law) = true)
    (A_Atlas_init : PySem.W.findIn K (.ref f_Atlas) "__init__" = some (some (.ref f_Atlas_init))) (i_Atlas_init : PySem.W.isFn K (.ref f_Atlas_init) = true) (L_Atlas_init : K.lookup f_Atlas_init = some ⟨oc_Atlas_init, od_Atlas_init, .func (PySem.W.fnOf "__init__" "Atlas.__init__" (defArgs s_Atlas_init) (defBody s_Atlas_init) (defScope s_Atlas_init) (.ref q_Atlas_init) kV_Atlas_init dc_Atlas_init pm_Atlas_init an_Atlas_init cd_Atlas_init ct_Atlas_init), sl_Atlas_init⟩) (C_Atlas_init : PySem.W.codeIn K cd_Atlas_init "Atlas.__init__" = true) (K_Atlas_init : PySem.W.keepIn K (.ref f_Atlas_init) = true)
    (V_Atlas_init : K.lookup q_Atlas_init = some ⟨.type "tuple", dd_Atlas_init, .seq #[.ref e_Atlas_init] nq_Atlas_init, sq_Atlas_init⟩) (W_Atlas_init : K.lookup e_Atlas_init = some ⟨.type "tuple", de_Atlas_init, .seq #[] ne_Atlas_init, se_Atlas_init⟩)
    (A_Atlas_log : PySem.W.findIn K (.ref f_Atlas) "log" = some (some (.ref f_Atlas_log))) (i_Atlas_log : PySem.W.isFn K (.ref f_Atlas_log) = true) (L_Atlas_log : K.lookup f_Atlas_log = some ⟨oc_Atlas_log, od_Atlas_log, .func (PySem.W.fnOf "log" "Atlas.log" (defArgs s_Atlas_log) (defBody s_Atlas_log) (defScope s_Atlas_log) .none kV_Atlas_log dc_Atlas_log pm_Atlas_log an_Atlas_log cd_Atlas_log ct_Atlas_log), sl_Atlas_log⟩) (C_Atlas_log : PySem.W.codeIn K cd_Atlas_log "Atlas.log" = true) (K_Atlas_log : PySem.W.keepIn K (.ref f_Atlas_log) = true)
    (A_Atlas_legs : PySem.W.findIn K (.ref f_Atlas) "legs" = some (some (.ref f_Atlas_legs))) (i_Atlas_legs : PySem.W.isFn K (.ref f_Atlas_legs) = true) (L_Atlas_legs : K.lookup f_Atlas_legs = some ⟨oc_Atlas_legs, od_Atlas_legs, .func (PySem.W.fnOf "legs" "Atlas.legs" (defArgs s_Atlas_legs) (defBody s_Atlas_legs) (defScope s_Atlas_legs) .none kV_Atlas_legs dc_Atlas_legs pm_Atlas_legs an_Atlas_legs cd_Atlas_legs ct_Atlas_legs), sl_Atlas_legs⟩) (C_Atlas_legs : PySem.W.codeIn K cd_Atlas_legs "Atlas.legs" = true) (K_Atlas_legs : PySem.W.keepIn K (.ref f_Atlas_legs) = true)
    (A_Atlas_with_log : PySem.W.findIn K (.ref f_Atlas) "with_log" = some (some (.ref f_Atlas_with_log))) (i_Atlas_with_log : PySem.W.isFn K (.ref f_Atlas_with_log) = true) (L_Atlas_with_log : K.lookup f_Atlas_with_log = some ⟨oc_Atlas_with_log, od_Atlas_with_log, .func (PySem.W.fnOf "with_log" "Atlas.with_log" (defArgs s_Atlas_with_log) (defBody s_Atlas_with_log) (defScope s_Atlas_with_log) .none kV_Atlas_with_log dc_Atlas_with_log pm_Atlas_with_log an_Atlas_with_log cd_Atlas_with_log ct_Atlas_with_log), sl_Atlas_with_log⟩) (C_Atlas_with_log : PySem.W.codeIn K cd_Atlas_with_log "Atlas.with_log" = true) (K_Atlas_with_log : PySem.W.keepIn K (.ref f_Atlas_with_log) = true)
    (A_Atlas_without : PySem.W.findIn K (.ref f_Atlas) "without" = some (some (.ref f_Atlas_without))) (i_Atlas_without : PySem.W.isFn K (.ref f_Atlas_without) = true) (L_Atlas_without : K.lookup f_Atlas_without = some ⟨oc_Atlas_without, od_Atlas_without, .func (PySem.W.fnOf "without" "Atlas.without" (defArgs s_Atlas_without) (defBody s_Atlas_without) (defScope s_Atlas_without) .none kV_Atlas_without dc_Atlas_without pm_Atlas_without an_Atlas_without cd_Atlas_without ct_Atlas_without), sl_Atlas_without⟩) (C_Atlas_without : PySem.W.codeIn K cd_Atlas_without "Atlas.without" = true) (K_Atlas_without : PySem.W.keepIn K (.ref f_Atlas_without) = true)
    (A_Atlas_len : PySem.W.findIn K (.ref f_Atlas) "__len__" = some (some (.ref f_Atlas_len))) (i_Atlas_len : PySem.W.isFn K (.ref f_Atlas_len) = true) (L_Atlas_len : K.lookup f_Atlas_len = some ⟨oc_Atlas_len, od_Atlas_len, .func (PySem.W.fnOf "__len__" "Atlas.__len__" (defArgs s_Atlas_len) (defBody s_Atlas_len) (defScope s_Atlas_len) .none kV_Atlas_len dc_Atlas_len pm_Atlas_len an_Atlas_len cd_Atlas_len ct_Atlas_len), sl_Atlas_len⟩) (C_Atlas_len : PySem.W.codeIn K cd_Atlas_len "Atlas.__len__" = true) (K_Atlas_len : PySem.W.keepIn K (.ref f_Atlas_len) = true)
    (A_LETTERS : PySem.W.nsIn K mainGlobals "LETTERS" = some (some (.str "nesw" t_LETTERS)))
    (A_STEPS : PySem.W.nsIn K mainGlobals "STEPS" = some (some (.ref f_STEPS)))
    (D_STEPS : K.lookup f_STEPS = some ⟨.type "dict", none, .dict es_STEPS n_STEPS, #[]⟩)
    (Y_STEPS : PySem.W.KeysLit w.params es_STEPS.toList)
    (lo_STEPS : (f_STEPS == sysModules) = false)
    (ke_STEPS : Keys es_STEPS.toList ["n", "e", "s", "w"])
    (N_STEPS_0 : PySem.W.nsIn K f_STEPS "n" = some (some (.ref q_STEPS_0)))
    (V_STEPS_0 : K.lookup q_STEPS_0 = some ⟨.type "tuple", dd_STEPS_0, .seq #[.int (0) tk_STEPS_0_0, .int (1) tk_STEPS_0_1] nn_STEPS_0, sl_STEPS_0⟩)
    (N_STEPS_1 : PySem.W.nsIn K f_STEPS "e" = some (some (.ref q_STEPS_1)))
    (V_STEPS_1 : K.lookup q_STEPS_1 = some ⟨.type "tuple", dd_STEPS_1, .seq #[.int (1) tk_STEPS_1_0, .int (0) tk_STEPS_1_1] nn_STEPS_1, sl_STEPS_1⟩)
    (N_STEPS_2 : PySem.W.nsIn K f_STEPS "s" = some (some (.ref q_STEPS_2)))
    (V_STEPS_2 : K.lookup q_STEPS_2 = some ⟨.type "tuple", dd_STEPS_2, .seq #[.int (0) tk_STEPS_2_0, .int (-1) tk_STEPS_2_1] nn_STEPS_2, sl_STEPS_2⟩)
    (N_STEPS_3 : PySem.W.nsIn K f_STEPS "w" = some (some (.ref q_STEPS_3)))
    (V_STEPS_3 : K.lookup q_STEPS_3 = some ⟨.type "tuple", dd_STEPS_3, .seq #[.int (-1) tk_STEPS_3_0, .int (0) tk_STEPS_3_1] nn_STEPS_3, sl_STEPS_3⟩)
    (A_SMALL : PySem.W.nsIn K mainGlobals "SMALL" = some (some (.str "abcdefghijklmnopqrstuvwxyz" t_SMALL)))
    (A_GREAT : PySem.W.nsIn K mainGlobals "GREAT" = some (some (.str "ABCDEFGHIJKLMNOPQRSTUVWXYZ" t_GREAT)))
    (A_LONGEST : PySem.W.nsIn K mainGlobals "LONGEST" = some (some (.int 8 t_LONGEST)))
    (A_WORDS_ALONE : PySem.W.nsIn K mainGlobals "WORDS_ALONE" = some (some (.ref f_WORDS_ALONE)))
    (V_WORDS_ALONE : K.lookup f_WORDS_ALONE = some ⟨.type "tuple", dd_WORDS_ALONE, .seq #[.str "left" tk_WORDS_ALONE_0, .str "right" tk_WORDS_ALONE_1, .str "back" tk_WORDS_ALONE_2, .str "bump" tk_WORDS_ALONE_3, .str "bare" tk_WORDS_ALONE_4, .str "swap" tk_WORDS_ALONE_5] nn_WORDS_ALONE, sl_WORDS_ALONE⟩)
    (A_WORDS_BEHIND_A_FACE : PySem.W.nsIn K mainGlobals "WORDS_BEHIND_A_FACE" = some (some (.ref f_WORDS_BEHIND_A_FACE)))
    (V_WORDS_BEHIND_A_FACE : K.lookup f_WORDS_BEHIND_A_FACE = some ⟨.type "tuple", dd_WORDS_BEHIND_A_FACE, .seq #[.str "left" tk_WORDS_BEHIND_A_FACE_0, .str "right" tk_WORDS_BEHIND_A_FACE_1, .str "back" tk_WORDS_BEHIND_A_FACE_2, .str "go" tk_WORDS_BEHIND_A_FACE_3, .str "bump" tk_WORDS_BEHIND_A_FACE_4, .str "spy" tk_WORDS_BEHIND_A_FACE_5] nn_WORDS_BEHIND_A_FACE, sl_WORDS_BEHIND_A_FACE⟩)
    (A_QUARTERS : PySem.W.nsIn K mainGlobals "QUARTERS" = some (some (.ref f_QUARTERS)))
    (D_QUARTERS : K.lookup f_QUARTERS = some ⟨.type "dict", none, .dict es_QUARTERS n_QUARTERS, #[]⟩)
    (Y_QUARTERS : PySem.W.KeysLit w.params es_QUARTERS.toList)
    (lo_QUARTERS : (f_QUARTERS == sysModules) = false)
    (ke_QUARTERS : Keys es_QUARTERS.toList ["right", "back", "left"])
    (N_QUARTERS_0 : PySem.W.nsIn K f_QUARTERS "right" = some (some (.int 1 tk_QUARTERS_0)))
    (N_QUARTERS_1 : PySem.W.nsIn K f_QUARTERS "back" = some (some (.int 2 tk_QUARTERS_1)))
    (N_QUARTERS_2 : PySem.W.nsIn K f_QUARTERS "left" = some (some (.int 3 tk_QUARTERS_2)))
    (A_START : PySem.W.nsIn K mainGlobals "START" = some (some (.ref f_START)))
    (V_START : K.lookup f_START = some ⟨.type "tuple", dd_START, .seq #[.ref q_START_0, .str "" tk_START_1] nn_START, sl_START⟩)
    (V_START_0 : K.lookup q_START_0 = some ⟨.type "tuple", dd_START_0, .seq #[.int (0) tk_START_0_0, .int (0) tk_START_0_1] nn_START_0, sl_START_0⟩)
    (A_HOW_MANY_LOTS : PySem.W.nsIn K mainGlobals "HOW_MANY_LOTS" = some (some (.int 8 t_HOW_MANY_LOTS)))
    (Z_abs : PySem.W.nsIn K mainGlobals "abs" = some none)
    (Z_all : PySem.W.nsIn K mainGlobals "all" = some none)
    (Z_any : PySem.W.nsIn K mainGlobals "any" = some none)
    (Z_bool : PySem.W.nsIn K mainGlobals "bool" = some none)
    (Z_enumerate : PySem.W.nsIn K mainGlobals "enumerate" = some none)
    (Z_int : PySem.W.nsIn K mainGlobals "int" = some none)
    (Z_isinstance : PySem.W.nsIn K mainGlobals "isinstance" = some none)
    (Z_len : PySem.W.nsIn K mainGlobals "len" = some none)
    (Z_list : PySem.W.nsIn K mainGlobals "list" = some none)
    (Z_range : PySem.W.nsIn K mainGlobals "range" = some none)
    (Z_sorted : PySem.W.nsIn K mainGlobals "sorted" = some none)
    (Z_str : PySem.W.nsIn K mainGlobals "str" = some none)
    (Z_tuple : PySem.W.nsIn K mainGlobals "tuple" = some none)
    (Z_zip : PySem.W.nsIn K mainGlobals "zip" = some none) :
    ∃ fd : FuncData, (∀ (s : Shared) (v : Value), BindsTo s fd ⟨[v], []⟩ [("_law_script", v)]) ∧ ∀ base : Heap, K.In base → base.Ns mainGlobals mg → FnOk l.prog w K mg base CX0 11 fa fd ["_law_script"] (spLaw K) := by
  have e := hfa.symm.trans (PySem.W.mg_of X G A_law)
  cases e
  let T : Top w K mg := {
    a_Atlas := f_Atlas, g_Atlas := PySem.W.mg_of X G A_Atlas, cl_Atlas := ⟨pg_Atlas, hd_Atlas, po_Atlas, sa_Atlas⟩,
    nf_Atlas_box := nf_Atlas_box,
    nf_Atlas_names := nf_Atlas_names,
    nf_Atlas_logs := nf_Atlas_logs,
    a_is_whole := f_is_whole, fd_is_whole := _, F_is_whole := fun_mk (st := s_is_whole) L_is_whole C_is_whole K_is_whole,
    b_is_whole := (fun_mk (st := s_is_whole) L_is_whole C_is_whole K_is_whole).binds (ps := ["thing"]) fun _ _ _ _ _ _ us hl => match us, hl with | [_], _ => rfl,
    g_is_whole := PySem.W.mg_of X G A_is_whole,
    a_is_row := f_is_row, fd_is_row := _, F_is_row := fun_mk (st := s_is_row) L_is_row C_is_row K_is_row,
    b_is_row := (fun_mk (st := s_is_row) L_is_row C_is_row K_is_row).binds (ps := ["thing"]) fun _ _ _ _ _ _ us hl => match us, hl with | [_], _ => rfl,
    g_is_row := PySem.W.mg_of X G A_is_row,
    a_is_letter := f_is_letter, fd_is_letter := _, F_is_letter := fun_mk (st := s_is_letter) L_is_letter C_is_letter K_is_letter,
    b_is_letter := (fun_mk (st := s_is_letter) L_is_letter C_is_letter K_is_letter).binds (ps := ["thing"]) fun _ _ _ _ _ _ us hl => match us, hl with | [_], _ => rfl,
    g_is_letter := PySem.W.mg_of X G A_is_letter,
    a_step := f_step, fd_step := _, F_step := fun_mk (st := s_step) L_step C_step K_step,
    b_step := (fun_mk (st := s_step) L_step C_step K_step).binds (ps := ["letter"]) fun _ _ _ _ _ _ us hl => match us, hl with | [_], _ => rfl,
    g_step := PySem.W.mg_of X G A_step,
    a_way_of := f_way_of, fd_way_of := _, F_way_of := fun_mk (st := s_way_of) L_way_of C_way_of K_way_of,
    b_way_of := (fun_mk (st := s_way_of) L_way_of C_way_of K_way_of).binds (ps := ["place", "letter"]) fun _ _ _ _ _ _ us hl => match us, hl with | [_, _], _ => rfl,
    g_way_of := PySem.W.mg_of X G A_way_of,
    a_is_lot := f_is_lot, fd_is_lot := _, F_is_lot := fun_mk (st := s_is_lot) L_is_lot C_is_lot K_is_lot,
    b_is_lot := (fun_mk (st := s_is_lot) L_is_lot C_is_lot K_is_lot).binds (ps := ["thing"]) fun _ _ _ _ _ _ us hl => match us, hl with | [_], _ => rfl,
    g_is_lot := PySem.W.mg_of X G A_is_lot,
    a_refuse_unless_lot := f_refuse_unless_lot, fd_refuse_unless_lot := _, F_refuse_unless_lot := fun_mk (st := s_refuse_unless_lot) L_refuse_unless_lot C_refuse_unless_lot K_refuse_unless_lot,
    b_refuse_unless_lot := (fun_mk (st := s_refuse_unless_lot) L_refuse_unless_lot C_refuse_unless_lot K_refuse_unless_lot).binds (ps := ["thing"]) fun _ _ _ _ _ _ us hl => match us, hl with | [_], _ => rfl,
    g_refuse_unless_lot := PySem.W.mg_of X G A_refuse_unless_lot,
    a_mirrors := f_mirrors, fd_mirrors := _, F_mirrors := fun_mk (st := s_mirrors) L_mirrors C_mirrors K_mirrors,
    b_mirrors := (fun_mk (st := s_mirrors) L_mirrors C_mirrors K_mirrors).binds (ps := ["lot"]) fun _ _ _ _ _ _ us hl => match us, hl with | [_], _ => rfl,
    g_mirrors := PySem.W.mg_of X G A_mirrors,
    a_true := f_true, fd_true := _, F_true := fun_mk (st := s_true) L_true C_true K_true,
    b_true := (fun_mk (st := s_true) L_true C_true K_true).binds (ps := ["lot", "letter"]) fun _ _ _ _ _ _ us hl => match us, hl with | [_, _], _ => rfl,
    g_true := PySem.W.mg_of X G A_true,
    a_is_short_text := f_is_short_text, fd_is_short_text := _, F_is_short_text := fun_mk (st := s_is_short_text) L_is_short_text C_is_short_text K_is_short_text,
    b_is_short_text := (fun_mk (st := s_is_short_text) L_is_short_text C_is_short_text K_is_short_text).binds (ps := ["thing"]) fun _ _ _ _ _ _ us hl => match us, hl with | [_], _ => rfl,
    g_is_short_text := PySem.W.mg_of X G A_is_short_text,
    a_are_small := f_are_small, fd_are_small := _, F_are_small := fun_mk (st := s_are_small) L_are_small C_are_small K_are_small,
    b_are_small := (fun_mk (st := s_are_small) L_are_small C_are_small K_are_small).binds (ps := ["text"]) fun _ _ _ _ _ _ us hl => match us, hl with | [_], _ => rfl,
    g_are_small := PySem.W.mg_of X G A_are_small,
    a_is_name := f_is_name, fd_is_name := _, F_is_name := fun_mk (st := s_is_name) L_is_name C_is_name K_is_name,
    b_is_name := (fun_mk (st := s_is_name) L_is_name C_is_name K_is_name).binds (ps := ["thing"]) fun _ _ _ _ _ _ us hl => match us, hl with | [_], _ => rfl,
    g_is_name := PySem.W.mg_of X G A_is_name,
    a_is_lone := f_is_lone, fd_is_lone := _, F_is_lone := fun_mk (st := s_is_lone) L_is_lone C_is_lone K_is_lone,
    b_is_lone := (fun_mk (st := s_is_lone) L_is_lone C_is_lone K_is_lone).binds (ps := ["thing"]) fun _ _ _ _ _ _ us hl => match us, hl with | [_], _ => rfl,
    g_is_lone := PySem.W.mg_of X G A_is_lone,
    a_is_sign := f_is_sign, fd_is_sign := _, F_is_sign := fun_mk (st := s_is_sign) L_is_sign C_is_sign K_is_sign,
    b_is_sign := (fun_mk (st := s_is_sign) L_is_sign C_is_sign K_is_sign).binds (ps := ["thing"]) fun _ _ _ _ _ _ us hl => match us, hl with | [_], _ => rfl,
    g_is_sign := PySem.W.mg_of X G A_is_sign,
    a_is_many := f_is_many, fd_is_many := _, F_is_many := fun_mk (st := s_is_many) L_is_many C_is_many K_is_many,
    b_is_many := (fun_mk (st := s_is_many) L_is_many C_is_many K_is_many).binds (ps := ["thing"]) fun _ _ _ _ _ _ us hl => match us, hl with | [_], _ => rfl,
    g_is_many := PySem.W.mg_of X G A_is_many,
    a_is_pair_entry := f_is_pair_entry, fd_is_pair_entry := _, F_is_pair_entry := fun_mk (st := s_is_pair_entry) L_is_pair_entry C_is_pair_entry K_is_pair_entry,
    b_is_pair_entry := (fun_mk (st := s_is_pair_entry) L_is_pair_entry C_is_pair_entry K_is_pair_entry).binds (ps := ["word", "part"]) fun _ _ _ _ _ _ us hl => match us, hl with | [_, _], _ => rfl,
    g_is_pair_entry := PySem.W.mg_of X G A_is_pair_entry,
    a_is_entry := f_is_entry, fd_is_entry := _, F_is_entry := fun_mk (st := s_is_entry) L_is_entry C_is_entry K_is_entry,
    b_is_entry := (fun_mk (st := s_is_entry) L_is_entry C_is_entry K_is_entry).binds (ps := ["thing"]) fun _ _ _ _ _ _ us hl => match us, hl with | [_], _ => rfl,
    g_is_entry := PySem.W.mg_of X G A_is_entry,
    a_held_log := f_held_log, fd_held_log := _, F_held_log := fun_mk (st := s_held_log) L_held_log C_held_log K_held_log,
    b_held_log := (fun_mk (st := s_held_log) L_held_log C_held_log K_held_log).binds (ps := ["entries"]) fun _ _ _ _ _ _ us hl => match us, hl with | [_], _ => rfl,
    g_held_log := PySem.W.mg_of X G A_held_log,
    a_legs_in := f_legs_in, fd_legs_in := _, F_legs_in := fun_mk (st := s_legs_in) L_legs_in C_legs_in K_legs_in,
    b_legs_in := (fun_mk (st := s_legs_in) L_legs_in C_legs_in K_legs_in).binds (ps := ["log"]) fun _ _ _ _ _ _ us hl => match us, hl with | [_], _ => rfl,
    g_legs_in := PySem.W.mg_of X G A_legs_in,
    a_refuse_unless_lots := f_refuse_unless_lots, fd_refuse_unless_lots := _, F_refuse_unless_lots := fun_mk (st := s_refuse_unless_lots) L_refuse_unless_lots C_refuse_unless_lots K_refuse_unless_lots,
    b_refuse_unless_lots := (fun_mk (st := s_refuse_unless_lots) L_refuse_unless_lots C_refuse_unless_lots K_refuse_unless_lots).binds (ps := ["log", "lots"]) fun _ _ _ _ _ _ us hl => match us, hl with | [_, _], _ => rfl,
    g_refuse_unless_lots := PySem.W.mg_of X G A_refuse_unless_lots,
    a_gone := f_gone, fd_gone := _, F_gone := fun_mk (st := s_gone) L_gone C_gone K_gone,
    b_gone := (fun_mk (st := s_gone) L_gone C_gone K_gone).binds (ps := ["place", "letter", "many"]) fun _ _ _ _ _ _ us hl => match us, hl with | [_, _, _], _ => rfl,
    g_gone := PySem.W.mg_of X G A_gone,
    a_look_behind := f_look_behind, fd_look_behind := _, F_look_behind := fun_mk (st := s_look_behind) L_look_behind C_look_behind K_look_behind,
    b_look_behind := (fun_mk (st := s_look_behind) L_look_behind C_look_behind K_look_behind).binds (ps := ["entry", "lot", "look"]) fun _ _ _ _ _ _ us hl => match us, hl with | [_, _, _], _ => rfl,
    g_look_behind := PySem.W.mg_of X G A_look_behind,
    a_track := f_track, fd_track := _, F_track := fun_mk (st := s_track) L_track C_track K_track,
    b_track := (fun_mk (st := s_track) L_track C_track K_track).binds (ps := ["log", "lots"]) fun _ _ _ _ _ _ us hl => match us, hl with | [_, _], _ => rfl,
    g_track := PySem.W.mg_of X G A_track,
    a_way_fact := f_way_fact, fd_way_fact := _, F_way_fact := fun_mk (st := s_way_fact) L_way_fact C_way_fact K_way_fact,
    b_way_fact := (fun_mk (st := s_way_fact) L_way_fact C_way_fact K_way_fact).binds (ps := ["at", "word", "place", "look"]) fun _ _ _ _ _ _ us hl => match us, hl with | [_, _, _, _], _ => rfl,
    g_way_fact := PySem.W.mg_of X G A_way_fact,
    a_facts_of_entry := f_facts_of_entry, fd_facts_of_entry := _, F_facts_of_entry := fun_mk (st := s_facts_of_entry) L_facts_of_entry C_facts_of_entry K_facts_of_entry,
    b_facts_of_entry := (fun_mk (st := s_facts_of_entry) L_facts_of_entry C_facts_of_entry K_facts_of_entry).binds (ps := ["at", "entry", "place", "look"]) fun _ _ _ _ _ _ us hl => match us, hl with | [_, _, _, _], _ => rfl,
    g_facts_of_entry := PySem.W.mg_of X G A_facts_of_entry,
    a_facts := f_facts, fd_facts := _, F_facts := fun_mk (st := s_facts) L_facts C_facts K_facts,
    b_facts := (fun_mk (st := s_facts) L_facts C_facts K_facts).binds (ps := ["log", "lots"]) fun _ _ _ _ _ _ us hl => match us, hl with | [_, _], _ => rfl,
    g_facts := PySem.W.mg_of X G A_facts,
    a_held_box := f_held_box, fd_held_box := _, F_held_box := fun_mk (st := s_held_box) L_held_box C_held_box K_held_box,
    b_held_box := (fun_mk (st := s_held_box) L_held_box C_held_box K_held_box).binds (ps := ["box"]) fun _ _ _ _ _ _ us hl => match us, hl with | [_], _ => rfl,
    g_held_box := PySem.W.mg_of X G A_held_box,
    a_held_log_of := f_held_log_of, fd_held_log_of := _, F_held_log_of := fun_mk (st := s_held_log_of) L_held_log_of C_held_log_of K_held_log_of,
    b_held_log_of := (fun_mk (st := s_held_log_of) L_held_log_of C_held_log_of K_held_log_of).binds (ps := ["name", "log"]) fun _ _ _ _ _ _ us hl => match us, hl with | [_, _], _ => rfl,
    g_held_log_of := PySem.W.mg_of X G A_held_log_of,
    a_lots_left_in := f_lots_left_in, fd_lots_left_in := _, F_lots_left_in := fun_mk (st := s_lots_left_in) L_lots_left_in C_lots_left_in K_lots_left_in,
    b_lots_left_in := (fun_mk (st := s_lots_left_in) L_lots_left_in C_lots_left_in K_lots_left_in).binds (ps := ["box", "lots"]) fun _ _ _ _ _ _ us hl => match us, hl with | [_, _], _ => rfl,
    g_lots_left_in := PySem.W.mg_of X G A_lots_left_in,
    a_first_not_dealt := f_first_not_dealt, fd_first_not_dealt := _, F_first_not_dealt := fun_mk (st := s_first_not_dealt) L_first_not_dealt C_first_not_dealt K_first_not_dealt,
    b_first_not_dealt := (fun_mk (st := s_first_not_dealt) L_first_not_dealt C_first_not_dealt K_first_not_dealt).binds (ps := ["box", "lots"]) fun _ _ _ _ _ _ us hl => match us, hl with | [_, _], _ => rfl,
    g_first_not_dealt := PySem.W.mg_of X G A_first_not_dealt,
    a_refuse_unless_dealt := f_refuse_unless_dealt, fd_refuse_unless_dealt := _, F_refuse_unless_dealt := fun_mk (st := s_refuse_unless_dealt) L_refuse_unless_dealt C_refuse_unless_dealt K_refuse_unless_dealt,
    b_refuse_unless_dealt := (fun_mk (st := s_refuse_unless_dealt) L_refuse_unless_dealt C_refuse_unless_dealt K_refuse_unless_dealt).binds (ps := ["atlas", "dealing"]) fun _ _ _ _ _ _ us hl => match us, hl with | [_, _], _ => rfl,
    g_refuse_unless_dealt := PySem.W.mg_of X G A_refuse_unless_dealt,
    a_is_dealt := f_is_dealt, fd_is_dealt := _, F_is_dealt := fun_mk (st := s_is_dealt) L_is_dealt C_is_dealt K_is_dealt,
    b_is_dealt := (fun_mk (st := s_is_dealt) L_is_dealt C_is_dealt K_is_dealt).binds (ps := ["atlas", "dealing"]) fun _ _ _ _ _ _ us hl => match us, hl with | [_, _], _ => rfl,
    g_is_dealt := PySem.W.mg_of X G A_is_dealt,
    a_told := f_told, fd_told := _, F_told := fun_mk (st := s_told) L_told C_told K_told,
    b_told := (fun_mk (st := s_told) L_told C_told K_told).binds (ps := ["atlas", "dealing", "name"]) fun _ _ _ _ _ _ us hl => match us, hl with | [_, _, _], _ => rfl,
    g_told := PySem.W.mg_of X G A_told,
    a_lone_signs := f_lone_signs, fd_lone_signs := _, F_lone_signs := fun_mk (st := s_lone_signs) L_lone_signs C_lone_signs K_lone_signs,
    b_lone_signs := (fun_mk (st := s_lone_signs) L_lone_signs C_lone_signs K_lone_signs).binds (ps := ["log"]) fun _ _ _ _ _ _ us hl => match us, hl with | [_], _ => rfl,
    g_lone_signs := PySem.W.mg_of X G A_lone_signs,
    a_groups := f_groups, fd_groups := _, F_groups := fun_mk (st := s_groups) L_groups C_groups K_groups,
    b_groups := (fun_mk (st := s_groups) L_groups C_groups K_groups).binds (ps := ["atlas"]) fun _ _ _ _ _ _ us hl => match us, hl with | [_], _ => rfl,
    g_groups := PySem.W.mg_of X G A_groups,
    a_Lpool := f_Lpool, fd_Lpool := _, F_Lpool := fun_mk (st := s_Lpool) L_Lpool C_Lpool K_Lpool,
    b_Lpool := (fun_mk (st := s_Lpool) L_Lpool C_Lpool K_Lpool).binds (ps := ["_law_script", "_law_k"]) fun _ _ _ _ _ _ us hl => match us, hl with | [_, _], _ => rfl,
    g_Lpool := PySem.W.mg_of X G A_Lpool,
    a_Ltake := f_Ltake, fd_Ltake := _, F_Ltake := fun_mk (st := s_Ltake) L_Ltake C_Ltake K_Ltake,
    b_Ltake := (fun_mk (st := s_Ltake) L_Ltake C_Ltake K_Ltake).binds (ps := ["_law_pool_here", "_law_wide"]) fun _ _ _ _ _ _ us hl => match us, hl with | [_, _], _ => rfl,
    g_Ltake := PySem.W.mg_of X G A_Ltake,
    a_Lmix := f_Lmix, fd_Lmix := _, F_Lmix := fun_mk (st := s_Lmix) L_Lmix C_Lmix K_Lmix,
    b_Lmix := (fun_mk (st := s_Lmix) L_Lmix C_Lmix K_Lmix).binds (ps := ["_law_pool_here", "_law_things"]) fun _ _ _ _ _ _ us hl => match us, hl with | [_, _], _ => rfl,
    g_Lmix := PySem.W.mg_of X G A_Lmix,
    a_Ltrue := f_Ltrue, fd_Ltrue := _, F_Ltrue := fun_mk (st := s_Ltrue) L_Ltrue C_Ltrue K_Ltrue,
    b_Ltrue := (fun_mk (st := s_Ltrue) L_Ltrue C_Ltrue K_Ltrue).binds (ps := ["_law_lot", "_law_letter"]) fun _ _ _ _ _ _ us hl => match us, hl with | [_, _], _ => rfl,
    g_Ltrue := PySem.W.mg_of X G A_Ltrue,
    a_Loff := f_Loff, fd_Loff := _, F_Loff := fun_mk (st := s_Loff) L_Loff C_Loff K_Loff,
    b_Loff := (fun_mk (st := s_Loff) L_Loff C_Loff K_Loff).binds (ps := ["_law_place", "_law_letter", "_law_many"]) fun _ _ _ _ _ _ us hl => match us, hl with | [_, _, _], _ => rfl,
    g_Loff := PySem.W.mg_of X G A_Loff,
    a_Lside := f_Lside, fd_Lside := _, F_Lside := fun_mk (st := s_Lside) L_Lside C_Lside K_Lside,
    b_Lside := (fun_mk (st := s_Lside) L_Lside C_Lside K_Lside).binds (ps := ["_law_place", "_law_letter"]) fun _ _ _ _ _ _ us hl => match us, hl with | [_, _], _ => rfl,
    g_Lside := PySem.W.mg_of X G A_Lside,
    a_Lname := f_Lname, fd_Lname := _, F_Lname := fun_mk (st := s_Lname) L_Lname C_Lname K_Lname,
    b_Lname := (fun_mk (st := s_Lname) L_Lname C_Lname K_Lname).binds (ps := ["_law_pool_here"]) fun _ _ _ _ _ _ us hl => match us, hl with | [_], _ => rfl,
    g_Lname := PySem.W.mg_of X G A_Lname,
    a_Lnames := f_Lnames, fd_Lnames := _, F_Lnames := fun_mk (st := s_Lnames) L_Lnames C_Lnames K_Lnames,
    b_Lnames := (fun_mk (st := s_Lnames) L_Lnames C_Lnames K_Lnames).binds (ps := ["_law_pool_here", "_law_many"]) fun _ _ _ _ _ _ us hl => match us, hl with | [_, _], _ => rfl,
    g_Lnames := PySem.W.mg_of X G A_Lnames,
    a_Lland := f_Lland, fd_Lland := _, F_Lland := fun_mk (st := s_Lland) L_Lland C_Lland K_Lland,
    b_Lland := (fun_mk (st := s_Lland) L_Lland C_Lland K_Lland).binds (ps := ["_law_pool_here", "_law_many"]) fun _ _ _ _ _ _ us hl => match us, hl with | [_, _], _ => rfl,
    g_Lland := PySem.W.mg_of X G A_Lland,
    a_Lentry := f_Lentry, fd_Lentry := _, F_Lentry := fun_mk (st := s_Lentry) L_Lentry C_Lentry K_Lentry,
    b_Lentry := (fun_mk (st := s_Lentry) L_Lentry C_Lentry K_Lentry).binds (ps := ["_law_pool_here", "_law_land_here", "_law_pick", "_law_place", "_law_look"]) fun _ _ _ _ _ _ us hl => match us, hl with | [_, _, _, _, _], _ => rfl,
    g_Lentry := PySem.W.mg_of X G A_Lentry,
    a_Lwritten := f_Lwritten, fd_Lwritten := _, F_Lwritten := fun_mk (st := s_Lwritten) L_Lwritten C_Lwritten K_Lwritten,
    b_Lwritten := (fun_mk (st := s_Lwritten) L_Lwritten C_Lwritten K_Lwritten).binds (ps := ["_law_pool_here", "_law_land_here", "_law_many", "_law_lots", "_law_place"]) fun _ _ _ _ _ _ us hl => match us, hl with | [_, _, _, _, _], _ => rfl,
    g_Lwritten := PySem.W.mg_of X G A_Lwritten,
    a_Lworld := f_Lworld, fd_Lworld := _, F_Lworld := fun_mk (st := s_Lworld) L_Lworld C_Lworld K_Lworld,
    b_Lworld := (fun_mk (st := s_Lworld) L_Lworld C_Lworld K_Lworld).binds (ps := ["_law_pool_here", "_law_walkers", "_law_extra", "_law_many"]) fun _ _ _ _ _ _ us hl => match us, hl with | [_, _, _, _], _ => rfl,
    g_Lworld := PySem.W.mg_of X G A_Lworld,
    a_Lsigns := f_Lsigns, fd_Lsigns := _, F_Lsigns := fun_mk (st := s_Lsigns) L_Lsigns C_Lsigns K_Lsigns,
    b_Lsigns := (fun_mk (st := s_Lsigns) L_Lsigns C_Lsigns K_Lsigns).binds (ps := ["_law_rows", "_law_group"]) fun _ _ _ _ _ _ us hl => match us, hl with | [_, _], _ => rfl,
    g_Lsigns := PySem.W.mg_of X G A_Lsigns,
    a_Lflat := f_Lflat, fd_Lflat := _, F_Lflat := fun_mk (st := s_Lflat) L_Lflat C_Lflat K_Lflat,
    b_Lflat := (fun_mk (st := s_Lflat) L_Lflat C_Lflat K_Lflat).binds (ps := ["_law_rows"]) fun _ _ _ _ _ _ us hl => match us, hl with | [_], _ => rfl,
    g_Lflat := PySem.W.mg_of X G A_Lflat,
    a_Lcalled := f_Lcalled, fd_Lcalled := _, F_Lcalled := fun_mk (st := s_Lcalled) L_Lcalled C_Lcalled K_Lcalled,
    b_Lcalled := (fun_mk (st := s_Lcalled) L_Lcalled C_Lcalled K_Lcalled).binds (ps := ["_law_rows", "_law_names_here", "_law_others"]) fun _ _ _ _ _ _ us hl => match us, hl with | [_, _, _], _ => rfl,
    g_Lcalled := PySem.W.mg_of X G A_Lcalled,
    a_law := fa, fd_law := _, F_law := fun_mk (st := s_law) L_law C_law K_law,
    b_law := (fun_mk (st := s_law) L_law C_law K_law).binds (ps := ["_law_script"]) fun _ _ _ _ _ _ us hl => match us, hl with | [_], _ => rfl,
    g_law := PySem.W.mg_of X G A_law,
    a_Atlas_init := f_Atlas_init, fd_Atlas_init := _, e_Atlas_init := e_Atlas_init, ee_Atlas_init := fun H => .inr ⟨_, _, _, W_Atlas_init, rfl, rfl, Nat.zero_le _, .nil⟩, F_Atlas_init := (FunD.mk ⟨_, _, _, _, _, _, _, _, _, _, rfl, L_Atlas_init, C_Atlas_init, .inr ⟨(by intro z; cases z), _, _, _, _, rfl, V_Atlas_init, rfl, (.cons rfl .nil)⟩, .inl rfl⟩ K_Atlas_init : FunD K "__init__" "Atlas.__init__" (defArgs s_Atlas_init) (defBody s_Atlas_init) (defScope s_Atlas_init) [.ref e_Atlas_init] [] f_Atlas_init _),
    b1_Atlas_init := (FunD.mk ⟨_, _, _, _, _, _, _, _, _, _, rfl, L_Atlas_init, C_Atlas_init, .inr ⟨(by intro z; cases z), _, _, _, _, rfl, V_Atlas_init, rfl, (.cons rfl .nil)⟩, .inl rfl⟩ K_Atlas_init : FunD K "__init__" "Atlas.__init__" (defArgs s_Atlas_init) (defBody s_Atlas_init) (defScope s_Atlas_init) [.ref e_Atlas_init] [] f_Atlas_init _).binds1 (ps := ["self", "box", "logs"]) 2 0 (by intro z; cases z) rfl (fun _ _ _ _ _ _ _ us its hu hi => match us, its, hu, hi with | [_, _], [_], _, _ => ⟨_, rfl, rfl⟩),
    b_Atlas_init := by
      obtain ⟨ds, hv, hb⟩ := (FunD.mk ⟨_, _, _, _, _, _, _, _, _, _, rfl, L_Atlas_init, C_Atlas_init, .inr ⟨(by intro z; cases z), _, _, _, _, rfl, V_Atlas_init, rfl, (.cons rfl .nil)⟩, .inl rfl⟩ K_Atlas_init : FunD K "__init__" "Atlas.__init__" (defArgs s_Atlas_init) (defBody s_Atlas_init) (defScope s_Atlas_init) [.ref e_Atlas_init] [] f_Atlas_init _).binds1 (ps := ["self", "box", "logs"]) 3 1 (by intro z; cases z) rfl (fun _ _ _ _ _ _ _ us its hu hi => match us, its, hu, hi with | [_, _, _], [_], _, _ => ⟨_, rfl, rfl⟩)
      cases hv
      exact hb,
    mk_Atlas := ⟨mk_Atlas, A_Atlas_init, i_Atlas_init, kc_Atlas⟩,
    a_Atlas_log := f_Atlas_log, fd_Atlas_log := _, F_Atlas_log := fun_mk (st := s_Atlas_log) L_Atlas_log C_Atlas_log K_Atlas_log,
    b_Atlas_log := (fun_mk (st := s_Atlas_log) L_Atlas_log C_Atlas_log K_Atlas_log).binds (ps := ["self", "name"]) fun _ _ _ _ _ _ us hl => match us, hl with | [_, _], _ => rfl,
    me_Atlas_log := ⟨A_Atlas_log, i_Atlas_log, K_Atlas_log⟩,
    a_Atlas_legs := f_Atlas_legs, fd_Atlas_legs := _, F_Atlas_legs := fun_mk (st := s_Atlas_legs) L_Atlas_legs C_Atlas_legs K_Atlas_legs,
    b_Atlas_legs := (fun_mk (st := s_Atlas_legs) L_Atlas_legs C_Atlas_legs K_Atlas_legs).binds (ps := ["self"]) fun _ _ _ _ _ _ us hl => match us, hl with | [_], _ => rfl,
    me_Atlas_legs := ⟨A_Atlas_legs, i_Atlas_legs, K_Atlas_legs⟩,
    a_Atlas_with_log := f_Atlas_with_log, fd_Atlas_with_log := _, F_Atlas_with_log := fun_mk (st := s_Atlas_with_log) L_Atlas_with_log C_Atlas_with_log K_Atlas_with_log,
    b_Atlas_with_log := (fun_mk (st := s_Atlas_with_log) L_Atlas_with_log C_Atlas_with_log K_Atlas_with_log).binds (ps := ["self", "name", "log"]) fun _ _ _ _ _ _ us hl => match us, hl with | [_, _, _], _ => rfl,
    me_Atlas_with_log := ⟨A_Atlas_with_log, i_Atlas_with_log, K_Atlas_with_log⟩,
    a_Atlas_without := f_Atlas_without, fd_Atlas_without := _, F_Atlas_without := fun_mk (st := s_Atlas_without) L_Atlas_without C_Atlas_without K_Atlas_without,
    b_Atlas_without := (fun_mk (st := s_Atlas_without) L_Atlas_without C_Atlas_without K_Atlas_without).binds (ps := ["self", "name"]) fun _ _ _ _ _ _ us hl => match us, hl with | [_, _], _ => rfl,
    me_Atlas_without := ⟨A_Atlas_without, i_Atlas_without, K_Atlas_without⟩,
    a_Atlas_len := f_Atlas_len, fd_Atlas_len := _, F_Atlas_len := fun_mk (st := s_Atlas_len) L_Atlas_len C_Atlas_len K_Atlas_len,
    b_Atlas_len := (fun_mk (st := s_Atlas_len) L_Atlas_len C_Atlas_len K_Atlas_len).binds (ps := ["self"]) fun _ _ _ _ _ _ us hl => match us, hl with | [_], _ => rfl,
    me_Atlas_len := ⟨A_Atlas_len, i_Atlas_len, K_Atlas_len⟩,
    g_LETTERS := ⟨_, PySem.W.mg_of X G A_LETTERS⟩,
    a_STEPS := f_STEPS, g_STEPS := PySem.W.mg_of X G A_STEPS,
    es_STEPS := _, n_STEPS := _, kd_STEPS := ⟨D_STEPS, Y_STEPS, lo_STEPS⟩,
    ns_STEPS := ns_keys D_STEPS ke_STEPS,
    v_STEPS_0 := ⟨_, ⟨_, _, _, D_STEPS, Y_STEPS, N_STEPS_0, rfl⟩, fun H => .inr ⟨_, _, _, V_STEPS_0, rfl, rfl, by show 2 ≤ sizeLine; decide, (.cons ⟨_, rfl⟩ (.cons ⟨_, rfl⟩ .nil))⟩⟩,
    v_STEPS_1 := ⟨_, ⟨_, _, _, D_STEPS, Y_STEPS, N_STEPS_1, rfl⟩, fun H => .inr ⟨_, _, _, V_STEPS_1, rfl, rfl, by show 2 ≤ sizeLine; decide, (.cons ⟨_, rfl⟩ (.cons ⟨_, rfl⟩ .nil))⟩⟩,
    v_STEPS_2 := ⟨_, ⟨_, _, _, D_STEPS, Y_STEPS, N_STEPS_2, rfl⟩, fun H => .inr ⟨_, _, _, V_STEPS_2, rfl, rfl, by show 2 ≤ sizeLine; decide, (.cons ⟨_, rfl⟩ (.cons ⟨_, rfl⟩ .nil))⟩⟩,
    v_STEPS_3 := ⟨_, ⟨_, _, _, D_STEPS, Y_STEPS, N_STEPS_3, rfl⟩, fun H => .inr ⟨_, _, _, V_STEPS_3, rfl, rfl, by show 2 ≤ sizeLine; decide, (.cons ⟨_, rfl⟩ (.cons ⟨_, rfl⟩ .nil))⟩⟩,
    g_SMALL := ⟨_, PySem.W.mg_of X G A_SMALL⟩,
    g_GREAT := ⟨_, PySem.W.mg_of X G A_GREAT⟩,
    g_LONGEST := ⟨_, PySem.W.mg_of X G A_LONGEST⟩,
    a_WORDS_ALONE := f_WORDS_ALONE, g_WORDS_ALONE := PySem.W.mg_of X G A_WORDS_ALONE,
    v_WORDS_ALONE := fun H => .inr ⟨_, _, _, V_WORDS_ALONE, rfl, rfl, by show 6 ≤ sizeLine; decide, (.cons ⟨_, rfl⟩ (.cons ⟨_, rfl⟩ (.cons ⟨_, rfl⟩ (.cons ⟨_, rfl⟩ (.cons ⟨_, rfl⟩ (.cons ⟨_, rfl⟩ .nil))))))⟩,
    a_WORDS_BEHIND_A_FACE := f_WORDS_BEHIND_A_FACE, g_WORDS_BEHIND_A_FACE := PySem.W.mg_of X G A_WORDS_BEHIND_A_FACE,
    v_WORDS_BEHIND_A_FACE := fun H => .inr ⟨_, _, _, V_WORDS_BEHIND_A_FACE, rfl, rfl, by show 6 ≤ sizeLine; decide, (.cons ⟨_, rfl⟩ (.cons ⟨_, rfl⟩ (.cons ⟨_, rfl⟩ (.cons ⟨_, rfl⟩ (.cons ⟨_, rfl⟩ (.cons ⟨_, rfl⟩ .nil))))))⟩,
    a_QUARTERS := f_QUARTERS, g_QUARTERS := PySem.W.mg_of X G A_QUARTERS,
    es_QUARTERS := _, n_QUARTERS := _, kd_QUARTERS := ⟨D_QUARTERS, Y_QUARTERS, lo_QUARTERS⟩,
    ns_QUARTERS := ns_keys D_QUARTERS ke_QUARTERS,
    v_QUARTERS_0 := ⟨_, _, _, D_QUARTERS, Y_QUARTERS, N_QUARTERS_0, ⟨_, rfl⟩⟩,
    v_QUARTERS_1 := ⟨_, _, _, D_QUARTERS, Y_QUARTERS, N_QUARTERS_1, ⟨_, rfl⟩⟩,
    v_QUARTERS_2 := ⟨_, _, _, D_QUARTERS, Y_QUARTERS, N_QUARTERS_2, ⟨_, rfl⟩⟩,
    a_START := f_START, g_START := PySem.W.mg_of X G A_START,
    v_START := ⟨_, fun H => .inr ⟨_, _, _, V_START, rfl, rfl, by show 2 ≤ sizeLine; decide, (.cons rfl (.cons ⟨_, rfl⟩ .nil))⟩, fun H => .inr ⟨_, _, _, V_START_0, rfl, rfl, by show 2 ≤ sizeLine; decide, (.cons ⟨_, rfl⟩ (.cons ⟨_, rfl⟩ .nil))⟩⟩,
    g_HOW_MANY_LOTS := ⟨_, PySem.W.mg_of X G A_HOW_MANY_LOTS⟩,
    m_abs := PySem.W.mg_none_of X G Z_abs, m_all := PySem.W.mg_none_of X G Z_all, m_any := PySem.W.mg_none_of X G Z_any, m_bool := PySem.W.mg_none_of X G Z_bool, m_enumerate := PySem.W.mg_none_of X G Z_enumerate, m_int := PySem.W.mg_none_of X G Z_int, m_isinstance := PySem.W.mg_none_of X G Z_isinstance, m_len := PySem.W.mg_none_of X G Z_len, m_list := PySem.W.mg_none_of X G Z_list, m_range := PySem.W.mg_none_of X G Z_range, m_sorted := PySem.W.mg_none_of X G Z_sorted, m_str := PySem.W.mg_none_of X G Z_str, m_tuple := PySem.W.mg_none_of X G Z_tuple, m_zip := PySem.W.mg_none_of X G Z_zip }
  exact ⟨T.fd_law, fun s v => .of_eq rfl, fun base _ _ => ok_law T⟩
end M
open PySem PySem.W PyProof.Rows
set_option maxHeartbeats 0 in
theorem PySem.Challenge.cw_wayneedle_k24_whole_atlases_by_names_holds : PySem.Challenge.rw_wayneedle_k24_whole_atlases_by_names.Holds := by
  w_on; o_law; k_head; (case hw => w_witness2)
  k_fill
  refine L2.walk_of (l := PySem.Challenge.rw_wayneedle_k24_whole_atlases_by_names) (n := 63) (k := 11) (x := "_law_script") (CX := fun _ => L2.CX0) (sp := fun w => M.spLaw _) rfl (by decide) rfl ⟨rfl, by decide, by decide⟩ (fun w h Y => PySem.W.kIn_of Y) ?F (fun _ _ a ns hl _ hS => ⟨a, ns, rfl, hS, hl, fun _ => rfl⟩) (fun _ _ _ _ _ h => h)
  case F =>
    intro w mg fa h KX G hmg
    refine' M.all_mk KX G hmg ?A_Atlas ?pg_Atlas ?hd_Atlas ?po_Atlas ?sa_Atlas ?mk_Atlas ?kc_Atlas ?nf_Atlas_box ?nf_Atlas_names ?nf_Atlas_logs ?A_is_whole ?L_is_whole ?C_is_whole ?K_is_whole ?A_is_row ?L_is_row ?C_is_row ?K_is_row ?A_is_letter ?L_is_letter ?C_is_letter ?K_is_letter ?A_step ?L_step ?C_step ?K_step ?A_way_of ?L_way_of ?C_way_of ?K_way_of ?A_is_lot ?L_is_lot ?C_is_lot ?K_is_lot ?A_refuse_unless_lot ?L_refuse_unless_lot ?C_refuse_unless_lot ?K_refuse_unless_lot ?A_mirrors ?L_mirrors ?C_mirrors ?K_mirrors ?A_true ?L_true ?C_true ?K_true ?A_is_short_text ?L_is_short_text ?C_is_short_text ?K_is_short_text ?A_are_small ?L_are_small ?C_are_small ?K_are_small ?A_is_name ?L_is_name ?C_is_name ?K_is_name ?A_is_lone ?L_is_lone ?C_is_lone ?K_is_lone ?A_is_sign ?L_is_sign ?C_is_sign ?K_is_sign ?A_is_many ?L_is_many ?C_is_many ?K_is_many ?A_is_pair_entry ?L_is_pair_entry ?C_is_pair_entry ?K_is_pair_entry ?A_is_entry ?L_is_entry ?C_is_entry ?K_is_entry ?A_held_log ?L_held_log ?C_held_log ?K_held_log ?A_legs_in ?L_legs_in ?C_legs_in ?K_legs_in ?A_refuse_unless_lots ?L_refuse_unless_lots ?C_refuse_unless_lots ?K_refuse_unless_lots ?A_gone ?L_gone ?C_gone ?K_gone ?A_look_behind ?L_look_behind ?C_look_behind ?K_look_behind ?A_track ?L_track ?C_track ?K_track ?A_way_fact ?L_way_fact ?C_way_fact ?K_way_fact ?A_facts_of_entry ?L_facts_of_entry ?C_facts_of_entry ?K_facts_of_entry ?A_facts ?L_facts ?C_facts ?K_facts ?A_held_box ?L_held_box ?C_held_box ?K_held_box ?A_held_log_of ?L_held_log_of ?C_held_log_of ?K_held_log_of ?A_lots_left_in ?L_lots_left_in ?C_lots_left_in ?K_lots_left_in ?A_first_not_dealt ?L_first_not_dealt ?C_first_not_dealt ?K_first_not_dealt ?A_refuse_unless_dealt ?L_refuse_unless_dealt ?C_refuse_unless_dealt ?K_refuse_unless_dealt ?A_is_dealt ?L_is_dealt ?C_is_dealt ?K_is_dealt ?A_told ?L_told ?C_told ?K_told ?A_lone_signs ?L_lone_signs ?C_lone_signs ?K_lone_signs ?A_groups ?L_groups ?C_groups ?K_groups ?A_Lpool ?L_Lpool ?C_Lpool ?K_Lpool ?A_Ltake ?L_Ltake ?C_Ltake ?K_Ltake ?A_Lmix ?L_Lmix ?C_Lmix ?K_Lmix ?A_Ltrue ?L_Ltrue ?C_Ltrue ?K_Ltrue ?A_Loff ?L_Loff ?C_Loff ?K_Loff ?A_Lside ?L_Lside ?C_Lside ?K_Lside ?A_Lname ?L_Lname ?C_Lname ?K_Lname ?A_Lnames ?L_Lnames ?C_Lnames ?K_Lnames ?A_Lland ?L_Lland ?C_Lland ?K_Lland ?A_Lentry ?L_Lentry ?C_Lentry ?K_Lentry ?A_Lwritten ?L_Lwritten ?C_Lwritten ?K_Lwritten ?A_Lworld ?L_Lworld ?C_Lworld ?K_Lworld ?A_Lsigns ?L_Lsigns ?C_Lsigns ?K_Lsigns ?A_Lflat ?L_Lflat ?C_Lflat ?K_Lflat ?A_Lcalled ?L_Lcalled ?C_Lcalled ?K_Lcalled ?A_law ?L_law ?C_law ?K_law ?A_Atlas_init ?i_Atlas_init ?L_Atlas_init ?C_Atlas_init ?K_Atlas_init ?V_Atlas_init ?W_Atlas_init ?A_Atlas_log ?i_Atlas_log ?L_Atlas_log ?C_Atlas_log ?K_Atlas_log ?A_Atlas_legs ?i_Atlas_legs ?L_Atlas_legs ?C_Atlas_legs ?K_Atlas_legs ?A_Atlas_with_log ?i_Atlas_with_log ?L_Atlas_with_log ?C_Atlas_with_log ?K_Atlas_with_log ?A_Atlas_without ?i_Atlas_without ?L_Atlas_without ?C_Atlas_without ?K_Atlas_without ?A_Atlas_len ?i_Atlas_len ?L_Atlas_len ?C_Atlas_len ?K_Atlas_len ?A_LETTERS ?A_STEPS ?D_STEPS ?Y_STEPS ?lo_STEPS ?ke_STEPS ?N_STEPS_0 ?V_STEPS_0 ?N_STEPS_1 ?V_STEPS_1 ?N_STEPS_2 ?V_STEPS_2 ?N_STEPS_3 ?V_STEPS_3 ?A_SMALL ?A_GREAT ?A_LONGEST ?A_WORDS_ALONE ?V_WORDS_ALONE ?A_WORDS_BEHIND_A_FACE ?V_WORDS_BEHIND_A_FACE ?A_QUARTERS ?D_QUARTERS ?Y_QUARTERS ?lo_QUARTERS ?ke_QUARTERS ?N_QUARTERS_0 ?N_QUARTERS_1 ?N_QUARTERS_2 ?A_START ?V_START ?V_START_0 ?A_HOW_MANY_LOTS ?Z_abs ?Z_all ?Z_any ?Z_bool ?Z_enumerate ?Z_int ?Z_isinstance ?Z_len ?Z_list ?Z_range ?Z_sorted ?Z_str ?Z_tuple ?Z_zip
    (case A_Atlas => k_is); (case pg_Atlas => k_is); (case hd_Atlas => k_is); (case po_Atlas => k_is); (case sa_Atlas => k_is); (case mk_Atlas => k_is); (case kc_Atlas => k_is); (case nf_Atlas_box => k_is); (case nf_Atlas_names => k_is); (case nf_Atlas_logs => k_is); (case A_is_whole => k_is); (case L_is_whole => k_is); (case C_is_whole => k_is); (case K_is_whole => k_is); (case A_is_row => k_is); (case L_is_row => k_is); (case C_is_row => k_is); (case K_is_row => k_is); (case A_is_letter => k_is); (case L_is_letter => k_is); (case C_is_letter => k_is); (case K_is_letter => k_is); (case A_step => k_is); (case L_step => k_is); (case C_step => k_is); (case K_step => k_is); (case A_way_of => k_is); (case L_way_of => k_is); (case C_way_of => k_is); (case K_way_of => k_is); (case A_is_lot => k_is); (case L_is_lot => k_is); (case C_is_lot => k_is); (case K_is_lot => k_is); (case A_refuse_unless_lot => k_is); (case L_refuse_unless_lot => k_is); (case C_refuse_unless_lot => k_is); (case K_refuse_unless_lot => k_is); (case A_mirrors => k_is); (case L_mirrors => k_is); (case C_mirrors => k_is); (case K_mirrors => k_is); (case A_true => k_is); (case L_true => k_is); (case C_true => k_is); (case K_true => k_is); (case A_is_short_text => k_is); (case L_is_short_text => k_is); (case C_is_short_text => k_is); (case K_is_short_text => k_is); (case A_are_small => k_is); (case L_are_small => k_is); (case C_are_small => k_is); (case K_are_small => k_is); (case A_is_name => k_is); (case L_is_name => k_is); (case C_is_name => k_is); (case K_is_name => k_is); (case A_is_lone => k_is); (case L_is_lone => k_is); (case C_is_lone => k_is); (case K_is_lone => k_is); (case A_is_sign => k_is); (case L_is_sign => k_is); (case C_is_sign => k_is); (case K_is_sign => k_is); (case A_is_many => k_is); (case L_is_many => k_is); (case C_is_many => k_is); (case K_is_many => k_is); (case A_is_pair_entry => k_is); (case L_is_pair_entry => k_is); (case C_is_pair_entry => k_is); (case K_is_pair_entry => k_is); (case A_is_entry => k_is); (case L_is_entry => k_is); (case C_is_entry => k_is); (case K_is_entry => k_is); (case A_held_log => k_is); (case L_held_log => k_is); (case C_held_log => k_is); (case K_held_log => k_is); (case A_legs_in => k_is); (case L_legs_in => k_is); (case C_legs_in => k_is); (case K_legs_in => k_is); (case A_refuse_unless_lots => k_is); (case L_refuse_unless_lots => k_is); (case C_refuse_unless_lots => k_is); (case K_refuse_unless_lots => k_is); (case A_gone => k_is); (case L_gone => k_is); (case C_gone => k_is); (case K_gone => k_is); (case A_look_behind => k_is); (case L_look_behind => k_is); (case C_look_behind => k_is); (case K_look_behind => k_is); (case A_track => k_is); (case L_track => k_is); (case C_track => k_is); (case K_track => k_is); (case A_way_fact => k_is); (case L_way_fact => k_is); (case C_way_fact => k_is); (case K_way_fact => k_is); (case A_facts_of_entry => k_is); (case L_facts_of_entry => k_is); (case C_facts_of_entry => k_is); (case K_facts_of_entry => k_is); (case A_facts => k_is); (case L_facts => k_is); (case C_facts => k_is); (case K_facts => k_is); (case A_held_box => k_is); (case L_held_box => k_is); (case C_held_box => k_is); (case K_held_box => k_is); (case A_held_log_of => k_is); (case L_held_log_of => k_is); (case C_held_log_of => k_is); (case K_held_log_of => k_is); (case A_lots_left_in => k_is); (case L_lots_left_in => k_is); (case C_lots_left_in => k_is); (case K_lots_left_in => k_is); (case A_first_not_dealt => k_is); (case L_first_not_dealt => k_is); (case C_first_not_dealt => k_is); (case K_first_not_dealt => k_is); (case A_refuse_unless_dealt => k_is); (case L_refuse_unless_dealt => k_is); (case C_refuse_unless_dealt => k_is); (case K_refuse_unless_dealt => k_is); (case A_is_dealt => k_is); (case L_is_dealt => k_is); (case C_is_dealt => k_is); (case K_is_dealt => k_is); (case A_told => k_is); (case L_told => k_is); (case C_told => k_is); (case K_told => k_is); (case A_lone_signs => k_is); (case L_lone_signs => k_is); (case C_lone_signs => k_is); (case K_lone_signs => k_is); (case A_groups => k_is); (case L_groups => k_is); (case C_groups => k_is); (case K_groups => k_is); (case A_Lpool => k_is); (case L_Lpool => k_is); (case C_Lpool => k_is); (case K_Lpool => k_is); (case A_Ltake => k_is); (case L_Ltake => k_is); (case C_Ltake => k_is); (case K_Ltake => k_is); (case A_Lmix => k_is); (case L_Lmix => k_is); (case C_Lmix => k_is); (case K_Lmix => k_is); (case A_Ltrue => k_is); (case L_Ltrue => k_is); (case C_Ltrue => k_is); (case K_Ltrue => k_is); (case A_Loff => k_is); (case L_Loff => k_is); (case C_Loff => k_is); (case K_Loff => k_is); (case A_Lside => k_is); (case L_Lside => k_is); (case C_Lside => k_is); (case K_Lside => k_is); (case A_Lname => k_is); (case L_Lname => k_is); (case C_Lname => k_is); (case K_Lname => k_is); (case A_Lnames => k_is); (case L_Lnames => k_is); (case C_Lnames => k_is); (case K_Lnames => k_is); (case A_Lland => k_is); (case L_Lland => k_is); (case C_Lland => k_is); (case K_Lland => k_is); (case A_Lentry => k_is); (case L_Lentry => k_is); (case C_Lentry => k_is); (case K_Lentry => k_is); (case A_Lwritten => k_is); (case L_Lwritten => k_is); (case C_Lwritten => k_is); (case K_Lwritten => k_is); (case A_Lworld => k_is); (case L_Lworld => k_is); (case C_Lworld => k_is); (case K_Lworld => k_is); (case A_Lsigns => k_is); (case L_Lsigns => k_is); (case C_Lsigns => k_is); (case K_Lsigns => k_is); (case A_Lflat => k_is); (case L_Lflat => k_is); (case C_Lflat => k_is); (case K_Lflat => k_is); (case A_Lcalled => k_is); (case L_Lcalled => k_is); (case C_Lcalled => k_is); (case K_Lcalled => k_is); (case A_law => k_is); (case L_law => k_is); (case C_law => k_is); (case K_law => k_is); (case A_Atlas_init => k_is); (case i_Atlas_init => k_is); (case L_Atlas_init => k_is); (case C_Atlas_init => k_is); (case K_Atlas_init => k_is); (case V_Atlas_init => k_is); (case W_Atlas_init => k_is); (case A_Atlas_log => k_is); (case i_Atlas_log => k_is); (case L_Atlas_log => k_is); (case C_Atlas_log => k_is); (case K_Atlas_log => k_is); (case A_Atlas_legs => k_is); (case i_Atlas_legs => k_is); (case L_Atlas_legs => k_is); (case C_Atlas_legs => k_is); (case K_Atlas_legs => k_is); (case A_Atlas_with_log => k_is); (case i_Atlas_with_log => k_is); (case L_Atlas_with_log => k_is); (case C_Atlas_with_log => k_is); (case K_Atlas_with_log => k_is); (case A_Atlas_without => k_is); (case i_Atlas_without => k_is); (case L_Atlas_without => k_is); (case C_Atlas_without => k_is); (case K_Atlas_without => k_is); (case A_Atlas_len => k_is); (case i_Atlas_len => k_is); (case L_Atlas_len => k_is); (case C_Atlas_len => k_is); (case K_Atlas_len => k_is); (case A_LETTERS => k_is); (case A_STEPS => k_is); (case D_STEPS => k_is); (case Y_STEPS => k_keys); (case lo_STEPS => first | rfl | decide +kernel); (case ke_STEPS => exact ⟨⟨_, rfl⟩, ⟨_, rfl⟩, ⟨_, rfl⟩, ⟨_, rfl⟩, True.intro⟩); (case N_STEPS_0 => k_is); (case V_STEPS_0 => k_is); (case N_STEPS_1 => k_is); (case V_STEPS_1 => k_is); (case N_STEPS_2 => k_is); (case V_STEPS_2 => k_is); (case N_STEPS_3 => k_is); (case V_STEPS_3 => k_is); (case A_SMALL => k_is); (case A_GREAT => k_is); (case A_LONGEST => k_is); (case A_WORDS_ALONE => k_is); (case V_WORDS_ALONE => k_is); (case A_WORDS_BEHIND_A_FACE => k_is); (case V_WORDS_BEHIND_A_FACE => k_is); (case A_QUARTERS => k_is); (case D_QUARTERS => k_is); (case Y_QUARTERS => k_keys); (case lo_QUARTERS => first | rfl | decide +kernel); (case ke_QUARTERS => exact ⟨⟨_, rfl⟩, ⟨_, rfl⟩, ⟨_, rfl⟩, True.intro⟩); (case N_QUARTERS_0 => k_is); (case N_QUARTERS_1 => k_is); (case N_QUARTERS_2 => k_is); (case A_START => k_is); (case V_START => k_is); (case V_START_0 => k_is); (case A_HOW_MANY_LOTS => k_is); (case Z_abs => k_is); (case Z_all => k_is); (case Z_any => k_is); (case Z_bool => k_is); (case Z_enumerate => k_is); (case Z_int => k_is); (case Z_isinstance => k_is); (case Z_len => k_is); (case Z_list => k_is); (case Z_range => k_is); (case Z_sorted => k_is); (case Z_str => k_is); (case Z_tuple => k_is); (case Z_zip => k_is)
