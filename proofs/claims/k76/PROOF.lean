import PyProof.Rows.All
import Wide.All
import OpenK.AllK
import Wide.FinOn
import HandS.ForMost
import HandS.ForExc
import HandS.HotCalls
import HandS.ExcIs
import HandS.ExcInit
import HandS.ExcField
import HandS.Defaults
import HandS.CallSlots
import HandS.Deep
import KE.GoesEnum
import KE.GoesNew
import HandS.IsInst
import HandS.Replace
import HandS.Wide
import HandS.NoneIn
import HandS.Walk
import HandS.Evl
import HandS.More
import HandS.Zip
import HandS.Conv
import KE.KxIndex
import PySem.Challenge.RW_wayneedle_k76_books_equal
import HandS.TupMul
import HandS.Star
import HandS.TupAny
import HandS.Flow
import HandS.RaiseMore
import HandS.ListItems
import HandS.SortRule
import HandS.Strs
import KE.GoesEnumKw
import HandS.Iter
import HandS.OwnEq
import HandS.FStr
import KE.DataCmp
import HandS.SuiteRaise
import HandS.RaiseFrom
import HandS.ExcInitHot
import PyProof.ListStr
set_option Elab.async false
set_option linter.all false
set_option maxRecDepth 100000
set_option maxHeartbeats 4000000

/-! ### iterators that hand out pairs (enumerate, zip), over what is a list or a tuple: one turn for all of them, by GoesN -/
namespace PairW
open PySem PySem.Spec PyProof.Rows L2
/-- a sequence and an iterator over it: a tuple (true) or a list (false) -/
def SqB (t : Bool) (h : Heap) (l : Addr) (xs : Array Value) : Prop := match t with
  | true => h.IsTuple l xs
  | false => h.IsList l xs
def ItB (t : Bool) (h : Heap) (it l : Addr) (k : Nat) : Prop := match t with
  | true => h.IsTupleIter it l k
  | false => h.IsListIter it l k
def SqV (t : Bool) (K : PySem.W.Frag) (H : Hp) (a : Addr) (xs : List V) : Prop := match t with
  | true => SqT K H a xs
  | false => SqL K H a xs
def itO (t : Bool) (l : Addr) : Obj := match t with
  | true => { cls := .type "tuple_iterator", data := .fields #[.ref l, .int 0 0] }
  | false => { cls := .type "list_iterator", data := .fields #[.ref l, .int 0 0] }
theorem SqB.lt {t : Bool} {h : Heap} {a : Addr} {xs : Array Value} (q : SqB t h a xs) : a < h.objs.size := by
  cases t <;> (obtain ⟨o, e, _⟩ := q; exact Heap.lt_size e)
theorem ItB.at {t : Bool} {h h' : Heap} {a l : Addr} {k : Nat} (x : ItB t h a l k) (e : ∀ o, h.get? a = some o → h'.get? a = some o) : ItB t h' a l k := by
  cases t
  · exact Heap.IsListIter.at x e
  · exact Heap.IsTupleIter.at x e
theorem ItB.obj {t : Bool} {h : Heap} {a l : Addr} {k : Nat} (x : ItB t h a l k) : ∃ o, h.get? a = some o ∧ ∀ v, o.data ≠ .cell v := by
  cases t <;> (obtain ⟨o, e, _, d⟩ := x; exact ⟨o, e, fun v q => by rw [d] at q; cases q⟩)
theorem itO_is {t : Bool} {h : Heap} {a l : Addr} (e : h.get? a = some (itO t l)) : ItB t h a l 0 := by
  cases t <;> exact ⟨_, e, rfl, rfl⟩
theorem sqv_get {X : Cx} {pins : List (Addr × Obj)} {σ : L2.St} {H : Hp} {s : Shared} {t : Bool} {a : Addr} {xs : List V} (I : Inv X pins σ H s) (h : SqV t X.K H a xs) : ∃ its, Vals xs its ∧ SqB t s.heap a its.toArray := by
  cases t
  · obtain ⟨its, rv, there, _⟩ := I.list h
    exact ⟨its, rv, there.isList⟩
  · obtain ⟨its, rv, there, _⟩ := I.tuple h
    exact ⟨its, rv, there⟩
theorem sqv_inj {X : Cx} {pins : List (Addr × Obj)} {σ : L2.St} {H : Hp} {s : Shared} {t : Bool} {a : Addr} {xs ys : List V} (I : Inv X pins σ H s) (h : SqV t X.K H a xs) (h' : SqV t X.K H a ys) : xs = ys := by
  cases t
  · exact I.list_inj h h'
  · exact I.tuple_inj h h'
theorem draws {prog : Program} {w : World} {A : Around} (hh : A.handled = none) (t : Bool) {it l : Addr} (ne : l ≠ it) (items : Array Value) :
    Draws prog w A it [it, l] items.size (fun i v => items[i]? = some v) (fun i h => ItB t h it l i ∧ SqB t h l items) := by
  cases t
  · exact Draws.list hh it l ne items
  · exact Draws.tuple hh it l ne items
theorem begins (t : Bool) (l : Addr) (items : Array Value) : Begins (.ref l) (itO t l) (fun h => SqB t h l items) := by
  cases t
  · exact begins_list l items
  · exact begins_tuple l items
/-- an iterator stands, made of new cells alone -/
theorem begun {X : Cx} {pins : List (Addr × Obj)} {σ : L2.St} {H : Hp} {s : Shared} {tg : Expr} {J : It} {fp : List Addr} {it : Addr} {tn : Nat → Heap → Prop} {R : It → Hp → Prop} {h' : Heap} (I : Inv X pins σ H s)
    (old : ∀ b o, s.heap.get? b = some o → h'.get? b = some o) (T : Turn X.prog X.w X.K tg J fp it tn) (st : tn 0 h') (new : ∀ b ∈ fp, s.heap.objs.size ≤ b) (q : R J H) : PIE X pins σ tg R (.ref it) { s with heap := h' } :=
  ⟨it, fp, tn, J, H, rfl, I.kept (t' := s.toks) old, T, st, fun b m => I.fpOk (new b m) (I.hok.fresh (new b m)), q⟩
/-- pairs: when there is one, of what it is, when there is none any more -/
structure Prs where
  go : Nat → Hp → Prop
  are : Nat → Hp → V → V → Prop
  stop : Nat → Hp → Prop
def Prs.it (p : Prs) : It where
  go := p.go
  yld := fun i H v H' => ∃ T x y, v = .ref T ∧ H T = none ∧ H' = upd H T (.tup [x, y]) ∧ p.are i H x y
  stop := p.stop
/-- what the iterator that stands at i over the sequences as they are now does: the library's GoesN, with what its pairs are -/
def Does (P : Program) (w : World) (X : Cx) (tg : Expr) (p : Prs) (it : Addr) (wr : List Addr) (tn : Nat → Heap → Prop) (i : Nat) (H : Hp) (s : Shared) : Prop :=
  ∃ (n : Nat) (fp : List Addr) (Y : Nat → Heap → Value → Heap → Prop) (St : Nat → Heap → Prop), GoesN P w X.A tg it fp wr n Y St ∧ St i s.heap ∧ (∀ h, St (i + 1) h → tn (i + 1) h) ∧ (p.stop i H → i = n) ∧
    (p.go i H → i < n ∧ ∀ h0 v h, Y i h0 v h → ∃ T a b x y, v = .ref T ∧ h0.objs.size ≤ T ∧ h.IsTuple T #[a, b] ∧ RelV x a ∧ RelV y b ∧ p.are i H x y)
theorem turn_prs {P : Program} {w : World} {K : PySem.W.Frag} {tg : Expr} {it : Addr} {fp wr : List Addr} {tn : Nat → Heap → Prop} (p : Prs) (mine : it ∈ fp) (hwr : ∀ b ∈ wr, b ∈ fp)
    (obj : ∀ i h, tn i h → ∀ b ∈ fp, ∃ o, h.get? b = some o ∧ ∀ v, o.data ≠ .cell v) (keep : ∀ i h h', tn i h → (∀ b ∈ fp, ∀ o, h.get? b = some o → h'.get? b = some o) → tn i h')
    (self : ∀ (A : Around) (i : Nat) (s : Shared) (Q : Value → Shared → Prop) (E : Value → Shared → Prop), tn i s.heap → Q (.ref it) s → wpAny (model P w) A (pyIter (.ref it)) Q E s)
    (does : ∀ (X : Cx), X.prog = P → X.w = w → X.K = K → X.calm = true → ∀ i pins s σ H, Inv X pins σ H s → tn i s.heap → (p.go i H ∨ p.stop i H) → Does P w X tg p it wr tn i H s) : Turn P w K tg p.it fp it tn where
  mem := mine
  obj := obj
  keep := keep
  self := self
  item := fun X e1 e2 e3 calm i pins s σ H E I free st more => by
    obtain ⟨n, fp', Y, St, W, here, next, _, far⟩ := does X e1 e2 e3 calm i pins s σ H I st (.inl more)
    obtain ⟨lt, pair⟩ := far more
    refine W.goes i s (fun u s2 => ∃ x H', Inv X pins σ H' s2 ∧ RelV x u ∧ p.it.yld i H x H' ∧ tn (i + 1) s2.heap ∧ ∀ b ∈ fp, H' b = none) E lt here fun v h' tk told st' old _ => ?_
    obtain ⟨T, a, b, x, y, rfl, new, tup, ra, rb, are⟩ := pair _ _ _ told
    refine ⟨.ref T, upd H T (.tup [x, y]), I.turnedNew (ch := wr) old (fun c m => free c (hwr c m)) new ⟨by show 2 ≤ sizeLine; decide, [a, b], .cons ra (.cons rb .nil), tup⟩, rfl, ⟨T, x, y, rfl, I.hok.fresh new, rfl, are⟩, next _ st', fun c m => ?_⟩
    obtain ⟨o, ho, _⟩ := obj i _ st c m
    exact (upd_ne (Nat.ne_of_lt (Nat.lt_of_lt_of_le (Heap.lt_size ho) new))).trans (free c m).1
  done := fun X e1 e2 e3 calm i pins s σ H E I free st none => by
    obtain ⟨n, fp', Y, St, W, here, _, last, _⟩ := does X e1 e2 e3 calm i pins s σ H I st (.inr none)
    rw [last none] at here
    exact W.stops s (fun s1 => Inv X pins σ H s1) E here fun h' tk old _ => I.turnedL (ch := wr) old fun c m => free c (hwr c m)
/-! enumerate, from k0 on -/
def PrE (t : Bool) (k0 : Int) (K : PySem.W.Frag) (a : Addr) : Prs where
  go := fun i H => ∃ xs : List V, SqV t K H a xs ∧ i < xs.length
  are := fun i H x y => x = .int (k0 + (i : Nat)) ∧ ∀ xs, SqV t K H a xs → xs[i]? = some y
  stop := fun i H => ∃ xs : List V, SqV t K H a xs ∧ i = xs.length
def TnE (t : Bool) (k0 : Int) (a e it : Addr) (i : Nat) (h : Heap) : Prop := (∃ old, IsEnum h e it (k0 + (i : Int)) old) ∧ ItB t h it a i
theorem turn_e {P : Program} {w : World} {K : PySem.W.Frag} {elts : List Expr} {kk : Nat} {tpos : Pos} {t : Bool} {k0 : Int} {a e it : Addr} (hai : a ≠ it) (hae : a ≠ e) (hei : e ≠ it) :
    Turn P w K (.Tuple elts kk tpos) (PrE t k0 K a).it [e, it] e (TnE t k0 a e it) := by
  refine turn_prs (wr := [e, it]) _ (by simp) (fun _ m => m) (fun i h st b m => ?_) (fun i h h' st k => ?_) (fun A i s Q E st q => ?_) fun X e1 e2 e3 calm i pins s σ H I st told => ?_
  · obtain ⟨⟨_, he⟩, hi⟩ := st
    rcases List.mem_cons.mp m with z | m
    · exact z ▸ ⟨_, he, fun _ q => nomatch q⟩
    · exact List.mem_singleton.mp m ▸ hi.obj
  · obtain ⟨⟨old, he⟩, hi⟩ := st
    exact ⟨⟨old, k e (by simp) _ he⟩, hi.at fun o => k it (by simp) o⟩
  · exact wpAny_pyIter_enum st.1.choose_spec q
  · subst e1 e2 e3
    obtain ⟨xs, hq⟩ : ∃ xs : List V, SqV t X.K H a xs := told.elim (fun ⟨xs, q, _⟩ => ⟨xs, q⟩) fun ⟨xs, q, _⟩ => ⟨xs, q⟩
    obtain ⟨its, rv, there⟩ := sqv_get I hq
    have many : xs.length = its.toArray.size := by rw [List.size_toArray]; exact rv.length
    have D := draws (prog := X.prog) (w := X.w) (A := X.A.in1) (I.ok.hd calm) t hai its.toArray
    refine ⟨_, _, _, _, GoesN.enumFrom k0 D e hei (by simp; exact ⟨hei, Ne.symm hae⟩) (by simp), ⟨st.1, st.2, there⟩, fun h q => ⟨q.1, q.2.1⟩, fun ⟨ys, q, n⟩ => by rw [n, sqv_inj I q hq, many], fun ⟨ys, q, n⟩ => ⟨?_, ?_⟩⟩
    · rw [sqv_inj I q hq, many] at n; exact n
    · rintro h0 v h ⟨T, tk, u, rfl, new, hu, tup⟩
      have ix : i < xs.length := by rw [← sqv_inj I q hq]; exact n
      obtain ⟨u', hu', ru⟩ := rv.get (List.getElem?_eq_getElem ix)
      have same : u' = u := Option.some.inj (hu'.symm.trans (by simpa using hu))
      exact ⟨T, _, u, .int (k0 + (i : Nat)), xs[i], rfl, new, tup, ⟨tk, rfl⟩, same ▸ ru, rfl, fun zs hz => by rw [sqv_inj I hz hq]; exact List.getElem?_eq_getElem ix⟩
theorem walk_e {t : Bool} {k0 : Int} {K : PySem.W.Frag} {a : Addr} {xs : List V} : Walk (PrE t k0 K a).it xs.length (fun H => SqV t K H a xs) (YPair (fun i => some (.int (k0 + (i : Nat)))) (fun i => xs[i]?)) where
  goes := fun i H lt q => ⟨xs, q, lt⟩
  stops := fun H q => ⟨xs, q, rfl⟩
  yields := fun i H v H' _ q ⟨T, x, y, e1, e2, e3, e4, e5⟩ => ⟨T, x, y, e1, e2, e3, by rw [e4], e5 xs q⟩
/-- the two cells of an enumerate that was made just now -/
theorem pie_e {X : Cx} {pins : List (Addr × Obj)} {σ : L2.St} {H : Hp} {s : Shared} {elts : List Expr} {kk : Nat} {tpos : Pos} {t : Bool} {k0 : Int} {a : Addr} {xs : List V} {R : It → Hp → Prop} {h' : Heap} (I : Inv X pins σ H s) (hq : SqV t X.K H a xs)
    (he : IsEnum h' (s.heap.objs.size + 1) s.heap.objs.size k0 .none) (hi : h'.get? s.heap.objs.size = some (itO t a)) (old : ∀ b o, s.heap.get? b = some o → h'.get? b = some o) (q : R (PrE t k0 X.K a).it H) :
    wpAny (model X.prog X.w) X.A (pyIter (.ref (s.heap.objs.size + 1))) (PIE X pins σ (.Tuple elts kk tpos) R) X.xe { s with heap := h' } := by
  obtain ⟨its, _, there⟩ := sqv_get I hq
  have lt := there.lt
  refine wpAny_pyIter_enum he (begun I old (turn_e (t := t) (k0 := k0) (Nat.ne_of_lt lt) (Nat.ne_of_lt (Nat.lt_succ_of_lt lt)) (Nat.succ_ne_self _)) ⟨⟨.none, ?_⟩, itO_is hi⟩ (fun b m => ?_) q)
  · show IsEnum h' _ _ (k0 + 0) _
    rw [Int.add_zero]; exact he
  · rcases List.mem_cons.mp m with z | m
    · exact z ▸ Nat.le_succ _
    · exact Nat.le_of_eq (List.mem_singleton.mp m).symm
/-- enumerate of one thing, whatever its iterator is -/
theorem made_one {v : Value} {o : Obj} {G : Heap → Prop} (B : Begins v o G) : Meets (Builtin.«enumerate.__new__» ⟨[.type "enumerate", v], []⟩) (fun _ R s => G s.heap ∧
    R (.ok (.ret (.ref (s.heap.push o).objs.size))) { s with heap := (s.heap.push o).push { cls := .type "enumerate", data := .fields #[.none, .bool false, .ref s.heap.objs.size, rawInt 0, .none, .none] } }) := .of_wp fun prog w A R ⟨hp, g, dr, tk, os⟩ ⟨stands, ends⟩ => by
  have known := sub_enumerate
  have first : ∀ {A' : Around} {E Q : Value → Shared → Prop}, Q (.ref hp.objs.size) ⟨hp.push o, g, dr, tk, os⟩ → wpAny (model prog w) A' (pyIter v) Q E ⟨hp, g, dr, tk, os⟩ := fun q => B.iter prog w _ _ ⟨hp, g, dr, tk, os⟩ _ stands q
  wp_walk using first
  refine wpAny_stack_any (fun _ => wpAny_pure ?_)
  split
  next c _ _ _ _ _ => cases (c == Value.type "enumerate") <;> (wp_walk using first; exact ⟨_, rfl, ends⟩)
  next => wp_walk using first; exact ⟨_, rfl, ends⟩
theorem call_one {prog : Program} {w : World} {A : Around} {E : Value → Shared → Prop} {s : Shared} {v : Value} {o : Obj} {G : Heap → Prop} {Q : Value → Shared → Prop} (B : Begins v o G) (stands : G s.heap)
    (then_ : ∀ h', IsEnum h' (s.heap.objs.size + 1) s.heap.objs.size 0 .none → h'.get? s.heap.objs.size = some o → (∀ b o, s.heap.get? b = some o → h'.get? b = some o) → Q (.ref (s.heap.objs.size + 1)) { s with heap := h' }) :
    wpAny (model prog w) A (call (.type "enumerate") [v]) Q E s := by
  refine callType_new F.called_enumerate (by decide) (F.typeCall_enumerate_1 _) (F.newCall_enumerate_1 _) (fun obj => F.args_object_init_2 obj _) F.entry_enumerate_new (made_one B) ⟨stands, ?_⟩
  have n1 := Heap.size_push s.heap o
  have last : IsEnum ((s.heap.push o).push { cls := .type "enumerate", data := .fields #[.none, .bool false, .ref s.heap.objs.size, rawInt 0, .none, .none] }) (s.heap.objs.size + 1) s.heap.objs.size 0 .none := n1 ▸ Heap.get?_push_size (s.heap.push o) rfl
  refine n1.symm ▸ ⟨⟨_, last, rfl⟩, then_ _ last ?_ fun b u z => ?_⟩
  · exact Heap.get?_push_of_some _ (Heap.get?_push_size _ B.free)
  · exact Heap.get?_push_of_some _ (Heap.get?_push_of_some _ z)
end PairW
namespace EnumT
open PySem PySem.Spec PyProof.Rows L2 PairW
theorem walk_enumT {K : PySem.W.Frag} {a : Addr} {xs : List V} : Walk (PrE true 0 K a).it xs.length (fun H => SqT K H a xs) (YPair (fun i => some (.int (i : Nat))) (fun i => xs[i]?)) := by
  have w := walk_e (t := true) (k0 := 0) (K := K) (a := a) (xs := xs)
  simp only [Int.zero_add] at w
  exact w
def iEnumT (K : PySem.W.Frag) (ta : TA) : TI := fun σ H R => ta σ H fun vs H1 => ∃ a xs, vs = [.ref a] ∧ SqT K H1 a xs ∧ R (PrE true 0 K a).it H1
theorem pi_enumT {X : Cx} {e : Expr} {ta : TA} {p pos tpos : Pos} {elts : List Expr} {kk : Nat} (hg : Gl X "enumerate") (hm : X.mg "enumerate" = none) (ha : PA X [e] ta)
    (hs : starEach [e] X.env = [(false, eval e X.env)] := by rfl) : PI X (.Tuple elts kk tpos) (.Call (.Name "enumerate" p) [e] [] pos) (iEnumT X.K ta) where
  run := fun pins s σ H R I h => Call_ (ld_blt I hg hm boot_enumerate (PyProof.Rows.callWith_type1 (thn (ha.run pos pins s σ H _ I h) fun us s1 ⟨vs, H1, I1, rv, a, xs, e, hq, q⟩ => by
    subst e
    obtain ⟨_, rfl, rfl⟩ := vals1 rv
    obtain ⟨its, _, there⟩ := sqv_get (t := true) I1 hq
    exact call_one (begins true a its.toArray) there fun h' he hi old => pie_e (t := true) (xs := xs) I1 hq he hi old q) hs rfl))
end EnumT
/-! ### walks over what is a list or a tuple -/
namespace SeqW
open PySem PySem.Spec PySem.Calls PyProof.Rows L2
/-- what stands at a is as it was -/
def Keeps (a : Addr) (H H' : Hp) : Prop := ∀ o, H a = some o → H' a = some o
theorem keeps_v {t : Bool} {K : PySem.W.Frag} {H H' : Hp} {a : Addr} {xs : List V} (k : Keeps a H H') (h : PairW.SqV t K H a xs) : PairW.SqV t K H' a xs := by
  cases t <;> exact h.elim (fun h => .inl (h.elim (fun h => .inl (k _ h)) fun ⟨o, h⟩ => .inr ⟨o, k _ h⟩)) .inr
theorem keeps_l {K : PySem.W.Frag} {H H' : Hp} {a : Addr} {xs : List V} (k : Keeps a H H') (h : SqL K H a xs) : SqL K H' a xs := keeps_v (t := false) k h
theorem keeps_t {K : PySem.W.Frag} {H H' : Hp} {a : Addr} {xs : List V} (k : Keeps a H H') (h : SqT K H a xs) : SqT K H' a xs := keeps_v (t := true) k h
theorem keeps_same {a : Addr} {H H' : Hp} (s : Same H H') : Keeps a H H' := fun o h => s a o h
theorem ix_seqK {X : Cx} {K : PySem.W.Frag} (h : X.K = K) : IxR X (rIx K) := by
  subst h
  exact ix_seq
def iSeq (K : PySem.W.Frag) (tl : TE) : TI := fun σ H R => tl σ H fun x H1 => ∃ a xs, x = .ref a ∧ ∃ Kp : Hp → Prop, ((∀ H', Kp H' → SqL K H' a xs) ∨ (∀ H', Kp H' → SqT K H' a xs)) ∧ Kp H1 ∧ ∀ (J : It) (G : Hp → Prop), Walk J xs.length G (YAt xs) → (∀ H', Kp H' → G H') → R J H1
theorem pi_seq {X : Cx} {tg l : Expr} {tl : TE} (hl : PE X l tl) : PI X tg l (iSeq X.K tl) where
  run := fun pins s σ H R I h => thn (hl.run pins s σ H _ I h) fun v s1 ⟨x, H1, I1, rv, a, xs, e, Kp, side, kp, q⟩ => by
    subst e
    cases rv
    have new : ∀ b ∈ [s1.heap.objs.size], s1.heap.objs.size ≤ b := fun b m => Nat.le_of_eq (List.mem_singleton.mp m).symm
    rcases side with is | is
    · obtain ⟨its, _, there, _⟩ := I1.list (is _ kp)
      exact wpAny_pyIter_list there.isList (PairW.begun I1 (fun _ _ => Heap.get?_push_of_some _) (turn_list a _) ⟨_, Heap.get?_push_size _ rfl, rfl, rfl⟩ new (q _ _ walk_list is))
    · obtain ⟨its, _, there, _⟩ := I1.tuple (is _ kp)
      exact wpAny_pyIter_tuple (show s1.heap.IsTuple a its.toArray from there) (PairW.begun I1 (fun _ _ => Heap.get?_push_of_some _) (turn_tuple a _) ⟨_, Heap.get?_push_size _ rfl, rfl, rfl⟩ new (q _ _ walk_tup is))
def iEnumA (K : PySem.W.Frag) (ta : TA) : TI := fun σ H R => ta σ H fun vs H1 => ∃ a xs, vs = [.ref a] ∧ ∃ Kp : Hp → Prop, ((∀ H', Kp H' → SqL K H' a xs) ∨ (∀ H', Kp H' → SqT K H' a xs)) ∧ Kp H1 ∧ ∀ (J : It) (G : Hp → Prop), Walk J xs.length G (YPair (fun i => some (.int (i : Nat))) (fun i => xs[i]?)) → (∀ H', Kp H' → G H') → R J H1
theorem pi_enumA {X : Cx} {e : Expr} {ta : TA} {p pos tpos : Pos} {elts : List Expr} {kk : Nat} (hg : Gl X "enumerate") (hm : X.mg "enumerate" = none) (ha : PA X [e] ta)
    (hs : starEach [e] X.env = [(false, eval e X.env)] := by rfl) : PI X (.Tuple elts kk tpos) (.Call (.Name "enumerate" p) [e] [] pos) (iEnumA X.K ta) where
  run := fun pins s σ H R I h => Call_ (ld_blt I hg hm boot_enumerate (PyProof.Rows.callWith_type1 (thn (ha.run pos pins s σ H _ I h) fun us s1 ⟨vs, H1, I1, rv, a, xs, e, Kp, side, kp, q⟩ => by
    subst e
    obtain ⟨_, rfl, rfl⟩ := vals1 rv
    have go : ∀ t : Bool, (∀ H', Kp H' → PairW.SqV t X.K H' a xs) → wpAny (model X.prog X.w) X.A (call (.type "enumerate") [.ref a]) (fun v s2 => wpAny (model X.prog X.w) X.A (pyIter v) (PIE X pins σ (.Tuple elts kk tpos) R) X.xe s2) X.xe s1 := fun t is => by
      obtain ⟨its, _, there⟩ := PairW.sqv_get I1 (is _ kp)
      have w := PairW.walk_e (t := t) (k0 := 0) (K := X.K) (a := a) (xs := xs)
      simp only [Int.zero_add] at w
      exact PairW.call_one (PairW.begins t a its.toArray) there fun h' he hi old => PairW.pie_e (xs := xs) I1 (is _ kp) he hi old (q _ _ w is)
    exact side.elim (go false) (go true)) hs rfl))
end SeqW
/-! ### len and == of an instance by its class's own methods -/
namespace OwnI
open PySem PySem.Spec PySem.Calls PyProof.Rows L2
section
variable {X : Cx} {CX : CXT} {k : Nat} {C f : Addr} {fd : FuncData} {ps : List Str} {sp : Sp} {E : XK}
theorem call_lenO (_c : Cls X.K C) (hm : Meth X.K C "__len__" f) (F : FnOk X.prog X.w X.K X.mg X.base CX0 k f fd ps sp) (hr : Room (k + 1) X.A) (hb : Binds X.K fd ps []) :
    CallR X (.builtin "len") (fun xs H Q => ∃ a dx fs, xs = [.ref a] ∧ H a = some (.ins C dx fs) ∧ sp [.ref a] H (fun v H' => ∃ n : Nat, v = .int n ∧ n ≤ sizeLine ∧ Q (.int n) H') E0) := by
  intro pins s σ H xs us Q I r h
  obtain ⟨a, dx, fs, rfl, ha, hsp⟩ := h
  obtain ⟨u, rfl, ru⟩ := vals1 r
  cases (show u = Value.ref a from ru)
  obtain ⟨mA, J, _⟩ := ins_get I.hok ha
  obtain ⟨od, J, _⟩ := J.look
  obtain ⟨m, hF⟩ := I.fr
  refine PySem.W.len_K hF I.ok.mod.kin J hm.at_ hm.fn ?_
  have hl := F.len _ _ _ _ hsp
  have r2 : Vals [V.ref a] [Value.ref a] := .cons rfl .nil
  refine wpAny_call (codeAny_mono (F.run X.A.in1 X.stack s H ⟨[.ref a], []⟩ [.ref a] [.ref a] _ E0 hr.in1 I.env0.in1 (by
    have := hb s [.ref a] I.kIn (by simpa using hl)
    simpa using this) r2 hsp) fun r s' hq => ?_)
  cases r with
  | error e => exact hq.elim
  | ok fl =>
    cases fl with
    | ret w =>
      obtain ⟨z, H', I', rz, n, ez, hn, q⟩ := I.after hq
      subst ez
      obtain ⟨t, rfl⟩ := rz
      have h63 : (n : Int) < 2 ^ 63 := by
        have : sizeLine = 16777216 := sizeLine_eq
        omega
      exact ⟨⟨Int.natCast_nonneg n, h63⟩, .int n, H', I'.tok _, ⟨_, rfl⟩, q⟩
    | next => exact False.elim hq
    | brk => exact False.elim hq
    | cont => exact False.elim hq
end
end OwnI
namespace OwnI
open PySem PySem.Spec PySem.Calls PyProof.Rows L2
theorem funD_ok {P : Program} {w : World} {K : PySem.W.Frag} {mg : Str → Option Value} {base : Heap} {x qual : Str} {params : Arguments} {body : List Stmt} {scope : Scope} {dvs : List V} {kws : List (Str × V)} {f : Addr} {fd : FuncData} {N ps : List Str} {k : Nat} {sp : Sp} (F : FunD K x qual params body scope dvs kws f fd) (S : FnScope N ps scope) (len : ∀ vs H Q E, sp vs H Q E → vs.length = ps.length)
    (hbody : ∀ (cdv : Value) (A : Around) (outer : List Env) (s : Shared) (H : Hp) (vs : List V) (Q : VK) (E : XK), Room k (A.deeper (envOfC qual scope s.heap.objs.size f cdv)) → sp vs H Q E →
      ∃ t, PSs (cxOf CX0 P w K mg base N qual scope f cdv A outer s H E).nox body t ∧ t { nx := fun _ H' => Q .non H', rt := Q } (start N vs) H) : FnOk P w K mg base CX0 (k + 1) f fd ps sp :=
  FunD.ok F S len fun cdv A outer s H vs Q E hr hsp => by
    obtain ⟨t, h, q⟩ := hbody cdv A outer s H vs Q E hr hsp
    exact ⟨t, h.nox, q⟩
end OwnI
/-! ### tuples whose object is known: their methods may be called -/
namespace OwnI
open PySem PySem.Spec PySem.Calls PyProof.Rows L2
def PlainT (o : Obj) : Prop := o.cls = .type "tuple" ∧ o.dict = none
section
variable {X : Cx}
def rTupFrz (K : PySem.W.Frag) : List V → Hp → VK → Prop := fun xs H Q => ∃ p ys, xs = [.ref p] ∧ SqL K H p ys ∧ ∀ l o, PlainT o → H l = none → Q (.ref l) (upd H l (.frz o (.tup ys)))
theorem call_tuple_frz : CallR X (.type "tuple") (rTupFrz X.K) := by
  intro pins s σ H xs us Q I r h
  obtain ⟨p, ys, rfl, hq, q⟩ := h
  obtain ⟨u, rfl, rx⟩ := vals1 r
  cases rx
  obtain ⟨its, r', pl, hz⟩ := I.list hq
  have hlen := r'.length
  refine call_tuple_list pl.isList (fun h' kp => ?_) (by simp only [List.size_toArray] <;> omega)
  have I1 : Inv X pins σ H { s with heap := h' } := I.kept (t' := s.toks) kp
  have I2 : Inv X pins σ (upd H h'.objs.size (.frz { cls := .type "tuple", data := .seq its.toArray } (.tup ys))) { s with heap := h'.push { cls := .type "tuple", data := .seq its.toArray } } :=
    I1.laid (t' := s.toks) (fun b o e => Heap.get?_push_of_some _ e) (Nat.le_refl _) (show ObjOk X.prog X.w _ _ _ (.frz _ (.tup ys)) from ⟨Heap.get?_push_size _ rfl, hz, its, r', IsTup.new _ _⟩)
  exact ⟨.ref h'.objs.size, _, I2, rfl, q _ _ ⟨rfl, rfl⟩ (I1.hok.fresh (Nat.le_refl _))⟩
def tBMF (r : V → List V → Hp → VK → Prop) (to : TE) (t : TA) : TE := fun σ H Q => to σ H fun x H1 => (∃ p o u, x = .ref p ∧ H1 p = some (.frz o u) ∧ PlainT o) ∧ t σ H1 fun xs H2 => r x xs H2 Q
variable {o e : Expr} {es : List Expr} {to : TE} {t : TA} {name : Str} {apos cpos : Pos} {id : String} {r : V → List V → Hp → VK → Prop}
theorem pe_bmF (pa : PlainAttrs "tuple") (slot : Slot "tuple" name id) (hty : typeOf (.builtin id) = pure (.type "method_descriptor")) (hm : MtR X id r) (ho : PE X o to) (ha : PA X (e :: es) t)
    (hbase : attributeBase o name X.env (eval o X.env) = eval o X.env := by rfl)
    (hfew : ((backTo cpos (starEach (e :: es) X.env)).all (fun x => !x.1) && (backToKw cpos (keywordEach [] X.env)).all (fun x => x.1.isSome)
      && decide ((e :: es).length + ([] : List Keyword).length + (if ([] : List Keyword).isEmpty then 0 else 1) < 30)) = true := by rfl)
    (hline : (apos.endLine == cpos.line) = true := by rfl) (hs : starEach (e :: es) X.env = (false, eval e X.env) :: starEach es X.env := by rfl) (hplain : (backTo cpos (starEach es X.env)).any (·.1) = false := by rfl) :
    PE X (.Call (.Attribute o name apos) (e :: es) [] cpos) (tBMF r to t) := by
  refine ⟨fun pins s σ H Q I h => ?_⟩
  refine wpAny_Call_method_late hbase hfew hline rfl (thn (ho.run pins s σ H _ I h) fun v s1 ⟨x, H1, I1, r1, ty, q1⟩ => ?_)
  obtain ⟨p, ob, u, rfl, hp, hc, hd⟩ := ty
  have ev : v = .ref p := r1
  subst ev
  have hg := (I1.hok p _ hp).1
  refine ⟨"tuple", id, pa, slot, hty, ⟨_, hg, hc⟩, (fun a e => by cases e; exact ⟨ob, hg, hd⟩), ?_⟩
  have hA := ha.run cpos pins s1 σ H1 _ I1 q1
  rw [hs] at hA ⊢
  refine Calls.callWith_builtin (by show (false || (backTo cpos (starEach es X.env)).any (·.1)) = false; rw [hplain] <;> rfl) (Calls.evalArgs_plain ?_)
  exact thn hA fun us s2 ⟨vs, H2, I2, r2, q2⟩ => hm pins s2 σ H2 _ vs _ us Q I2 r1 r2 q2
end
end OwnI
/-! ### names unpacked from a list or a tuple; comprehensions with two fors -/
namespace SeqW
open PySem PySem.Spec PySem.Calls PyProof.Rows L2
def gAny (K : PySem.W.Frag) (n : Nat) (t : TGs) : TG := fun v σ H Q => ∃ a xs, v = .ref a ∧ (SqL K H a xs ∨ SqT K H a xs) ∧ xs.length = n ∧ t xs σ H Q
theorem pg_any {X : Cx} {pos : Pos} {es : List Expr} {k : Nat} {t : TGs} {n : Nat} (hc : X.calm = true) (h : PGs X es t)
    (hn : (assignEach es X.env).length = n := by rfl) (hst : (assignEach es X.env).findIdx? (·.1) = none := by rfl) : PG X (.Tuple es k pos) (gAny X.K n t) := by
  refine ⟨fun pins s σ H v u Q I r hw => ?_⟩
  obtain ⟨a, xs, e1, hq, hl, hw⟩ := hw
  rcases hq with hq | hq
  · exact (pg_unl hc h hn hst).run pins s σ H v u Q I r ⟨a, xs, e1, hq, hl, hw⟩
  · exact (pg_tup hc h hn hst).run pins s σ H v u Q I r ⟨a, xs, e1, hq, hl, hw⟩
section
variable {J J1 : It} {n n1 : Nat} {G G1 : Hp → Prop} {Y Y1 : Nat → Hp → V → Hp → Prop} {g g1 : TG} {tt tt1 : TT} {te : TE} {wi1 : TI} {vs vs1 : List Nat} {σ σ2 : L2.St} {H1 H4 : Hp} {D : Addr} {Qd : Hp → Prop}
theorem lc2_it (w : Walk J n G Y) (Pv : Nat → Hp → Prop) (h0 : Pv 0 (upd H1 D (.lst []))) (hG : ∀ i H, i ≤ n → Pv i H → G H)
    (hs : ∀ i x H H', i < n → Pv i H → Y i H x H' → g x (wipe σ vs) H' fun σ2 H2 => wipe σ2 vs = wipe σ vs ∧ tt σ2 H2 fun b H3 =>
      if b = true then wi1 σ2 H3 fun J1 H4 => ∃ W1 : Nat → Nat → Hp → Prop, (∃ m, W1 0 m H4) ∧ ∀ j k H, W1 j k H →
      (J1.stop j H ∧ Pv (i + 1) H) ∨ (J1.go j H ∧ ∃ Nx1 : Hp → Prop, (∀ H', Nx1 H' → ∃ k', k' < k ∧ W1 (j + 1) k' H') ∧ ∀ x H', J1.yld j H x H' → g1 x (wipe σ2 vs1) H' fun σ3 H5 => wipe σ3 vs1 = wipe σ2 vs1 ∧ tt1 σ3 H5 fun b H6 =>
        if b = true then te σ3 H6 fun y H7 => ∃ acc, H7 D = some (.lst acc) ∧ acc.length < sizeLine ∧ Nx1 (upd H7 D (.lst (acc ++ [y]))) else Nx1 H6)
      else Pv (i + 1) H3) (hd : ∀ H, Pv n H → Qd H) :
    ∃ W : Nat → Nat → Hp → Prop, (∃ m, W 0 m (upd H1 D (.lst []))) ∧ ∀ i m H, W i m H →
  (J.stop i H ∧ Qd H) ∨ (J.go i H ∧ ∃ Nx : Hp → Prop, (∀ H', Nx H' → ∃ m', m' < m ∧ W (i + 1) m' H') ∧ ∀ x H', J.yld i H x H' → g x (wipe σ vs) H' fun σ2 H2 => wipe σ2 vs = wipe σ vs ∧ tt σ2 H2 fun b H3 =>
    if b = true then wi1 σ2 H3 fun J1 H4 => ∃ W1 : Nat → Nat → Hp → Prop, (∃ m, W1 0 m H4) ∧ ∀ j k H, W1 j k H →
      (J1.stop j H ∧ Nx H) ∨ (J1.go j H ∧ ∃ Nx1 : Hp → Prop, (∀ H', Nx1 H' → ∃ k', k' < k ∧ W1 (j + 1) k' H') ∧ ∀ x H', J1.yld j H x H' → g1 x (wipe σ2 vs1) H' fun σ3 H5 => wipe σ3 vs1 = wipe σ2 vs1 ∧ tt1 σ3 H5 fun b H6 =>
        if b = true then te σ3 H6 fun y H7 => ∃ acc, H7 D = some (.lst acc) ∧ acc.length < sizeLine ∧ Nx1 (upd H7 D (.lst (acc ++ [y]))) else Nx1 H6)
    else Nx H3) := by
  refine ⟨fun i m H => m = n - i ∧ i ≤ n ∧ Pv i H, ⟨n, by simp, Nat.zero_le _, h0⟩, ?_⟩
  rintro i m H ⟨rfl, hi, p⟩
  have q := hG i H hi p
  by_cases hlt : i < n
  · exact .inr ⟨w.goes i H hlt q, Pv (i + 1), fun H' p' => ⟨n - (i + 1), by omega, rfl, hlt, p'⟩, fun x H' y => hs i x H H' hlt p (w.yields i H x H' hlt q y)⟩
  · have e : i = n := by omega
    subst e
    exact .inl ⟨w.stops H q, hd H p⟩
theorem lc2_in (w : Walk J1 n1 G1 Y1) (Pv : Nat → Hp → Prop) (h0 : Pv 0 H4) (hG : ∀ i H, i ≤ n1 → Pv i H → G1 H)
    (hs : ∀ j x H H', j < n1 → Pv j H → Y1 j H x H' → g1 x (wipe σ2 vs1) H' fun σ3 H5 => wipe σ3 vs1 = wipe σ2 vs1 ∧ tt1 σ3 H5 fun b H6 =>
        if b = true then te σ3 H6 fun y H7 => ∃ acc, H7 D = some (.lst acc) ∧ acc.length < sizeLine ∧ Pv (j + 1) (upd H7 D (.lst (acc ++ [y]))) else Pv (j + 1) H6) (hd : ∀ H, Pv n1 H → Qd H) :
    ∃ W1 : Nat → Nat → Hp → Prop, (∃ m, W1 0 m H4) ∧ ∀ j k H, W1 j k H →
      (J1.stop j H ∧ Qd H) ∨ (J1.go j H ∧ ∃ Nx1 : Hp → Prop, (∀ H', Nx1 H' → ∃ k', k' < k ∧ W1 (j + 1) k' H') ∧ ∀ x H', J1.yld j H x H' → g1 x (wipe σ2 vs1) H' fun σ3 H5 => wipe σ3 vs1 = wipe σ2 vs1 ∧ tt1 σ3 H5 fun b H6 =>
        if b = true then te σ3 H6 fun y H7 => ∃ acc, H7 D = some (.lst acc) ∧ acc.length < sizeLine ∧ Nx1 (upd H7 D (.lst (acc ++ [y]))) else Nx1 H6) := by
  refine ⟨fun i m H => m = n1 - i ∧ i ≤ n1 ∧ Pv i H, ⟨n1, by simp, Nat.zero_le _, h0⟩, ?_⟩
  rintro i m H ⟨rfl, hi, p⟩
  have q := hG i H hi p
  by_cases hlt : i < n1
  · exact .inr ⟨w.goes i H hlt q, Pv (i + 1), fun H' p' => ⟨n1 - (i + 1), by omega, rfl, hlt, p'⟩, fun x H' y => hs i x H H' hlt p (w.yields i H x H' hlt q y)⟩
  · have e : i = n1 := by omega
    subst e
    exact .inl ⟨w.stops H q, hd H p⟩
end
end SeqW
namespace SeqW
open PySem PySem.Spec PySem.Calls PyProof.Rows L2
/-- xs[i], as xs[i] += e reads it -/
theorem get_list {X : Cx} : PGet X (fun x y H Q => ∃ p xs i v, x = .ref p ∧ y = .int (i : Nat) ∧ SqL X.K H p xs ∧ xs[i]? = some v ∧ Q v H) := by
  intro pins s σ H x y v u Q I rx ry h
  obtain ⟨p, xs, i, z, rfl, rfl, hq, he, q⟩ := h
  cases rx
  obtain ⟨t, rfl⟩ := ry
  obtain ⟨its, r, pl, hz⟩ := I.list hq
  obtain ⟨w, ew, rw'⟩ := r.get he
  have hl := r.length
  have hn := line63
  have hi := (List.getElem?_eq_some_iff.mp he).1
  exact wpAny_getItem_list pl.isList (Int.natCast_nonneg i) (by omega) (by rw [Int.toNat_natCast]; simpa using ew) ⟨z, H, I, rw', q⟩
end SeqW
namespace SeqW
open PySem PySem.Spec PySem.Calls PyProof.Rows L2
theorem notIn_K {X : Cx} {K : PySem.W.Frag} (h : X.K = K) : OpR X (compareOp .NotIn) (rIn K true) := by
  subst h
  exact op_notIn_seq
theorem in_K {X : Cx} {K : PySem.W.Frag} (h : X.K = K) : OpR X (compareOp .In) (rIn K false) := by
  subst h
  exact op_in_seq
end SeqW
/-! ### rules for what stands in a comprehension within another one -/
namespace SeqK
open PySem PySem.Spec PyProof.Rows L2
theorem pi_seqK {X : Cx} {K : PySem.W.Frag} {tg l : Expr} {tl : TE} (h : X.K = K) (hl : PE X l tl) : PI X tg l (SeqW.iSeq K tl) := by
  subst h
  exact SeqW.pi_seq hl
def rJoin (K : PySem.W.Frag) : V → List V → Hp → VK → Prop := fun x xs H Q => ∃ a p, ∃ ys : List Str, x = .str a ∧ xs = [.ref p] ∧ (SqL K H p (ys.map V.str) ∨ SqT K H p (ys.map V.str)) ∧ (ys.map (·.length)).sum + ys.length * a.length ≤ 16777216 ∧ Q (.str (Txt.join a ys)) H
theorem joinK {X : Cx} {K : PySem.W.Frag} (h : X.K = K) : MtR X "str.join" (rJoin K) := by
  subst h
  exact mt_join
section
variable {X : Cx} {K : PySem.W.Frag} {T id : String} {name : Str} {o e : Expr} {es : List Expr} {apos cpos : Pos} {r : V → List V → Hp → VK → Prop} {to : TE} {t : TA}
theorem pe_bmK (h : X.K = K) (pa : PlainAttrs T) (slot : Slot T name id) (hty : typeOf (.builtin id) = pure (.type "method_descriptor")) (hm : MtR X id r) (ho : PE X o to) (ha : PA X [e] t) (hbase : attributeBase o name X.env (eval o X.env) = eval o X.env := by rfl)
    (few : ((backTo cpos (starEach [e] X.env)).all (fun x => !x.1) && (backToKw cpos (keywordEach [] X.env)).all (fun x => x.1.isSome) && decide (([e] : List Expr).length + ([] : List Keyword).length + (if ([] : List Keyword).isEmpty then 0 else 1) < 30)) = true := by rfl)
    (line : (apos.endLine == cpos.line) = true := by rfl) (stars : starEach [e] X.env = (false, eval e X.env) :: starEach [] X.env := by rfl) (plain : (backTo cpos (starEach [] X.env)).any (·.1) = false := by rfl) : PE X (.Call (.Attribute o name apos) [e] [] cpos) (tBM K T r to t) := by
  subst h
  exact pe_bm pa slot hty hm ho ha hbase few line stars plain
end
end SeqK
/-! ### sorted(rows): tuples that begin with a text, rows of one text alike behind it -/
namespace SrtSP
open PySem PyProof.Rows Srt SrtO
section
variable {prog : Program} {w : World} {A : Around} {E : Value → Shared → Prop} {s : Shared}
def ltS (x y : Str) : Bool := decide (x.cps.toList < y.cps.toList)
theorem swoS {α : Type} (k : α → Str) : Swo (fun x y => ltS (k x) (k y)) where
  asym := fun x y h => decide_eq_false (List.lt_asymm (of_decide_eq_true h))
  tr := fun x y z h1 h2 => decide_eq_false (List.not_lt.mpr (List.le_trans (List.not_lt.mp (of_decide_eq_false h1)) (List.not_lt.mp (of_decide_eq_false h2))))
theorem ltS_self (x : Str) : ltS x x = false := decide_eq_false (List.lt_irrefl _)
/-- texts and references: each of them is like itself -/
def Flat (u : Value) : Prop := (∃ z t, u = .str z t) ∨ ∃ a, u = .ref a
theorem flat_eq {u : Value} {Q : Bool → Shared → Prop} (f : Flat u) (h : Q true s) : wpAny (model prog w) A (eqBool u u) Q E s := by
  rcases f with ⟨z, t, rfl⟩ | ⟨a, rfl⟩
  · refine SeqAt.EqAt.str_str z t z t prog w _ _ ?_
    rw [beq_self_eq_true z]
    exact h
  · have e : (Value.ref a == Value.ref a) = true := beq_self_eq_true _
    unfold eqBool
    exact wpAny_holding (by rw [e]; exact wpAny_bind (wpAny_rule (wpAny_pure h)))
theorem flat_lex {Q : Bool → Shared → Prop} (hq : Q false s) : ∀ (us : List Value) (i : Nat), (∀ u ∈ us, Flat u) → PySem.W.KatLex prog w A true false Q (us.zip us) i s
  | [], _, _ => PySem.W.kat_nil hq
  | u :: us, i, f => PySem.W.kat_cons (flat_eq (f u List.mem_cons_self) (PySem.W.kat_yes (flat_lex hq us (i + 1) fun v m => f v (List.mem_cons_of_mem _ m))))
/-- the tuple of the text z and of us -/
def RowAt (h : Heap) (v : Value) (z : Str) (us : List Value) : Prop := ∃ a o t n, v = .ref a ∧ h.get? a = some o ∧ o.cls = .type "tuple" ∧ o.data = .seq (Value.str z t :: us).toArray n
structure Rws (h : Heap) (vs : List Value) (k : Value → Str) (r : Value → List Value) : Prop where
  row : ∀ v ∈ vs, RowAt h v (k v) (r v)
  flat : ∀ v ∈ vs, ∀ u ∈ r v, Flat u
  one : ∀ v ∈ vs, ∀ u ∈ vs, k v = k u → r v = r u
variable {vs : List Value} {k : Value → Str} {r : Value → List Value}
theorem Rws.keeps {h h' : Heap} (R : Rws h vs k r) (keep : ∀ b o, h.get? b = some o → o.cls = .type "tuple" → h'.get? b = some o) : Rws h' vs k r where
  row := fun v m => by
    obtain ⟨a, o, t, n, e, ho, hc, hd⟩ := R.row v m
    exact ⟨a, o, t, n, e, keep _ _ ho hc, hc, hd⟩
  flat := R.flat
  one := R.one
theorem row_less {v u : Value} {x y : Str} {us vs : List Value} (h1 : RowAt s.heap v x us) (h2 : RowAt s.heap u y vs) (f : ∀ c ∈ us, Flat c) (one : x = y → us = vs) : wpAny (model prog w) A (keyLt' (tuples' true) v u) (fun z s' => s' = s ∧ z = ltS x y) (fun _ _ => False) s := by
  obtain ⟨a, o, t, n, rfl, ho, -, hd⟩ := h1
  obtain ⟨a', o', t', n', rfl, ho', -, hd'⟩ := h2
  refine PySem.W.kat_lt ho hd ho' hd' (PySem.W.kat_cons (SeqAt.EqAt.str_str x t y t' prog w _ _ ?_))
  cases e : x == y
  · exact PySem.W.kat_no (oneLt_str ⟨rfl, rfl⟩)
  · have alike := eq_of_beq e
    cases alike
    cases one rfl
    refine PySem.W.kat_yes ?_
    simp only [List.size_toArray, List.length_cons, Nat.lt_irrefl, decide_false]
    exact flat_lex ⟨rfl, (ltS_self x).symm⟩ us 1 f
theorem rows_firsts {h : Heap} : ∀ {vs : List Value}, (∀ v ∈ vs, ∃ z us, RowAt h v z us) → ∃ fs : List Value, PySem.W.KatTups h vs fs ∧ fs.length = vs.length ∧ ∀ c ∈ fs, ∃ z t, c = Value.str z t
  | [], _ => ⟨_, .nil, rfl, by simp⟩
  | v :: vs, told => by
    obtain ⟨fs, tups, same, texts⟩ := rows_firsts fun u m => told u (List.mem_cons_of_mem v m)
    obtain ⟨z, us, a, o, t, n, rfl, ho, hc, hd⟩ := told v List.mem_cons_self
    exact ⟨_, .cons ho hc hd rfl tups, congrArg Nat.succ same, fun c m => (List.mem_cons.mp m).elim (fun e => ⟨z, t, e⟩) (texts c)⟩
theorem rows_sortable {a : Addr} (some_ : 0 < vs.length) (R : Rws s.heap vs k r) (ha : ∀ o, s.heap.get? a = some o → o.cls ≠ .type "tuple") : SortableO prog w A s a vs fun v u => ltS (k v) (k u) := fun h' keep => by
  have R' : Rws h' vs k r := R.keeps fun b o e c => keep b o (fun z => ha o (z ▸ e) c) e
  obtain ⟨fs, tups, same, texts⟩ := rows_firsts fun v m => ⟨_, _, R'.row v m⟩
  refine ⟨tuples' true, fun Q E hq => PySem.W.kat_kind (T := .type "str") tups (by omega) (fun c m => ?_) (by rfl) ?_, fun p q mp mq => row_less (R'.row _ mp) (R'.row _ mq) (R'.flat _ mp) (R'.one _ mp _ mq)⟩
  · obtain ⟨z, t, rfl⟩ := texts c m
    exact PySem.W.Looks.now
  · have e : (Value.type "str" != Value.type "tuple") = true := by first | decide +kernel | rfl | decide
    exact e ▸ hq
theorem sorted_rows {l : Addr} {Q : Value → Shared → Prop} (hl : s.heap.IsList l vs.toArray) (hz : vs.length ≤ sizeLine) (R : Rws s.heap vs k r)
    (done : ∀ (h' : Heap) (d : Addr) (out : List Value), Srtd (fun v u => ltS (k v) (k u)) out → Stb (fun v u => ltS (k v) (k u)) out vs → (∀ b o, s.heap.get? b = some o → h'.get? b = some o) → s.heap.objs.size ≤ d → (∃ n, h'.get? d = some (seqObj "list" out.toArray n)) → Q (.ref d) { s with heap := h' }) :
    wpAny (model prog w) A (call (.builtin "sorted") [.ref l]) Q E s := by
  refine sorted_ord (swoS k) hl hz (fun two h₁ a at_ keep => rows_sortable (r := r) (s := { s with heap := h₁ }) (by omega) (R.keeps fun b o e _ => (keep b o e).2) fun o e c => ?_) fun out hs hb => done _ _ out hs hb (fun _ _ => sortedAll_old) (Nat.le_succ _) (sortedAll_at s.heap vs out.toArray)
  cases (e.symm.trans at_ : some o = some (seqObj "list" vs.toArray 0))
  exact absurd (Value.type.inj c) (by decide)
end
/-- what stands behind the first thing of the tuple at v -/
def restOf (h : Heap) (v : Value) : List Value := match v with
  | .ref a => match h.get? a with
    | some o => match o.data with
      | .seq its _ => its.toList.tail
      | _ => []
    | none => []
  | _ => []
theorem restOf_at {h : Heap} {a : Addr} {o : Obj} {c : Value} {us : List Value} {n : Nat} (ho : h.get? a = some o) (hd : o.data = .seq (c :: us).toArray n) : restOf h (.ref a) = us := by simp [restOf, ho, hd]
end SrtSP
namespace L2
open PySem PySem.Spec PyProof.Rows
def FlatV (y : V) : Prop := (∃ z, y = V.str z) ∨ ∃ a, y = V.ref a
theorem vals_flat {ys : List V} {us : List Value} (r : Vals ys us) (f : ∀ y ∈ ys, FlatV y) : ∀ u ∈ us, SrtSP.Flat u := by
  induction r with
  | nil => simp
  | @cons y u ys us here _ ih =>
    intro c m
    rcases List.mem_cons.mp m with e | m
    · subst e
      rcases f y List.mem_cons_self with ⟨z, e⟩ | ⟨a, e⟩ <;> subst e
      · obtain ⟨t, e⟩ := here
        exact .inl ⟨z, t, e⟩
      · exact .inr ⟨a, here⟩
    · exact ih (fun y m => f y (List.mem_cons_of_mem _ m)) c m
/-- sorted of rows in our own heap: k tells the text that each begins with, g what stands behind it -/
theorem sorted_by {X : Cx} {pins : List (Addr × Obj)} {σ : St} {H : Hp} {s : Shared} {a : Addr} {xs : List V} {k : V → Str} {g : V → List V} {Q : VK} (I : Inv X pins σ H s) (hs : SqL X.K H a xs)
    (row : ∀ x ∈ xs, ∃ t, x = V.ref t ∧ H t = some (.tup (V.str (k x) :: g x))) (flat : ∀ x ∈ xs, ∀ y ∈ g x, FlatV y) (one : ∀ x ∈ xs, ∀ y ∈ xs, k x = k y → x = y ∨ ∃ b, g x = [.ref b] ∧ g y = [.ref b])
    (q : ∀ ys p, SrtO.Srtd (fun x y => SrtSP.ltS (k x) (k y)) ys → ys.Perm xs → H p = none → Q (.ref p) (upd H p (.lst ys))) : wpAny (model X.prog X.w) X.A (call (.builtin "sorted") [.ref a]) (EP X pins σ Q) X.xe s := by
  obtain ⟨its, rv, there, small⟩ := I.list hs
  obtain ⟨back, refs⟩ := refs_back rv fun x m => (row x m).imp fun _ p => p.1
  have mem : ∀ v ∈ its, backV v ∈ xs := fun v m => back ▸ List.mem_map_of_mem m
  have at_ : ∀ v ∈ its, ∃ c o t us n, v = Value.ref c ∧ backV v = V.ref c ∧ s.heap.get? c = some o ∧ o.cls = .type "tuple" ∧ o.data = .seq (Value.str (k (backV v)) t :: us).toArray n ∧ Vals (g (backV v)) us ∧ SrtSP.restOf s.heap v = us := fun v m => by
    obtain ⟨c, e⟩ := refs v m
    subst e
    obtain ⟨t, e, told⟩ := row _ (mem _ m)
    cases e
    obtain ⟨_, all, rr, o, ho, hc, n, hd⟩ := I.hok _ _ told
    cases (show Vals (V.str _ :: g _) all from rr) with
    | cons r1 rs =>
      obtain ⟨tk, e⟩ := r1
      subst e
      exact ⟨c, o, tk, _, n, rfl, rfl, ho, hc, hd, rs, SrtSP.restOf_at ho hd⟩
  refine SrtSP.sorted_rows (k := fun v => k (backV v)) (r := SrtSP.restOf s.heap) there.isList (rv.length ▸ small) ⟨fun v m => ?_, fun v m => ?_, fun v m u m' e => ?_⟩ fun h' d out srt stb old new made => ?_
  · obtain ⟨c, o, t, us, n, e, _, ho, hc, hd, _, er⟩ := at_ v m
    exact ⟨c, o, t, n, e, ho, hc, er ▸ hd⟩
  · obtain ⟨c, o, t, us, n, _, _, _, _, _, rs, er⟩ := at_ v m
    exact er ▸ vals_flat rs (flat _ (mem v m))
  · obtain ⟨c, _, _, us, _, e1, b1, _, _, _, r1, er1⟩ := at_ v m
    obtain ⟨c', _, _, us', _, e2, b2, _, _, _, r2, er2⟩ := at_ u m'
    rcases one _ (mem v m) _ (mem u m') e with z | ⟨b, z1, z2⟩
    · rw [b1, b2] at z
      cases z
      rw [e1, e2]
    · rw [z1] at r1
      rw [z2] at r2
      obtain ⟨_, w1, x1⟩ := vals1 r1
      obtain ⟨_, w2, x2⟩ := vals1 r2
      rw [er1, er2, w1, w2, x1, x2]
  · obtain ⟨n, hn⟩ := made
    have prm : (out.map backV).Perm xs := back ▸ stb.perm.map backV
    exact ⟨.ref d, upd H d (.lst (out.map backV)), I.laid (t' := s.toks) old new ⟨prm.length_eq ▸ small, out, n, vals_back fun u m => refs u (stb.perm.mem_iff.mp m), hn⟩, rfl, q _ d (List.pairwise_map.mpr srt) prm (I.hok.fresh new)⟩
/-- rows of a text and something else: g where it stands -/
def rSortedSP (K : PySem.W.Frag) : List V → Hp → VK → Prop := fun vs H Q => ∃ (a : Addr) (xs : List V) (k : V → Str) (g : V → Addr), vs = [V.ref a] ∧ SqL K H a xs ∧ (∀ x ∈ xs, ∃ t, x = V.ref t ∧ H t = some (.tup [.str (k x), .ref (g x)])) ∧ (∀ x ∈ xs, ∀ y ∈ xs, k x = k y → g x = g y) ∧
  ∀ ys p, SrtO.Srtd (fun x y => SrtSP.ltS (k x) (k y)) ys → ys.Perm xs → H p = none → Q (.ref p) (upd H p (.lst ys))
theorem cr_sortedSP {X : Cx} : CallR X (.builtin "sorted") (rSortedSP X.K) := fun _ _ _ _ _ _ _ I rv ⟨_, xs, k, g, e, hs, row, one, q⟩ => by
  subst e
  obtain ⟨_, rfl, rfl⟩ := vals1 rv
  exact sorted_by (g := fun x => [.ref (g x)]) I hs row (fun x _ y m => .inr ⟨_, List.mem_singleton.mp m⟩) (fun x m y m' e => .inr ⟨g x, rfl, by rw [one x m y m' e]⟩) q
end L2
namespace OwnE
open PySem PySem.Spec PyProof.Rows L2
section
variable {X : Cx} {n : Nat}
/-- a def of the class, called on an object and any value -/
theorem run {CX : CXT} {f : Addr} {fd : FuncData} {ps : List Str} {sp : Sp} {E : XK} (F : FnOk X.prog X.w X.K X.mg X.base CX n f fd ps sp) (hb : Binds X.K fd ps []) (hx : Passes CX X E)
    {A : Around} {pins : List (Addr × Obj)} {s : Shared} {σ : L2.St} {H : Hp} {a : Addr} {y : V} {v : Value} (sb : Sub X n A) (I : Inv X pins σ H s) (ry : RelV y v) {Qv : VK} (hsp : sp [.ref a, y] H Qv E) {Q : Value → Shared → Prop}
    (hq : ∀ z H' u s', Inv X pins σ H' s' → RelV z u → Qv z H' → Q u s') : wpAny (model X.prog X.w) A (call (.ref f) [.ref a, v]) Q X.xe s := by
  have e0 : Env0 X.prog X.w X.K X.mg X.base A X.stack s H := by
    have e := I.env0
    exact ⟨by rw [sb.fr]; exact e.frames, e.mod, e.bs, e.bsz, e.funs, e.frf, e.hok, e.bare⟩
  have hl := F.len _ _ _ _ hsp
  have r2 : Vals [V.ref a, y] [Value.ref a, v] := .cons rfl (.cons ry .nil)
  refine wpAny_call (codeAny_mono (F.run A X.stack s H ⟨[.ref a, v], []⟩ [.ref a, v] [.ref a, y] _ E sb.room e0 (by
    have := hb s [.ref a, v] I.kIn (by simpa using hl)
    simpa using this) r2 hsp) fun r s' hq' => ?_)
  cases r with
  | error e => exact hx pins σ H s e s' I hq'
  | ok fl =>
    cases fl with
    | ret w =>
      obtain ⟨z, H', I', rz, hz⟩ := I.after hq'
      exact hq z H' w s' I' rz hz
    | next => exact False.elim hq'
    | brk => exact False.elim hq'
    | cont => exact False.elim hq'
/-- x == y, x of an own class with its own ==, whatever it answers -/
def rEqO (K : PySem.W.Frag) (C : Addr) (sp : Sp) (E : XK) : R2 := fun x y H Q => ∃ a dx fs t, x = .ref a ∧ H a = some (.ins C dx fs) ∧ TyX K H y t ∧ PySem.W.notFirst K C t = true ∧ sp [.ref a, y] H (fun z H' => ∃ b, z = .bl b ∧ Q (.bl b) H') E
theorem op_eqO {CX : CXT} {C f : Addr} {fd : FuncData} {ps : List Str} {sp : Sp} {E : XK} (F : FnOk X.prog X.w X.K X.mg X.base CX n f fd ps sp)
    (hs : PySem.W.findIn X.K (.ref C) "__eq__" = some (some (.ref f))) (hf : PySem.W.isFn X.K (.ref f) = true) (hb : Binds X.K fd ps []) (hx : Passes CX X E) (hr : Room n X.A) : OpR X (compareOp .Eq) (rEqO X.K C sp E) := by
  intro pins s σ H x y v u Q I rx ry hq
  obtain ⟨a, dx, fs, t, rfl, ha, ty, hn, hsp⟩ := hq
  show wpAny (model X.prog X.w) X.A (richCompare .Eq v u) (EP X pins σ Q) X.xe s
  cases (show v = Value.ref a from rx)
  obtain ⟨P, kx, hP, _⟩ := kit_of I ry ty
  obtain ⟨mA, J, _⟩ := ins_get I.hok ha
  obtain ⟨od, J, _⟩ := J.look
  obtain ⟨m, hF⟩ := I.fr
  refine PySem.W.cmp_K (op := .Eq) (tb := t) hr.units0 hF I.ok.mod.kin J (kx.ty _ _ I.kIn hP) hn hs hf ?_
  refine run F hb hx ⟨hr, rfl⟩ I ry hsp fun z H' w s' I' rz hz => ?_
  obtain ⟨b, rfl, q⟩ := hz
  cases rz
  exact ⟨.bl b, H', I', rfl, q⟩
end
section
variable {prog : Program} {w : World} {A : Around} {E : Value → Shared → Prop} {s : Shared} {K : PySem.W.Frag} {x C : Addr} {ox : Obj} {od : Option Obj}
theorem ifBoundB_K {M : Model} {name : Str} {id : String} {args : List Value} {Q : Option Value → Shared → Prop} (X : K.In s.heap) (I : PySem.W.InstAt s.heap x ox C od) (hs : PySem.W.findIn K (.ref C) name = some (some (.builtin id))) (hb : ∀ self, bindSpecial (.builtin id) self = pure (.builtin id, [self]))
    (h : wpAny M A (call (.builtin id) (.ref x :: args)) (fun v => Q (some v)) E s) : wpAny M A (callSpecialIfBound? (.ref x) name args) Q E s := by
  simp only [callSpecialIfBound?, bindSpecialIfBound?]
  refine wpAny_holding (wpAny_bind (wpAny_bind (wpAny_bind (I.type.here ((PySem.W.looks_findIn X hs).here ?_)))))
  simp only [hb]
  refine wpAny_bind (wpAny_askSetting (wpAny_ite ?_))
  have fin : wpAny M A (call (.builtin id) ([.ref x] ++ args) >>= fun v => pure (some v)) Q E s := wpAny_bind (wpAny_mono h (fun v s' h' => wpAny_pure h') fun _ _ h' => h')
  split
  · exact wpAny_bind (wpAny_pure (wpAny_pure fin))
  · exact wpAny_tryCatch (wpAny_bind (wpAny_pure (wpAny_pure fin)))
theorem check_slot_K {M : Model} {id owner n : String} {rest : List Value} {Q : Unit → Shared → Prop} (X : K.In s.heap) (I : PySem.W.InstAt s.heap x ox C od) (hk : builtinKind id = some .slot) (hs : splitId id = some (owner, n))
    (ha : argsOk id ⟨.ref x :: rest, []⟩) (hob : PySem.W.subIn K (.ref C) (.type owner) = some true) (hq : Q () s) :
    wpAny M A (checkBuiltinCall id ⟨.ref x :: rest, []⟩) Q E s := by
  have hx := I.at_
  have hc := I.cls
  simp only [checkBuiltinCall, hk, hs]
  refine wpAny_bind ?_
  · unfold isInstance
    repeat (first | (with_reducible refine wpAny_loadPart_at hx ?_; rw [hc]) | (with_reducible refine (PySem.W.looks_subIn X hob).here ?_) | wp_step)
    cases hsig : Manifest.signature? id with
    | none => exact wpAny_pure hq
    | some sig =>
      simp only [argsOk, hsig] at ha
      have h2 : Bind.checkArgs id sig ⟨.ref x :: rest, []⟩ = pure () := ha
      show wpAny M A (Bind.checkArgs id sig ⟨.ref x :: rest, []⟩) Q E _
      rw [h2]; exact wpAny_pure hq
theorem objNe_K {f : Addr} {v : Value} (X : K.In s.heap) (I : PySem.W.InstAt s.heap x ox C od) (hs : PySem.W.findIn K (.ref C) "__eq__" = some (some (.ref f))) (hf : PySem.W.isFn K (.ref f) = true) (hu : A.units < cLine) {Q : Fin → Shared → Prop}
    (hcall : wpAny (model prog w) A (call (.ref f) [.ref x, v]) (fun r s' => ∃ b, r = .bool b ∧ Q (.done (.ret (.bool (!b)))) s') E s) :
    wpAny (model prog w) A (Builtin.«object.__ne__» ⟨[.ref x, v], []⟩) Q E s := by
  unfold Builtin.«object.__ne__»
  repeat (first
    | with_reducible refine wpAny_cRoomFor hu ?_
    | (refine wpAny_bind (m := callSpecialIfBound? (.ref x) (Str.ofString "__eq__") [v])
        (PySem.W.ifBound_K X I hs hf (wpAny_mono hcall (fun r s' hr => by
          obtain ⟨b, rfl, hq⟩ := hr
          repeat (first | exact hq | exact wpAny_pure hq | exact wpAny_truthy_bool hq | (refine wpAny_bind (m := truthy (.bool _)) (wpAny_truthy_bool ?_)) | wp_step)) fun _ _ e => e)))
    | wp_step)
theorem richNe_K {f : Addr} {v : Value} (X : K.In s.heap) (I : PySem.W.InstAt s.heap x ox C od) (hb : PySem.W.Looks (model prog w) s.heap (typeOf v) (.ref C))
    (hn : PySem.W.findIn K (.ref C) "__ne__" = some (some (.builtin "object.__ne__"))) (hob : PySem.W.subIn K (.ref C) (.type "object") = some true)
    (hs : PySem.W.findIn K (.ref C) "__eq__" = some (some (.ref f))) (hf : PySem.W.isFn K (.ref f) = true) (hu : A.units + 1 < cLine) {Q : Value → Shared → Prop}
    (hcall : wpAny (model prog w) A.in1 (call (.ref f) [.ref x, v]) (fun r s' => ∃ b, r = .bool b ∧ Q (.bool (!b)) s') E s) :
    wpAny (model prog w) A (richCompare .NotEq (.ref x) v) Q E s := by
  have one : wpAny (model prog w) A (tryCompare (.ref x) "__ne__" v) (fun r s' => ∃ z, r = some z ∧ Q z s') E s := by
    unfold tryCompare
    refine wpAny_bind (ifBoundB_K X I hn F.cmp_object.ne.bind (wpAny_call (codeAny_call_builtin F.cmp_object.ne.plain F.cmpEntry_ne
      (check_slot_K (A := A.in1) X I F.cmpKind_ne F.cmpSplit_ne (F.cmpArgs_ne _ _) hob (objNe_K (A := A.in1) X I hs hf hu (wpAny_mono hcall (fun r s' hv => ?_) fun _ _ e => e))))))
    obtain ⟨b, rfl, hq⟩ := hv
    exact ⟨b, rfl, wpAny_pure ⟨_, rfl, hq⟩⟩
  unfold richCompare
  simp only [oneThing_ref]
  refine wpAny_holding (wpAny_bind (wpAny_cRoomFor (Nat.lt_of_succ_lt hu) ?_))
  rw [cmpInfo_NotEq]
  dsimp only
  refine wpAny_bind (I.type.here (wpAny_bind (hb.here ?_)))
  rw [show (Value.ref C != Value.ref C) = false from by simp]
  simp only [Bool.false_eq_true, if_false]
  refine wpAny_bind (wpAny_pure ?_)
  simp only [Bool.false_eq_true, if_false]
  refine wpAny_bind (wpAny_mono one (fun r s' z => ?_) fun _ _ e => e)
  obtain ⟨z, rfl, hq⟩ := z
  exact wpAny_pure hq
end
section
variable {prog : Program} {w : World} {A : Around} {E : Value → Shared → Prop} {s : Shared} {K : PySem.W.Frag} {x C : Addr} {ox : Obj} {od : Option Obj}
theorem tupleEq_K {M : Model} {l : Value} (X : K.In s.heap) (I : PySem.W.InstAt s.heap x ox C od) (hob : PySem.W.subIn K (.ref C) (.type "tuple") = some false) {Q : Fin → Shared → Prop} (hq : Q (.done (.ret .notImplemented)) s) :
    wpAny M A (Builtin.«tuple.__eq__» ⟨[l, .ref x], []⟩) Q E s := by
  have hx := I.at_
  have hc := I.cls
  have hi : ∀ {R : Bool → Shared → Prop}, R false s → wpAny M A (isInstance (.ref x) (.type "tuple")) R E s := fun h => by
    show wpAny M A (typeOf (.ref x) >>= fun t => isSubtype t (.type "tuple")) _ E s
    exact wpAny_bind (I.type.here ((PySem.W.looks_subIn X hob).here h))
  wp_walk using hi
  exact hq
theorem listEq_K {M : Model} {l : Value} (X : K.In s.heap) (I : PySem.W.InstAt s.heap x ox C od) (hob : PySem.W.subIn K (.ref C) (.type "list") = some false) {Q : Fin → Shared → Prop} (hq : Q (.done (.ret .notImplemented)) s) :
    wpAny M A (Builtin.«list.__eq__» ⟨[l, .ref x], []⟩) Q E s := by
  have hi : ∀ {R : Bool → Shared → Prop}, R false s → wpAny M A (isInstance (.ref x) (.type "list")) R E s := fun h => by
    show wpAny M A (typeOf (.ref x) >>= fun t => isSubtype t (.type "list")) _ E s
    exact wpAny_bind (I.type.here ((PySem.W.looks_subIn X hob).here h))
  wp_walk using hi
  exact hq
theorem intEq_K {M : Model} {i : Int} {t : Tok} {dx : Addr} (hl : s.heap.get? x = some (PySem.W.instObj C dx)) {Q : Fin → Shared → Prop} (hq : Q (.done (.ret .notImplemented)) s) :
    wpAny M A (Builtin.«int.__eq__» ⟨[.int i t, .ref x], []⟩) Q E s := by
  wp_walk using wpAny_loadPart' hl, wpAny_load hl
  exact hq
theorem boolEq_K {M : Model} {b : Bool} {dx : Addr} (hl : s.heap.get? x = some (PySem.W.instObj C dx)) {Q : Fin → Shared → Prop} (hq : Q (.done (.ret .notImplemented)) s) :
    wpAny M A (Builtin.«int.__eq__» ⟨[.bool b, .ref x], []⟩) Q E s := by
  wp_walk using wpAny_loadPart' hl, wpAny_load hl
  exact hq
theorem strEq_K {M : Model} {z : Str} {t : Tok} {dx : Addr} (hl : s.heap.get? x = some (PySem.W.instObj C dx)) {Q : Fin → Shared → Prop} (hq : Q (.done (.ret .notImplemented)) s) :
    wpAny M A (Builtin.«str.__eq__» ⟨[.str z t, .ref x], []⟩) Q E s := by
  wp_walk using wpAny_loadPart' hl, wpAny_load hl
  exact hq
theorem richEqR_K {f : Addr} {v : Value} {T id : String} (X : K.In s.heap) (I : PySem.W.InstAt s.heap x ox C od) (hv : s.TypeIs v T) (hsub : PySem.W.subIn K (.ref C) (.type T) = some false) (h1 : Slot T (cmpInfo .Eq).2.1 id)
    (hd : ∀ Q : Value → Shared → Prop, Q .notImplemented s → wpAny (model prog w) A (call (.builtin id) [v, .ref x]) Q E s)
    (hs : PySem.W.findIn K (.ref C) "__eq__" = some (some (.ref f))) (hf : PySem.W.isFn K (.ref f) = true) (hu : A.units < cLine) {Q : Value → Shared → Prop}
    (hcall : wpAny (model prog w) A (call (.ref f) [.ref x, v]) (PySem.W.CmpBack Q) E s) : wpAny (model prog w) A (richCompare .Eq v (.ref x)) Q E s := by
  have one : wpAny (model prog w) A (tryCompare (.ref x) "__eq__" v) (fun r s' => ∃ z, r = some z ∧ Q z s') E s := by
    unfold tryCompare
    refine wpAny_bind (PySem.W.ifBound_K X I hs hf (wpAny_mono hcall (fun v s' hv => ?_) fun _ _ e => e))
    cases v <;> first | exact hv.elim | exact wpAny_pure ⟨_, rfl, hv⟩
  simp only [richCompare, cmpInfo, hv.oneThing_none] at h1 ⊢
  refine wpAny_holding (wpAny_bind (wpAny_cRoomFor hu ?_))
  refine wpAny_bind (wpAny_typeOf hv (wpAny_bind (I.type.here ?_)))
  rw [show (Value.type T != Value.ref C) = true from rfl]
  simp only [if_true]
  refine wpAny_bind ((PySem.W.looks_subIn X hsub).here ?_)
  simp only [Bool.false_eq_true, if_false, Bool.not_false, if_true]
  refine wpAny_bind (m := tryCompare v _ (.ref x)) (wpAny_tryCompare_declines hv h1 (hd _ ⟨rfl, ?_⟩))
  refine wpAny_bind (m := tryCompare (.ref x) _ v) (wpAny_mono one (fun r s' z => ?_) fun _ _ e => e)
  obtain ⟨z, rfl, hq⟩ := z
  exact wpAny_pure hq
theorem dec_call {id T : String} {b : Builtin} {v : Value} {name : Str} (h1 : Slot T name id) (hb : entryFor table id = some b) (ha : argsOk id ⟨[v, .ref x], []⟩) (hv : s.TypeIs v T)
    (hd : ∀ Q : Fin → Shared → Prop, Q (.done (.ret .notImplemented)) s → wpAny (model prog w) A.in1 (b ⟨[v, .ref x], []⟩) Q E s) (Q : Value → Shared → Prop) (hq : Q .notImplemented s) :
    wpAny (model prog w) A (call (.builtin id) [v, .ref x]) Q E s := by
  refine wpAny_call (codeAny_call_builtin h1.plain hb (h1.check _ _ _ _ _ _ _ _ hv ha (hd _ ?_)))
  exact hq
end
/-- what declines to be compared with an own object -/
inductive DecK (K : PySem.W.Frag) (H : Hp) : V → String → Prop
  | non : DecK K H .non "NoneType"
  | bl (b : Bool) : DecK K H (.bl b) "bool"
  | int (i : Int) : DecK K H (.int i) "int"
  | str (z : Str) : DecK K H (.str z) "str"
  | lst {a : Addr} {xs : List V} (h : SqL K H a xs) : DecK K H (.ref a) "list"
  | tup {a : Addr} {xs : List V} (h : SqT K H a xs) : DecK K H (.ref a) "tuple"
section
variable {X : Cx} {n : Nat}
/-- x == y, y of an own class with its own ==, x of a kind that declines -/
def rEqR (K : PySem.W.Frag) (C : Addr) (sp : Sp) (E : XK) : R2 := fun x y H Q => ∃ b dx fs T, y = .ref b ∧ H b = some (.ins C dx fs) ∧ DecK K H x T ∧ PySem.W.subIn K (.ref C) (.type T) = some false ∧ sp [.ref b, x] H (fun z H' => ∃ k, z = .bl k ∧ Q (.bl k) H') E
theorem op_eqR {CX : CXT} {C f : Addr} {fd : FuncData} {ps : List Str} {sp : Sp} {E : XK} (F : FnOk X.prog X.w X.K X.mg X.base CX n f fd ps sp)
    (hs : PySem.W.findIn X.K (.ref C) "__eq__" = some (some (.ref f))) (hf : PySem.W.isFn X.K (.ref f) = true) (hb : Binds X.K fd ps []) (hx : Passes CX X E) (hr : Room n X.A) : OpR X (compareOp .Eq) (rEqR X.K C sp E) := by
  intro pins s σ H x y v u Q I rx ry hq
  obtain ⟨b, dx, fs, T, rfl, hb', dk, hsub, hsp⟩ := hq
  show wpAny (model X.prog X.w) X.A (richCompare .Eq v u) (EP X pins σ Q) X.xe s
  cases (show u = Value.ref b from ry)
  obtain ⟨mA, J, _⟩ := ins_get I.hok hb'
  obtain ⟨od, J, _⟩ := J.look
  have fin : wpAny (model X.prog X.w) X.A (call (.ref f) [.ref b, v]) (PySem.W.CmpBack (EP X pins σ Q)) X.xe s := by
    refine run F hb hx ⟨hr, rfl⟩ I rx hsp fun z H' w s' I' rz hz => ?_
    obtain ⟨k, rfl, q⟩ := hz
    cases rz
    exact ⟨.bl k, H', I', rfl, q⟩
  have hu := hr.units0
  cases dk with
  | non =>
    cases (show v = Value.none from rx)
    exact richEqR_K I.kIn J (PySem.typeIs_none s) hsub PySem.F.slot_NoneType_eq (dec_call PySem.F.slot_NoneType_eq PySem.F.entry_NoneType_eq (PySem.F.args_NoneType_eq_2 _ _) (PySem.typeIs_none s) (fun Q h => by wp_walk; exact h)) hs hf hu fin
  | bl k =>
    cases (show v = Value.bool k from rx)
    exact richEqR_K I.kIn J (PySem.typeIs_bool s k) hsub PySem.F.slot_bool_eq (dec_call PySem.F.slot_bool_eq PySem.F.entry_int_eq (PySem.F.args_int_eq_2 _ _) (PySem.typeIs_bool s k) (fun Q h => boolEq_K J.at_ h)) hs hf hu fin
  | int i =>
    obtain ⟨t, rfl⟩ := (show ∃ t, v = Value.int i t from rx)
    exact richEqR_K I.kIn J (PySem.typeIs_int s i t) hsub PySem.F.slot_int_eq (dec_call PySem.F.slot_int_eq PySem.F.entry_int_eq (PySem.F.args_int_eq_2 _ _) (PySem.typeIs_int s i t) (fun Q h => intEq_K J.at_ h)) hs hf hu fin
  | str z =>
    obtain ⟨t, rfl⟩ := (show ∃ t, v = Value.str z t from rx)
    exact richEqR_K I.kIn J (PySem.typeIs_str s z t) hsub PySem.F.slot_str_eq (dec_call PySem.F.slot_str_eq PySem.F.entry_str_eq (PySem.F.args_str_eq_2 _ _) (PySem.typeIs_str s z t) (fun Q h => strEq_K J.at_ h)) hs hf hu fin
  | @lst a xs h =>
    cases (show v = Value.ref a from rx)
    obtain ⟨its, rv, p, _⟩ := I.list h
    exact richEqR_K I.kIn J p.isList.typeIs hsub PySem.F.slot_list_eq (dec_call PySem.F.slot_list_eq PySem.F.entry_list_eq (PySem.F.args_list_eq_2 _ _) p.isList.typeIs (fun Q h => listEq_K I.kIn J hsub h)) hs hf hu fin
  | @tup a xs h =>
    cases (show v = Value.ref a from rx)
    obtain ⟨its, rv, p, _⟩ := I.tuple h
    exact richEqR_K I.kIn J p.typeIs hsub PySem.F.slot_tuple_eq (dec_call PySem.F.slot_tuple_eq PySem.F.entry_tuple_eq (PySem.F.args_tuple_eq_2 _ _) p.typeIs (fun Q h => tupleEq_K I.kIn J hsub h)) hs hf hu fin
/-- x != y of one own class with its own == -/
def rNeO (C : Addr) (sp : Sp) (E : XK) : R2 := fun x y H Q => ∃ a b dx dy fs gs, x = .ref a ∧ y = .ref b ∧ H a = some (.ins C dx fs) ∧ H b = some (.ins C dy gs) ∧ sp [.ref a, .ref b] H (fun z H' => ∃ k, z = .bl k ∧ Q (.bl (!k)) H') E
theorem op_neO {CX : CXT} {C f : Addr} {fd : FuncData} {ps : List Str} {sp : Sp} {E : XK} (F : FnOk X.prog X.w X.K X.mg X.base CX n f fd ps sp)
    (hn : PySem.W.findIn X.K (.ref C) "__ne__" = some (some (.builtin "object.__ne__"))) (hob : PySem.W.subIn X.K (.ref C) (.type "object") = some true)
    (hs : PySem.W.findIn X.K (.ref C) "__eq__" = some (some (.ref f))) (hf : PySem.W.isFn X.K (.ref f) = true) (hb : Binds X.K fd ps []) (hx : Passes CX X E) (hr : Room (n + 1) X.A) : OpR X (compareOp .NotEq) (rNeO C sp E) := by
  intro pins s σ H x y v u Q I rx ry hq
  obtain ⟨a, b, dx, dy, fs, gs, rfl, rfl, ha, hb', hsp⟩ := hq
  show wpAny (model X.prog X.w) X.A (richCompare .NotEq v u) (EP X pins σ Q) X.xe s
  cases (show v = Value.ref a from rx)
  cases (show u = Value.ref b from ry)
  obtain ⟨mA, J, _⟩ := ins_get I.hok ha
  obtain ⟨od, J, _⟩ := J.look
  obtain ⟨mB, J', _⟩ := ins_get I.hok hb'
  obtain ⟨od', J', _⟩ := J'.look
  have hu : X.A.units + 1 < cLine := hr.in1.units0
  refine richNe_K I.kIn J J'.type hn hob hs hf hu ?_
  refine run F hb hx (Sub.in1 ⟨hr, rfl⟩) I ry hsp fun z H' w s' I' rz hz => ?_
  obtain ⟨k, rfl, q⟩ := hz
  cases rz
  exact ⟨k, rfl, .bl (!k), H', I', rfl, q⟩
end
end OwnE
/-! ### zip of what are lists or tuples, each for itself -/
namespace ZipG
open PySem PySem.Spec PyProof.Rows L2
abbrev SqV := @PairW.SqV
def PrZ (t1 t2 : Bool) (K : PySem.W.Frag) (a b : Addr) : PairW.Prs where
  go := fun i H => ∃ xs ys : List V, SqV t1 K H a xs ∧ SqV t2 K H b ys ∧ i < min xs.length ys.length
  are := fun i H x y => (∀ xs, SqV t1 K H a xs → xs[i]? = some x) ∧ ∀ ys, SqV t2 K H b ys → ys[i]? = some y
  stop := fun i H => ∃ xs ys : List V, SqV t1 K H a xs ∧ SqV t2 K H b ys ∧ i = min xs.length ys.length
def TnZ (t1 t2 : Bool) (a b z TI TO i1 i2 : Addr) (i : Nat) (h : Heap) : Prop :=
  IsZip h z TI TO .none ∧ IsTupOf2 h TI (.ref i1) (.ref i2) ∧ (∃ x y, IsTupOf2 h TO x y) ∧ PairW.ItB t1 h i1 a i ∧ PairW.ItB t2 h i2 b i
theorem turn_z {P : Program} {w : World} {K : PySem.W.Frag} {elts : List Expr} {kk : Nat} {tpos : Pos} {t1 t2 : Bool} {a b z TI TO i1 i2 : Addr} (S : ZipSep2 z TI TO i1 i2 [i1, a] [i2, b]) (ha : a ≠ i1) (hb : b ≠ i2) :
    Turn P w K (.Tuple elts kk tpos) (PrZ t1 t2 K a b).it [z, TI, TO, i1, i2] z (TnZ t1 t2 a b z TI TO i1 i2) := by
  refine PairW.turn_prs (wr := [z, TO, i1, i2]) _ (by simp) (fun c m => ?_) (fun i h st c m => ?_) (fun i h h' st k => ?_) (fun A i s Q E st q => wpAny_pyIter_zip st.1 q) fun X e1 e2 e3 calm i pins s σ H I st told => ?_
  · simp only [List.mem_cons, List.not_mem_nil, or_false] at m ⊢
    rcases m with q | q | q | q <;> simp [q]
  · obtain ⟨hz, hI, ⟨x, y, hO⟩, g1, g2⟩ := st
    simp only [List.mem_cons, List.not_mem_nil, or_false] at m
    rcases m with q | q | q | q | q <;> subst q
    · exact ⟨_, hz, fun _ q => nomatch q⟩
    · exact ⟨_, hI, fun _ q => nomatch q⟩
    · exact ⟨_, hO, fun _ q => nomatch q⟩
    · exact g1.obj
    · exact g2.obj
  · obtain ⟨hz, hI, ⟨x, y, hO⟩, g1, g2⟩ := st
    exact ⟨k _ (by simp) _ hz, k _ (by simp) _ hI, ⟨x, y, k _ (by simp) _ hO⟩, g1.at fun o => k _ (by simp) o, g2.at fun o => k _ (by simp) o⟩
  · subst e1 e2 e3
    obtain ⟨xs, ys, hx, hy⟩ : ∃ xs ys : List V, SqV t1 X.K H a xs ∧ SqV t2 X.K H b ys := told.elim (fun ⟨xs, ys, p, q, _⟩ => ⟨xs, ys, p, q⟩) fun ⟨xs, ys, p, q, _⟩ => ⟨xs, ys, p, q⟩
    obtain ⟨its1, r1, th1⟩ := PairW.sqv_get I hx
    obtain ⟨its2, r2, th2⟩ := PairW.sqv_get I hy
    have many : min xs.length ys.length = min its1.toArray.size its2.toArray.size := by simp only [List.size_toArray]; rw [r1.length, r2.length]
    obtain ⟨hz, hI, hO, g1, g2⟩ := st
    have D1 := PairW.draws (prog := X.prog) (w := X.w) (A := X.A.in1) (I.ok.hd calm) t1 ha its1.toArray
    have D2 := PairW.draws (prog := X.prog) (w := X.w) (A := X.A.in1) (I.ok.hd calm) t2 hb its2.toArray
    refine ⟨_, _, _, _, GoesN.zip2 S D1 D2, ⟨hz, hI, hO, ⟨g1, th1⟩, ⟨g2, th2⟩⟩, fun h ⟨n1, n2, n3, n4, n5⟩ => ⟨n1, n2, n3, n4.1, n5.1⟩, ?_, ?_⟩
    · rintro ⟨xs', ys', p, q, n⟩
      rw [n, PairW.sqv_inj I p hx, PairW.sqv_inj I q hy, many]
    · rintro ⟨xs', ys', p, q, n⟩
      rw [PairW.sqv_inj I p hx, PairW.sqv_inj I q hy] at n
      refine ⟨many ▸ n, ?_⟩
      rintro h0 v h ⟨T, u1, u2, rfl, new, hu1, hu2, tup⟩
      have l1 : i < xs.length := by omega
      have l2 : i < ys.length := by omega
      obtain ⟨w1, hw1, rr1⟩ := r1.get (List.getElem?_eq_getElem l1)
      obtain ⟨w2, hw2, rr2⟩ := r2.get (List.getElem?_eq_getElem l2)
      have s1 : w1 = u1 := Option.some.inj (hw1.symm.trans (by simpa using hu1))
      have s2 : w2 = u2 := Option.some.inj (hw2.symm.trans (by simpa using hu2))
      exact ⟨T, u1, u2, xs[i], ys[i], rfl, new, tup, s1 ▸ rr1, s2 ▸ rr2, fun zs hz => by rw [PairW.sqv_inj I hz hx]; exact List.getElem?_eq_getElem l1, fun zs hz => by rw [PairW.sqv_inj I hz hy]; exact List.getElem?_eq_getElem l2⟩
def iZipG (K : PySem.W.Frag) (ta : TA) : TI := fun σ H R => ta σ H fun vs H1 => ∃ a b xs ys, vs = [.ref a, .ref b] ∧ ∃ (t1 t2 : Bool), SqV t1 K H1 a xs ∧ SqV t2 K H1 b ys ∧ R (PrZ t1 t2 K a b).it H1
theorem pi_zipG {X : Cx} {e e2 : Expr} {ta : TA} {p pos tpos : Pos} {elts : List Expr} {kk : Nat} (hg : Gl X "zip") (hm : X.mg "zip" = none) (ha : PA X [e, e2] ta)
    (hs : (starEach [e, e2] X.env = (false, eval e X.env) :: starEach [e2] X.env) := by rfl) (hpl : (backTo pos (starEach [e2] X.env)).any (·.1) = false := by rfl) :
    PI X (.Tuple elts kk tpos) (.Call (.Name "zip" p) [e, e2] [] pos) (iZipG X.K ta) where
  run := fun pins s σ H R I h => Call_ (ld_blt I hg hm PyProof.Rows.boot_zip (PyProof.Rows.callWith_type1 (thn (ha.run pos pins s σ H _ I h) fun us s1 ⟨vs, H1, I1, rv, a, b, xs, ys, ev, t1, t2, hx, hy, q⟩ => by
    subst ev
    obtain ⟨_, _, rfl, ru1, ru2⟩ := vals2 rv
    cases ru1
    cases ru2
    obtain ⟨its1, _, th1⟩ := PairW.sqv_get I1 hx
    obtain ⟨its2, _, th2⟩ := PairW.sqv_get I1 hy
    have below : ∀ {c d : Addr}, c < s1.heap.objs.size → d ∈ [c] → d < s1.heap.objs.size := fun l m => List.mem_singleton.mp m ▸ l
    refine zip_begins2 (PairW.begins t1 a its1.toArray) (PairW.begins t2 b its2.toArray) th1 th2 fun h' hz hI hO h1 h2 _ old => wpAny_pyIter_zip hz ?_
    refine PairW.begun I1 old (turn_z (zip_sep2 (fp1 := [a]) (fp2 := [b]) (fun _ => below th1.lt) fun _ => below th2.lt) (Nat.ne_of_lt th1.lt) (Nat.ne_of_lt (Nat.lt_succ_of_lt th2.lt))) ⟨hz, hI, ⟨_, _, hO⟩, PairW.itO_is h1, PairW.itO_is h2⟩ (fun c m => ?_) q
    simp only [List.mem_cons, List.not_mem_nil, or_false] at m
    rcases m with z | z | z | z | z <;> subst z <;> omega) hs hpl))
theorem walk_zipG {t1 t2 : Bool} {K : PySem.W.Frag} {a b : Addr} {xs ys : List V} {n : Nat} (hn : n = min xs.length ys.length) : Walk (PrZ t1 t2 K a b).it n (fun H => SqV t1 K H a xs ∧ SqV t2 K H b ys) (YPair (fun i => xs[i]?) (fun i => ys[i]?)) where
  goes := fun i H lt ⟨p, q⟩ => ⟨xs, ys, p, q, hn ▸ lt⟩
  stops := fun H ⟨p, q⟩ => ⟨xs, ys, p, q, hn⟩
  yields := fun i H v H' _ ⟨p, q⟩ ⟨T, x, y, e1, e2, e3, e4, e5⟩ => ⟨T, x, y, e1, e2, e3, e4 xs p, e5 ys q⟩
end ZipG
/-! ### zip of two sequences, each pair kept whole (one name takes it): the pair given out before may be there still, or be gone -/
namespace ZipW
open PySem PySem.Spec PyProof.Rows L2
/-- a zip of two, with the pair that it gave out last (nothing, or a number), and whether that was seen alive -/
def Zp (h : Heap) (z TI TO : Addr) (own fl : Value) : Prop := h.get? z = some { cls := .type "zip", dict := none, data := .fields #[own, fl, .bool false, .ref TI, .ref TO], slots := #[] }
/-- what it gave out: nothing yet, or the cell T -/
def Gave (own : Value) : Prop := own = .none ∨ ∃ T : Addr, own = rawInt T
section
variable {prog : Program} {w : World} {A : Around} {E : Value → Shared → Prop} {z TI TO i1 i2 : Addr} {fp1 fp2 : List Addr} {n1 n2 : Nat} {P1 P2 : Nat → Value → Prop} {St1 St2 : Nat → Heap → Prop}
theorem Zp.put {s : Shared} {own fl x : Value} {k : Nat} {Q : Unit → Shared → Prop} (hz : Zp s.heap z TI TO own fl) (hk : k < 5)
    (q : ∀ h', h'.get? z = some { cls := .type "zip", dict := none, data := .fields ((#[own, fl, .bool false, .ref TI, .ref TO] : Array Value).setIfInBounds k x), slots := #[] } → Heap.SameBut z s.heap h' → Q () { s with heap := h' }) : wpAny (model prog w) A (setField (.ref z) k x) Q E s :=
  wpAny_setField_rec hz hk q
theorem Zp.look {s : Shared} {own fl x : Value} {k : Nat} {Q : Value → Shared → Prop} (hz : Zp s.heap z TI TO own fl) (e : (#[own, fl, .bool false, .ref TI, .ref TO] : Array Value)[k]? = some x) (q : Q x s) : wpAny (model prog w) A (field (.ref z) k) Q E s :=
  wpAny_field hz rfl e q
/-- is the pair of its own free: yes, or no and that is noted -/
theorem is_free {s : Shared} {own : Value} {f : Bool} {Q : Bool → Shared → Prop} (hz : Zp s.heap z TI TO own (.bool f)) (g : Gave own)
    (yes : Q true s) (no : ∀ h', Zp h' z TI TO own (.bool true) → Heap.SameBut z s.heap h' → Q false { s with heap := h' }) : wpAny (model prog w) A (Builtin.SmallTypes.ownedTupleIsFree (.ref z)) Q E s := by
  rcases g with rfl | ⟨T, rfl⟩ <;> unfold Builtin.SmallTypes.ownedTupleIsFree
  · exact wpAny_bind (hz.look (k := 0) rfl (wpAny_pure yes))
  refine wpAny_bind (hz.look (k := 0) rfl ?_)
  change wpAny _ _ (loadIfAlive ((T : Int).toNat) >>= _) _ _ s
  rw [Int.toNat_natCast]
  have look : ∀ (Q' : Option Obj → Shared → Prop), Q' (s.heap.get? T) s → wpAny (model prog w) A (loadIfAlive T) Q' E s := fun Q' q _ _ _ => q
  refine wpAny_bind (look _ ?_)
  cases s.heap.get? T with
  | none => exact wpAny_pure yes
  | some o =>
    refine wpAny_bind (hz.look (k := 1) rfl ?_)
    cases f with
    | true => exact wpAny_pure (no s.heap hz (Heap.SameBut.refl _ _))
    | false => exact wpAny_bind (hz.put (by decide) fun h' hz' hs => wpAny_pure (no h' hz' hs))
/-- whatever is not of the zip stays -/
def Left (z TO i1 i2 : Addr) (h h' : Heap) : Prop := ∀ c o, c ≠ z → c ≠ TO → c ≠ i1 → c ≠ i2 → h.get? c = some o → h'.get? c = some o
/-- amid a turn that began at h0 -/
structure At (z TI TO i1 i2 : Addr) (St1 St2 : Nat → Heap → Prop) (h0 : Heap) (own fl a1 a2 : Value) (i j : Nat) (h : Heap) : Prop where
  zp : Zp h z TI TO own fl
  ins : IsTupOf2 h TI (.ref i1) (.ref i2)
  out : IsTupOf2 h TO a1 a2
  one : St1 i h
  two : St2 j h
  left : Left z TO i1 i2 h0 h
  size : h.objs.size = h0.objs.size
section
variable {own fl a1 a2 : Value} {i j : Nat} {h0 h h' : Heap} (S : ZipSep2 z TI TO i1 i2 fp1 fp2) (D1 : Draws prog w A i1 fp1 n1 P1 St1) (D2 : Draws prog w A i2 fp2 n2 P2 St2)
include S D1 D2
theorem At.atZ {own' fl' : Value} (a : At z TI TO i1 i2 St1 St2 h0 own fl a1 a2 i j h) (hs : Heap.SameBut z h h') (hz : Zp h' z TI TO own' fl') : At z TI TO i1 i2 St1 St2 h0 own' fl' a1 a2 i j h' where
  zp := hz
  ins := hs.extBut _ _ S.TIz a.ins
  out := hs.extBut _ _ S.TOz a.out
  one := D1.over a.one hs S.zf1
  two := D2.over a.two hs S.zf2
  left := fun c o p q r t e => hs.extBut _ _ p (a.left c o p q r t e)
  size := hs.1.trans a.size
theorem At.at1 (a : At z TI TO i1 i2 St1 St2 h0 own fl a1 a2 i j h) (hs : Heap.SameBut i1 h h') (st : St1 (i + 1) h') : At z TI TO i1 i2 St1 St2 h0 own fl a1 a2 (i + 1) j h' where
  zp := hs.extBut _ _ S.zi1 a.zp
  ins := hs.extBut _ _ S.TIi1 a.ins
  out := hs.extBut _ _ S.Ti1 a.out
  one := st
  two := D2.over a.two hs S.sep1_2
  left := fun c o p q r t e => hs.extBut _ _ r (a.left c o p q r t e)
  size := hs.1.trans a.size
theorem At.at2 (a : At z TI TO i1 i2 St1 St2 h0 own fl a1 a2 i j h) (hs : Heap.SameBut i2 h h') (st : St2 (j + 1) h') : At z TI TO i1 i2 St1 St2 h0 own fl a1 a2 i (j + 1) h' where
  zp := hs.extBut _ _ S.zi2 a.zp
  ins := hs.extBut _ _ S.TIi2 a.ins
  out := hs.extBut _ _ S.Ti2 a.out
  one := D1.over a.one hs S.sep2_1
  two := st
  left := fun c o p q r t e => hs.extBut _ _ t (a.left c o p q r t e)
  size := hs.1.trans a.size
theorem At.atO {b1 b2 : Value} (a : At z TI TO i1 i2 St1 St2 h0 own fl a1 a2 i j h) (hs : Heap.SameBut TO h h') (hT : IsTupOf2 h' TO b1 b2) : At z TI TO i1 i2 St1 St2 h0 own fl b1 b2 i j h' where
  zp := hs.extBut _ _ S.TOz.symm a.zp
  ins := hs.extBut _ _ S.TITO a.ins
  out := hT
  one := D1.over a.one hs S.Tf1
  two := D2.over a.two hs S.Tf2
  left := fun c o p q r t e => hs.extBut _ _ q (a.left c o p q r t e)
  size := hs.1.trans a.size
end
theorem drawn {s : Shared} {it : Addr} {fp : List Addr} {n i : Nat} {Pv : Nat → Value → Prop} {St : Nat → Heap → Prop} {Q : Value → Shared → Prop} (D : Draws prog w A it fp n Pv St) (le : i ≤ n) (st : St i s.heap)
    (got : i < n → ∀ x h' tk, Pv i x → St (i + 1) h' → Heap.SameBut it s.heap h' → Q x { s with heap := h', toks := tk })
    (ends : i = n → ∀ h' e, Heap.ExtBut it s.heap h' → (∃ o, h'.get? e = some o ∧ o.cls = .type "StopIteration") → E (.ref e) { s with heap := h' }) : wpAny (model prog w) A (Builtin.SmallTypes.nextOf (.ref it)) Q E s := by
  rcases Nat.lt_or_eq_of_le le with lt | eq
  · exact D.item i s Q E lt st fun x h' tk p st' hs => got lt x h' tk p st' hs
  · subst eq
    exact D.done s Q E st (ends rfl)
/-- where it stands between two turns -/
def Std (z TI TO i1 i2 : Addr) (St1 St2 : Nat → Heap → Prop) (i : Nat) (h : Heap) : Prop :=
  (∃ own f, Gave own ∧ Zp h z TI TO own (.bool f)) ∧ IsTupOf2 h TI (.ref i1) (.ref i2) ∧ (∃ x y, IsTupOf2 h TO x y) ∧ St1 i h ∧ St2 i h
/-- one turn -/
theorem turn_of {s : Shared} {i : Nat} {Q : Fin → Shared → Prop} (S : ZipSep2 z TI TO i1 i2 fp1 fp2) (D1 : Draws prog w A i1 fp1 n1 P1 St1) (D2 : Draws prog w A i2 fp2 n2 P2 St2) (st : Std z TI TO i1 i2 St1 St2 i s.heap) (h1 : i ≤ n1) (h2 : i ≤ n2)
    (more : i < n1 → i < n2 → ∀ x y h' tk, P1 i x → P2 i y → Std z TI TO i1 i2 St1 St2 (i + 1) h' → IsTupOf2 h' s.heap.objs.size x y → Left z TO i1 i2 s.heap h' → Q (.done (.ret (.ref s.heap.objs.size))) { s with heap := h', toks := tk })
    (last : (i = n1 ∨ i = n2) → ∀ h' tk e, Left z TO i1 i2 s.heap h' → (∃ o, h'.get? e = some o ∧ o.cls = .type "StopIteration") → E (.ref e) { s with heap := h', toks := tk }) :
    wpAny (model prog w) A (Builtin.«zip.__next__» ⟨[.ref z], []⟩) Q E s := by
  obtain ⟨hp, gl, dr, tk0, os⟩ := s
  obtain ⟨⟨own, f, gv, hz⟩, hI, ⟨a1, a2, hO⟩, st1, st2⟩ := st
  have began : ∀ fl, Zp hp z TI TO own fl → At z TI TO i1 i2 St1 St2 hp own fl a1 a2 i i hp := fun fl hz => ⟨hz, hI, hO, st1, st2, fun _ _ _ _ _ _ e => e, rfl⟩
  refine wpAny_bind (m := field (.ref z) 2) (hz.look (k := 2) rfl (wpAny_bind (m := field (.ref z) 3) (hz.look (k := 3) rfl (wpAny_bind (wpAny_seqItems hI rfl (wpAny_bind (m := Builtin.SmallTypes.ownedTupleIsFree (.ref z)) (is_free hz gv ?_ fun h0 hz0 hs0 => ?_)))))))
  · simp only [if_true]
    refine wpAny_bind (wpAny_rule (wpAny_bind (hz.look (k := 4) rfl (wpAny_bind (hz.put (by decide) fun g0 hz0 hs0 => ?_)))))
    have c0 := (began _ hz).atZ S D1 D2 (own' := .ellipsis) hs0 hz0
    refine wpAny_bind ?_
    simp only [List.zipIdx_cons, List.zipIdx_nil, List.forIn_cons, List.forIn_nil]
    refine wpAny_bind (wpAny_bind (wpAny_onRaise ?_))
    show wpAny _ _ (Builtin.SmallTypes.nextOf (.ref i1) >>= _) _ _ ⟨g0, gl, dr, tk0, os⟩
    refine wpAny_bind (drawn D1 h1 c0.one (fun lt1 x p1 tk1 hx t1 e1 => wpAny_pure ?_) fun eq p1 e e1 stop => ?_)
    rotate_left
    · obtain ⟨oe, he, hc⟩ := stop
      have zq : Zp p1 z TI TO .ellipsis (.bool f) := e1 _ _ S.zi1 c0.zp
      exact zq.put (s := ⟨p1, gl, dr, tk0, os⟩) (by decide) fun p2 _ e2 => last (.inl eq) p2 tk0 e (fun c o a b d g l => e2.extBut _ _ a (e1 c o d (c0.left c o a b d g l))) ⟨oe, e2.extBut _ _ (fun q => by rw [q] at he; have := he.symm.trans zq; cases this; simp at hc) he, hc⟩
    have c1 := c0.at1 S D1 D2 e1 t1
    refine wpAny_bind (wpAny_seqItems (s := ⟨p1, gl, dr, tk1, os⟩) c1.out rfl (wpAny_bind (updateSeq_IsTupOf2 (s := ⟨p1, gl, dr, tk1, os⟩) c1.out fun q1 o1 u1 => wpAny_bind (wpAny_letGo (wpAny_pure (wpAny_bind (wpAny_bind (wpAny_onRaise ?_))))))))
    have d1 := c1.atO S D1 D2 u1 (b1 := x) (b2 := a2) o1
    show wpAny _ _ (Builtin.SmallTypes.nextOf (.ref i2) >>= _) _ _ ⟨q1, gl, dr, tk1, os⟩
    refine wpAny_bind (drawn D2 h2 d1.two (fun lt2 y p2 tk2 hy t2 e2 => wpAny_pure ?_) fun eq p2 e e2 stop => ?_)
    rotate_left
    · obtain ⟨oe, he, hc⟩ := stop
      have zq : Zp p2 z TI TO .ellipsis (.bool f) := e2 _ _ S.zi2 d1.zp
      exact zq.put (s := ⟨p2, gl, dr, tk1, os⟩) (by decide) fun p3 _ e3 => last (.inr eq) p3 tk1 e (fun c o a b d g l => e3.extBut _ _ a (e2 c o g (d1.left c o a b d g l))) ⟨oe, e3.extBut _ _ (fun q => by rw [q] at he; have := he.symm.trans zq; cases this; simp at hc) he, hc⟩
    have c2 := d1.at2 S D1 D2 e2 t2
    refine wpAny_bind (wpAny_seqItems (s := ⟨p2, gl, dr, tk2, os⟩) c2.out rfl (wpAny_bind (updateSeq_IsTupOf2 (s := ⟨p2, gl, dr, tk2, os⟩) c2.out fun q2 o2 u2 => wpAny_bind (wpAny_letGo (wpAny_pure (wpAny_pure ?_))))))
    have d2 := c2.atO S D1 D2 u2 (b1 := x) (b2 := y) o2
    refine wpAny_bind (wpAny_seqItems (s := ⟨q2, gl, dr, tk2, os⟩) d2.out rfl (wpAny_bind (wpAny_newTuple ?_)))
    have up : ∀ c o, q2.get? c = some o → (q2.push { cls := .type "tuple", data := .seq #[x, y] }).get? c = some o := fun c o e => Heap.get?_push_of_some _ e
    have zlt : z < q2.objs.size := Heap.lt_size d2.zp
    show wpAny _ _ (Builtin.SmallTypes.ownedTupleHandOut (.ref z) (.ref q2.objs.size) >>= _) _ _ ⟨q2.push { cls := .type "tuple", data := .seq #[x, y] }, gl, dr, tk2, os⟩
    unfold Builtin.SmallTypes.ownedTupleHandOut
    refine wpAny_bind (wpAny_bind (Zp.put (s := ⟨_, gl, dr, tk2, os⟩) (up _ _ d2.zp) (by decide) fun r1 z1 v1 => Zp.put (s := ⟨r1, gl, dr, tk2, os⟩) z1 (by decide) fun r2 z2 v2 => wpAny_pure ?_))
    have on : ∀ c o, c ≠ z → q2.get? c = some o → r2.get? c = some o := fun c o n e => v2.extBut _ _ n (v1.extBut _ _ n (up _ _ e))
    have mine : IsTupOf2 r2 q2.objs.size x y := v2.extBut _ _ (Nat.ne_of_gt zlt) (v1.extBut _ _ (Nat.ne_of_gt zlt) (Heap.get?_push_size _ rfl))
    show Q (.done (.ret (.ref q2.objs.size))) _
    rw [d2.size] at mine z2 ⊢
    exact more lt1 lt2 x y r2 tk2 hx hy ⟨⟨_, false, .inr ⟨_, rfl⟩, z2⟩, on _ _ S.TIz d2.ins, ⟨_, _, on _ _ S.TOz d2.out⟩, D1.frame _ _ _ d2.one fun b m o e => on b o (fun q => S.zf1 (q ▸ m)) e, D2.frame _ _ _ d2.two fun b m o e => on b o (fun q => S.zf2 (q ▸ m)) e⟩ mine fun c o a b d g l => on c o a (d2.left c o a b d g l)
  · simp only [Bool.false_eq_true, if_false]
    have c0 := (began _ hz).atZ S D1 D2 hs0 hz0
    refine wpAny_bind ?_
    rw [← Array.forIn_toList]
    simp only [List.forIn_cons, List.forIn_nil]
    refine wpAny_bind (wpAny_bind (wpAny_holding ?_))
    show wpAny _ _ (Builtin.SmallTypes.nextOf (.ref i1) >>= _) _ _ ⟨h0, gl, dr, tk0, os⟩
    refine wpAny_bind (drawn D1 h1 c0.one (fun lt1 x p1 tk1 hx t1 e1 => wpAny_pure (wpAny_pure (wpAny_bind (wpAny_bind (wpAny_holding ?_))))) fun eq p1 e e1 stop => last (.inl eq) p1 tk0 e (fun c o a b d g l => e1 c o d (c0.left c o a b d g l)) stop)
    have c1 := c0.at1 S D1 D2 e1 t1
    show wpAny _ _ (Builtin.SmallTypes.nextOf (.ref i2) >>= _) _ _ ⟨p1, gl, dr, tk1, os⟩
    refine wpAny_bind (drawn D2 h2 c1.two (fun lt2 y p2 tk2 hy t2 e2 => wpAny_pure (wpAny_pure (wpAny_pure ?_))) fun eq p2 e e2 stop => last (.inr eq) p2 tk1 e (fun c o a b d g l => e2 c o g (c1.left c o a b d g l)) stop)
    have c2 := c1.at2 S D1 D2 e2 t2
    show wpAny _ _ (newTuple [x, y] >>= _) _ _ ⟨p2, gl, dr, tk2, os⟩
    refine wpAny_bind (wpAny_newTuple (wpAny_pure ?_))
    have up : ∀ c o, p2.get? c = some o → (p2.push { cls := .type "tuple", data := .seq #[x, y] }).get? c = some o := fun c o e => Heap.get?_push_of_some _ e
    show Q (.done (.ret (.ref p2.objs.size))) _
    rw [c2.size]
    exact more lt1 lt2 x y _ tk2 hx hy ⟨⟨own, true, gv, up _ _ c2.zp⟩, up _ _ c2.ins, ⟨_, _, up _ _ c2.out⟩, D1.frame _ _ _ c2.one fun b _ o e => up b o e, D2.frame _ _ _ c2.two fun b _ o e => up b o e⟩ (c2.size ▸ Heap.get?_push_size _ rfl) fun c o a b d g l => up c o (c2.left c o a b d g l)
theorem left_of {h h' : Heap} (l : Left z TO i1 i2 h h') : ∀ b o, b ∉ [z, TO, i1, i2] → h.get? b = some o → h'.get? b = some o := fun b o m e => l b o (fun q => m (by simp [q])) (fun q => m (by simp [q])) (fun q => m (by simp [q])) (fun q => m (by simp [q])) e
/-- zip of two whose pairs one name takes -/
theorem goes {x : Str} {pos : Pos} (S : ZipSep2 z TI TO i1 i2 fp1 fp2) (D1 : Draws prog w A.in1 i1 fp1 n1 P1 St1) (D2 : Draws prog w A.in1 i2 fp2 n2 P2 St2) :
    GoesN prog w A (.Name x pos) z (z :: TI :: TO :: (fp1 ++ fp2)) [z, TO, i1, i2] (min n1 n2) (fun i h₀ v h => ∃ T x y, v = .ref T ∧ h₀.objs.size ≤ T ∧ P1 i x ∧ P2 i y ∧ h.IsTuple T #[x, y]) (Std z TI TO i1 i2 St1 St2) where
  sub := fun c m => by
    have := S.mem1
    have := S.mem2
    simp only [List.mem_cons, List.not_mem_nil, or_false] at m
    rcases m with rfl | rfl | rfl | rfl <;> simp [*]
  frame := fun i h h' st k => by
    obtain ⟨⟨own, f, g, hz⟩, hI, ⟨a, b, hO⟩, s1, s2⟩ := st
    exact ⟨⟨own, f, g, k _ (by simp) _ hz⟩, k _ (by simp) _ hI, ⟨a, b, k _ (by simp) _ hO⟩, D1.frame _ _ _ s1 fun c m => k c (by simp [m]), D2.frame _ _ _ s2 fun c m => k c (by simp [m])⟩
  goes := fun i s Q E lt st q => by
    obtain ⟨own, f, _, hz⟩ := st.1
    have is : s.TypeIs (.ref z) "zip" := ⟨_, hz, rfl⟩
    refine wpAny_with_toks (n := s.toks) (Nat.le_refl _) ?_
    unfold pyNext
    refine wpAny_bind (wpAny_attempt (wpAny_callSpecial?_slot (name := Str.ofString "__next__") is F.slot_zip_next (wpAny_call_entry F.slot_zip_next is F.entry_zip_next (turn_of S D1 D2 st (by omega) (by omega) (fun _ _ x y h' tk hx hy st' hT l => ?_) fun e => absurd e (by omega)) (F.args_zip_next_1 _))))
    refine ⟨_, rfl, wpAny_pure ?_⟩
    exact fun le => ⟨_, rfl, wpAny_pure (q _ h' tk ⟨_, x, y, rfl, Nat.le_refl _, hx, hy, ⟨_, hT, rfl, _, rfl⟩⟩ st' (left_of l) le)⟩
  stops := fun s Q E st q => by
    obtain ⟨own, f, _, hz⟩ := st.1
    have is : s.TypeIs (.ref z) "zip" := ⟨_, hz, rfl⟩
    refine wpAny_with_toks (n := s.toks) (Nat.le_refl _) ?_
    unfold pyNext
    refine wpAny_bind (wpAny_attempt (wpAny_callSpecial?_slot (name := Str.ofString "__next__") is F.slot_zip_next (wpAny_call_entry F.slot_zip_next is F.entry_zip_next (turn_of S D1 D2 st (by omega) (by omega) (fun a b => absurd a (by omega)) fun _ h' tk e l stop => ?_) (F.args_zip_next_1 _))))
    obtain ⟨o, ho, hc⟩ := stop
    refine wpAny_bind (wpAny_isInstance (T := "StopIteration") (b := true) ⟨o, ho, hc⟩ isSubtype_stop ?_)
    refine wpAny_pure ?_
    exact fun le => ⟨rfl, q h' tk (left_of l) le⟩
  self := fun i s Q E st q => by
    obtain ⟨own, f, _, hz⟩ := st.1
    have is : s.TypeIs (.ref z) "zip" := ⟨_, hz, rfl⟩
    exact wpAny_pyIter_slot is F.slot_zip_iter (wpAny_call_entry F.slot_zip_iter is F.entry_zip_iter (wpAny_pure ⟨_, rfl, "zip", _, is, F.slot_zip_next.lookup, q⟩) (F.args_zip_iter_1 _))
end
open ZipG in
theorem turn_n {P : Program} {w : World} {K : PySem.W.Frag} {x : Str} {tpos : Pos} {t1 t2 : Bool} {a b z TI TO i1 i2 : Addr} (S : ZipSep2 z TI TO i1 i2 [i1, a] [i2, b]) (ha : a ≠ i1) (hb : b ≠ i2) :
    Turn P w K (.Name x tpos) (PrZ t1 t2 K a b).it [z, TI, TO, i1, i2] z (Std z TI TO i1 i2 (fun i h => PairW.ItB t1 h i1 a i) fun i h => PairW.ItB t2 h i2 b i) := by
  refine PairW.turn_prs (wr := [z, TO, i1, i2]) _ (by simp) (fun c m => ?_) (fun i h st c m => ?_) (fun i h h' st k => ?_) (fun A i s Q E st q => ?_) fun X e1 e2 e3 calm i pins s σ H I st told => ?_
  · simp only [List.mem_cons, List.not_mem_nil, or_false] at m ⊢
    rcases m with q | q | q | q <;> simp [q]
  · obtain ⟨⟨own, f, g, hz⟩, hI, ⟨x, y, hO⟩, g1, g2⟩ := st
    simp only [List.mem_cons, List.not_mem_nil, or_false] at m
    rcases m with q | q | q | q | q <;> subst q
    · exact ⟨_, hz, fun _ q => nomatch q⟩
    · exact ⟨_, hI, fun _ q => nomatch q⟩
    · exact ⟨_, hO, fun _ q => nomatch q⟩
    · exact g1.obj
    · exact g2.obj
  · obtain ⟨⟨own, f, g, hz⟩, hI, ⟨x, y, hO⟩, g1, g2⟩ := st
    exact ⟨⟨own, f, g, k _ (by simp) _ hz⟩, k _ (by simp) _ hI, ⟨x, y, k _ (by simp) _ hO⟩, g1.at fun o => k _ (by simp) o, g2.at fun o => k _ (by simp) o⟩
  · obtain ⟨own, f, _, hz⟩ := st.1
    have is : s.TypeIs (.ref z) "zip" := ⟨_, hz, rfl⟩
    exact wpAny_pyIter_slot is F.slot_zip_iter (wpAny_call_entry F.slot_zip_iter is F.entry_zip_iter (wpAny_pure ⟨_, rfl, "zip", _, is, F.slot_zip_next.lookup, q⟩) (F.args_zip_iter_1 _))
  · subst e1 e2 e3
    obtain ⟨xs, ys, hx, hy⟩ : ∃ xs ys : List V, SqV t1 X.K H a xs ∧ SqV t2 X.K H b ys := told.elim (fun ⟨xs, ys, p, q, _⟩ => ⟨xs, ys, p, q⟩) fun ⟨xs, ys, p, q, _⟩ => ⟨xs, ys, p, q⟩
    obtain ⟨its1, r1, th1⟩ := PairW.sqv_get I hx
    obtain ⟨its2, r2, th2⟩ := PairW.sqv_get I hy
    have many : min xs.length ys.length = min its1.toArray.size its2.toArray.size := by simp only [List.size_toArray]; rw [r1.length, r2.length]
    obtain ⟨hz, hI, hO, g1, g2⟩ := st
    have D1 := PairW.draws (prog := X.prog) (w := X.w) (A := X.A.in1) (I.ok.hd calm) t1 ha its1.toArray
    have D2 := PairW.draws (prog := X.prog) (w := X.w) (A := X.A.in1) (I.ok.hd calm) t2 hb its2.toArray
    refine ⟨_, _, _, _, goes S D1 D2, ⟨hz, hI, hO, ⟨g1, th1⟩, ⟨g2, th2⟩⟩, fun h ⟨n1, n2, n3, n4, n5⟩ => ⟨n1, n2, n3, n4.1, n5.1⟩, ?_, ?_⟩
    · rintro ⟨xs', ys', p, q, n⟩
      rw [n, PairW.sqv_inj I p hx, PairW.sqv_inj I q hy, many]
    · rintro ⟨xs', ys', p, q, n⟩
      rw [PairW.sqv_inj I p hx, PairW.sqv_inj I q hy] at n
      refine ⟨many ▸ n, ?_⟩
      rintro h0 v h ⟨T, u1, u2, rfl, new, hu1, hu2, tup⟩
      have l1 : i < xs.length := by omega
      have l2 : i < ys.length := by omega
      obtain ⟨w1, hw1, rr1⟩ := r1.get (List.getElem?_eq_getElem l1)
      obtain ⟨w2, hw2, rr2⟩ := r2.get (List.getElem?_eq_getElem l2)
      have s1 : w1 = u1 := Option.some.inj (hw1.symm.trans (by simpa using hu1))
      have s2 : w2 = u2 := Option.some.inj (hw2.symm.trans (by simpa using hu2))
      exact ⟨T, u1, u2, xs[i], ys[i], rfl, new, tup, s1 ▸ rr1, s2 ▸ rr2, fun zs hz => by rw [PairW.sqv_inj I hz hx]; exact List.getElem?_eq_getElem l1, fun zs hz => by rw [PairW.sqv_inj I hz hy]; exact List.getElem?_eq_getElem l2⟩
theorem pi_zipN {X : Cx} {e e2 : Expr} {ta : TA} {x : Str} {p pos tpos : Pos} (hg : Gl X "zip") (hm : X.mg "zip" = none) (ha : PA X [e, e2] ta)
    (hs : (starEach [e, e2] X.env = (false, eval e X.env) :: starEach [e2] X.env) := by rfl) (hpl : (backTo pos (starEach [e2] X.env)).any (·.1) = false := by rfl) :
    PI X (.Name x tpos) (.Call (.Name "zip" p) [e, e2] [] pos) (ZipG.iZipG X.K ta) where
  run := fun pins s σ H R I h => Call_ (ld_blt I hg hm PyProof.Rows.boot_zip (PyProof.Rows.callWith_type1 (thn (ha.run pos pins s σ H _ I h) fun us s1 ⟨vs, H1, I1, rv, a, b, xs, ys, ev, t1, t2, hx, hy, q⟩ => by
    subst ev
    obtain ⟨_, _, rfl, ru1, ru2⟩ := vals2 rv
    cases ru1
    cases ru2
    obtain ⟨its1, _, th1⟩ := PairW.sqv_get I1 hx
    obtain ⟨its2, _, th2⟩ := PairW.sqv_get I1 hy
    have below : ∀ {c d : Addr}, c < s1.heap.objs.size → d ∈ [c] → d < s1.heap.objs.size := fun l m => List.mem_singleton.mp m ▸ l
    refine zip_begins2 (PairW.begins t1 a its1.toArray) (PairW.begins t2 b its2.toArray) th1 th2 fun h' hz hI hO h1 h2 _ old => wpAny_pyIter_zip hz ?_
    refine PairW.begun I1 old (turn_n (zip_sep2 (fp1 := [a]) (fp2 := [b]) (fun _ => below th1.lt) fun _ => below th2.lt) (Nat.ne_of_lt th1.lt) (Nat.ne_of_lt (Nat.lt_succ_of_lt th2.lt))) ⟨⟨_, false, .inl rfl, hz⟩, hI, ⟨_, _, hO⟩, PairW.itO_is h1, PairW.itO_is h2⟩ (fun c m => ?_) q
    simp only [List.mem_cons, List.not_mem_nil, or_false] at m
    rcases m with z | z | z | z | z <;> subst z <;> omega) hs hpl))
end ZipW
/-! ### list(zip(a, b)): each pair a new tuple, kept by the list -/
namespace ZipL
open PySem PySem.Spec PyProof.Rows L2 ZipW
/-- an iterator of new pairs: where it stands hangs on fp, it changes nothing but wr -/
structure Hand (prog : Program) (w : World) (A : Around) (I : Addr) (fp wr : List Addr) (n : Nat) (P : Nat → Value → Value → Prop) (St : Nat → Heap → Prop) : Prop where
  sub : ∀ b ∈ wr, b ∈ fp
  frame : ∀ i g g', St i g → (∀ c ∈ fp, ∀ u, g.get? c = some u → g'.get? c = some u) → St i g'
  next : ∀ i (s : Shared) (Q : Option Value → Shared → Prop) (E : Value → Shared → Prop), i < n → St i s.heap →
    (∀ T x y h' tk, s.heap.objs.size ≤ T → P i x y → h'.IsTuple T #[x, y] → St (i + 1) h' → (∀ b o, b ∉ wr → s.heap.get? b = some o → h'.get? b = some o) → Q (some (.ref T)) { s with heap := h', toks := tk }) → wpAny (model prog w) A (pyNext (.ref I)) Q E s
  stop : ∀ (s : Shared) (Q : Option Value → Shared → Prop) (E : Value → Shared → Prop), St n s.heap →
    (∀ g k, (∀ c u, c ∉ wr → s.heap.get? c = some u → g.get? c = some u) → Q none { s with heap := g, toks := k }) → wpAny (model prog w) A (pyNext (.ref I)) Q E s
  self : ∀ i (s : Shared) (Q E : Value → Shared → Prop), St i s.heap → Q (.ref I) s → wpAny (model prog w) A (pyIter (.ref I)) Q E s
/-- what was collected so far -/
structure Got (P : Nat → Value → Value → Prop) (lo : Nat) (h : Heap) (as : List Addr) : Prop where
  rise : as.Pairwise (· < ·)
  above : ∀ a ∈ as, lo ≤ a
  pair : ∀ (j : Nat) (a : Addr), as[j]? = some a → ∃ x y, P j x y ∧ h.IsTuple a #[x, y]
abbrev lob (acc : Array Value) (c : Nat) : Obj := { cls := .type "list", dict := none, data := .seq acc c, slots := #[] }
section
variable {prog : Program} {w : World} {A : Around} {I S : Addr} {fp wr : List Addr} {n lo : Nat} {P : Nat → Value → Value → Prop} {St : Nat → Heap → Prop} {R : Result → Shared → Prop}
theorem tup_size {h : Heap} {T : Addr} {xs : Array Value} (t : h.IsTuple T xs) : T < h.objs.size := by
  obtain ⟨o, e, _⟩ := t
  exact Heap.lt_size e
theorem tup_stay {h h' : Heap} {T : Addr} {xs : Array Value} (t : h.IsTuple T xs) (k : ∀ o, h.get? T = some o → h'.get? T = some o) : h'.IsTuple T xs := by
  obtain ⟨o, e, r⟩ := t
  exact ⟨o, k o e, r⟩
theorem Got.stay {h h' : Heap} {as : List Addr} (g : Got P lo h as) (k : ∀ a o, lo ≤ a → h.get? a = some o → h'.get? a = some o) : Got P lo h' as where
  rise := g.rise
  above := g.above
  pair := fun j a e => by
    obtain ⟨x, y, p, t⟩ := g.pair j a e
    exact ⟨x, y, p, tup_stay t fun o => k a o (g.above a (List.mem_of_getElem? e))⟩
theorem Got.snoc {h : Heap} {as : List Addr} {T : Addr} {x y : Value} (g : Got P lo h as) (new : ∀ a ∈ as, a < T) (up : lo ≤ T) (p : P as.length x y) (t : h.IsTuple T #[x, y]) : Got P lo h (as ++ [T]) where
  rise := List.pairwise_append.mpr ⟨g.rise, List.pairwise_singleton _ _, fun a ha b hb => List.mem_singleton.mp hb ▸ new a ha⟩
  above := fun a m => (List.mem_append.mp m).elim (g.above a) fun m => List.mem_singleton.mp m ▸ up
  pair := fun j a e => by
    by_cases l : j < as.length
    · rw [List.getElem?_append_left l] at e
      exact g.pair j a e
    · have hj : j = as.length := by
        have := (List.getElem?_eq_some_iff.mp e).1
        rw [List.length_append, List.length_singleton] at this
        omega
      subst hj
      rw [List.getElem?_append_right (Nat.le_refl _), Nat.sub_self] at e
      cases e
      exact ⟨x, y, p, t⟩
theorem collects (G : Hand prog w A.in1 I fp wr n P St) (few : n ≤ sizeLine) (out : S ∉ fp) (res : Value) (base : ∀ b ∈ S :: fp, b < lo) {s : Shared} :
    ∀ (k i : Nat) (h : Heap) (tk c : Nat) (acc : Array Value) (as : List Addr), n - i = k → i ≤ n → St i h → lo ≤ h.objs.size → h.get? S = some (lob acc c) → acc.toList = as.map Value.ref → as.length = i → Got P lo h as →
      (∀ h' tk' acc' c' as', (∀ b o, b ∉ S :: wr → h.get? b = some o → h'.get? b = some o) → h'.get? S = some (lob acc' c') → as'.length = n → Got P lo h' as' → acc'.toList = as'.map Value.ref → R (.ok (.ret res)) { s with heap := h', toks := tk' }) →
      codeAny (model prog w) A (.builtin "list.extend.loop" ⟨[.ref S, .ref I, res], []⟩) R { s with heap := h, toks := tk }
  | 0, i, h, tk, c, acc, as, hk, hi, st, hl, hS, ea, el, g, q => by
    obtain rfl : i = n := by omega
    apply codeAny_builtin F.entry_extend_loop
    rw [Around.under_plainId (F.plain_extend_loop)]
    refine wpAny_bind (G.stop _ _ _ st fun h' tk' old => wpAny_pure ?_)
    have k : ∀ b o, b ∉ wr → h.get? b = some o → h'.get? b = some o := old
    exact q h' tk' acc c as (fun b o m e => k b o (fun z => m (List.mem_cons_of_mem _ z)) e) (k _ _ (fun m => out (G.sub _ m)) hS) el (g.stay fun a o l e => k a o (fun z => Nat.not_lt.mpr l (base a (List.mem_cons_of_mem _ (G.sub _ z)))) e) ea
  | k + 1, i, h, tk, c, acc, as, hk, hi, st, hl, hS, ea, el, g, q => by
    have lt : i < n := by omega
    have sz : acc.size = i := by rw [← Array.length_toList, ea, List.length_map, el]
    apply codeAny_builtin F.entry_extend_loop
    rw [Around.under_plainId (F.plain_extend_loop)]
    refine wpAny_bind (G.next i _ _ _ lt st fun T x y h1 tk1 new p tup st1 old => ?_)
    have k1 : ∀ b o, b ∉ wr → h.get? b = some o → h1.get? b = some o := old
    have new : h.objs.size ≤ T := new
    have hS1 := k1 _ _ (fun m => out (G.sub _ m)) hS
    have lT : lo ≤ T := Nat.le_trans hl new
    have TS : T ≠ S := fun z => Nat.not_lt.mpr lT (z ▸ base S List.mem_cons_self)
    have up : ∀ b o, b ≠ S → h1.get? b = some o → (h1.update S (Obj.mapSeq (·.push (Value.ref T)))).get? b = some o := fun b o nb e => (Heap.get?_update_other _ _ (Ne.symm nb)).trans e
    have far : ∀ a o, lo ≤ a → h1.get? a = some o → (h1.update S (Obj.mapSeq (·.push (Value.ref T)))).get? a = some o := fun a o l e => up a o (fun z => Nat.not_lt.mpr l (z ▸ base S List.mem_cons_self)) e
    have there : ∀ a ∈ as, a < T := fun a m => by
      obtain ⟨j, e⟩ := List.mem_iff_getElem?.mp m
      obtain ⟨_, _, _, t⟩ := g.pair j a e
      exact Nat.lt_of_lt_of_le (tup_size t) new
    have g1 := (g.stay (fun a o l e => k1 a o (fun z => Nat.not_lt.mpr l (base a (List.mem_cons_of_mem _ (G.sub _ z)))) e) : Got P lo h1 as).snoc there lT (el ▸ p) tup
    show wpAny _ A.in1 (updateSeq S (·.push (.ref T)) >>= _) _ _ _
    refine wpAny_bind (wpAny_updateSeq hS1 rfl (wpAny_pure ⟨plainId_quiet F.plain_extend_loop _, collects G few out res base k (i + 1) _ tk1 _ (acc.push (.ref T)) (as ++ [T]) (by omega) lt (G.frame _ _ _ st1 fun b m o e => up b o (fun z => out (z ▸ m)) e) ?_ (Heap.get?_update_self _ hS1 rfl) ?_ ?_ (g1.stay far) fun h' tk' acc' c' as' kk e1 e2 e3 e4 => ?_⟩) ?_ ?_)
    · rw [Heap.size_update]
      exact Nat.le_of_lt (Nat.lt_of_le_of_lt lT (tup_size tup))
    · rw [Array.toList_push, ea, List.map_append]
      rfl
    · rw [List.length_append, el]
      rfl
    · exact q h' tk' acc' c' as' (fun b o m e => kk b o m (up b o (fun z => m (z ▸ List.mem_cons_self)) (k1 b o (fun z => m (List.mem_cons_of_mem _ z)) e))) e1 e2 e3 e4
    · rw [sz]
      omega
    · show (acc.push (Value.ref T)).size ≤ sizeLine + 1
      rw [Array.size_push, sz]
      omega
end
theorem no_len : typeLookup (.type "zip") "__len__" = pure none := by rw [typeLookup_type, builtinLookup_eq_fast]; kernel_rfl
theorem no_hint : typeLookup (.type "zip") "__length_hint__" = pure none := by rw [typeLookup_type, builtinLookup_eq_fast]; kernel_rfl
section
variable {prog : Program} {w : World} {A : Around} {E : Value → Shared → Prop} {I : Addr} {fp wr : List Addr} {n : Nat} {P : Nat → Value → Value → Prop} {St : Nat → Heap → Prop} {s : Shared}
theorem call_list (G : Hand prog w A.in1.in1 I fp wr n P St) (few : n ≤ sizeLine) (zip : ∀ i h, St i h → ∃ o, h.get? I = some o ∧ o.cls = .type "zip") (st : St 0 s.heap) (base : ∀ b ∈ fp, b < s.heap.objs.size) (mine : I ∈ fp) {Q : Value → Shared → Prop}
    (q : ∀ h' tk acc c as, (∀ b o, b ∉ wr → s.heap.get? b = some o → h'.get? b = some o) → h'.get? s.heap.objs.size = some (lob acc c) → as.length = n → Got P (s.heap.objs.size + 1) h' as → acc.toList = as.map Value.ref → Q (.ref s.heap.objs.size) { s with heap := h', toks := tk }) : wpAny (model prog w) A (call (.type "list") [.ref I]) Q E s := by
  have out : s.heap.objs.size ∉ fp := fun m => Nat.lt_irrefl _ (base _ m)
  have nI : s.heap.objs.size ≠ I := fun z => out (z ▸ mine)
  refine callType_codes (Q₁ := fun obj s₁ => obj = .ref s.heap.objs.size ∧ s₁ = { s with heap := s.heap.push { cls := .type "list", data := .seq #[] } }) F.called_list (F.typeCall_list_1 _) F.entry_list_init (code_list_new _ ⟨rfl, rfl⟩) fun obj s₁ h₁ => ?_
  obtain ⟨rfl, rfl⟩ := h₁
  generalize eS : s.heap.objs.size = S at *
  have h0 : (s.heap.push { cls := .type "list", data := .seq #[] }).get? S = some (lob #[] 0) := by rw [← eS]; exact Heap.get?_push_size _ rfl
  have up0 : ∀ b o, s.heap.get? b = some o → (s.heap.push { cls := .type "list", data := .seq #[] }).get? b = some o := fun b o e => Heap.get?_push_of_some _ e
  have sz0 : (s.heap.push { cls := .type "list", data := .seq #[] }).objs.size = S + 1 := by rw [Heap.size_push, eS]
  have st0 := G.frame 0 _ _ st fun b _ o e => up0 b o e
  generalize eH : s.heap.push { cls := .type "list", data := .seq #[] } = H0 at *
  refine ⟨⟨_, h0, rfl⟩, F.args_list_init_2 _ _, ?_⟩
  show wpAny _ _ (do let old ← Builtin.List.listItems (.ref S); Builtin.List.listUpdate (.ref S) (fun _ => #[]); letGo old.toList.reverse; Builtin.List.listExtendWith (.ref S) (.ref I) .none) _ _ _
  refine wpAny_bind ?_
  unfold Builtin.List.listItems
  refine wpAny_bind (wpAny_seqItems h0 rfl (wpAny_pure ?_))
  show wpAny _ _ (updateSeq S (fun _ => #[]) >>= fun _ => letGo (#[] : Array Value).toList.reverse >>= fun _ => Builtin.List.listExtendWith (.ref S) (.ref I) .none) _ _ _
  refine wpAny_bind (wpAny_updateSeq h0 rfl (wpAny_bind (wpAny_letGo ?_)))
  have h1 := Heap.get?_update_self (Obj.mapSeq (fun _ => (#[] : Array Value))) h0 rfl
  have oth : ∀ (h : Heap) (f : Obj → Obj) b o, b ≠ S → h.get? b = some o → (h.update S f).get? b = some o := fun h f b o nb e => (Heap.get?_update_other _ _ (Ne.symm nb)).trans e
  have k1 := oth H0 (Obj.mapSeq (fun _ => (#[] : Array Value)))
  have sz1 : (H0.update S (Obj.mapSeq (fun _ => (#[] : Array Value)))).objs.size = S + 1 := by rw [Heap.size_update, sz0]
  have st1 := G.frame 0 _ _ st0 fun b m o e => k1 b o (fun z => out (z ▸ m)) e
  generalize H0.update S (Obj.mapSeq (fun _ => (#[] : Array Value))) = H1 at h1 k1 sz1 st1 ⊢
  unfold Builtin.List.listExtendWith; obtain ⟨oz, ez, cz⟩ := zip 0 _ st1
  refine wpAny_bind (wpAny_typeOf (T := "zip") ⟨oz, ez, cz⟩ ?_)
  have d1 : Builtin.List.listSameRef (.ref S) (.ref I) = false := by simp [Builtin.List.listSameRef, nI]
  have d2 : (Value.type "zip" == Value.type "list") = false := by decide
  have d3 : (Value.type "zip" == Value.type "tuple") = false := by decide
  simp only [d1, d2, d3, Bool.or_false, Bool.false_eq_true, if_false]
  refine wpAny_bind (G.self 0 _ _ _ st1 (wpAny_bind (wpAny_holding ?_)))
  unfold Builtin.List.listLengthHint; refine wpAny_bind (wpAny_specialOf (T := "zip") ⟨oz, ez, cz⟩ no_len ?_)
  show wpAny _ _ (specialOf (Value.ref I) (Str.ofString "__length_hint__") >>= _) _ _ _
  refine wpAny_bind (wpAny_specialOf (T := "zip") ⟨oz, ez, cz⟩ no_hint (wpAny_pure ?_))
  show wpAny _ _ (rule "list.extend.makes-room" >>= fun _ => Builtin.List.listTouch (.ref S) >>= fun _ => again (.builtin "list.extend.loop" ⟨[.ref S, .ref I, .none], []⟩)) _ _ _
  refine wpAny_bind (wpAny_rule (wpAny_bind (show wpAny _ _ (updateSeq S (·.push .none) >>= fun _ => updateSeq S (·.pop)) _ _ _ from ?_)))
  refine wpAny_bind (wpAny_updateSeq h1 rfl ?_)
  have h2 := Heap.get?_update_self (Obj.mapSeq (·.push Value.none)) h1 rfl
  refine wpAny_updateSeq h2 rfl ?_
  have h3 := Heap.get?_update_self (Obj.mapSeq (·.pop)) h2 rfl
  have k3 : ∀ b o, b ≠ S → H1.get? b = some o → ((H1.update S (Obj.mapSeq (·.push Value.none))).update S (Obj.mapSeq (·.pop))).get? b = some o := fun b o nb e => oth _ _ b o nb (oth _ _ b o nb e)
  have sz3 : ((H1.update S (Obj.mapSeq (·.push Value.none))).update S (Obj.mapSeq (·.pop))).objs.size = S + 1 := by rw [Heap.size_update, Heap.size_update, sz1]
  refine wpAny_pure ⟨plainId_quiet F.plain_extend_loop _, collects (lo := S + 1) G few out .none (fun b m => ?_) n 0 _ s.toks _ _ [] rfl (Nat.zero_le _) (G.frame 0 _ _ st1 fun b m o e => k3 b o (fun z => out (z ▸ m)) e) (Nat.le_of_eq sz3.symm) h3 rfl rfl ⟨.nil, (fun _ m => nomatch m), fun j a e => by simp at e⟩ fun h' tk' acc' c' as' kk e1 e2 e3 e4 => ?_⟩
  · rcases List.mem_cons.mp m with z | m
    · exact z ▸ Nat.lt_succ_self S
    · exact Nat.lt_succ_of_lt (base b m)
  · refine ⟨rfl, q h' tk' acc' c' as' (fun b o m e => ?_) e1 e2 e3 e4⟩
    have nb : b ≠ S := fun z => by
      have l := Heap.lt_size e
      rw [z, eS] at l
      exact Nat.lt_irrefl _ l
    exact kk b o (fun z => (List.mem_cons.mp z).elim nb m) (k3 b o nb (k1 b o nb (up0 b o e)))
end
section
variable {prog : Program} {w : World} {A : Around} {z TI TO i1 i2 : Addr} {fp1 fp2 : List Addr} {n1 n2 : Nat} {P1 P2 : Nat → Value → Prop} {St1 St2 : Nat → Heap → Prop}
/-- zip is one of them -/
theorem hand_zip (S : ZipSep2 z TI TO i1 i2 fp1 fp2) (D1 : Draws prog w A.in1 i1 fp1 n1 P1 St1) (D2 : Draws prog w A.in1 i2 fp2 n2 P2 St2) :
    Hand prog w A z (z :: TI :: TO :: (fp1 ++ fp2)) [z, TO, i1, i2] (min n1 n2) (fun i x y => P1 i x ∧ P2 i y) (Std z TI TO i1 i2 St1 St2) where
  sub := (goes (x := ⟨#[]⟩) (pos := default) S D1 D2).sub
  frame := (goes (x := ⟨#[]⟩) (pos := default) S D1 D2).frame
  self := (goes (x := ⟨#[]⟩) (pos := default) S D1 D2).self
  next := fun i s Q E lt st q => by
    obtain ⟨own, f, _, hz⟩ := st.1
    have is : s.TypeIs (.ref z) "zip" := ⟨_, hz, rfl⟩
    refine wpAny_with_toks (n := s.toks) (Nat.le_refl _) ?_
    unfold pyNext
    refine wpAny_bind (wpAny_attempt (wpAny_callSpecial?_slot (name := Str.ofString "__next__") is F.slot_zip_next (wpAny_call_entry F.slot_zip_next is F.entry_zip_next (turn_of S D1 D2 st (by omega) (by omega) (fun _ _ x y h' tk hx hy st' hT l => ?_) fun e => absurd e (by omega)) (F.args_zip_next_1 _))))
    refine ⟨_, rfl, wpAny_pure ?_⟩
    exact fun _ => q _ x y h' tk (Nat.le_refl _) ⟨hx, hy⟩ ⟨_, hT, rfl, _, rfl⟩ st' fun b o m e => left_of l b o m e
  stop := fun s Q E st q => by
    obtain ⟨own, f, _, hz⟩ := st.1
    have is : s.TypeIs (.ref z) "zip" := ⟨_, hz, rfl⟩
    refine wpAny_with_toks (n := s.toks) (Nat.le_refl _) ?_
    unfold pyNext
    refine wpAny_bind (wpAny_attempt (wpAny_callSpecial?_slot (name := Str.ofString "__next__") is F.slot_zip_next (wpAny_call_entry F.slot_zip_next is F.entry_zip_next (turn_of S D1 D2 st (by omega) (by omega) (fun a b => absurd a (by omega)) fun _ h' tk e l stop => ?_) (F.args_zip_next_1 _))))
    obtain ⟨o, ho, hc⟩ := stop
    exact wpAny_bind (wpAny_isInstance (T := "StopIteration") (b := true) ⟨o, ho, hc⟩ isSubtype_stop (wpAny_pure fun _ => q h' tk fun b o m e => left_of l b o m e))
end
/-! as a rule of the layer -/
theorem vals_at {xs : List V} {us : List Value} (r : Vals xs us) : ∀ {j : Nat} {u : Value}, us[j]? = some u → ∃ v, xs[j]? = some v ∧ RelV v u := by
  induction r with
  | nil => exact fun e => nomatch e
  | cons h _ ih =>
    intro j u e
    cases j with
    | zero => cases e; exact ⟨_, rfl, h⟩
    | succ j => exact ih (j := j) e
/-- the pairs tracked -/
def put2 : Hp → List Addr → List V → List V → Hp
  | H, a :: as, x :: xs, y :: ys => put2 (upd H a (.tup [x, y])) as xs ys
  | H, _, _, _ => H
theorem put2_off {b : Addr} : ∀ (as : List Addr) (xs ys : List V) (H : Hp), b ∉ as → put2 H as xs ys b = H b
  | a :: as, x :: xs, y :: ys, H, m => (put2_off as xs ys _ fun z => m (List.mem_cons_of_mem _ z)).trans (upd_ne fun z => m (z ▸ List.mem_cons_self))
  | [], _, _, _, _ => rfl
  | _ :: _, [], _, _, _ => rfl
  | _ :: _, _ :: _, [], _, _ => rfl
theorem put2_at : ∀ (as : List Addr) (xs ys : List V) (H : Hp), as.Nodup → ∀ {j : Nat} {a : Addr} {x y : V}, as[j]? = some a → xs[j]? = some x → ys[j]? = some y → put2 H as xs ys a = some (.tup [x, y])
  | a :: as, x :: xs, y :: ys, H, nd, 0, _, _, _, e1, e2, e3 => by
    cases e1
    cases e2
    cases e3
    exact (put2_off as xs ys _ (List.nodup_cons.mp nd).1).trans upd_same
  | a :: as, x :: xs, y :: ys, H, nd, j + 1, _, _, _, e1, e2, e3 => put2_at as xs ys _ (List.nodup_cons.mp nd).2 (j := j) e1 e2 e3
  | [], _, _, _, _, _, _, _, _, e, _, _ => nomatch e
  | _ :: _, [], _, _, _, _, _, _, _, _, e, _ => nomatch e
  | _ :: _, _ :: _, [], _, _, _, _, _, _, _, _, e => nomatch e
theorem refs_vals : ∀ as : List Addr, Vals (as.map V.ref) (as.map Value.ref)
  | [] => .nil
  | _ :: as => .cons rfl (refs_vals as)
section
variable {H : Hp} {s : Shared} {X : Cx} {σ : L2.St} {pins : List (Addr × Obj)}
theorem laid {S lo tk c : Nat} {h' : Heap} {acc : Array Value} {as : List Addr} {P : Nat → Value → Value → Prop} {xs ys : List V} (I : Inv X pins σ H s) (old : ∀ b o, s.heap.get? b = some o → h'.get? b = some o) (hS : h'.get? S = some (lob acc c)) (new : s.heap.objs.size ≤ S) (above : S < lo)
    (few : as.length ≤ sizeLine) (ea : acc.toList = as.map Value.ref) (g : Got P lo h' as) (rel : ∀ j x y, P j x y → ∃ v u, xs[j]? = some v ∧ ys[j]? = some u ∧ RelV v x ∧ RelV u y) :
    ∃ H', (∀ b o, H b = some o → H' b = some o) ∧ H S = none ∧ (∀ t ∈ as, H t = none) ∧ H' S = some (.lst (as.map V.ref)) ∧ (∀ (j : Nat) (t : Addr), as[j]? = some t → ∃ v u, xs[j]? = some v ∧ ys[j]? = some u ∧ H' t = some (.tup [v, u])) ∧ Inv X pins σ H' { s with heap := h', toks := tk } := by
  have nd : as.Nodup := g.rise.imp fun {a b} z => Nat.ne_of_lt z
  have big : ∀ t ∈ as, S < t := fun t m => Nat.lt_of_lt_of_le above (g.above t m)
  have noS : S ∉ as := fun m => Nat.lt_irrefl _ (big _ m)
  have free : ∀ b, s.heap.objs.size ≤ b → H b = none := fun b l => I.hok.fresh l
  have freeT : ∀ t ∈ as, H t = none := fun t m => free t (Nat.le_trans new (Nat.le_of_lt (big t m)))
  have far : ∀ b, b ∉ as → b ≠ S → put2 (upd H S (.lst (as.map V.ref))) as xs ys b = H b := fun b m n => (put2_off as xs ys _ m).trans (upd_ne n)
  have kp : ∀ b o, H b = some o → put2 (upd H S (.lst (as.map V.ref))) as xs ys b = some o := fun b o e => (far b (fun m => by rw [freeT b m] at e; cases e) (fun z => by rw [z, free S new] at e; cases e)).trans e
  have atS : put2 (upd H S (.lst (as.map V.ref))) as xs ys S = some (.lst (as.map V.ref)) := (put2_off as xs ys _ noS).trans upd_same
  have pr : ∀ (j : Nat) (t : Addr), as[j]? = some t → ∃ x y v u, h'.IsTuple t #[x, y] ∧ xs[j]? = some v ∧ ys[j]? = some u ∧ RelV v x ∧ RelV u y ∧ put2 (upd H S (.lst (as.map V.ref))) as xs ys t = some (.tup [v, u]) := fun j t e => by
    obtain ⟨x, y, p, tup⟩ := g.pair j t e
    obtain ⟨v, u, e1, e2, r1, r2⟩ := rel j x y p
    exact ⟨x, y, v, u, tup, e1, e2, r1, r2, put2_at as xs ys _ nd e e1 e2⟩
  refine ⟨_, kp, free S new, freeT, atS, fun j t e => ?_, ?_⟩
  · obtain ⟨_, _, v, u, _, e1, e2, _, _, e3⟩ := pr j t e
    exact ⟨v, u, e1, e2, e3⟩
  have low : ∀ b o, s.heap.get? b = some o → b ∉ as ∧ b ≠ S := fun b o e => by
    have l := Heap.lt_size e
    exact ⟨fun m => Nat.lt_irrefl _ (Nat.lt_of_lt_of_le (Nat.lt_trans l (Nat.lt_of_le_of_lt new (big b m))) (Nat.le_refl _)), fun z => Nat.not_lt.mpr new (z ▸ l)⟩
  refine I.call' (ch := []) rfl ⟨fun b o e _ _ _ => old b o e, fun b o e _ _ _ => ⟨o.slots, old b o e⟩, fun b o e n _ => ?_, fun b o e _ => ⟨o, old b o e⟩, fun b _ e => kp b _ e, fun b _ _ e => kp b _ e, fun b _ e => ⟨#[], by rw [kp b _ e]; simp⟩⟩ (fun b u e => ?_) I.bare fun b m => by simp at m
  · obtain ⟨n1, n2⟩ := low b o e
    rw [far b n1 n2]
    exact n
  · by_cases m : b ∈ as
    · obtain ⟨j, ej⟩ := List.mem_iff_getElem?.mp m
      obtain ⟨x, y, v, u', tup, _, _, r1, r2, e3⟩ := pr j b ej
      rw [e3] at e
      cases e
      exact ⟨by show 2 ≤ sizeLine; decide, [x, y], .cons r1 (.cons r2 .nil), tup⟩
    · by_cases z : b = S
      · rw [z, atS] at e
        cases e
        refine ⟨by rw [List.length_map]; exact few, acc.toList, c, by rw [ea]; exact refs_vals as, ?_⟩
        rw [z, Array.toArray_toList]
        exact hS
      · rw [far b m z] at e
        exact (I.hok b u e).stay (fun d v _ y => old d v y) (fun d y => kp d _ y) fun d _ y => kp d _ y
theorem within (n m : Nat) (h : m = n + 4 ∨ m = n + 2 ∨ m = n + 3 ∨ m = n ∨ m = n + 1 ∨ m < n) : m < n + 5 := by omega
theorem beyond (n b : Nat) (l : b < n) : ¬ (b = n + 4 ∨ b = n + 3 ∨ b = n ∨ b = n + 1) := by omega
/-- list(zip(a, b)) of what are lists or tuples -/
def tListZip (K : PySem.W.Frag) (ta : TA) : TE := fun σ H Q => ta σ H fun vs H1 => ∃ a b xs ys, vs = [.ref a, .ref b] ∧ ∃ (t1 t2 : Bool), PairW.SqV t1 K H1 a xs ∧ PairW.SqV t2 K H1 b ys ∧ min xs.length ys.length ≤ sizeLine ∧
  ∀ (H' : Hp) (D : Addr) (ts : List Addr), (∀ b o, H1 b = some o → H' b = some o) → H1 D = none → (∀ t ∈ ts, H1 t = none) → ts.length = min xs.length ys.length → H' D = some (.lst (ts.map V.ref)) → (∀ (j : Nat) (t : Addr), ts[j]? = some t → ∃ x y, xs[j]? = some x ∧ ys[j]? = some y ∧ H' t = some (.tup [x, y])) → Q (.ref D) H'
theorem pe_listZip {e e2 : Expr} {ta : TA} {p p' pos pos' : Pos} (hc : X.calm = true) (hgl : Gl X "list") (hml : X.mg "list" = none) (hvl : bootBuiltins "list" = some (.type "list")) (hg : Gl X "zip") (hm : X.mg "zip" = none) (ha : PA X [e, e2] ta)
    (hs : (starEach [e, e2] X.env = (false, eval e X.env) :: starEach [e2] X.env) := by rfl) (hpl : (backTo pos' (starEach [e2] X.env)).any (·.1) = false := by rfl)
    (hz : starEach [.Call (.Name "zip" p') [e, e2] [] pos'] X.env = (false, eval (.Call (.Name "zip" p') [e, e2] [] pos') X.env) :: starEach [] X.env := by rfl) :
    PE X (.Call (.Name "list" p) [.Call (.Name "zip" p') [e, e2] [] pos'] [] pos) (tListZip X.K ta) := by
  refine ⟨fun pins s σ H Q I h => ?_⟩
  refine Call_ (ld_blt I hgl hml hvl (PyProof.Rows.callWith_type1 ?_ hz rfl))
  rw [hz]
  show wpAny _ _ (spliced ((false, eval (.Call (.Name "zip" p') [e, e2] [] pos') X.env) :: backTo pos (starEach [] X.env))) _ _ s
  refine Calls.spliced_cons (Call_ (ld_blt I hg hm PyProof.Rows.boot_zip (PyProof.Rows.callWith_type1 (thn (ha.run pos' pins s σ H _ I h) fun us s1 ⟨vs, H1, I1, rv, a, b, xs, ys, ev, t1, t2, hx, hy, few, q⟩ => ?_) hs hpl)))
  subst ev
  obtain ⟨_, _, rfl, ru1, ru2⟩ := vals2 rv
  cases ru1
  cases ru2
  obtain ⟨its1, r1, th1⟩ := PairW.sqv_get I1 hx
  obtain ⟨its2, r2, th2⟩ := PairW.sqv_get I1 hy
  have la := th1.lt
  have lb := th2.lt
  refine zip_begins2 (PairW.begins t1 a its1.toArray) (PairW.begins t2 b its2.toArray) th1 th2 fun h0 hz0 hI hO g1 g2 sz old => Calls.spliced_nil ?_
  have D1 := PairW.draws (prog := X.prog) (w := X.w) (A := X.A.in1.in1.in1) (I1.ok.hd hc) t1 (it := s1.heap.objs.size) (Nat.ne_of_lt la) its1.toArray
  have D2 := PairW.draws (prog := X.prog) (w := X.w) (A := X.A.in1.in1.in1) (I1.ok.hd hc) t2 (it := s1.heap.objs.size + 1) (Nat.ne_of_lt (Nat.lt_succ_of_lt lb)) its2.toArray
  have SP : ZipSep2 (s1.heap.objs.size + 4) (s1.heap.objs.size + 2) (s1.heap.objs.size + 3) s1.heap.objs.size (s1.heap.objs.size + 1) [s1.heap.objs.size, a] [s1.heap.objs.size + 1, b] := zip_sep2 (fp1 := [a]) (fp2 := [b]) (fun _ m => List.mem_singleton.mp m ▸ la) fun _ m => List.mem_singleton.mp m ▸ lb
  have G := hand_zip (A := X.A.in1.in1) SP D1 D2
  have th1' : PairW.SqB t1 h0 a its1.toArray := by cases t1 <;> (obtain ⟨o, eo, r⟩ := th1; exact ⟨o, old _ _ eo, r⟩)
  have th2' : PairW.SqB t2 h0 b its2.toArray := by cases t2 <;> (obtain ⟨o, eo, r⟩ := th2; exact ⟨o, old _ _ eo, r⟩)
  have many : min its1.toArray.size its2.toArray.size = min xs.length ys.length := by simp only [List.size_toArray]; rw [r1.length, r2.length]
  refine call_list (s := { s1 with heap := h0 }) G (by rw [many]; exact few) (fun i h st => ⟨_, st.1.choose_spec.choose_spec.2, rfl⟩) ⟨⟨_, false, .inl rfl, hz0⟩, hI, ⟨_, _, hO⟩, ⟨PairW.itO_is g1, th1'⟩, ⟨PairW.itO_is g2, th2'⟩⟩ (fun c m => ?_) (by simp) fun h' tk acc c as kk hS el g ea => ?_
  · show c < h0.objs.size
    rw [sz]
    simp only [List.mem_cons, List.mem_append, List.not_mem_nil, or_false] at m
    exact within _ _ (by
      rcases m with y | y | y | (y | y) | y | y
      · exact .inl y
      · exact .inr (.inl y)
      · exact .inr (.inr (.inl y))
      · exact .inr (.inr (.inr (.inl y)))
      · exact .inr (.inr (.inr (.inr (.inr (y ▸ la)))))
      · exact .inr (.inr (.inr (.inr (.inl y))))
      · exact .inr (.inr (.inr (.inr (.inr (y ▸ lb))))))
  · have kk : ∀ b o, b ∉ [s1.heap.objs.size + 4, s1.heap.objs.size + 3, s1.heap.objs.size, s1.heap.objs.size + 1] → h0.get? b = some o → h'.get? b = some o := kk
    have old' : ∀ b o, s1.heap.get? b = some o → h'.get? b = some o := fun b o eb => by
      have l := Heap.lt_size eb
      refine kk b o (fun m => ?_) (old b o eb)
      simp only [List.mem_cons, List.not_mem_nil, or_false] at m
      exact beyond _ _ l m
    have hS : h'.get? h0.objs.size = some (lob acc c) := hS
    have g : Got (fun i x y => its1.toArray[i]? = some x ∧ its2.toArray[i]? = some y) (h0.objs.size + 1) h' as := g
    have el : as.length = min xs.length ys.length := el.trans many
    obtain ⟨H', k1, k2, k3, k4, k5, J⟩ := laid (tk := tk) (xs := xs) (ys := ys) I1 old' hS (by omega) (Nat.lt_succ_self _) (by rw [el]; exact few) ea g fun j x y ⟨e1, e2⟩ => by
      have e1 : its1[j]? = some x := by simpa using e1
      have e2 : its2[j]? = some y := by simpa using e2
      obtain ⟨v, hv, rv⟩ := vals_at r1 e1
      obtain ⟨u, hu, ru⟩ := vals_at r2 e2
      exact ⟨v, u, hv, hu, rv, ru⟩
    exact ⟨.ref _, H', J, rfl, q H' _ as k1 k2 k3 el k4 k5⟩
end
end ZipL
/-! ### a field read where the world is not known yet (within a try) -/
namespace FldK
open PySem PySem.Spec PyProof.Rows L2
theorem pe_fldK {X : Cx} {K : PySem.W.Frag} {e : Expr} {ta : TE} {f : Str} {pos : Pos} (h : X.K = K) (he : PE X e ta) (hb : attributeBase e f X.env (eval e X.env) = eval e X.env) : PE X (.Attribute e f pos) (tFld K ta f) := by
  subst h
  exact pe_fld he hb
end FldK
namespace Rep01
open PySem PySem.Spec PyProof.Rows L2
/-! ### a tuple of something, taken once or not at all -/
abbrev tupO (its : Array Value) (n : Nat) (dd : Option Addr) (sl : Array (Option Value)) : Obj := { cls := .type "tuple", dict := dd, data := .seq its n, slots := sl }
theorem once {l : Addr} {its : Array Value} {n : Nat} {dd : Option Addr} {sl : Array (Option Value)} {u : Tok} :
    Meets (Builtin.«tuple.__mul__» ⟨[.ref l, .int 1 u], []⟩) (fun _ R s => s.heap.get? l = some (tupO its n dd sl) ∧ R (.ok (.ret (.ref l))) s) :=
  .of_wp fun prog w A R s h => by
    obtain ⟨hl, h⟩ := h
    obtain ⟨hp, g, d, tk, os⟩ := s
    have ix := AutoSeq1.idx_int
    have cy : (its.isEmpty || (1 : Int) == 1) = true := by rw [show ((1 : Int) == 1) = true from rfl, Bool.or_true]
    wp_walk using wpAny_loadPart' hl
    exact ⟨_, rfl, h⟩
theorem never {l : Addr} {its : Array Value} {n : Nat} {dd : Option Addr} {sl : Array (Option Value)} {u : Tok} (he : its.isEmpty = false) :
    Meets (Builtin.«tuple.__mul__» ⟨[.ref l, .int 0 u], []⟩) (fun _ R s => s.heap.get? l = some (tupO its n dd sl) ∧ R (.ok (.ret (.ref s.heap.objs.size))) { s with heap := s.heap.push { cls := .type "tuple", data := .seq #[] }, toks := s.toks }) :=
  .of_wp fun prog w A R s h => by
    obtain ⟨hl, h⟩ := h
    obtain ⟨hp, g, d, tk, os⟩ := s
    have ix := AutoSeq1.idx_int
    wp_walk using wpAny_loadPart' hl
    exact ⟨_, rfl, h⟩
def rTwo (K : PySem.W.Frag) : R2 := fun x y H Q => ∃ (l : Addr) (v : V) (k : Int), x = .ref l ∧ y = .int k ∧ SqT K H l [v] ∧ (k = 1 ∨ k = 0) ∧ (k = 1 → Q (.ref l) H) ∧ (k = 0 → ∀ p, H p = none → Q (.ref p) (upd H p (.tup [])))
theorem op_two {X : Cx} : OpR X (binaryOp .Mult) (rTwo X.K) := by
  intro pins s σ H x y v u Q I rx ry h
  obtain ⟨l, v1, k, rfl, rfl, hT, hk, q1, q0⟩ := h
  cases rx
  obtain ⟨t, rfl⟩ := ry
  obtain ⟨its, r, ⟨⟨cls, dd, data, sl⟩, ho, hc, n, hd⟩, _⟩ := I.tuple hT
  simp only at hc hd
  subst hc hd
  have he : its.toArray.isEmpty = false := by
    cases r with
    | cons _ _ => rfl
  refine wpAny_binaryOp_repeat_ref (T := "tuple") (by decide) ⟨_, ho, rfl⟩ (U := "int") (typeIs_int · k t) noFill_tuple_mul F.fills_int_mul F.slot_int_rmul repeat_tuple F.slot_int_index.lookup ?_
  refine call_meets F.slot_int_rmul (typeIs_int s k t) F.entry_int_rmul (F.args_int_rmul_2 _ _) (int_rmul_tuple k t l _ n dd sl) ⟨ho, rfl, ⟨_, ho, rfl⟩, ?_⟩
  rcases hk with rfl | rfl
  · exact call_meets F.slot_tuple_mul ⟨_, ho, rfl⟩ F.entry_tuple_mul (F.args_tuple_mul_2 _ _) once ⟨ho, .ref l, H, I, rfl, q1 rfl⟩
  · exact call_meets F.slot_tuple_mul ⟨_, ho, rfl⟩ F.entry_tuple_mul (F.args_tuple_mul_2 _ _) (never he) ⟨ho, .ref s.heap.objs.size, _, I.laid (t' := s.toks) (o := .tup []) (fun b ob q => Heap.get?_push_of_some _ q) (Nat.le_refl _) ⟨Nat.zero_le _, _, .nil, IsTup.new _ _⟩, rfl, q0 rfl _ (I.hok.fresh (Nat.le_refl _))⟩
end Rep01
namespace RepN
open PySem PySem.Spec PyProof.Rows L2
/-! ### a tuple of one thing, taken any number of times -/
def rRepN (K : PySem.W.Frag) : R2 := fun x y H Q => ∃ (l : Addr) (v : V) (k : Nat), x = .ref l ∧ y = .int (k : Nat) ∧ SqT K H l [v] ∧ k ≤ 1000 ∧ ∀ p H', Same H H' → SqT K H' p (List.replicate k v) → Q (.ref p) H'
theorem op_repN {X : Cx} : OpR X (binaryOp .Mult) (rRepN X.K) := fun pins s σ H x y v u Q I rx ry ⟨l, a, k, e1, e2, hl, small, q⟩ => by
  have new : ∀ {p : Addr} {xs : List V}, H p = none → xs = List.replicate k a → Q (.ref p) (L2.upd H p (.tup xs)) := fun {p xs} n e => by
    refine q p _ (fun b o z => ?_) (e ▸ .inl (.inl upd_same))
    rw [upd_ne (ne_of_none z n)]; exact z
  by_cases two : 2 ≤ k
  · refine op_repT pins s σ H x y v u Q I rx ry ⟨l, k, [a], e1, e2, hl, by simp, by omega, by omega, by simp, fun p n => new n ?_⟩
    rw [Int.toNat_natCast]
    clear small two e2 new q
    induction k with
    | zero => rfl
    | succ k ih => rw [List.replicate_succ, List.flatten_cons, ih]; rfl
  · refine Rep01.op_two pins s σ H x y v u Q I rx ry ⟨l, a, k, e1, e2, hl, by omega, fun one => ?_, fun none p n => ?_⟩
    · have : k = 1 := by omega
      subst this
      exact q l H (Same.refl H) hl
    · have : k = 0 := by omega
      subst this
      exact new n rfl
end RepN
namespace M
open PySem PySem.Spec PyProof.Rows L2
def topS (i : Nat) : Stmt := PySem.Challenge.pw_wayneedle_k76_books_equal.main.body.getD i (.Pass ⟨0, 0, 0, 0⟩)
abbrev s_is_whole : Stmt := topS 2
theorem sc_is_whole : FnScope ["thing"] ["thing"] (defScope s_is_whole) := ⟨rfl, rfl, rfl, by decide +kernel, rfl, by decide +kernel, by decide +kernel⟩
abbrev s_is_letter : Stmt := topS 20
theorem sc_is_letter : FnScope ["thing"] ["thing"] (defScope s_is_letter) := ⟨rfl, rfl, rfl, by decide +kernel, rfl, by decide +kernel, by decide +kernel⟩
abbrev s_is_short_text : Stmt := topS 33
theorem sc_is_short_text : FnScope ["thing"] ["thing"] (defScope s_is_short_text) := ⟨rfl, rfl, rfl, by decide +kernel, rfl, by decide +kernel, by decide +kernel⟩
abbrev s_are_small : Stmt := topS 34
theorem sc_are_small : FnScope ["text", "letter"] ["text"] (defScope s_are_small) := ⟨rfl, rfl, rfl, by decide +kernel, rfl, by decide +kernel, by decide +kernel⟩
abbrev s_is_name : Stmt := topS 35
theorem sc_is_name : FnScope ["thing"] ["thing"] (defScope s_is_name) := ⟨rfl, rfl, rfl, by decide +kernel, rfl, by decide +kernel, by decide +kernel⟩
abbrev s_is_lone : Stmt := topS 36
theorem sc_is_lone : FnScope ["thing"] ["thing"] (defScope s_is_lone) := ⟨rfl, rfl, rfl, by decide +kernel, rfl, by decide +kernel, by decide +kernel⟩
abbrev s_is_sign : Stmt := topS 37
theorem sc_is_sign : FnScope ["thing"] ["thing"] (defScope s_is_sign) := ⟨rfl, rfl, rfl, by decide +kernel, rfl, by decide +kernel, by decide +kernel⟩
abbrev s_is_many : Stmt := topS 38
theorem sc_is_many : FnScope ["thing"] ["thing"] (defScope s_is_many) := ⟨rfl, rfl, rfl, by decide +kernel, rfl, by decide +kernel, by decide +kernel⟩
abbrev s_is_pair_entry : Stmt := topS 39
theorem sc_is_pair_entry : FnScope ["word", "part"] ["word", "part"] (defScope s_is_pair_entry) := ⟨rfl, rfl, rfl, by decide +kernel, rfl, by decide +kernel, by decide +kernel⟩
abbrev s_is_entry : Stmt := topS 40
theorem sc_is_entry : FnScope ["thing"] ["thing"] (defScope s_is_entry) := ⟨rfl, rfl, rfl, by decide +kernel, rfl, by decide +kernel, by decide +kernel⟩
abbrev s_held_log : Stmt := topS 41
theorem sc_held_log : FnScope ["entries", "faced", "log", "at", "thing"] ["entries"] (defScope s_held_log) := ⟨rfl, rfl, rfl, by decide +kernel, rfl, by decide +kernel, by decide +kernel⟩
abbrev s_held_box : Stmt := topS 56
theorem sc_held_box : FnScope ["box", "at", "thing"] ["box"] (defScope s_held_box) := ⟨rfl, rfl, rfl, by decide +kernel, rfl, by decide +kernel, by decide +kernel⟩
abbrev s_held_log_of : Stmt := topS 57
theorem sc_held_log_of : FnScope ["name", "log", "why"] ["name", "log"] (defScope s_held_log_of) := ⟨rfl, rfl, rfl, by decide +kernel, rfl, by decide +kernel, by decide +kernel⟩
abbrev s_all_that_fit : Stmt := topS 72
theorem sc_all_that_fit : FnScope ["atlas", "most", "found"] ["atlas", "most"] (defScope s_all_that_fit) := ⟨rfl, rfl, rfl, by decide +kernel, rfl, by decide +kernel, by decide +kernel⟩
abbrev s_pairs_of : Stmt := topS 80
theorem sc_pairs_of : FnScope ["atlas"] ["atlas"] (defScope s_pairs_of) := ⟨rfl, rfl, rfl, by decide +kernel, rfl, by decide +kernel, by decide +kernel⟩
abbrev s_listen : Stmt := topS 81
theorem sc_listen : FnScope ["atlas", "watches", "watch", "found"] ["atlas", "watches"] (defScope s_listen) := ⟨rfl, rfl, rfl, by decide +kernel, rfl, by decide +kernel, by decide +kernel⟩
abbrev s_Lsome_box : Stmt := topS 84
theorem sc_Lsome_box : FnScope ["_law_pool_here", "_law_many", "_law_box", "_law_wide", "_law_k"] ["_law_pool_here", "_law_many"] (defScope s_Lsome_box) := ⟨rfl, rfl, rfl, by decide +kernel, rfl, by decide +kernel, by decide +kernel⟩
abbrev s_Lsigns : Stmt := topS 85
theorem sc_Lsigns : FnScope ["_law_pool_here", "_law_one", "_law_other", "_law_third"] ["_law_pool_here"] (defScope s_Lsigns) := ⟨rfl, rfl, rfl, by decide +kernel, rfl, by decide +kernel, by decide +kernel⟩
abbrev s_Lshort_entry : Stmt := topS 86
theorem sc_Lshort_entry : FnScope ["_law_pool_here", "_law_signs_here", "_law_looks", "_law_way", "_law_sign", "_law_far", "_law_face", "_law_turn"] ["_law_pool_here", "_law_signs_here", "_law_looks"] (defScope s_Lshort_entry) := ⟨rfl, rfl, rfl, by decide +kernel, rfl, by decide +kernel, by decide +kernel⟩
abbrev s_Lshort_log : Stmt := topS 87
theorem sc_Lshort_log : FnScope ["_law_pool_here", "_law_signs_here", "_law_legs_here", "_law_log", "_law_k", "_law_entry"] ["_law_pool_here", "_law_signs_here", "_law_legs_here"] (defScope s_Lshort_log) := ⟨rfl, rfl, rfl, by decide +kernel, rfl, by decide +kernel, by decide +kernel⟩
abbrev s_Lpool : Stmt := topS 88
theorem sc_Lpool : FnScope ["_law_script", "_law_k", "_law_cell", "_law_left"] ["_law_script", "_law_k"] (defScope s_Lpool) := ⟨rfl, rfl, rfl, by decide +kernel, rfl, by decide +kernel, by decide +kernel⟩
abbrev s_Ltake : Stmt := topS 89
theorem sc_Ltake : FnScope ["_law_pool_here", "_law_wide", "_law_found", "_law_primes", "_law_one", "_law_two"] ["_law_pool_here", "_law_wide"] (defScope s_Ltake) := ⟨rfl, rfl, rfl, by decide +kernel, rfl, by decide +kernel, by decide +kernel⟩
abbrev s_Lmix : Stmt := topS 90
theorem sc_Lmix : FnScope ["_law_pool_here", "_law_things", "_law_found", "_law_thing"] ["_law_pool_here", "_law_things"] (defScope s_Lmix) := ⟨rfl, rfl, rfl, by decide +kernel, rfl, by decide +kernel, by decide +kernel⟩
abbrev s_Lwhole : Stmt := topS 91
theorem sc_Lwhole : FnScope ["_law_thing"] ["_law_thing"] (defScope s_Lwhole) := ⟨rfl, rfl, rfl, by decide +kernel, rfl, by decide +kernel, by decide +kernel⟩
abbrev s_Lsame : Stmt := topS 92
theorem sc_Lsame : FnScope ["_law_found", "_law_due", "_law_one", "_law_other"] ["_law_found", "_law_due"] (defScope s_Lsame) := ⟨rfl, rfl, rfl, by decide +kernel, rfl, by decide +kernel, by decide +kernel⟩
abbrev s_Lname : Stmt := topS 93
theorem sc_Lname : FnScope ["_law_pool_here", "_law_letters", "_law_k"] ["_law_pool_here"] (defScope s_Lname) := ⟨rfl, rfl, rfl, by decide +kernel, rfl, by decide +kernel, by decide +kernel⟩
abbrev s_Lnames : Stmt := topS 94
theorem sc_Lnames : FnScope ["_law_pool_here", "_law_many", "_law_found", "_law_k", "_law_name_here", "_law_letter"] ["_law_pool_here", "_law_many"] (defScope s_Lnames) := ⟨rfl, rfl, rfl, by decide +kernel, rfl, by decide +kernel, by decide +kernel⟩
abbrev s_Llegs : Stmt := topS 95
theorem sc_Llegs : FnScope ["_law_log", "_law_entry"] ["_law_log"] (defScope s_Llegs) := ⟨rfl, rfl, rfl, by decide +kernel, rfl, by decide +kernel, by decide +kernel⟩
abbrev s_Llaid : Stmt := topS 96
theorem sc_Llaid : FnScope ["_law_pool_here", "_law_box", "_law_rows", "_law_spare", "_law_late", "_law_book", "_law_name_here", "_law_log", "_law_way", "_law_entry"] ["_law_pool_here", "_law_box", "_law_rows", "_law_spare"] (defScope s_Llaid) := ⟨rfl, rfl, rfl, by decide +kernel, rfl, by decide +kernel, by decide +kernel⟩
abbrev s_Lotherwise : Stmt := topS 97
theorem sc_Lotherwise : FnScope ["_law_pool_here", "_law_box", "_law_rows", "_law_taken", "_law_way", "_law_fresh", "_law_at", "_law_name_here", "_law_log", "_law_letter"] ["_law_pool_here", "_law_box", "_law_rows", "_law_taken"] (defScope s_Lotherwise) := ⟨rfl, rfl, rfl, by decide +kernel, rfl, by decide +kernel, by decide +kernel⟩
abbrev s_law : Stmt := topS 98
theorem sc_law : FnScope ["_law_script", "_law_pool_here", "_law_names_here", "_law_signs_here", "_law_box", "_law_spare", "_law_rows", "_law_one", "_law_there", "_law_others", "_law_two", "_law_due", "_law_said", "_law_name_here", "_law_thing", "_law_row"] ["_law_script"] (defScope s_law) := ⟨rfl, rfl, rfl, by decide +kernel, rfl, by decide +kernel, by decide +kernel⟩
abbrev s_Atlas_init : Stmt := inClass (topS 58) 0
theorem sc_Atlas_init : FnScope ["self", "box", "logs", "held", "name", "log"] ["self", "box", "logs"] (defScope s_Atlas_init) := ⟨rfl, rfl, rfl, by decide +kernel, rfl, by decide +kernel, by decide +kernel⟩
abbrev s_Atlas_log : Stmt := inClass (topS 58) 1
theorem sc_Atlas_log : FnScope ["self", "name"] ["self", "name"] (defScope s_Atlas_log) := ⟨rfl, rfl, rfl, by decide +kernel, rfl, by decide +kernel, by decide +kernel⟩
abbrev s_Atlas_with_log : Stmt := inClass (topS 58) 3
theorem sc_Atlas_with_log : FnScope ["self", "name", "log", "others", "pair"] ["self", "name", "log"] (defScope s_Atlas_with_log) := ⟨rfl, rfl, rfl, by decide +kernel, rfl, by decide +kernel, by decide +kernel⟩
abbrev s_Atlas_without : Stmt := inClass (topS 58) 4
theorem sc_Atlas_without : FnScope ["self", "name", "pair"] ["self", "name"] (defScope s_Atlas_without) := ⟨rfl, rfl, rfl, by decide +kernel, rfl, by decide +kernel, by decide +kernel⟩
abbrev s_Atlas_eq : Stmt := inClass (topS 58) 5
theorem sc_Atlas_eq : FnScope ["self", "other"] ["self", "other"] (defScope s_Atlas_eq) := ⟨rfl, rfl, rfl, by decide +kernel, rfl, by decide +kernel, by decide +kernel⟩
abbrev s_Watch_are_told : Stmt := inClass (topS 79) 1
theorem sc_Watch_are_told : FnScope ["self", "atlas"] ["self", "atlas"] (defScope s_Watch_are_told) := ⟨rfl, rfl, rfl, by decide +kernel, rfl, by decide +kernel, by decide +kernel⟩
abbrev s_Watch_hear : Stmt := inClass (topS 79) 3
theorem sc_Watch_hear : FnScope ["self", "atlas", "found", "so"] ["self", "atlas", "found"] (defScope s_Watch_hear) := ⟨rfl, rfl, rfl, by decide +kernel, rfl, by decide +kernel, by decide +kernel⟩
abbrev s_Book_init : Stmt := inClass (topS 82) 0
theorem sc_Book_init : FnScope ["self", "box"] ["self", "box"] (defScope s_Book_init) := ⟨rfl, rfl, rfl, by decide +kernel, rfl, by decide +kernel, by decide +kernel⟩
abbrev s_Book_turn_to : Stmt := inClass (topS 82) 1
theorem sc_Book_turn_to : FnScope ["self", "atlas", "watch"] ["self", "atlas"] (defScope s_Book_turn_to) := ⟨rfl, rfl, rfl, by decide +kernel, rfl, by decide +kernel, by decide +kernel⟩
abbrev s_Book_do : Stmt := inClass (topS 82) 2
theorem sc_Book_do : FnScope ["self", "atlas"] ["self", "atlas"] (defScope s_Book_do) := ⟨rfl, rfl, rfl, by decide +kernel, rfl, by decide +kernel, by decide +kernel⟩
abbrev s_Book_put : Stmt := inClass (topS 82) 3
theorem sc_Book_put : FnScope ["self", "name", "log"] ["self", "name", "log"] (defScope s_Book_put) := ⟨rfl, rfl, rfl, by decide +kernel, rfl, by decide +kernel, by decide +kernel⟩
abbrev s_Book_drop : Stmt := inClass (topS 82) 4
theorem sc_Book_drop : FnScope ["self", "name"] ["self", "name"] (defScope s_Book_drop) := ⟨rfl, rfl, rfl, by decide +kernel, rfl, by decide +kernel, by decide +kernel⟩
abbrev s_Book_note : Stmt := inClass (topS 82) 5
theorem sc_Book_note : FnScope ["self", "name", "entry"] ["self", "name", "entry"] (defScope s_Book_note) := ⟨rfl, rfl, rfl, by decide +kernel, rfl, by decide +kernel, by decide +kernel⟩
abbrev s_Book_rename : Stmt := inClass (topS 82) 6
theorem sc_Book_rename : FnScope ["self", "name", "other", "log"] ["self", "name", "other"] (defScope s_Book_rename) := ⟨rfl, rfl, rfl, by decide +kernel, rfl, by decide +kernel, by decide +kernel⟩
abbrev s_Book_refill : Stmt := inClass (topS 82) 7
theorem sc_Book_refill : FnScope ["self", "box"] ["self", "box"] (defScope s_Book_refill) := ⟨rfl, rfl, rfl, by decide +kernel, rfl, by decide +kernel, by decide +kernel⟩
abbrev s_Book_undo : Stmt := inClass (topS 82) 8
theorem sc_Book_undo : FnScope ["self"] ["self"] (defScope s_Book_undo) := ⟨rfl, rfl, rfl, by decide +kernel, rfl, by decide +kernel, by decide +kernel⟩
abbrev s_Book_atlas : Stmt := inClass (topS 82) 10
theorem sc_Book_atlas : FnScope ["self"] ["self"] (defScope s_Book_atlas) := ⟨rfl, rfl, rfl, by decide +kernel, rfl, by decide +kernel, by decide +kernel⟩
abbrev s_Book_eq : Stmt := inClass (topS 82) 16
theorem sc_Book_eq : FnScope ["self", "other"] ["self", "other"] (defScope s_Book_eq) := ⟨rfl, rfl, rfl, by decide +kernel, rfl, by decide +kernel, by decide +kernel⟩
/-- what the top has left -/
structure Top (w : World) (K : PySem.W.Frag) (mg : Str → Option Value) where
  a_Atlas : Addr
  g_Atlas : mg "Atlas" = some (.ref a_Atlas)
  cl_Atlas : Cls K a_Atlas
  nf_Atlas_box : NoAttr K a_Atlas "box"
  nf_Atlas_names : NoAttr K a_Atlas "names"
  nf_Atlas_logs : NoAttr K a_Atlas "logs"
  a_Watch : Addr
  g_Watch : mg "Watch" = some (.ref a_Watch)
  cl_Watch : Cls K a_Watch
  nf_Watch_one : NoAttr K a_Watch "one"
  nf_Watch_other : NoAttr K a_Watch "other"
  nf_Watch_words : NoAttr K a_Watch "words"
  nf_Watch_going : NoAttr K a_Watch "going"
  a_Book : Addr
  g_Book : mg "Book" = some (.ref a_Book)
  cl_Book : Cls K a_Book
  nf_Book_now : NoAttr K a_Book "now"
  nf_Book_past : NoAttr K a_Book "past"
  nf_Book_future : NoAttr K a_Book "future"
  nf_Book_watches : NoAttr K a_Book "watches"
  a_is_whole : Addr
  fd_is_whole : FuncData
  F_is_whole : Fun K "is_whole" "is_whole" s_is_whole a_is_whole fd_is_whole
  b_is_whole : Binds K fd_is_whole ["thing"] []
  g_is_whole : mg "is_whole" = some (.ref a_is_whole)
  a_is_letter : Addr
  fd_is_letter : FuncData
  F_is_letter : Fun K "is_letter" "is_letter" s_is_letter a_is_letter fd_is_letter
  b_is_letter : Binds K fd_is_letter ["thing"] []
  g_is_letter : mg "is_letter" = some (.ref a_is_letter)
  a_is_short_text : Addr
  fd_is_short_text : FuncData
  F_is_short_text : Fun K "is_short_text" "is_short_text" s_is_short_text a_is_short_text fd_is_short_text
  b_is_short_text : Binds K fd_is_short_text ["thing"] []
  g_is_short_text : mg "is_short_text" = some (.ref a_is_short_text)
  a_are_small : Addr
  fd_are_small : FuncData
  F_are_small : Fun K "are_small" "are_small" s_are_small a_are_small fd_are_small
  b_are_small : Binds K fd_are_small ["text"] []
  g_are_small : mg "are_small" = some (.ref a_are_small)
  a_is_name : Addr
  fd_is_name : FuncData
  F_is_name : Fun K "is_name" "is_name" s_is_name a_is_name fd_is_name
  b_is_name : Binds K fd_is_name ["thing"] []
  g_is_name : mg "is_name" = some (.ref a_is_name)
  a_is_lone : Addr
  fd_is_lone : FuncData
  F_is_lone : Fun K "is_lone" "is_lone" s_is_lone a_is_lone fd_is_lone
  b_is_lone : Binds K fd_is_lone ["thing"] []
  g_is_lone : mg "is_lone" = some (.ref a_is_lone)
  a_is_sign : Addr
  fd_is_sign : FuncData
  F_is_sign : Fun K "is_sign" "is_sign" s_is_sign a_is_sign fd_is_sign
  b_is_sign : Binds K fd_is_sign ["thing"] []
  g_is_sign : mg "is_sign" = some (.ref a_is_sign)
  a_is_many : Addr
  fd_is_many : FuncData
  F_is_many : Fun K "is_many" "is_many" s_is_many a_is_many fd_is_many
  b_is_many : Binds K fd_is_many ["thing"] []
  g_is_many : mg "is_many" = some (.ref a_is_many)
  a_is_pair_entry : Addr
  fd_is_pair_entry : FuncData
  F_is_pair_entry : Fun K "is_pair_entry" "is_pair_entry" s_is_pair_entry a_is_pair_entry fd_is_pair_entry
  b_is_pair_entry : Binds K fd_is_pair_entry ["word", "part"] []
  g_is_pair_entry : mg "is_pair_entry" = some (.ref a_is_pair_entry)
  a_is_entry : Addr
  fd_is_entry : FuncData
  F_is_entry : Fun K "is_entry" "is_entry" s_is_entry a_is_entry fd_is_entry
  b_is_entry : Binds K fd_is_entry ["thing"] []
  g_is_entry : mg "is_entry" = some (.ref a_is_entry)
  a_held_log : Addr
  fd_held_log : FuncData
  F_held_log : Fun K "held_log" "held_log" s_held_log a_held_log fd_held_log
  b_held_log : Binds K fd_held_log ["entries"] []
  g_held_log : mg "held_log" = some (.ref a_held_log)
  a_held_box : Addr
  fd_held_box : FuncData
  F_held_box : Fun K "held_box" "held_box" s_held_box a_held_box fd_held_box
  b_held_box : Binds K fd_held_box ["box"] []
  g_held_box : mg "held_box" = some (.ref a_held_box)
  a_held_log_of : Addr
  fd_held_log_of : FuncData
  F_held_log_of : Fun K "held_log_of" "held_log_of" s_held_log_of a_held_log_of fd_held_log_of
  b_held_log_of : Binds K fd_held_log_of ["name", "log"] []
  g_held_log_of : mg "held_log_of" = some (.ref a_held_log_of)
  a_all_that_fit : Addr
  fd_all_that_fit : FuncData
  F_all_that_fit : FunD K "all_that_fit" "all_that_fit" (defArgs s_all_that_fit) (defBody s_all_that_fit) (defScope s_all_that_fit) [.non] [] a_all_that_fit fd_all_that_fit
  b1_all_that_fit : ∃ ds, Vals [.non] ds ∧ Binds K fd_all_that_fit ["atlas", "most"] ds
  b_all_that_fit : Binds K fd_all_that_fit ["atlas", "most"] []
  g_all_that_fit : mg "all_that_fit" = some (.ref a_all_that_fit)
  a_pairs_of : Addr
  fd_pairs_of : FuncData
  F_pairs_of : Fun K "pairs_of" "pairs_of" s_pairs_of a_pairs_of fd_pairs_of
  b_pairs_of : Binds K fd_pairs_of ["atlas"] []
  g_pairs_of : mg "pairs_of" = some (.ref a_pairs_of)
  a_listen : Addr
  fd_listen : FuncData
  F_listen : Fun K "listen" "listen" s_listen a_listen fd_listen
  b_listen : Binds K fd_listen ["atlas", "watches"] []
  g_listen : mg "listen" = some (.ref a_listen)
  a_Lsome_box : Addr
  fd_Lsome_box : FuncData
  F_Lsome_box : Fun K "_law_some_box" "_law_some_box" s_Lsome_box a_Lsome_box fd_Lsome_box
  b_Lsome_box : Binds K fd_Lsome_box ["_law_pool_here", "_law_many"] []
  g_Lsome_box : mg "_law_some_box" = some (.ref a_Lsome_box)
  a_Lsigns : Addr
  fd_Lsigns : FuncData
  F_Lsigns : Fun K "_law_signs" "_law_signs" s_Lsigns a_Lsigns fd_Lsigns
  b_Lsigns : Binds K fd_Lsigns ["_law_pool_here"] []
  g_Lsigns : mg "_law_signs" = some (.ref a_Lsigns)
  a_Lshort_entry : Addr
  fd_Lshort_entry : FuncData
  F_Lshort_entry : Fun K "_law_short_entry" "_law_short_entry" s_Lshort_entry a_Lshort_entry fd_Lshort_entry
  b_Lshort_entry : Binds K fd_Lshort_entry ["_law_pool_here", "_law_signs_here", "_law_looks"] []
  g_Lshort_entry : mg "_law_short_entry" = some (.ref a_Lshort_entry)
  a_Lshort_log : Addr
  fd_Lshort_log : FuncData
  F_Lshort_log : Fun K "_law_short_log" "_law_short_log" s_Lshort_log a_Lshort_log fd_Lshort_log
  b_Lshort_log : Binds K fd_Lshort_log ["_law_pool_here", "_law_signs_here", "_law_legs_here"] []
  g_Lshort_log : mg "_law_short_log" = some (.ref a_Lshort_log)
  a_Lpool : Addr
  fd_Lpool : FuncData
  F_Lpool : Fun K "_law_pool" "_law_pool" s_Lpool a_Lpool fd_Lpool
  b_Lpool : Binds K fd_Lpool ["_law_script", "_law_k"] []
  g_Lpool : mg "_law_pool" = some (.ref a_Lpool)
  a_Ltake : Addr
  fd_Ltake : FuncData
  F_Ltake : Fun K "_law_take" "_law_take" s_Ltake a_Ltake fd_Ltake
  b_Ltake : Binds K fd_Ltake ["_law_pool_here", "_law_wide"] []
  g_Ltake : mg "_law_take" = some (.ref a_Ltake)
  a_Lmix : Addr
  fd_Lmix : FuncData
  F_Lmix : Fun K "_law_mix" "_law_mix" s_Lmix a_Lmix fd_Lmix
  b_Lmix : Binds K fd_Lmix ["_law_pool_here", "_law_things"] []
  g_Lmix : mg "_law_mix" = some (.ref a_Lmix)
  a_Lwhole : Addr
  fd_Lwhole : FuncData
  F_Lwhole : Fun K "_law_whole" "_law_whole" s_Lwhole a_Lwhole fd_Lwhole
  b_Lwhole : Binds K fd_Lwhole ["_law_thing"] []
  g_Lwhole : mg "_law_whole" = some (.ref a_Lwhole)
  a_Lsame : Addr
  fd_Lsame : FuncData
  F_Lsame : Fun K "_law_same" "_law_same" s_Lsame a_Lsame fd_Lsame
  b_Lsame : Binds K fd_Lsame ["_law_found", "_law_due"] []
  g_Lsame : mg "_law_same" = some (.ref a_Lsame)
  a_Lname : Addr
  fd_Lname : FuncData
  F_Lname : Fun K "_law_name" "_law_name" s_Lname a_Lname fd_Lname
  b_Lname : Binds K fd_Lname ["_law_pool_here"] []
  g_Lname : mg "_law_name" = some (.ref a_Lname)
  a_Lnames : Addr
  fd_Lnames : FuncData
  F_Lnames : Fun K "_law_names" "_law_names" s_Lnames a_Lnames fd_Lnames
  b_Lnames : Binds K fd_Lnames ["_law_pool_here", "_law_many"] []
  g_Lnames : mg "_law_names" = some (.ref a_Lnames)
  a_Llegs : Addr
  fd_Llegs : FuncData
  F_Llegs : Fun K "_law_legs" "_law_legs" s_Llegs a_Llegs fd_Llegs
  b_Llegs : Binds K fd_Llegs ["_law_log"] []
  g_Llegs : mg "_law_legs" = some (.ref a_Llegs)
  a_Llaid : Addr
  fd_Llaid : FuncData
  F_Llaid : Fun K "_law_laid" "_law_laid" s_Llaid a_Llaid fd_Llaid
  b_Llaid : Binds K fd_Llaid ["_law_pool_here", "_law_box", "_law_rows", "_law_spare"] []
  g_Llaid : mg "_law_laid" = some (.ref a_Llaid)
  a_Lotherwise : Addr
  fd_Lotherwise : FuncData
  F_Lotherwise : Fun K "_law_otherwise" "_law_otherwise" s_Lotherwise a_Lotherwise fd_Lotherwise
  b_Lotherwise : Binds K fd_Lotherwise ["_law_pool_here", "_law_box", "_law_rows", "_law_taken"] []
  g_Lotherwise : mg "_law_otherwise" = some (.ref a_Lotherwise)
  a_law : Addr
  fd_law : FuncData
  F_law : Fun K "law" "law" s_law a_law fd_law
  b_law : Binds K fd_law ["_law_script"] []
  g_law : mg "law" = some (.ref a_law)
  a_Atlas_init : Addr
  fd_Atlas_init : FuncData
  e_Atlas_init : Addr
  ee_Atlas_init : ∀ H, SqT K H e_Atlas_init []
  F_Atlas_init : FunD K "__init__" "Atlas.__init__" (defArgs s_Atlas_init) (defBody s_Atlas_init) (defScope s_Atlas_init) [.ref e_Atlas_init] [] a_Atlas_init fd_Atlas_init
  b1_Atlas_init : ∃ ds, Vals [.ref e_Atlas_init] ds ∧ Binds K fd_Atlas_init ["self", "box", "logs"] ds
  b_Atlas_init : Binds K fd_Atlas_init ["self", "box", "logs"] []
  mk_Atlas : Mk K a_Atlas a_Atlas_init
  a_Atlas_log : Addr
  fd_Atlas_log : FuncData
  F_Atlas_log : Fun K "log" "Atlas.log" s_Atlas_log a_Atlas_log fd_Atlas_log
  b_Atlas_log : Binds K fd_Atlas_log ["self", "name"] []
  me_Atlas_log : Meth K a_Atlas "log" a_Atlas_log
  a_Atlas_with_log : Addr
  fd_Atlas_with_log : FuncData
  F_Atlas_with_log : Fun K "with_log" "Atlas.with_log" s_Atlas_with_log a_Atlas_with_log fd_Atlas_with_log
  b_Atlas_with_log : Binds K fd_Atlas_with_log ["self", "name", "log"] []
  me_Atlas_with_log : Meth K a_Atlas "with_log" a_Atlas_with_log
  a_Atlas_without : Addr
  fd_Atlas_without : FuncData
  F_Atlas_without : Fun K "without" "Atlas.without" s_Atlas_without a_Atlas_without fd_Atlas_without
  b_Atlas_without : Binds K fd_Atlas_without ["self", "name"] []
  me_Atlas_without : Meth K a_Atlas "without" a_Atlas_without
  a_Atlas_eq : Addr
  fd_Atlas_eq : FuncData
  F_Atlas_eq : Fun K "__eq__" "Atlas.__eq__" s_Atlas_eq a_Atlas_eq fd_Atlas_eq
  b_Atlas_eq : Binds K fd_Atlas_eq ["self", "other"] []
  me_Atlas_eq : Meth K a_Atlas "__eq__" a_Atlas_eq
  a_Watch_are_told : Addr
  fd_Watch_are_told : FuncData
  F_Watch_are_told : Fun K "are_told" "Watch.are_told" s_Watch_are_told a_Watch_are_told fd_Watch_are_told
  b_Watch_are_told : Binds K fd_Watch_are_told ["self", "atlas"] []
  me_Watch_are_told : Meth K a_Watch "are_told" a_Watch_are_told
  a_Watch_hear : Addr
  fd_Watch_hear : FuncData
  F_Watch_hear : Fun K "hear" "Watch.hear" s_Watch_hear a_Watch_hear fd_Watch_hear
  b_Watch_hear : Binds K fd_Watch_hear ["self", "atlas", "found"] []
  me_Watch_hear : Meth K a_Watch "hear" a_Watch_hear
  a_Book_init : Addr
  fd_Book_init : FuncData
  F_Book_init : Fun K "__init__" "Book.__init__" s_Book_init a_Book_init fd_Book_init
  b_Book_init : Binds K fd_Book_init ["self", "box"] []
  mk_Book : Mk K a_Book a_Book_init
  a_Book_turn_to : Addr
  fd_Book_turn_to : FuncData
  F_Book_turn_to : Fun K "turn_to" "Book.turn_to" s_Book_turn_to a_Book_turn_to fd_Book_turn_to
  b_Book_turn_to : Binds K fd_Book_turn_to ["self", "atlas"] []
  me_Book_turn_to : Meth K a_Book "turn_to" a_Book_turn_to
  a_Book_do : Addr
  fd_Book_do : FuncData
  F_Book_do : Fun K "do" "Book.do" s_Book_do a_Book_do fd_Book_do
  b_Book_do : Binds K fd_Book_do ["self", "atlas"] []
  me_Book_do : Meth K a_Book "do" a_Book_do
  a_Book_put : Addr
  fd_Book_put : FuncData
  F_Book_put : Fun K "put" "Book.put" s_Book_put a_Book_put fd_Book_put
  b_Book_put : Binds K fd_Book_put ["self", "name", "log"] []
  me_Book_put : Meth K a_Book "put" a_Book_put
  a_Book_drop : Addr
  fd_Book_drop : FuncData
  F_Book_drop : Fun K "drop" "Book.drop" s_Book_drop a_Book_drop fd_Book_drop
  b_Book_drop : Binds K fd_Book_drop ["self", "name"] []
  me_Book_drop : Meth K a_Book "drop" a_Book_drop
  a_Book_note : Addr
  fd_Book_note : FuncData
  F_Book_note : Fun K "note" "Book.note" s_Book_note a_Book_note fd_Book_note
  b_Book_note : Binds K fd_Book_note ["self", "name", "entry"] []
  me_Book_note : Meth K a_Book "note" a_Book_note
  a_Book_rename : Addr
  fd_Book_rename : FuncData
  F_Book_rename : Fun K "rename" "Book.rename" s_Book_rename a_Book_rename fd_Book_rename
  b_Book_rename : Binds K fd_Book_rename ["self", "name", "other"] []
  me_Book_rename : Meth K a_Book "rename" a_Book_rename
  a_Book_refill : Addr
  fd_Book_refill : FuncData
  F_Book_refill : Fun K "refill" "Book.refill" s_Book_refill a_Book_refill fd_Book_refill
  b_Book_refill : Binds K fd_Book_refill ["self", "box"] []
  me_Book_refill : Meth K a_Book "refill" a_Book_refill
  a_Book_undo : Addr
  fd_Book_undo : FuncData
  F_Book_undo : Fun K "undo" "Book.undo" s_Book_undo a_Book_undo fd_Book_undo
  b_Book_undo : Binds K fd_Book_undo ["self"] []
  me_Book_undo : Meth K a_Book "undo" a_Book_undo
  a_Book_atlas : Addr
  fd_Book_atlas : FuncData
  F_Book_atlas : Fun K "atlas" "Book.atlas" s_Book_atlas a_Book_atlas fd_Book_atlas
  b_Book_atlas : Binds K fd_Book_atlas ["self"] []
  me_Book_atlas : Meth K a_Book "atlas" a_Book_atlas
  a_Book_eq : Addr
  fd_Book_eq : FuncData
  F_Book_eq : Fun K "__eq__" "Book.__eq__" s_Book_eq a_Book_eq fd_Book_eq
  b_Book_eq : Binds K fd_Book_eq ["self", "other"] []
  me_Book_eq : Meth K a_Book "__eq__" a_Book_eq
  a_STEPS : Addr
  g_STEPS : mg "STEPS" = some (.ref a_STEPS)
  es_STEPS : Array DictEntry
  n_STEPS : Nat
  kd_STEPS : KDict K w a_STEPS es_STEPS n_STEPS
  ns_STEPS : ∀ z : Str, ∃ r, PySem.W.nsIn K a_STEPS z = some r ∧ r.isSome = ((["n", "e", "s", "w"] : List Str).any fun s => s == z)
  v_STEPS_0 : ∃ q, KDct K w a_STEPS "n" (.ref q) ∧ ∀ H, SqT K H q [.int (0), .int (1)]
  v_STEPS_1 : ∃ q, KDct K w a_STEPS "e" (.ref q) ∧ ∀ H, SqT K H q [.int (1), .int (0)]
  v_STEPS_2 : ∃ q, KDct K w a_STEPS "s" (.ref q) ∧ ∀ H, SqT K H q [.int (0), .int (-1)]
  v_STEPS_3 : ∃ q, KDct K w a_STEPS "w" (.ref q) ∧ ∀ H, SqT K H q [.int (-1), .int (0)]
  g_SMALL : ∃ t, mg "SMALL" = some (.str "abcdefghijklmnopqrstuvwxyz" t)
  g_GREAT : ∃ t, mg "GREAT" = some (.str "ABCDEFGHIJKLMNOPQRSTUVWXYZ" t)
  g_LONGEST : ∃ t, mg "LONGEST" = some (.int 8 t)
  a_WORDS_ALONE : Addr
  g_WORDS_ALONE : mg "WORDS_ALONE" = some (.ref a_WORDS_ALONE)
  v_WORDS_ALONE : ∀ H, SqT K H a_WORDS_ALONE [.str "left", .str "right", .str "back", .str "bump", .str "bare", .str "swap"]
  a_WORDS_BEHIND_A_FACE : Addr
  g_WORDS_BEHIND_A_FACE : mg "WORDS_BEHIND_A_FACE" = some (.ref a_WORDS_BEHIND_A_FACE)
  v_WORDS_BEHIND_A_FACE : ∀ H, SqT K H a_WORDS_BEHIND_A_FACE [.str "left", .str "right", .str "back", .str "go", .str "bump", .str "spy"]
  g_HOW_MANY_LOTS : ∃ t, mg "HOW_MANY_LOTS" = some (.int 8 t)
  m_abs : mg "abs" = none
  m_all : mg "all" = none
  m_any : mg "any" = none
  m_bool : mg "bool" = none
  m_enumerate : mg "enumerate" = none
  m_int : mg "int" = none
  m_isinstance : mg "isinstance" = none
  m_len : mg "len" = none
  m_list : mg "list" = none
  m_range : mg "range" = none
  m_sorted : mg "sorted" = none
  m_str : mg "str" = none
  m_tuple : mg "tuple" = none
  m_zip : mg "zip" = none
  ty_Atlas : PySem.W.findIn K (.ref a_Atlas) (PySem.Str.ofString "__class__") = some (some (.builtin "object.__class__")) ∧ PySem.W.specialIn K (.builtin "object.__class__") (PySem.Str.ofString "__get__") = some (some (.builtin "getset_descriptor.__get__")) ∧ PySem.W.takesIn K (.builtin "object.__class__") = some true ∧ PySem.W.mroIn K a_Atlas (.type "object") = some true
  ne_Atlas : PySem.W.findIn K (.ref a_Atlas) (PySem.Str.ofString "__ne__") = some (some (.builtin "object.__ne__")) ∧ PySem.W.subIn K (.ref a_Atlas) (.type "object") = some true
  no_Atlas_NoneType : PySem.W.subIn K (.ref a_Atlas) (.type "NoneType") = some false ∧ PySem.W.subIn K (.type "NoneType") (.ref a_Atlas) = some false ∧ PySem.W.kitOne K (.type "NoneType") (.ref a_Atlas) = some false
  no_Atlas_bool : PySem.W.subIn K (.ref a_Atlas) (.type "bool") = some false ∧ PySem.W.subIn K (.type "bool") (.ref a_Atlas) = some false ∧ PySem.W.kitOne K (.type "bool") (.ref a_Atlas) = some false
  no_Atlas_int : PySem.W.subIn K (.ref a_Atlas) (.type "int") = some false ∧ PySem.W.subIn K (.type "int") (.ref a_Atlas) = some false ∧ PySem.W.kitOne K (.type "int") (.ref a_Atlas) = some false
  no_Atlas_str : PySem.W.subIn K (.ref a_Atlas) (.type "str") = some false ∧ PySem.W.subIn K (.type "str") (.ref a_Atlas) = some false ∧ PySem.W.kitOne K (.type "str") (.ref a_Atlas) = some false
  no_Atlas_list : PySem.W.subIn K (.ref a_Atlas) (.type "list") = some false ∧ PySem.W.subIn K (.type "list") (.ref a_Atlas) = some false ∧ PySem.W.kitOne K (.type "list") (.ref a_Atlas) = some false
  no_Atlas_tuple : PySem.W.subIn K (.ref a_Atlas) (.type "tuple") = some false ∧ PySem.W.subIn K (.type "tuple") (.ref a_Atlas) = some false ∧ PySem.W.kitOne K (.type "tuple") (.ref a_Atlas) = some false
  ty_Book : PySem.W.findIn K (.ref a_Book) (PySem.Str.ofString "__class__") = some (some (.builtin "object.__class__")) ∧ PySem.W.specialIn K (.builtin "object.__class__") (PySem.Str.ofString "__get__") = some (some (.builtin "getset_descriptor.__get__")) ∧ PySem.W.takesIn K (.builtin "object.__class__") = some true ∧ PySem.W.mroIn K a_Book (.type "object") = some true
  ne_Book : PySem.W.findIn K (.ref a_Book) (PySem.Str.ofString "__ne__") = some (some (.builtin "object.__ne__")) ∧ PySem.W.subIn K (.ref a_Book) (.type "object") = some true
  no_Book_NoneType : PySem.W.subIn K (.ref a_Book) (.type "NoneType") = some false ∧ PySem.W.subIn K (.type "NoneType") (.ref a_Book) = some false ∧ PySem.W.kitOne K (.type "NoneType") (.ref a_Book) = some false
  no_Book_bool : PySem.W.subIn K (.ref a_Book) (.type "bool") = some false ∧ PySem.W.subIn K (.type "bool") (.ref a_Book) = some false ∧ PySem.W.kitOne K (.type "bool") (.ref a_Book) = some false
  no_Book_int : PySem.W.subIn K (.ref a_Book) (.type "int") = some false ∧ PySem.W.subIn K (.type "int") (.ref a_Book) = some false ∧ PySem.W.kitOne K (.type "int") (.ref a_Book) = some false
  no_Book_str : PySem.W.subIn K (.ref a_Book) (.type "str") = some false ∧ PySem.W.subIn K (.type "str") (.ref a_Book) = some false ∧ PySem.W.kitOne K (.type "str") (.ref a_Book) = some false
  no_Book_list : PySem.W.subIn K (.ref a_Book) (.type "list") = some false ∧ PySem.W.subIn K (.type "list") (.ref a_Book) = some false ∧ PySem.W.kitOne K (.type "list") (.ref a_Book) = some false
  no_Book_tuple : PySem.W.subIn K (.ref a_Book) (.type "tuple") = some false ∧ PySem.W.subIn K (.type "tuple") (.ref a_Book) = some false ∧ PySem.W.kitOne K (.type "tuple") (.ref a_Book) = some false
  kt_AB : PySem.W.subIn K (.ref a_Atlas) (.ref a_Book) = some false ∧ PySem.W.kitOne K (.ref a_Atlas) (.ref a_Book) = some false
/-! ### heaps, pools -/
/-- all but what stands at p is as it was -/
def But (p : Addr) (H H' : Hp) : Prop := ∀ b o, b ≠ p → H b = some o → H' b = some o
theorem But.refl (p : Addr) (H : Hp) : But p H H := fun _ _ _ h => h
theorem But.trans {p : Addr} {H H1 H2 : Hp} (a : But p H H1) (b : But p H1 H2) : But p H H2 := fun c o hc h => b c o hc (a c o hc h)
theorem But.of {p : Addr} {H H' : Hp} (a : Same H H') : But p H H' := fun b o _ h => a b o h
theorem But.upd {p : Addr} {H H' : Hp} {o : HO} (a : But p H H') : But p H (upd H' p o) := fun b u hb h => by
  rw [upd_ne hb]
  exact a b u hb h
theorem same_upd {H : Hp} {p : Addr} {o : HO} (h : H p = none) : Same H (upd H p o) := fun b x e => by
  rw [upd_ne (ne_of_none e h)]
  exact e
/-- changed at a new place alone -/
theorem But.same {p : Addr} {H H1 H2 : Hp} (n : H p = none) (a : Same H H1) (b : But p H1 H2) : Same H H2 := fun c o h => b c o (ne_of_none h n) (a c o h)
theorem But.free {p l : Addr} {H H1 : Hp} (a : But p H H1) (n : l ≠ p) (h : H1 l = none) : H l = none := by
  cases e : H l with
  | none => rfl
  | some o =>
    rw [a l o n e] at h
    cases h
/-- a change at a place that H doesn't know -/
theorem But.mut {p l : Addr} {H H1 : Hp} {o : HO} (a : But p H H1) (n : H l = none) : But p H (L2.upd H1 l o) := fun b u hb h => by
  rw [upd_ne (ne_of_none h n)]
  exact a b u hb h
/-- the spring of draws: four whole numbers, the first not below nought -/
def Pool (H : Hp) (p : Addr) : Prop := ∃ l c k n : Int, 0 ≤ l ∧ H p = some (.lst [.int l, .int c, .int k, .int n])
theorem Pool.same {H H' : Hp} {p : Addr} (h : Pool H p) (e : Same H H') : Pool H' p := by
  obtain ⟨l, c, k, n, h0, h1⟩ := h
  exact ⟨l, c, k, n, h0, e _ _ h1⟩
theorem Pool.ne_tup {H : Hp} {p q : Addr} {xs : List V} (h : Pool H p) (e : H q = some (.tup xs)) : q ≠ p := by
  obtain ⟨l, c, k, n, h0, h1⟩ := h
  exact ne_of e h1 (by intro z; cases z)
theorem Pool.ne_new {H : Hp} {p q : Addr} (h : Pool H p) (e : H q = none) : q ≠ p := by
  obtain ⟨l, c, k, n, h0, h1⟩ := h
  intro z
  rw [z, h1] at e
  cases e
theorem Pool.upd {H : Hp} {p q : Addr} {o : HO} (h : Pool H p) (e : q ≠ p) : Pool (L2.upd H q o) p := by
  obtain ⟨l, c, k, n, h0, h1⟩ := h
  refine ⟨l, c, k, n, h0, ?_⟩
  rw [upd_ne (Ne.symm e)]
  exact h1
theorem seq_but {K : PySem.W.Frag} {H H' : Hp} {p a : Addr} {xs : List V} (e : But p H H') (n : a ≠ p) (h : SqL K H a xs) : SqL K H' a xs := by
  rcases h with (h | ⟨o, h⟩) | h
  · exact .inl (.inl (e _ _ n h))
  · exact .inl (.inr ⟨o, e _ _ n h⟩)
  · exact .inr h
theorem abs_if (n : Int) : 0 ≤ (if n < 0 then -n else n) := by
  split <;> omega
local macro_rules | `(tactic| walk_at "go") => `(tactic| repeat (first
  | (with_reducible exact rfl)
  | (refine ⟨_, _, rfl, rfl, ?_⟩)
  | (refine ⟨_, rfl, ?_⟩)
  | (refine ⟨rfl, ?_⟩)))
def spPool (K : PySem.W.Frag) : Sp := fun vs H Q _ => ∃ (a : Addr) (ns : List Int) (k : Int), vs = [.ref a, .int k] ∧ SqL K H a (ns.map V.int) ∧ ns.length ≤ 63 ∧ 0 ≤ k ∧ ∀ H' p, Same H H' → H p = none → Pool H' p → Q (.ref p) H'
def spTake : Sp := fun vs H Q _ => ∃ (p : Addr) (m : Int), vs = [.ref p, .int m] ∧ 0 < m ∧ m < 2 ^ 200 ∧ Pool H p ∧ ∀ H' (r : Int), But p H H' → Pool H' p → 0 ≤ r → r < m → Q (.int r) H'
theorem iteY {c A B : Prop} [Decidable c] (hc : c) (h : A) : if decide c = true then A else B := by
  rw [if_pos (decide_eq_true hc)]
  exact h
theorem iteYn {c A B : Prop} [Decidable c] (hc : c) (h : B) : if (!decide c) = true then A else B := by
  rw [decide_eq_true hc]
  exact h
theorem iteDN {b : Bool} {A B : Prop} (hb : b = false) (h : B) : if b = true then A else B := by
  rw [hb]
  exact h
theorem iteDY {b : Bool} {A B : Prop} (hb : b = true) (h : A) : if b = true then A else B := by
  rw [hb]
  exact h
theorem iteNE {d e : PyData} {A B : Prop} (h : d = e) (hs : SeqAt.shaped d = true) (hB : B) : if (!PyData.eqv d e) = true then A else B := by
  subst h
  rw [SeqAt.eqv_refl d (SeqAt.canLay_of_shaped hs)]
  exact hB
theorem ne_no {x y : V} (e : x = y) : (!decide (x = y)) = false := by
  rw [decide_eq_true e]
  rfl
theorem iteN {x y : V} {A B : Prop} (e : x = y) (h : B) : if (!decide (x = y)) = true then A else B := by
  rw [ne_no e, if_neg Bool.false_ne_true]
  exact h
section
variable {P : Program} {w : World} {K : PySem.W.Frag} {mg : Str → Option Value} {base : Heap}
theorem ok_Lpool (T : Top w K mg) : FnOk P w K mg base CX0 1 T.a_Lpool T.fd_Lpool ["_law_script", "_law_k"] (spPool K) := by
  refine T.F_Lpool.ok sc_Lpool (fun vs H Q E h => ?_) (fun cdv A outer s H vs Q E hr h => ?_)
  · obtain ⟨a, ns, k, rfl, _⟩ := h
    rfl
  · obtain ⟨a, ns, k, rfl, hS, hlen, hk, q⟩ := h
    refine ⟨_, (pss_cons (ps_set (i := 2) sc_Lpool.nd rfl (.inl rfl) pe_int)
      (Evl.pss_cut (ps_if (pt_cmpR op_gt (pe_callB call_len_seq (by rfl) T.m_len (by decide +kernel) (pa_cons (pv 0) pa_nil)) pe_int (nomark _)) (pss_one (ps_set (i := 2) sc_Lpool.nd rfl (.inl rfl) (pe_ix ix_list (pv 0) (pe_op op_mod (pv 1) (pe_callB call_len_seq (by rfl) T.m_len (by decide +kernel) (pa_cons (pv 0) pa_nil))) (fun _ _ => rfl)))) pss_nil)
      (pss_cons (ps_set (i := 3) sc_Lpool.nd rfl (.inl rfl) pe_int)
      (pss_cons (ps_if (PW.pt (pw_and (pt_cmpR op_lt (pv 1) (pe_callB call_len_seq (by rfl) T.m_len (by decide +kernel) (pa_cons (pv 0) pa_nil)) (nomark _)) (pw_and1 (pt_cmpR op_ge (pe_callB call_abs (by rfl) T.m_abs (by decide +kernel) (pa_cons (pv 2) pa_nil)) (pe_op op_pow pe_int pe_int) (nomark _))))) (pss_one (ps_set (i := 3) sc_Lpool.nd rfl (.inl rfl) (pe_callB call_abs (by rfl) T.m_abs (by decide +kernel) (pa_cons (pv 2) pa_nil)))) pss_nil)
      (pss_one (ps_ret (pe_lst (pa_cons (pv 3) (pa_cons (pv 2) (pa_cons (pv 1) (pa_cons pe_int pa_nil))))))))))), ?_⟩
    have hL : ((ns.map V.int).length : Int) = ns.length := by rw [List.length_map]
    have fin : ∀ (l c : Int), 0 ≤ l → ∀ p, H p = none → Q (.ref p) (upd H p (.lst [.int l, .int c, .int k, .int 0])) := fun l c hl p hp =>
      q _ p (same_upd hp) hp ⟨l, c, k, 0, hl, upd_same⟩
    refine ⟨fun σ H' => H' = H ∧ ∃ c : Int, σ = [some (.ref a), some (.int k), some (.int c), none], ?_, ?_⟩
    · refine ⟨.ref a, rfl, a, ns.map V.int, rfl, .inl hS, _, _, rfl, rfl, _, rfl, ite2 (fun e => ?_) (fun e => ?_)⟩
      · have e0 : (0 : Int) < ((ns.map V.int).length : Int) := of_decide_eq_true e
        refine ⟨.ref a, rfl, .int k, rfl, .ref a, rfl, a, ns.map V.int, rfl, .inl hS, k, _, rfl, rfl, e0, ?_⟩
        have h1 := Int.emod_nonneg k (show ((ns.map V.int).length : Int) ≠ 0 by omega)
        have h2 := Int.emod_lt_of_pos k e0
        obtain ⟨j, hj⟩ : ∃ j : Nat, k % ((ns.map V.int).length : Int) = j := ⟨(k % ((ns.map V.int).length : Int)).toNat, by omega⟩
        have hj2 : j < ns.length := by omega
        have g : (ns.map V.int)[j]? = some (.int ns[j]) := by
          rw [List.getElem?_map, List.getElem?_eq_getElem hj2]
          rfl
        have gi : atI (ns.map V.int) (k % ((ns.map V.int).length : Int)) = some (.int ns[j]) := by
          rw [hj]
          exact atI_nat g
        exact ⟨a, _, _, _, rfl, rfl, hS, gi, rfl, _, rfl⟩
      · exact ⟨rfl, 0, rfl⟩
    · rintro σ H' ⟨rfl, c, rfl⟩
      refine ⟨.int k, rfl, .ref a, rfl, a, ns.map V.int, rfl, .inl hS, _, _, rfl, rfl, _, rfl, ite2 (fun e => ?_) (fun e => ?_)⟩
      · refine ⟨.int c, rfl, c, rfl, _, _, rfl, rfl, ⟨by decide, by decide, by decide⟩, _, _, rfl, rfl, _, rfl, ite2 (fun e => ?_) (fun e => ?_)⟩
        · exact ⟨.int c, rfl, c, rfl, _, rfl, _, rfl, _, rfl, by show 4 ≤ sizeLine; decide, fin _ c (abs_if c)⟩
        · exact ⟨_, rfl, _, rfl, _, rfl, by show 4 ≤ sizeLine; decide, fin 0 c (by decide)⟩
      · refine ite2 (fun e2 => by cases e2) (fun _ => ?_)
        exact ⟨_, rfl, _, rfl, _, rfl, by show 4 ≤ sizeLine; decide, fin 0 c (by decide)⟩
def primes : List Int := [2147483629, 2147483587, 2147483579, 2147483563, 2147483549, 2147483543, 2147483497, 2147483489]
theorem primes_at {i : Int} (h0 : 0 ≤ i) (h1 : i < 8) : ∃ p : Int, atI (primes.map V.int) i = some (.int p) ∧ 0 < p ∧ p < 2147483647 := by
  obtain rfl | rfl | rfl | rfl | rfl | rfl | rfl | rfl : i = 0 ∨ i = 1 ∨ i = 2 ∨ i = 3 ∨ i = 4 ∨ i = 5 ∨ i = 6 ∨ i = 7 := by omega
  all_goals exact ⟨_, rfl, by decide, by decide⟩
theorem pow_ok (a : Int) : CPow (a % 2147483647) 5 := by
  have h1 := Int.emod_nonneg a (show (2147483647 : Int) ≠ 0 by decide)
  have h2 := Int.emod_lt_of_pos a (show (0 : Int) < 2147483647 by decide)
  exact ⟨by decide, by decide, by omega⟩
theorem ok_Ltake (T : Top w K mg) : FnOk P w K mg base CX0 1 T.a_Ltake T.fd_Ltake ["_law_pool_here", "_law_wide"] spTake := by
  refine T.F_Ltake.ok sc_Ltake (fun vs H Q E h => ?_) (fun cdv A outer s H vs Q E hr h => ?_)
  · obtain ⟨p, m, rfl, _⟩ := h
    rfl
  · obtain ⟨p, m, rfl, hm, hb, ⟨l, c, k, n, hl, hp⟩, q⟩ := h
    refine ⟨_, (pss_cons (ps_if (pt_cmpR op_gt (pe_ix ix_list (pv 0) pe_int (fun _ _ => rfl)) pe_int (nomark _)) (pss_cons (ps_set (i := 2) sc_Ltake.nd rfl (.inl rfl) (pe_op op_mod (pe_ix ix_list (pv 0) pe_int (fun _ _ => rfl)) (pv 1)))
      (pss_cons (ps_asg (pe_op op_fdivW (pe_ix ix_list (pv 0) pe_int (fun _ _ => rfl)) (pv 1)) (pg_sub (pv 0) pe_int set_list))
      (pss_one (ps_ret (pv 2))))) pss_nil)
      (pss_cons (ps_asg (pe_op op_add (pe_ix ix_list (pv 0) pe_int (fun _ _ => rfl)) pe_int) (pg_sub (pv 0) pe_int set_list))
      (pss_cons (ps_set (i := 3) sc_Ltake.nd rfl (.inl rfl) (pe_lst (pa_cons pe_int (pa_cons pe_int (pa_cons pe_int (pa_cons pe_int (pa_cons pe_int (pa_cons pe_int (pa_cons pe_int (pa_cons pe_int pa_nil))))))))))
      (pss_cons (ps_set (i := 4) sc_Ltake.nd rfl (.inl rfl) (pe_op op_mod (pe_op op_add (pe_op op_add (pe_op op_add (pe_ix ix_list (pv 0) pe_int (fun _ _ => rfl)) (pe_op op_mul pe_int (pe_ix ix_list (pv 0) pe_int (fun _ _ => rfl)))) (pe_op op_mul pe_int (pe_ix ix_list (pv 0) pe_int (fun _ _ => rfl)))) pe_int) pe_int))
      (pss_cons (ps_set (i := 4) sc_Ltake.nd rfl (.inl rfl) (pe_op op_mod (pe_op op_pow (pv 4) pe_int) (pe_ix ix_list (pv 3) (pe_op op_mod (pe_ix ix_list (pv 0) pe_int (fun _ _ => rfl)) pe_int) (fun _ _ => rfl))))
      (pss_cons (ps_set (i := 5) sc_Ltake.nd rfl (.inl rfl) (pe_op op_mod (pe_op op_add (pe_op op_add (pv 4) (pe_op op_mul pe_int (pe_ix ix_list (pv 0) pe_int (fun _ _ => rfl)))) (pe_ix ix_list (pv 0) pe_int (fun _ _ => rfl))) pe_int))
      (pss_one (ps_ret (pe_op op_mod (pe_op op_add (pe_op op_mul (pe_op op_mod (pe_op op_pow (pv 5) pe_int) pe_int) pe_int) (pv 4)) (pv 1)))))))))), ?_⟩
    refine ⟨.ref p, rfl, p, _, 0, .int l, rfl, rfl, .inl (.inl hp), rfl, _, _, rfl, rfl, _, rfl, ite2 (fun e => ?_) (fun e => ?_)⟩
    · refine ⟨.ref p, rfl, p, _, 0, .int l, rfl, rfl, .inl (.inl hp), rfl, .int m, rfl, l, m, rfl, rfl, hm, ?_⟩
      refine ⟨.ref p, rfl, p, _, 0, .int l, rfl, rfl, .inl (.inl hp), rfl, .int m, rfl, l, m, rfl, rfl, wide_div (b := 200) hm (by omega) (by decide) (by decide), ?_⟩
      refine ⟨.ref p, rfl, p, _, 0, 0, rfl, rfl, hp, rfl, ?_⟩
      refine ⟨_, rfl, q _ _ (But.refl p H).upd ⟨l / m, c, k, n, Int.ediv_nonneg hl (by omega), ?_⟩ (Int.emod_nonneg l (by omega)) (Int.emod_lt_of_pos l hm)⟩
      exact upd_same
    · refine ⟨.ref p, rfl, p, _, 3, .int n, rfl, rfl, .inl (.inl hp), rfl, n, 1, rfl, rfl, .ref p, rfl, p, _, 3, 3, rfl, rfl, hp, rfl, ?_⟩
      refine ⟨by show 8 ≤ sizeLine; decide, fun o no => ?_⟩
      have hop : o ≠ p := fun z => by
        rw [z, upd_same] at no
        cases no
      have h3 : (upd (upd H p (.lst [.int l, .int c, .int k, .int (n + 1)])) o (.lst (primes.map V.int))) p = some (.lst [.int l, .int c, .int k, .int (n + 1)]) := by
        rw [upd_ne (Ne.symm hop), upd_same]
      have h4 : (upd (upd H p (.lst [.int l, .int c, .int k, .int (n + 1)])) o (.lst (primes.map V.int))) o = some (.lst (primes.map V.int)) := upd_same
      have bt : But p H (upd (upd H p (.lst [.int l, .int c, .int k, .int (n + 1)])) o (.lst (primes.map V.int))) := fun b u hb h => by
        have nb : b ≠ o := fun z => by
          have : (upd H p (.lst [.int l, .int c, .int k, .int (n + 1)])) b = some u := by
            rw [upd_ne hb]
            exact h
          rw [z] at this
          exact absurd (this.symm.trans no) (by intro z; cases z)
        rw [upd_ne nb, upd_ne hb]
        exact h
      have i8 : 0 ≤ (n + 1) % 8 := Int.emod_nonneg _ (by decide)
      have j8 : (n + 1) % 8 < 8 := Int.emod_lt_of_pos _ (by decide)
      obtain ⟨pr, hpr, pr0, pr1⟩ := primes_at i8 j8
      refine ⟨.ref p, rfl, p, _, 1, .int c, rfl, rfl, .inl (.inl h3), rfl, .ref p, rfl, p, _, 2, .int k, rfl, rfl, .inl (.inl h3), rfl, 7919, k, rfl, rfl, .inl ⟨by decide, by decide⟩, _, _, rfl, rfl, .ref p, rfl, p, _, 3, .int (n + 1), rfl, rfl, .inl (.inl h3), rfl, 104729, n + 1, rfl, rfl, .inl ⟨by decide, by decide⟩, _, _, rfl, rfl, _, _, rfl, rfl, _, _, rfl, rfl, (by show (0 : Int) < 2147483647; decide), ?_⟩
      refine ⟨_, rfl, _, _, rfl, rfl, pow_ok _, .ref o, rfl, .ref p, rfl, p, _, 3, .int (n + 1), rfl, rfl, .inl (.inl h3), rfl, _, _, rfl, rfl, (by show (0 : Int) < 8; decide), o, _, _, .int pr, rfl, rfl, .inl (.inl h4), hpr, _, _, rfl, rfl, pr0, ?_⟩
      refine ⟨_, rfl, .ref p, rfl, p, _, 2, .int k, rfl, rfl, .inl (.inl h3), rfl, 40692, k, rfl, rfl, .inl ⟨by decide, by decide⟩, _, _, rfl, rfl, .ref p, rfl, p, _, 3, .int (n + 1), rfl, rfl, .inl (.inl h3), rfl, _, _, rfl, rfl, _, _, rfl, rfl, (by show (0 : Int) < 2147483647; decide), ?_⟩
      refine ⟨_, rfl, _, _, rfl, rfl, pow_ok _, _, _, rfl, rfl, (by show (0 : Int) < 2147483647; decide), _, _, rfl, rfl, .inr ⟨by decide, by decide⟩, _, rfl, _, _, rfl, rfl, .int m, rfl, _, _, rfl, rfl, hm, ?_⟩
      exact q _ _ bt ⟨l, c, k, n + 1, hl, h3⟩ (Int.emod_nonneg _ (by omega)) (Int.emod_lt_of_pos _ hm)
/-! ### data alike -/
theorem sqt_same {K : PySem.W.Frag} {H H' : Hp} {a : Addr} {xs : List V} (e : Same H H') (h : SqT K H a xs) : SqT K H' a xs := Evl.ex_t (show Evl.Ex H H' from e) h
mutual
theorem dp_same {K : PySem.W.Frag} {H H' : Hp} (e : Same H H') : ∀ (d : PyData) (v : V), Dp K H v d → Dp K H' v d
  | .none, _, h => by cases h; exact .non
  | .bool b, _, h => by cases h; exact .bl b
  | .int i, _, h => by cases h; exact .int i
  | .str x, _, h => by cases h; exact .str x
  | .list ds, _, h => by
    cases h with
    | lst hs ha => exact .lst (e.seq hs) (dpa_same e ds _ ha)
  | .tuple ds, _, h => by
    cases h with
    | tup hs ha => exact .tup (sqt_same e hs) (dpa_same e ds _ ha)
  | .dict _, _, h => by cases h
theorem dpa_same {K : PySem.W.Frag} {H H' : Hp} (e : Same H H') : ∀ (ds : List PyData) (vs : List V), DpAll K H vs ds → DpAll K H' vs ds
  | [], _, h => by cases h; exact .nil
  | d :: ds, _, h => by
    cases h with
    | cons h1 h2 => exact .cons (dp_same e d _ h1) (dpa_same e ds _ h2)
end
theorem dpa_len {K : PySem.W.Frag} {H : Hp} : ∀ (ds : List PyData) (vs : List V), DpAll K H vs ds → vs.length = ds.length
  | [], _, h => by cases h; rfl
  | d :: ds, _, h => by
    cases h with
    | cons h1 h2 =>
      rw [List.length_cons, List.length_cons, dpa_len ds _ h2]
theorem dpa_at {K : PySem.W.Frag} {H : Hp} : ∀ (ds : List PyData) (vs : List V), DpAll K H vs ds → ∀ (i : Nat) (v : V), vs[i]? = some v → ∃ d, ds[i]? = some d ∧ Dp K H v d
  | [], _, h, i, v, e => by cases h; cases e
  | d :: ds, _, h, i, v, e => by
    cases h with
    | cons h1 h2 =>
      cases i with
      | zero =>
        cases e
        exact ⟨d, rfl, h1⟩
      | succ j => exact dpa_at ds _ h2 j v e
theorem ty_tup {K : PySem.W.Frag} {H : Hp} {a : Addr} {xs : List V} (h : SqT K H a xs) : TyX K H (.ref a) (.type "tuple") := by
  rcases h with (h | ⟨o, h⟩) | ⟨o, its, n, lk, hc, _⟩
  · exact .base (.tup h)
  · exact .fTuple h
  · exact .kTuple lk hc
/-- none, truths, whole numbers, texts, and tuples of these, at most n deep -/
def okD : Nat → PyData → Bool
  | _, .none => true
  | _, .bool _ => true
  | _, .int _ => true
  | _, .str _ => true
  | n + 1, .tuple ds => decide (ds.length ≤ 1000) && ds.all fun d => okD n d
  | _, _ => false
theorem walk_zipT {K : PySem.W.Frag} {a b : Addr} {xs ys : List V} {n : Nat} (hn : n = min xs.length ys.length) : Walk (RZ.ItzT K a b) n (fun H => SqT K H a xs ∧ SqT K H b ys) (YPair (fun i => xs[i]?) (fun i => ys[i]?)) where
  goes := fun i H lt ⟨p, q⟩ => ⟨xs, ys, _, _, p, q, List.getElem?_eq_getElem (by omega), List.getElem?_eq_getElem (by omega)⟩
  stops := fun H ⟨p, q⟩ => ⟨xs, ys, p, q, by omega⟩
  yields := fun i H v H' _ ⟨p, q⟩ ⟨T, x, y, e1, e2, e3, e4, e5⟩ => ⟨T, x, y, e1, e2, e3, e4 xs p, e5 ys q⟩
theorem all_true : ∀ n : Nat, (List.replicate n true).all id = true
  | 0 => rfl
  | n + 1 => by rw [List.replicate_succ, List.all_cons, all_true n]; rfl
def spWhole : Sp := fun vs H Q _ => ∃ i : Int, vs = [.int i] ∧ Q (.bl true) H
/-! ### data, whatever else stands in the heap -/
def isSeq : HO → Bool
  | .lst _ => true
  | .tup _ => true
  | .frz _ _ => true
  | _ => false
/-- all lists and tuples as they were -/
def Seqs (H H' : Hp) : Prop := ∀ b o, isSeq o = true → H b = some o → H' b = some o
theorem Seqs.of {H H' : Hp} (e : Same H H') : Seqs H H' := fun b o _ h => e b o h
theorem Seqs.trans {H H1 H2 : Hp} (a : Seqs H H1) (b : Seqs H1 H2) : Seqs H H2 := fun c o z h => b c o z (a c o z h)
theorem Seqs.upd {H : Hp} {a : Addr} {o u : HO} (e : H a = some u) (n : isSeq u = false) : Seqs H (L2.upd H a o) := fun b v z h => by
  rw [upd_ne (fun y => by rw [y, e] at h; cases h; rw [n] at z; cases z)]
  exact h
theorem Seqs.new {H : Hp} {a : Addr} {o : HO} (e : H a = none) : Seqs H (L2.upd H a o) := Seqs.of (same_upd e)
theorem seqs_l {K : PySem.W.Frag} {H H' : Hp} {a : Addr} {xs : List V} (e : Seqs H H') (h : SqL K H a xs) : SqL K H' a xs := by
  rcases h with (h | ⟨o, h⟩) | h
  · exact .inl (.inl (e _ _ rfl h))
  · exact .inl (.inr ⟨o, e _ _ rfl h⟩)
  · exact .inr h
theorem seqs_t {K : PySem.W.Frag} {H H' : Hp} {a : Addr} {xs : List V} (e : Seqs H H') (h : SqT K H a xs) : SqT K H' a xs := by
  rcases h with (h | ⟨o, h⟩) | h
  · exact .inl (.inl (e _ _ rfl h))
  · exact .inl (.inr ⟨o, e _ _ rfl h⟩)
  · exact .inr h
mutual
theorem dp_seqs {K : PySem.W.Frag} {H H' : Hp} (e : Seqs H H') : ∀ (d : PyData) (v : V), Dp K H v d → Dp K H' v d
  | .none, _, h => by cases h; exact .non
  | .bool b, _, h => by cases h; exact .bl b
  | .int i, _, h => by cases h; exact .int i
  | .str x, _, h => by cases h; exact .str x
  | .list ds, _, h => by
    cases h with
    | lst hs ha => exact .lst (seqs_l e hs) (dpa_seqs e ds _ ha)
  | .tuple ds, _, h => by
    cases h with
    | tup hs ha => exact .tup (seqs_t e hs) (dpa_seqs e ds _ ha)
  | .dict _, _, h => by cases h
theorem dpa_seqs {K : PySem.W.Frag} {H H' : Hp} (e : Seqs H H') : ∀ (ds : List PyData) (vs : List V), DpAll K H vs ds → DpAll K H' vs ds
  | [], _, h => by cases h; exact .nil
  | d :: ds, _, h => by
    cases h with
    | cons h1 h2 => exact .cons (dp_seqs e d _ h1) (dpa_seqs e ds _ h2)
end
theorem dpa_snoc {K : PySem.W.Frag} {H : Hp} {v : V} {d : PyData} (h : Dp K H v d) : ∀ (ds : List PyData) (vs : List V), DpAll K H vs ds → DpAll K H (vs ++ [v]) (ds ++ [d])
  | [], _, a => by cases a; exact .cons h .nil
  | x :: ds, _, a => by
    cases a with
    | cons h1 h2 => exact .cons h1 (dpa_snoc h ds _ h2)
/-- the heap without the places of X -/
noncomputable def wo (H : Hp) (X : Addr → Prop) : Hp := fun b => by
  classical
  exact if X b then none else H b
theorem wo_in {H : Hp} {X : Addr → Prop} {b : Addr} (h : ¬ X b) : wo H X b = H b := by
  unfold wo
  exact if_neg h
theorem wo_some {H : Hp} {X : Addr → Prop} {b : Addr} {o : HO} (h : wo H X b = some o) : ¬ X b ∧ H b = some o := by
  unfold wo at h
  by_cases hx : X b
  · rw [if_pos hx] at h
    cases h
  · rw [if_neg hx] at h
    exact ⟨hx, h⟩
theorem wo_same {H : Hp} {X : Addr → Prop} : Same (wo H X) H := fun b o h => (wo_some h).2
theorem wo_none {H : Hp} : wo H (fun _ => False) = H := by
  funext b
  exact wo_in (fun h => h)
/-! ### kinds of things -/
theorem ty_lst {K : PySem.W.Frag} {H : Hp} {a : Addr} {xs : List V} (h : SqL K H a xs) : TyX K H (.ref a) (.type "list") := by
  rcases h with (h | ⟨o, h⟩) | ⟨o, its, n, lk, hc, _⟩
  · exact .base (.lst h)
  · exact .base (.frz h)
  · exact .kList lk hc
theorem kit_any2 {K : PySem.W.Frag} {t a b : String} {x y : Bool} (h1 : kitB t a = some x) (h2 : kitB t b = some y) : PySem.W.kitAny K (.type t) [.type a, .type b] = some (x || y) := by
  unfold PySem.W.kitAny
  rw [kit_ty h1]
  cases x with
  | true => rfl
  | false =>
    unfold PySem.W.kitAny
    rw [kit_ty h2]
    cases y <;> rfl
/-- the type's name -/
def tyD : PyData → String
  | .none => "NoneType"
  | .bool _ => "bool"
  | .int _ => "int"
  | .str _ => "str"
  | .list _ => "list"
  | .tuple _ => "tuple"
  | .dict _ => "dict"
theorem ty_dp {K : PySem.W.Frag} {H : Hp} {v : V} {d : PyData} (h : Dp K H v d) : TyX K H v (.type (tyD d)) := by
  cases h with
  | non => exact .base .non
  | bl b => exact .base (.bl b)
  | int i => exact .base (.int i)
  | str z => exact .base (.str z)
  | lst h _ => exact ty_lst h
  | tup h _ => exact ty_tup h
def seqD : PyData → Option (List PyData)
  | .list ds => some ds
  | .tuple ds => some ds
  | _ => none
def strD : PyData → Bool
  | .str _ => true
  | _ => false
theorem kit_seq (d : PyData) : ∃ x y, kitB (tyD d) "tuple" = some x ∧ kitB (tyD d) "list" = some y ∧ (x || y) = (seqD d).isSome := by
  cases d with
  | list ds => exact ⟨false, true, by show kitB "list" "tuple" = some false; decide +kernel, by show kitB "list" "list" = some true; decide +kernel, rfl⟩
  | tuple ds => exact ⟨true, false, by show kitB "tuple" "tuple" = some true; decide +kernel, by show kitB "tuple" "list" = some false; decide +kernel, rfl⟩
  | none => exact ⟨false, false, by show kitB "NoneType" "tuple" = some false; decide +kernel, by show kitB "NoneType" "list" = some false; decide +kernel, rfl⟩
  | bool b => exact ⟨false, false, by show kitB "bool" "tuple" = some false; decide +kernel, by show kitB "bool" "list" = some false; decide +kernel, rfl⟩
  | int i => exact ⟨false, false, by show kitB "int" "tuple" = some false; decide +kernel, by show kitB "int" "list" = some false; decide +kernel, rfl⟩
  | str z => exact ⟨false, false, by show kitB "str" "tuple" = some false; decide +kernel, by show kitB "str" "list" = some false; decide +kernel, rfl⟩
  | dict z => exact ⟨false, false, by show kitB "dict" "tuple" = some false; decide +kernel, by show kitB "dict" "list" = some false; decide +kernel, rfl⟩
theorem kit_str (d : PyData) : kitB (tyD d) "str" = some (strD d) := by
  cases d with
  | list ds => show kitB "list" "str" = some false; decide +kernel
  | tuple ds => show kitB "tuple" "str" = some false; decide +kernel
  | none => show kitB "NoneType" "str" = some false; decide +kernel
  | bool b => show kitB "bool" "str" = some false; decide +kernel
  | int i => show kitB "int" "str" = some false; decide +kernel
  | str z => show kitB "str" "str" = some true; decide +kernel
  | dict z => show kitB "dict" "str" = some false; decide +kernel
def SqA (K : PySem.W.Frag) (H : Hp) (a : Addr) (xs : List V) : Prop := SqL K H a xs ∨ SqT K H a xs
theorem SqA.same {K : PySem.W.Frag} {H H' : Hp} {a : Addr} {xs : List V} (e : Same H H') (h : SqA K H a xs) : SqA K H' a xs := h.elim (fun h => .inl (e.seq h)) (fun h => .inr (sqt_same e h))
theorem seq_dp {K : PySem.W.Frag} {H : Hp} {v : V} {d : PyData} {ds : List PyData} (h : Dp K H v d) (e : seqD d = some ds) : ∃ a xs, v = .ref a ∧ SqA K H a xs ∧ DpAll K H xs ds := by
  cases h with
  | lst h a => cases e; exact ⟨_, _, rfl, .inl h, a⟩
  | tup h a => cases e; exact ⟨_, _, rfl, .inr h, a⟩
  | _ => cases e
theorem ixA {K : PySem.W.Frag} {H : Hp} {a : Addr} {xs : List V} {j : Nat} {v : V} {Q : VK} (h : SqA K H a xs) (hj : xs[j]? = some v) (q : Q v H) : rIx K (.ref a) (.int (j : Int)) H Q :=
  h.elim (fun h => .inl ⟨a, xs, j, v, rfl, rfl, h, atI_nat hj, q⟩) (fun h => .inr (.inl ⟨a, xs, j, v, rfl, rfl, h, atI_nat hj, q⟩))
theorem kpA {K : PySem.W.Frag} {H : Hp} {a : Addr} {xs : List V} (h : SqA K H a xs) : (∀ H', Same H H' → SqL K H' a xs) ∨ (∀ H', Same H H' → SqT K H' a xs) := h.elim (fun h => .inl fun _ s => s.seq h) (fun h => .inr fun _ s => sqt_same s h)
/-! ### texts -/
abbrev SMALLs : Str := PySem.Str.ofString "abcdefghijklmnopqrstuvwxyz"
abbrev GREATs : Str := PySem.Str.ofString "ABCDEFGHIJKLMNOPQRSTUVWXYZ"
def smC (c : Nat) : Bool := decide (c ∈ SMALLs.cps.toList)
def grC (c : Nat) : Bool := decide (c ∈ GREATs.cps.toList)
def shL (cs : List Nat) : Bool := decide (1 ≤ (cs.length : Int)) && decide ((cs.length : Int) ≤ 8)
def nmL (cs : List Nat) : Bool := shL cs && cs.all smC
def loL : List Nat → Bool
  | [] => false
  | c :: r => shL (c :: r) && (grC c && r.all smC)
def nmV : V → Bool
  | .str z => nmL z.cps.toList
  | _ => false
def loV : V → Bool
  | .str z => loL z.cps.toList
  | _ => false
def sgV (v : V) : Bool := nmV v || loV v
def shV : V → Bool
  | .str z => shL z.cps.toList
  | _ => false
/-- a thing: a text that is not too long, or no text -/
def Th (K : PySem.W.Frag) (H : Hp) (v : V) : Prop := (∃ z : Str, v = .str z ∧ z.length ≤ 1000) ∨ ((∀ z, v ≠ .str z) ∧ ∃ t, TyX K H v (.type t) ∧ kitB t "str" = some false)
theorem tyx_same {K : PySem.W.Frag} {H H' : Hp} {v : V} {t : Value} (e : Same H H') (h : TyX K H v t) : TyX K H' v t := by
  cases h with
  | base b =>
    cases b with
    | non => exact .base .non
    | bl x => exact .base (.bl x)
    | int i => exact .base (.int i)
    | str x => exact .base (.str x)
    | flt x => exact .base (.flt x)
    | lst h => exact .base (.lst (e _ _ h))
    | frz h => exact .base (.frz (e _ _ h))
    | tup h => exact .base (.tup (e _ _ h))
    | dK h => exact .base (.dK (e _ _ h))
    | dT h => exact .base (.dT (e _ _ h))
    | ins h a b c d f => exact .base (.ins (e _ _ h) a b c d f)
  | byt b => exact .byt b
  | set h => exact .set (e _ _ h)
  | kList h c => exact .kList h c
  | kTuple h c => exact .kTuple h c
  | kDict h c => exact .kDict h c
  | fTuple h => exact .fTuple (e _ _ h)
  | fDict h => exact .fDict (e _ _ h)
theorem Th.same {K : PySem.W.Frag} {H H' : Hp} {v : V} (e : Same H H') (h : Th K H v) : Th K H' v := by
  rcases h with h | ⟨n, t, ty, k⟩
  · exact .inl h
  · exact .inr ⟨n, t, tyx_same e ty, k⟩
theorem nmV_no {v : V} (h : ∀ z, v ≠ .str z) : nmV v = false ∧ loV v = false ∧ shV v = false := by
  cases v with
  | str z => exact absurd rfl (h z)
  | _ => exact ⟨rfl, rfl, rfl⟩
theorem len_toList (z : Str) : z.cps.toList.length = z.length := Array.length_toList
theorem thou {n : Nat} (h : n ≤ 1000) : n ≤ sizeLine := Nat.le_trans h (by decide)
def spShort (K : PySem.W.Frag) : Sp := fun vs H Q _ => ∃ v, vs = [v] ∧ Th K H v ∧ Q (.bl (shV v)) H
theorem s0 : PySem.Str.ofString "" = (⟨#[]⟩ : Str) := by decide +kernel
theorem ok_is_short_text (T : Top w K mg) : FnOk P w K mg base CX0 1 T.a_is_short_text T.fd_is_short_text ["thing"] (spShort K) := by
  refine T.F_is_short_text.ok sc_is_short_text (fun vs H Q E h => ?_) (fun cdv A outer s H vs Q E hr h => ?_)
  · obtain ⟨v, rfl, _⟩ := h
    rfl
  · obtain ⟨v, rfl, hv, q⟩ := h
    refine ⟨_, (pss_one (ps_ret (pe_and (pe_callB call_isi (by rfl) T.m_isinstance (by decide +kernel) (pa_cons (pv 0) (pa_cons (pe_bltn (v := .ty "str") (by rfl) T.m_str (by decide +kernel) rfl) pa_nil))) (pe_one (pe_chain op_le op_le pe_int (pe_callB call_len_str (by rfl) T.m_len (by decide +kernel) (pa_cons (pv 0) pa_nil)) (pe_glob (v := .int 8) (by rfl) T.g_LONGEST.choose_spec ⟨_, rfl⟩)))))), ?_⟩
    rcases hv with ⟨z, rfl, hz⟩ | ⟨no, t, ty, k⟩
    · refine ⟨.str z, rfl, _, _, _, _, true, rfl, .ty _, .base (.str z), kit_ty (by decide +kernel), _, rfl, iteT ?_⟩
      have q' : Q (.bl (decide (1 ≤ (z.length : Int)) && decide ((z.length : Int) ≤ 8))) H := by
        have e : shV (.str z) = (decide (1 ≤ (z.length : Int)) && decide ((z.length : Int) ≤ 8)) := by
          show (decide (1 ≤ (z.cps.toList.length : Int)) && decide ((z.cps.toList.length : Int) ≤ 8)) = _
          rw [len_toList]
        rw [← e]
        exact q
      refine ⟨.str z, rfl, z, rfl, thou hz, _, _, rfl, rfl, _, rfl, ite2 (fun e => ?_) (fun e => ?_)⟩
      · refine ⟨_, _, rfl, rfl, ?_⟩
        rw [e] at q'
        exact q'
      · rw [Bool.eq_false_iff.mpr e] at q'
        exact q'
    · rw [(nmV_no no).2.2] at q
      exact ⟨v, rfl, _, _, _, _, false, rfl, .ty _, ty, kit_ty k, _, rfl, iteF q⟩
def spSmall : Sp := fun vs H Q _ => ∃ z : Str, vs = [.str z] ∧ z.length ≤ 1000 ∧ ∀ H', Same H H' → Q (.bl (z.cps.toList.all smC)) H'
theorem all_map {f : Nat → Bool} : ∀ xs : List Nat, (xs.map f).all id = xs.all f
  | [] => rfl
  | x :: r => by rw [List.map_cons, List.all_cons, List.all_cons, all_map r]; rfl
theorem ok_are_small (T : Top w K mg) : FnOk P w K mg base CX0 1 T.a_are_small T.fd_are_small ["text"] spSmall := by
  refine T.F_are_small.ok sc_are_small (fun vs H Q E h => ?_) (fun cdv A outer s H vs Q E hr h => ?_)
  · obtain ⟨z, rfl, _⟩ := h
    rfl
  · obtain ⟨z, rfl, hz, q⟩ := h
    refine ⟨_, (pss_one (ps_ret (pe_callB (cr_all rfl) (by rfl) T.m_all (by decide +kernel) (pa_cons (pe_lc (own := [("letter", 1)]) (g := gName 1) (by rfl) sc_are_small.nd (pi_str (pv 0)) (blkOk_by (own := [("letter", 1)]) (N := ["text", "letter"]) (sc := defScope s_are_small) (by decide +kernel)) (fun _ _ _ _ _ => (pg_name (i := 1) sc_are_small.nd rfl (Or.inl rfl))) (fun _ _ _ _ _ => pts_nil) (fun _ _ _ _ _ => (pe_cmpR op_in_sign (pv 1) (pe_glob (v := .str "abcdefghijklmnopqrstuvwxyz") (by rfl) T.g_SMALL.choose_spec ⟨_, rfl⟩) (by rfl)))) pa_nil)))), ?_⟩
    refine ⟨.str z, rfl, z, rfl, fun D hD => lc_it walk_str (fun i H' => Same H H' ∧ H' D = some (.lst (((z.cps.toList.take i).map smC).map V.bl))) ⟨same_upd hD, upd_same⟩ (fun _ _ _ _ => trivial) ?_ ?_⟩
    · rintro i x H1 H2 hi ⟨sm, eD⟩ ⟨rfl, c, hc, rfl⟩
      refine ⟨rfl, ?_⟩
      refine ⟨_, rfl, c, _, rfl, rfl, _, eD, ?_, ?_, ?_⟩
      · rw [List.length_map, List.length_map, List.length_take, len_toList]
        exact small1000 (by omega)
      · exact fun b' o e => by
          rw [upd_ne (ne_of_none e hD)]
          exact sm _ _ e
      · rw [upd_same, List.take_add_one, Array.getElem?_toList, hc, List.map_append, List.map_append]
        rfl
    · rintro H1 ⟨sm, eD⟩
      have e2 : z.cps.toList.take z.cps.size = z.cps.toList := List.take_of_length_le (by rw [Array.length_toList]; exact Nat.le_refl _)
      rw [e2] at eD
      refine ⟨_, z.cps.toList.map smC, rfl, .inl (.inl eD), ?_⟩
      rw [all_map]
      exact q _ sm
def spIsV (K : PySem.W.Frag) (f : V → Bool) : Sp := fun vs H Q _ => ∃ v, vs = [v] ∧ Th K H v ∧ ∀ H', Same H H' → Q (.bl (f v)) H'
theorem ok_is_name (T : Top w K mg) : FnOk P w K mg base CX0 2 T.a_is_name T.fd_is_name ["thing"] (spIsV K nmV) := by
  have G_is_short_text := ok_is_short_text (P := P) (w := w) (base := base) T
  have G_are_small := ok_are_small (P := P) (w := w) (base := base) T
  refine T.F_is_name.ok sc_is_name (fun vs H Q E h => ?_) (fun cdv A outer s H vs Q E hr h => ?_)
  · obtain ⟨v, rfl, _⟩ := h
    rfl
  · obtain ⟨v, rfl, hv, q⟩ := h
    refine ⟨_, (pss_one (ps_ret (pe_and (pe_call G_is_short_text hr (by rfl) T.g_is_short_text T.F_is_short_text.kp T.b_is_short_text .nil pass0 (pa_cons (pv 0) pa_nil)) (pe_one (pe_call G_are_small hr (by rfl) T.g_are_small T.F_are_small.kp T.b_are_small .nil pass0 (pa_cons (pv 0) pa_nil)))))), ?_⟩
    refine ⟨v, rfl, v, rfl, hv, _, rfl, ite2 (fun e => ?_) (fun e => ?_)⟩
    · rcases hv with ⟨z, rfl, hz⟩ | ⟨no, _⟩
      · refine ⟨.str z, rfl, z, rfl, hz, fun H' sm => ?_⟩
        have h := q H' sm
        have e2 : nmV (.str z) = z.cps.toList.all smC := by
          show (shV (.str z) && z.cps.toList.all smC) = _
          rw [e]
          rfl
        rw [e2] at h
        exact h
      · rw [(nmV_no no).2.2] at e
        cases e
    · have h := q H (Same.refl H)
      have e2 : nmV v = false := by
        rcases hv with ⟨z, rfl, hz⟩ | ⟨no, _⟩
        · show (shV (.str z) && z.cps.toList.all smC) = _
          rw [Bool.eq_false_iff.mpr e]
          rfl
        · exact (nmV_no no).1
      rw [e2] at h
      exact h
theorem cut_tail (c : Nat) (r : List Nat) : cutS ⟨⟨c :: r⟩⟩ (some 1) none = ⟨⟨r⟩⟩ := by
  unfold cutS
  have e1 : HT.sIx (Str.length ⟨⟨c :: r⟩⟩) 0 (some 1) = 1 := by
    rw [show HT.sIx (Str.length ⟨⟨c :: r⟩⟩) 0 (some 1) = min 1 (Str.length ⟨⟨c :: r⟩⟩) from HT.sIx_nat _ 0 1]
    show min 1 (r.length + 1) = 1
    omega
  rw [e1, HT.sIx_none]
  show (⟨(List.take ((c :: r).length - 1) r).toArray⟩ : Str) = ⟨⟨r⟩⟩
  rw [List.length_cons, Nat.add_sub_cancel, List.take_length]
theorem ok_is_lone (T : Top w K mg) : FnOk P w K mg base CX0 2 T.a_is_lone T.fd_is_lone ["thing"] (spIsV K loV) := by
  have G_is_short_text := ok_is_short_text (P := P) (w := w) (base := base) T
  have G_are_small := ok_are_small (P := P) (w := w) (base := base) T
  refine T.F_is_lone.ok sc_is_lone (fun vs H Q E h => ?_) (fun cdv A outer s H vs Q E hr h => ?_)
  · obtain ⟨v, rfl, _⟩ := h
    rfl
  · obtain ⟨v, rfl, hv, q⟩ := h
    refine ⟨_, (pss_one (ps_ret (pe_and (pe_call G_is_short_text hr (by rfl) T.g_is_short_text T.F_is_short_text.kp T.b_is_short_text .nil pass0 (pa_cons (pv 0) pa_nil)) (pe_and (pe_cmpR op_in_sign (pe_ix ix_str (pv 0) pe_int (fun _ _ => rfl)) (pe_glob (v := .str "ABCDEFGHIJKLMNOPQRSTUVWXYZ") (by rfl) T.g_GREAT.choose_spec ⟨_, rfl⟩) (by rfl)) (pe_one (pe_call G_are_small hr (by rfl) T.g_are_small T.F_are_small.kp T.b_are_small .nil pass0 (pa_cons (pe_slice sl_str (pv 0) (po_some pe_int) po_none) pa_nil))))))), ?_⟩
    refine ⟨v, rfl, v, rfl, hv, _, rfl, ite2 (fun e => ?_) (fun e => ?_)⟩
    · rcases hv with ⟨⟨⟨cs⟩⟩, rfl, hz⟩ | ⟨no, _⟩
      · match cs, hz, e, q with
        | [], _, e, _ => cases e
        | c :: r, hz, e, q =>
          have hz2 : r.length + 1 ≤ 1000 := hz
          refine ⟨_, rfl, _, 0, c, rfl, rfl, thou hz, atI_nat (j := 0) rfl, c, _, rfl, rfl, _, rfl, ite2 (fun e3 => ?_) (fun e3 => ?_)⟩
          · refine ⟨_, rfl, 1, rfl, _, rfl, thou hz, ?_⟩
            rw [cut_tail]
            refine ⟨_, rfl, by show r.length ≤ 1000; omega, fun H' sm => ?_⟩
            have h := q H' sm
            have e2 : loV (.str ⟨⟨c :: r⟩⟩) = r.all smC := by
              show (shL (c :: r) && (grC c && r.all smC)) = _
              rw [show shL (c :: r) = true from e, show grC c = true from e3]
              rfl
            rw [e2] at h
            exact h
          · have h := q H (Same.refl H)
            have e2 : loV (.str ⟨⟨c :: r⟩⟩) = false := by
              show (shL (c :: r) && (grC c && r.all smC)) = _
              rw [show grC c = false from Bool.eq_false_iff.mpr e3, Bool.false_and, Bool.and_false]
            rw [e2] at h
            exact h
      · rw [(nmV_no no).2.2] at e
        cases e
    · have h := q H (Same.refl H)
      have e2 : loV v = false := by
        rcases hv with ⟨⟨⟨cs⟩⟩, rfl, hz⟩ | ⟨no, _⟩
        · match cs, e with
          | [], _ => rfl
          | c :: r, e =>
            show (shL (c :: r) && (grC c && r.all smC)) = _
            rw [show shL (c :: r) = false from Bool.eq_false_iff.mpr e]
            rfl
        · exact (nmV_no no).2.1
      rw [e2] at h
      exact h
theorem ok_is_sign (T : Top w K mg) : FnOk P w K mg base CX0 3 T.a_is_sign T.fd_is_sign ["thing"] (spIsV K sgV) := by
  have G_is_name := ok_is_name (P := P) (w := w) (base := base) T
  have G_is_lone := ok_is_lone (P := P) (w := w) (base := base) T
  refine T.F_is_sign.ok sc_is_sign (fun vs H Q E h => ?_) (fun cdv A outer s H vs Q E hr h => ?_)
  · obtain ⟨v, rfl, _⟩ := h
    rfl
  · obtain ⟨v, rfl, hv, q⟩ := h
    refine ⟨_, (pss_one (ps_ret (pe_or (pe_call G_is_name hr (by rfl) T.g_is_name T.F_is_name.kp T.b_is_name .nil pass0 (pa_cons (pv 0) pa_nil)) (pe_one (pe_call G_is_lone hr (by rfl) T.g_is_lone T.F_is_lone.kp T.b_is_lone .nil pass0 (pa_cons (pv 0) pa_nil)))))), ?_⟩
    refine ⟨v, rfl, v, rfl, hv, fun H1 s1 => ⟨_, rfl, ite2 (fun e => ?_) (fun e => ?_)⟩⟩
    · have h := q H1 s1
      rw [show sgV v = true by unfold sgV; rw [e]; rfl] at h
      exact h
    · refine ⟨v, rfl, v, rfl, hv.same s1, fun H2 s2 => ?_⟩
      have h := q H2 (s1.trans s2)
      rw [show sgV v = loV v by unfold sgV; rw [Bool.eq_false_iff.mpr e]; rfl] at h
      exact h
/-! ### parts of entries -/
theorem units65 {k : Nat} {A : Around} (hr : Room k A) : A.units + 65 < cLine := by
  have := hr.un
  omega
def rEqA (K : PySem.W.Frag) : R2 := fun x y H Q => rEq x y H Q ∨ rEqD K x y H Q
theorem op_eqA {X : Cx} (hu : X.A.units + 64 < cLine) : OpR X (compareOp .Eq) (rEqA X.K) := by
  intro pins s σ H x y v u Q I rx ry h
  rcases h with h | h
  · exact op_eq pins s σ H x y v u Q I rx ry h
  · exact op_eqD hu pins s σ H x y v u Q I rx ry h
def rInTD (K : PySem.W.Frag) : R2 := fun x y H Q => ∃ d ds, Dp K H x d ∧ Dp K H y (.tuple ds) ∧ SeqAt.shaped d = true ∧ SeqAt.shaped (.tuple ds) = true ∧ Q (.bl (ds.any fun z => PyData.eqv z d)) H
def rInA (K : PySem.W.Frag) : R2 := fun x y H Q => rIn K false x y H Q ∨ rInTD K x y H Q
theorem op_inA {X : Cx} (hu : X.A.units + 65 < cLine) : OpR X (compareOp .In) (rInA X.K) := by
  intro pins s σ H x y v u Q I rx ry h
  rcases h with h | ⟨d, ds, hd, he, sd, se, q⟩
  · exact op_in_seq pins s σ H x y v u Q I rx ry h
  · obtain ⟨as, r1⟩ := Dp.reads I d x v hd rx
    obtain ⟨bs, r2⟩ := Dp.reads I (.tuple ds) y u he ry
    exact SeqAt.in_tuple_reads r2 r1 (SeqAt.canLay_of_shaped se) (SeqAt.canLay_of_shaped sd) (room_in_shaped sd hu) ⟨.bl _, H, I, rfl, q⟩
/-- a part of an entry: no text too long; what is nested is of the kind that can be compared -/
def gp : PyData → Bool
  | .none => true
  | .bool _ => true
  | .int _ => true
  | .str z => decide (z.length ≤ 1000)
  | .list ds => SeqAt.shaped (.list ds)
  | .tuple ds => SeqAt.shaped (.tuple ds)
  | .dict _ => false
/-- equal to a text -/
def eqS : PyData → Str → Bool
  | .str z, s => s == z
  | _, _ => false
def inW (d : PyData) (ws : List Str) : Bool := ws.any fun s => eqS d s
theorem dec_str (z s : Str) : decide (V.str z = V.str s) = (s == z) := by
  by_cases h : s = z
  · subst h
    rw [decide_eq_true rfl, beq_self_eq_true]
  · rw [decide_eq_false (fun e => h (V.str.inj e).symm), beq_eq_false_iff_ne.mpr h]
theorem eqA_of {K : PySem.W.Frag} {H : Hp} {v : V} {d : PyData} {s : Str} {Q : VK} (hd : Dp K H v d) (g : gp d = true) (hs : SeqAt.shaped (.str s) = true) (q : Q (.bl (eqS d s)) H) : rEqA K v (.str s) H Q := by
  cases hd with
  | non => exact .inl ⟨rfl, by rw [decide_eq_false (fun h => nomatch h)]; exact q⟩
  | bl b => exact .inl ⟨rfl, by rw [decide_eq_false (fun h => nomatch h)]; exact q⟩
  | int i => exact .inl ⟨rfl, by rw [decide_eq_false (fun h => nomatch h)]; exact q⟩
  | str z => exact .inl ⟨rfl, by rw [dec_str]; exact q⟩
  | lst h a => exact .inr ⟨_, _, .lst h a, .str s, g, hs, q⟩
  | tup h a => exact .inr ⟨_, _, .tup h a, .str s, g, hs, q⟩
theorem dpa_strs {K : PySem.W.Frag} {H : Hp} : ∀ ws : List Str, DpAll K H (ws.map V.str) (ws.map PyData.str)
  | [] => .nil
  | w :: r => .cons (.str w) (dpa_strs r)
theorem flat_strs : ∀ ws : List Str, (ws.map V.str).all flatV = true
  | [] => rfl
  | w :: r => by rw [List.map_cons, List.all_cons, flat_strs r]; rfl
theorem inW_flat {v : V} {d : PyData} (h : ∀ s : Str, eqV (.str s) v = eqS d s) : ∀ ws : List Str, inV v (ws.map V.str) = inW d ws
  | [] => rfl
  | w :: r => by
    have ih := inW_flat h r
    unfold inV inW at ih ⊢
    rw [List.map_cons, List.any_cons, List.any_cons, ih, h w]
theorem inW_deep {d : PyData} (h : ∀ s : Str, PyData.eqv (.str s) d = eqS d s) : ∀ ws : List Str, ((ws.map PyData.str).any fun z => PyData.eqv z d) = inW d ws
  | [] => rfl
  | w :: r => by
    have ih := inW_deep h r
    unfold inW at ih ⊢
    rw [List.map_cons, List.any_cons, List.any_cons, ih, h w]
theorem inA_of {K : PySem.W.Frag} {H : Hp} {v : V} {d : PyData} {p : Addr} {ws : List Str} {Q : VK} (hd : Dp K H v d) (g : gp d = true) (hp : SqT K H p (ws.map V.str)) (hs : SeqAt.shaped (.tuple (ws.map PyData.str)) = true) (q : Q (.bl (inW d ws)) H) : rInA K v (.ref p) H Q := by
  cases hd with
  | non => exact .inl ⟨p, _, rfl, .inr hp, rfl, flat_strs ws, by rw [← inW_flat (v := .non) (d := .none) (fun s => rfl)] at q; exact q⟩
  | bl b => exact .inl ⟨p, _, rfl, .inr hp, rfl, flat_strs ws, by rw [← inW_flat (v := .bl b) (d := .bool b) (fun s => rfl)] at q; exact q⟩
  | int i => exact .inl ⟨p, _, rfl, .inr hp, rfl, flat_strs ws, by rw [← inW_flat (v := .int i) (d := .int i) (fun s => rfl)] at q; exact q⟩
  | str z => exact .inl ⟨p, _, rfl, .inr hp, rfl, flat_strs ws, by rw [← inW_flat (v := .str z) (d := .str z) (fun s => rfl)] at q; exact q⟩
  | lst h a => exact .inr ⟨_, _, .lst h a, .tup hp (dpa_strs ws), g, hs, by rw [inW_deep (fun s => by simp [PyData.eqv, eqS])]; exact q⟩
  | tup h a => exact .inr ⟨_, _, .tup h a, .tup hp (dpa_strs ws), g, hs, by rw [inW_deep (fun s => by simp [PyData.eqv, eqS])]; exact q⟩
theorem th_dp {K : PySem.W.Frag} {H : Hp} {v : V} {d : PyData} (h : Dp K H v d) (g : gp d = true) : Th K H v := by
  cases h with
  | str z => exact .inl ⟨z, rfl, of_decide_eq_true g⟩
  | non => exact .inr ⟨(fun z e => nomatch e), _, .base .non, by decide +kernel⟩
  | bl b => exact .inr ⟨(fun z e => nomatch e), _, .base (.bl b), by decide +kernel⟩
  | int i => exact .inr ⟨(fun z e => nomatch e), _, .base (.int i), by decide +kernel⟩
  | lst h _ => exact .inr ⟨(fun z e => nomatch e), _, ty_lst h, by decide +kernel⟩
  | tup h _ => exact .inr ⟨(fun z e => nomatch e), _, ty_tup h, by decide +kernel⟩
def sgD : PyData → Bool
  | .str z => sgV (.str z)
  | _ => false
theorem sg_dp {K : PySem.W.Frag} {H : Hp} {v : V} {d : PyData} (h : Dp K H v d) : sgV v = sgD d := by
  cases h <;> rfl
/-! ### entries -/
def manyD : PyData → Bool
  | .int i => decide (1 ≤ i) && decide (i ≤ 9)
  | _ => false
abbrev lets : List Str := [PySem.Str.ofString "n", PySem.Str.ofString "e", PySem.Str.ofString "s", PySem.Str.ofString "w"]
def letD (d : PyData) : Bool := inW d lets
abbrev wAlone : List Str := [PySem.Str.ofString "left", PySem.Str.ofString "right", PySem.Str.ofString "back", PySem.Str.ofString "bump", PySem.Str.ofString "bare", PySem.Str.ofString "swap"]
abbrev wFace : List Str := [PySem.Str.ofString "left", PySem.Str.ofString "right", PySem.Str.ofString "back", PySem.Str.ofString "go", PySem.Str.ofString "bump", PySem.Str.ofString "spy"]
def pairD (w p : PyData) : Bool := if eqS w "face" = true then letD p else if eqS w "go" = true then manyD p else eqS w "sign" && sgD p
def entL : List PyData → Bool
  | [a] => inW a wAlone
  | [a, b] => pairD a b
  | [a, b, c] => eqS a "spy" && (manyD b && sgD c)
  | _ => false
def entD (d : PyData) : Bool := match seqD d with
  | some ds => entL ds
  | none => false
/-- a thing in the place of an entry -/
def ge (d : PyData) : Bool := match seqD d with
  | some ds => decide (ds.length ≤ 20) && ds.all gp
  | none => gp d
/-! ### letters, steps -/
def cd : Fin 4 → Nat
  | 0 => 110
  | 1 => 101
  | 2 => 115
  | 3 => 119
def Lt (l : Fin 4) : Str := ⟨#[cd l]⟩
abbrev nesw : Str := PySem.Str.ofString "nesw"
theorem lt0 : PySem.Str.ofString "n" = Lt 0 := by decide +kernel
theorem lt1 : PySem.Str.ofString "e" = Lt 1 := by decide +kernel
theorem lt2 : PySem.Str.ofString "s" = Lt 2 := by decide +kernel
theorem lt3 : PySem.Str.ofString "w" = Lt 3 := by decide +kernel
theorem ltd : ∀ l m : Fin 4, decide (V.str (Lt l) = V.str (Lt m)) = decide (l = m) := by decide +kernel
theorem occ : ∀ l : Fin 4, Builtin.Str.occurrences nesw (Lt l) 0 nesw.length 1 = [l.val] := by decide +kernel
theorem nesw_len : nesw.length ≤ sizeLine := by decide +kernel
theorem nesw_at : ∀ (i : Nat) (h : i < 4) (c : Nat), nesw.cps[i]? = some c → (⟨#[c]⟩ : Str) = Lt ⟨i, h⟩
  | 0, _, c, e => by cases e; rfl
  | 1, _, c, e => by cases e; rfl
  | 2, _, c, e => by cases e; rfl
  | 3, _, c, e => by cases e; rfl
def dx : Fin 4 → Int
  | 0 => 0
  | 1 => 1
  | 2 => 0
  | 3 => -1
def dy : Fin 4 → Int
  | 0 => 1
  | 1 => 0
  | 2 => -1
  | 3 => 0
theorem dxb : ∀ l : Fin 4, -(2 ^ 64) < dx l ∧ dx l < 2 ^ 64 := by decide +kernel
theorem dyb : ∀ l : Fin 4, -(2 ^ 64) < dy l ∧ dy l < 2 ^ 64 := by decide +kernel
/-! ### lots -/
def tr (a : Fin 8) (l : Fin 4) : Fin 4 := if a.val < 4 then ⟨(a.val + l.val) % 4, by omega⟩ else ⟨(a.val + 4 - l.val) % 4, by omega⟩
def un (a : Fin 8) : Fin 8 := if a.val < 4 then ⟨(4 - a.val) % 4, by omega⟩ else a
def bo (a b : Fin 8) : Fin 8 :=
  let q := if a.val < 4 then (a.val + b.val) % 4 else (a.val + 8 - b.val) % 4
  if (decide (a.val < 4)) = (decide (b.val < 4)) then ⟨q % 4, by omega⟩ else ⟨q % 4 + 4, by omega⟩
theorem at_mir : ∀ (a : Fin 8) (l : Fin 4), (4 : Int) ≤ a.val → atI nesw.cps.toList (((a.val : Int) - (l.val : Int)) % 4) = some (cd (tr a l)) := by decide +kernel
theorem at_tur : ∀ (a : Fin 8) (l : Fin 4), ¬ (4 : Int) ≤ a.val → atI nesw.cps.toList (((a.val : Int) + (l.val : Int)) % 4) = some (cd (tr a l)) := by decide +kernel
theorem un_mir : ∀ a : Fin 8, (4 : Int) ≤ a.val → ((un a).val : Int) = a.val := by decide +kernel
theorem un_tur : ∀ a : Fin 8, ¬ (4 : Int) ≤ a.val → ((un a).val : Int) = (-(a.val : Int)) % 4 := by decide +kernel
theorem bo_1 : ∀ a b : Fin 8, (4 : Int) ≤ a.val → (4 : Int) ≤ b.val → ((bo a b).val : Int) = ((a.val : Int) - b.val) % 4 := by decide +kernel
theorem bo_2 : ∀ a b : Fin 8, (4 : Int) ≤ a.val → ¬ (4 : Int) ≤ b.val → ((bo a b).val : Int) = ((a.val : Int) - b.val) % 4 + 4 := by decide +kernel
theorem bo_3 : ∀ a b : Fin 8, ¬ (4 : Int) ≤ a.val → (4 : Int) ≤ b.val → ((bo a b).val : Int) = ((a.val : Int) + b.val) % 4 + 4 := by decide +kernel
theorem bo_4 : ∀ a b : Fin 8, ¬ (4 : Int) ≤ a.val → ¬ (4 : Int) ≤ b.val → ((bo a b).val : Int) = ((a.val : Int) + b.val) % 4 := by decide +kernel
/-! ### entries that are right -/
inductive Ent where
  | face (l : Fin 4)
  | turn (q : Fin 3)
  | go (n : Fin 9)
  | bump
  | sign (z : Str)
  | bare
  | spy (n : Fin 9) (z : Str)
  | swap
def ws : Fin 10 → Str
  | 0 => PySem.Str.ofString "face"
  | 1 => PySem.Str.ofString "left"
  | 2 => PySem.Str.ofString "right"
  | 3 => PySem.Str.ofString "back"
  | 4 => PySem.Str.ofString "go"
  | 5 => PySem.Str.ofString "bump"
  | 6 => PySem.Str.ofString "sign"
  | 7 => PySem.Str.ofString "bare"
  | 8 => PySem.Str.ofString "spy"
  | 9 => PySem.Str.ofString "swap"
theorem wsd : ∀ i j : Fin 10, decide (V.str (ws i) = V.str (ws j)) = decide (i = j) := by decide +kernel
theorem ws_ok : ∀ i : Fin 10, PyData.strOk (ws i) = true ∧ (ws i).length ≤ 12 := by decide +kernel
namespace Ent
def kind : Ent → Fin 10
  | face _ => 0
  | turn q => ⟨q.val + 1, by omega⟩
  | go _ => 4
  | bump => 5
  | sign _ => 6
  | bare => 7
  | spy _ _ => 8
  | swap => 9
def rest : Ent → List PyData
  | face l => [.str (Lt l)]
  | go n => [.int ((n.val : Int) + 1)]
  | sign z => [.str z]
  | spy n z => [.int ((n.val : Int) + 1), .str z]
  | _ => []
def parts (e : Ent) : List PyData := .str (ws e.kind) :: e.rest
def tup (e : Ent) : PyData := .tuple e.parts
def lst (e : Ent) : PyData := .list e.parts
def need : Ent → Bool
  | turn _ => true
  | go _ => true
  | bump => true
  | spy _ _ => true
  | _ => false
def isFace : Ent → Bool
  | face _ => true
  | _ => false
def isSwap : Ent → Bool
  | swap => true
  | _ => false
def sgS (z : Str) : Bool := nmL z.cps.toList || loL z.cps.toList
def ok : Ent → Prop
  | sign z => z.length ≤ 12 ∧ PyData.strOk z = true ∧ sgS z = true
  | spy _ z => z.length ≤ 12 ∧ PyData.strOk z = true ∧ sgS z = true
  | _ => True
theorem face_iff (e : Ent) : e.isFace = decide (e.kind = 0) := by
  cases e with
  | turn q => match q with
    | 0 => rfl
    | 1 => rfl
    | 2 => rfl
  | _ => rfl
theorem swap_iff (e : Ent) : e.isSwap = decide (e.kind = 9) := by
  cases e with
  | turn q => match q with
    | 0 => rfl
    | 1 => rfl
    | 2 => rfl
  | _ => rfl
end Ent
/-- what comes ahead has a face where one is needed -/
def Right (es : List Ent) : Prop := ∀ (i : Nat) (e : Ent), es[i]? = some e → e.need = true → (es.take i).any Ent.isFace = true
theorem Right.nil : Right [] := fun i e h => by cases h
theorem Right.snoc {es : List Ent} {e : Ent} (h : Right es) (he : e.need = true → es.any Ent.isFace = true) : Right (es ++ [e]) := fun i x hx hn => by
  by_cases hi : i < es.length
  · rw [List.getElem?_append_left hi] at hx
    rw [List.take_append_of_le_length (Nat.le_of_lt hi)]
    exact h i x hx hn
  · have hl := (List.getElem?_eq_some_iff.mp hx).1
    rw [List.length_append] at hl
    have : i = es.length := by
      have : [e].length = 1 := rfl
      omega
    rw [this, List.getElem?_append_right (Nat.le_refl _), Nat.sub_self] at hx
    cases hx
    rw [this, List.take_left]
    exact he hn
def swaps (es : List Ent) : Nat := (es.filter Ent.isSwap).length
theorem swaps_snoc (es : List Ent) (e : Ent) : swaps (es ++ [e]) = swaps es + (if e.isSwap = true then 1 else 0) := by
  unfold swaps
  rw [List.filter_append, List.length_append, List.filter_cons, List.filter_nil]
  split <;> rfl
theorem swaps_le (es : List Ent) : swaps es ≤ es.length := List.length_filter_le _ _
/-! ### where a walker stands -/
structure Wk where
  leg : Nat
  x : Int
  y : Int
  look : Option (Fin 4)
def W0 : Wk := ⟨0, 0, 0, none⟩
def tq : Fin 3 → Fin 4
  | 0 => 3
  | 1 => 1
  | 2 => 2
def nlook (a : Fin 8) (look : Option (Fin 4)) : Ent → Option (Fin 4)
  | .face l => some (tr a l)
  | .turn q => look.map (fun l => l + tq q)
  | _ => look
def nx (p : Int) (look : Option (Fin 4)) : Ent → Int
  | .go n => match look with
    | some l => p + ((n.val : Int) + 1) * dx l
    | none => p
  | _ => p
def ny (p : Int) (look : Option (Fin 4)) : Ent → Int
  | .go n => match look with
    | some l => p + ((n.val : Int) + 1) * dy l
    | none => p
  | _ => p
def nleg (n : Nat) (e : Ent) : Nat := if e.isSwap = true then n + 1 else n
def next (lots : List (Fin 8)) (p : Wk) (e : Ent) : Wk := ⟨nleg p.leg e, nx p.x p.look e, ny p.y p.look e, nlook (lots.getD (nleg p.leg e) 0) p.look e⟩
@[irreducible] def wat (lots : List (Fin 8)) (es : List Ent) (i : Nat) : Wk := (es.take i).foldl (next lots) W0
theorem wat_zero (lots : List (Fin 8)) (es : List Ent) : wat lots es 0 = W0 := by
  unfold wat
  rfl
theorem wat_succ {lots : List (Fin 8)} {es : List Ent} {i : Nat} {e : Ent} (h : es[i]? = some e) : wat lots es (i + 1) = next lots (wat lots es i) e := by
  unfold wat
  rw [List.take_add_one, h, List.foldl_append]
  rfl
theorem wat_look (lots : List (Fin 8)) (es : List Ent) : ∀ i, (wat lots es i).look.isSome = (es.take i).any Ent.isFace
  | 0 => by rw [wat_zero]; rfl
  | i + 1 => by
    by_cases hi : i < es.length
    · have h : es[i]? = some es[i] := List.getElem?_eq_getElem hi
      rw [wat_succ h, List.take_add_one, h, List.any_append, ← wat_look lots es i]
      show (nlook _ (wat lots es i).look es[i]).isSome = ((wat lots es i).look.isSome || (es[i].isFace || false))
      cases es[i] with
      | face l => cases (wat lots es i).look <;> rfl
      | turn q => cases (wat lots es i).look <;> rfl
      | _ => cases (wat lots es i).look <;> rfl
    · have e1 : es.take (i + 1) = es.take i := by rw [List.take_of_length_le (by omega), List.take_of_length_le (by omega)]
      have := wat_look lots es i
      unfold wat at this ⊢
      rw [e1]
      exact this
theorem wat_leg (lots : List (Fin 8)) (es : List Ent) : ∀ i, (wat lots es i).leg = swaps (es.take i)
  | 0 => by rw [wat_zero]; rfl
  | i + 1 => by
    by_cases hi : i < es.length
    · have h : es[i]? = some es[i] := List.getElem?_eq_getElem hi
      rw [wat_succ h, List.take_add_one, h]
      show nleg (wat lots es i).leg es[i] = swaps (es.take i ++ [es[i]])
      rw [swaps_snoc, wat_leg lots es i]
      unfold nleg
      split <;> rfl
    · have e1 : es.take (i + 1) = es.take i := by rw [List.take_of_length_le (by omega), List.take_of_length_le (by omega)]
      have := wat_leg lots es i
      unfold wat at this ⊢
      rw [e1]
      exact this
theorem swaps_take (es : List Ent) (i : Nat) : swaps (es.take i) ≤ swaps es := by
  unfold swaps
  exact List.Sublist.length_le ((List.take_sublist i es).filter _)
def lk : Option (Fin 4) → Str
  | some l => Lt l
  | none => PySem.Str.ofString ""
def plD (p : Wk) : PyData := .tuple [.int p.x, .int p.y]
def posD (p : Wk) : PyData := .tuple [plD p, .str (lk p.look)]
def trackL (lots : List (Fin 8)) (es : List Ent) (n : Nat) : List PyData := (List.range n).map fun i => posD (wat lots es (i + 1))
theorem trackL_succ (lots : List (Fin 8)) (es : List Ent) (n : Nat) : trackL lots es (n + 1) = trackL lots es n ++ [posD (wat lots es (n + 1))] := by
  unfold trackL
  rw [List.range_succ, List.map_append]
  rfl
def trackD (lots : List (Fin 8)) (es : List Ent) : PyData := .tuple (trackL lots es es.length)
/-- rows of entries, each a list or a tuple -/
def Rows (K : PySem.W.Frag) (H : Hp) (xs : List V) (es : List Ent) : Prop := ∃ ds, DpAll K H xs ds ∧ ds.map seqD = es.map fun e => some e.parts
theorem Rows.same {K : PySem.W.Frag} {H H' : Hp} {xs : List V} {es : List Ent} (h : Rows K H xs es) (s : Same H H') : Rows K H' xs es := by
  obtain ⟨ds, h1, h2⟩ := h
  exact ⟨ds, dpa_same s _ _ h1, h2⟩
theorem Rows.len {K : PySem.W.Frag} {H : Hp} {xs : List V} {es : List Ent} (h : Rows K H xs es) : xs.length = es.length := by
  obtain ⟨ds, h1, h2⟩ := h
  have := congrArg List.length h2
  rw [List.length_map, List.length_map] at this
  rw [dpa_len ds xs h1, this]
/-- one entry, a list or a tuple -/
def EntAt (K : PySem.W.Frag) (H : Hp) (v : V) (e : Ent) : Prop := ∃ a xs, v = .ref a ∧ SqA K H a (.str (ws e.kind) :: xs) ∧ DpAll K H xs e.rest
theorem ent_at {K : PySem.W.Frag} {H : Hp} {v : V} {d : PyData} {e : Ent} (h : Dp K H v d) (hs : seqD d = some e.parts) : EntAt K H v e := by
  obtain ⟨a, xs, rfl, hq, ha⟩ := seq_dp h hs
  cases ha with
  | cons h1 h2 =>
    cases h1
    exact ⟨a, _, rfl, hq, h2⟩
theorem EntAt.same {K : PySem.W.Frag} {H H' : Hp} {v : V} {e : Ent} (h : EntAt K H v e) (s : Same H H') : EntAt K H' v e := by
  obtain ⟨a, xs, h1, h2, h3⟩ := h
  exact ⟨a, xs, h1, h2.elim (fun h => .inl (s.seq h)) (fun h => .inr (sqt_same s h)), dpa_same s _ _ h3⟩
theorem Rows.at_ {K : PySem.W.Frag} {H : Hp} {xs : List V} {es : List Ent} (h : Rows K H xs es) {i : Nat} {v : V} (hv : xs[i]? = some v) : ∃ e, es[i]? = some e ∧ EntAt K H v e := by
  obtain ⟨ds, h1, h2⟩ := h
  obtain ⟨d, fd, gd⟩ := dpa_at ds xs h1 i v hv
  have e1 : (ds.map seqD)[i]? = some (seqD d) := by rw [List.getElem?_map, fd]; rfl
  rw [h2, List.getElem?_map] at e1
  cases e2 : es[i]? with
  | none => rw [e2] at e1; cases e1
  | some e =>
    rw [e2] at e1
    exact ⟨e, rfl, ent_at gd (Option.some.inj e1).symm⟩
theorem rows_tup {K : PySem.W.Frag} {H : Hp} {xs : List V} {es : List Ent} (h : DpAll K H xs (es.map Ent.tup)) : Rows K H xs es := ⟨_, h, by rw [List.map_map]; rfl⟩
--@@SPLIT
def whD : PyData → Bool
  | .int _ => true
  | _ => false
def spWholeD (K : PySem.W.Frag) : Sp := fun vs H Q _ => ∃ (v : V) (d : PyData), vs = [v] ∧ Dp K H v d ∧ Q (.bl (whD d)) H
theorem ok_is_wholeD (T : Top w K mg) : FnOk P w K mg base CX0 1 T.a_is_whole T.fd_is_whole ["thing"] (spWholeD K) := by
  refine T.F_is_whole.ok sc_is_whole (fun vs H Q E h => ?_) (fun cdv A outer s H vs Q E hr h => ?_)
  · obtain ⟨v, d, rfl, _⟩ := h
    rfl
  · obtain ⟨v, d, rfl, hd, q⟩ := h
    refine ⟨_, (pss_one (ps_ret (pe_and (pe_callB call_isi (by rfl) T.m_isinstance (by decide +kernel) (pa_cons (pv 0) (pa_cons (pe_bltn (v := .ty "int") (by rfl) T.m_int (by decide +kernel) rfl) pa_nil))) (pe_one (pe_not (pe_callB call_isi (by rfl) T.m_isinstance (by decide +kernel) (pa_cons (pv 0) (pa_cons (pe_bltn (v := .ty "bool") (by rfl) T.m_bool (by decide +kernel) rfl) pa_nil)))))))), ?_⟩
    cases hd with
    | non => exact ⟨.non, rfl, _, _, _, _, false, rfl, .ty _, .base .non, kit_ty (by decide +kernel), _, rfl, iteF q⟩
    | bl b => exact ⟨.bl b, rfl, _, _, _, _, true, rfl, .ty _, .base (.bl b), kit_ty (by decide +kernel), _, rfl, iteT ⟨.bl b, rfl, _, _, _, _, true, rfl, .ty _, .base (.bl b), kit_ty (by decide +kernel), _, rfl, q⟩⟩
    | int i => exact ⟨.int i, rfl, _, _, _, _, true, rfl, .ty _, .base (.int i), kit_ty (by decide +kernel), _, rfl, iteT ⟨.int i, rfl, _, _, _, _, false, rfl, .ty _, .base (.int i), kit_ty (by decide +kernel), _, rfl, q⟩⟩
    | str z => exact ⟨.str z, rfl, _, _, _, _, false, rfl, .ty _, .base (.str z), kit_ty (by decide +kernel), _, rfl, iteF q⟩
    | lst h _ => exact ⟨_, rfl, _, _, _, _, false, rfl, .ty _, ty_lst h, kit_ty (by decide +kernel), _, rfl, iteF q⟩
    | tup h _ => exact ⟨_, rfl, _, _, _, _, false, rfl, .ty _, ty_tup h, kit_ty (by decide +kernel), _, rfl, iteF q⟩
/-! ### the program's reading of an entry -/
def Keys : List DictEntry → List Str → Prop
  | [], [] => True
  | e :: r, k :: ks => (∃ t, e.key = .str k t) ∧ Keys r ks
  | _, _ => False
theorem find_keys (z : Str) : ∀ (l : List DictEntry) (ks : List Str), Keys l ks → (l.find? (·.key.isStr z)).isSome = (ks.any fun s => s == z) ∧ l.any (·.refKey) = false
  | [], [], _ => ⟨rfl, rfl⟩
  | e :: r, k :: ks, h => by
    obtain ⟨⟨t, hk⟩, hr⟩ := h
    obtain ⟨i1, i2⟩ := find_keys z r ks hr
    have e1 : e.key.isStr z = (k == z) := by rw [hk]; rfl
    have e2 : e.refKey = false := by unfold DictEntry.refKey; rw [hk]
    constructor
    · rw [List.find?_cons, e1, List.any_cons]
      cases k == z with
      | true => rfl
      | false => exact i1
    · rw [List.any_cons, e2, i2]
      rfl
  | [], _ :: _, h => h.elim
  | _ :: _, [], h => h.elim
theorem ns_keys {K : PySem.W.Frag} {a : Addr} {es : Array DictEntry} {n : Nat} {ks : List Str} (h : K.lookup a = some ⟨.type "dict", none, .dict es n, #[]⟩) (hk : Keys es.toList ks) (z : Str) : ∃ r, PySem.W.nsIn K a z = some r ∧ r.isSome = (ks.any fun s => s == z) := by
  obtain ⟨i1, i2⟩ := find_keys z es.toList ks hk
  unfold PySem.W.nsIn
  rw [h]
  cases e : es.toList.find? (·.key.isStr z) with
  | some x =>
    rw [e] at i1
    refine ⟨some x.val, ?_, i1⟩
    simp only [e]
  | none =>
    rw [e] at i1
    refine ⟨none, ?_, i1⟩
    simp only [e, i2]
    rfl
def spPart (K : PySem.W.Frag) (f : PyData → Bool) : Sp := fun vs H Q _ => ∃ (v : V) (d : PyData), vs = [v] ∧ gp d = true ∧ Dp K H v d ∧ ∀ H', Same H H' → Q (.bl (f d)) H'
theorem ok_is_letter (T : Top w K mg) : FnOk P w K mg base CX0 1 T.a_is_letter T.fd_is_letter ["thing"] (spPart K letD) := by
  refine T.F_is_letter.ok sc_is_letter (fun vs H Q E h => ?_) (fun cdv A outer s H vs Q E hr h => ?_)
  · obtain ⟨v, d, rfl, _⟩ := h
    rfl
  · obtain ⟨v, d, rfl, g, hd, q⟩ := h
    refine ⟨_, (pss_one (ps_ret (pe_and (pe_callB call_isi (by rfl) T.m_isinstance (by decide +kernel) (pa_cons (pv 0) (pa_cons (pe_bltn (v := .ty "str") (by rfl) T.m_str (by decide +kernel) rfl) pa_nil))) (pe_one (pe_cmpR (op_in_kd T.kd_STEPS) (pv 0) (pe_glob (v := .ref T.a_STEPS) (by rfl) T.g_STEPS rfl) (by rfl)))))), ?_⟩
    refine ⟨v, rfl, _, _, _, _, _, rfl, .ty _, ty_dp hd, kit_ty (kit_str d), _, rfl, ?_⟩
    have q := q H (Same.refl H)
    cases hd with
    | str z =>
      obtain ⟨r, h1, h2⟩ := T.ns_STEPS z
      refine iteT ⟨.str z, rfl, z, r, rfl, rfl, h1, ?_⟩
      rw [h2]
      exact q
    | non => exact iteF q
    | bl b => exact iteF q
    | int i => exact iteF q
    | lst h _ => exact iteF q
    | tup h _ => exact iteF q
theorem ok_is_many (T : Top w K mg) : FnOk P w K mg base CX0 2 T.a_is_many T.fd_is_many ["thing"] (spPart K manyD) := by
  have G_is_whole := ok_is_wholeD (P := P) (w := w) (base := base) T
  refine T.F_is_many.ok sc_is_many (fun vs H Q E h => ?_) (fun cdv A outer s H vs Q E hr h => ?_)
  · obtain ⟨v, d, rfl, _⟩ := h
    rfl
  · obtain ⟨v, d, rfl, g, hd, q⟩ := h
    refine ⟨_, (pss_one (ps_ret (pe_and (pe_call G_is_whole hr (by rfl) T.g_is_whole T.F_is_whole.kp T.b_is_whole .nil pass0 (pa_cons (pv 0) pa_nil)) (pe_one (pe_chain op_le op_le pe_int (pv 0) pe_int))))), ?_⟩
    refine ⟨v, rfl, v, d, rfl, hd, _, rfl, ?_⟩
    have q := q H (Same.refl H)
    cases hd with
    | int i =>
      refine iteT ⟨.int i, rfl, _, _, rfl, rfl, _, rfl, ite2 (fun e => ?_) (fun e => ?_)⟩
      · refine ⟨_, _, rfl, rfl, ?_⟩
        have e2 : manyD (.int i) = decide (i ≤ 9) := by
          show (decide (1 ≤ i) && decide (i ≤ 9)) = _
          rw [e]
          rfl
        rw [e2] at q
        exact q
      · have e2 : manyD (.int i) = false := by
          show (decide (1 ≤ i) && decide (i ≤ 9)) = _
          rw [Bool.eq_false_iff.mpr e]
          rfl
        rw [e2] at q
        exact q
    | non => exact iteF q
    | bl b => exact iteF q
    | str z => exact iteF q
    | lst h _ => exact iteF q
    | tup h _ => exact iteF q
def spPair (K : PySem.W.Frag) : Sp := fun vs H Q _ => ∃ (v u : V) (d c : PyData), vs = [v, u] ∧ gp d = true ∧ gp c = true ∧ Dp K H v d ∧ Dp K H u c ∧ ∀ H', Same H H' → Q (.bl (pairD d c)) H'
theorem ok_is_pair_entry (T : Top w K mg) : FnOk P w K mg base CX0 4 T.a_is_pair_entry T.fd_is_pair_entry ["word", "part"] (spPair K) := by
  have G_is_letter := ok_is_letter (P := P) (w := w) (base := base) T
  have G_is_many := ok_is_many (P := P) (w := w) (base := base) T
  have G_is_sign := ok_is_sign (P := P) (w := w) (base := base) T
  refine T.F_is_pair_entry.ok sc_is_pair_entry (fun vs H Q E h => ?_) (fun cdv A outer s H vs Q E hr h => ?_)
  · obtain ⟨v, u, d, c, rfl, _⟩ := h
    rfl
  · obtain ⟨v, u, d, c, rfl, gd, gc, hd, hc, q⟩ := h
    refine ⟨_, (pss_cons (ps_if (pt_cmpR (op_eqA hr.units) (pv 0) pe_str (nomark _)) (pss_one (ps_ret (pe_call G_is_letter (hr.mono (by decide)) (by rfl) T.g_is_letter T.F_is_letter.kp T.b_is_letter .nil pass0 (pa_cons (pv 1) pa_nil)))) pss_nil)
      (pss_cons (ps_if (pt_cmpR (op_eqA hr.units) (pv 0) pe_str (nomark _)) (pss_one (ps_ret (pe_call G_is_many (hr.mono (by decide)) (by rfl) T.g_is_many T.F_is_many.kp T.b_is_many .nil pass0 (pa_cons (pv 1) pa_nil)))) pss_nil)
      (pss_one (ps_ret (pe_and (pe_cmpR (op_eqA hr.units) (pv 0) pe_str (nomark _)) (pe_one (pe_call G_is_sign hr (by rfl) T.g_is_sign T.F_is_sign.kp T.b_is_sign .nil pass0 (pa_cons (pv 1) pa_nil)))))))), ?_⟩
    refine ⟨v, rfl, eqA_of hd gd (by decide +kernel) ⟨_, rfl, ite2 (fun e1 => ?_) (fun e1 => ?_)⟩⟩
    · rw [show pairD d c = letD c from if_pos e1] at q
      exact ⟨u, rfl, u, c, rfl, gc, hc, q⟩
    refine ⟨v, rfl, eqA_of hd gd (by decide +kernel) ⟨_, rfl, ite2 (fun e2 => ?_) (fun e2 => ?_)⟩⟩
    · rw [show pairD d c = manyD c by unfold pairD; rw [if_neg e1, if_pos e2]] at q
      exact ⟨u, rfl, u, c, rfl, gc, hc, q⟩
    rw [show pairD d c = (eqS d "sign" && sgD c) by unfold pairD; rw [if_neg e1, if_neg e2]] at q
    refine ⟨v, rfl, eqA_of hd gd (by decide +kernel) ⟨_, rfl, ite2 (fun e3 => ?_) (fun e3 => ?_)⟩⟩
    · rw [e3] at q
      refine ⟨u, rfl, u, rfl, th_dp hc gc, fun H' sm => ?_⟩
      rw [sg_dp hc]
      exact q H' sm
    · rw [Bool.eq_false_iff.mpr e3] at q
      exact q H (Same.refl H)
theorem ge_parts {d : PyData} {ds : List PyData} (h : ge d = true) (e : seqD d = some ds) : ds.length ≤ 20 ∧ ∀ x ∈ ds, gp x = true := by
  unfold ge at h
  rw [e] at h
  obtain ⟨h1, h2⟩ := Bool.and_eq_true_iff.mp h
  exact ⟨of_decide_eq_true h1, List.all_eq_true.mp h2⟩
/-- the parts of a list or tuple, whichever it is -/
theorem len1 {α : Type} : ∀ l : List α, l.length = 1 → ∃ a, l = [a]
  | [a], _ => ⟨a, rfl⟩
  | [], h => by cases h
  | _ :: _ :: _, h => by simp at h
theorem len2 {α : Type} : ∀ l : List α, l.length = 2 → ∃ a b, l = [a, b]
  | [a, b], _ => ⟨a, b, rfl⟩
  | [], h => by cases h
  | [_], h => by simp at h
  | _ :: _ :: _ :: _, h => by simp at h
theorem len3 {α : Type} : ∀ l : List α, l.length = 3 → ∃ a b c, l = [a, b, c]
  | [a, b, c], _ => ⟨a, b, c, rfl⟩
  | [], h => by cases h
  | [_], h => by simp at h
  | [_, _], h => by simp at h
  | _ :: _ :: _ :: _ :: _, h => by simp at h
theorem ent_else : ∀ ds : List PyData, ¬ ds.length = 1 → ¬ ds.length = 2 → ¬ ds.length = 3 → entL ds = false
  | [], _, _, _ => rfl
  | [_], h, _, _ => absurd rfl h
  | [_, _], _, h, _ => absurd rfl h
  | [_, _, _], _, _, h => absurd rfl h
  | _ :: _ :: _ :: _ :: _, _, _, _ => rfl
theorem dpa1 {K : PySem.W.Frag} {H : Hp} {xs : List V} {a : PyData} (h : DpAll K H xs [a]) : ∃ x, xs = [x] ∧ Dp K H x a := by
  cases h with
  | cons h1 h2 => cases h2; exact ⟨_, rfl, h1⟩
theorem dpa2 {K : PySem.W.Frag} {H : Hp} {xs : List V} {a b : PyData} (h : DpAll K H xs [a, b]) : ∃ x y, xs = [x, y] ∧ Dp K H x a ∧ Dp K H y b := by
  cases h with
  | cons h1 h2 =>
    obtain ⟨y, rfl, h3⟩ := dpa1 h2
    exact ⟨_, y, rfl, h1, h3⟩
theorem dpa3 {K : PySem.W.Frag} {H : Hp} {xs : List V} {a b c : PyData} (h : DpAll K H xs [a, b, c]) : ∃ x y z, xs = [x, y, z] ∧ Dp K H x a ∧ Dp K H y b ∧ Dp K H z c := by
  cases h with
  | cons h1 h2 =>
    obtain ⟨y, z, rfl, h3, h4⟩ := dpa2 h2
    exact ⟨_, y, z, rfl, h1, h3, h4⟩
def spEntry (K : PySem.W.Frag) : Sp := fun vs H Q _ => ∃ (v : V) (d : PyData), vs = [v] ∧ ge d = true ∧ Dp K H v d ∧ ∀ H', Same H H' → Q (.bl (entD d)) H'
theorem ok_is_entry (T : Top w K mg) : FnOk P w K mg base CX0 5 T.a_is_entry T.fd_is_entry ["thing"] (spEntry K) := by
  have G_is_pair_entry := ok_is_pair_entry (P := P) (w := w) (base := base) T
  have G_is_many := ok_is_many (P := P) (w := w) (base := base) T
  have G_is_sign := ok_is_sign (P := P) (w := w) (base := base) T
  refine T.F_is_entry.ok sc_is_entry (fun vs H Q E h => ?_) (fun cdv A outer s H vs Q E hr h => ?_)
  · obtain ⟨v, d, rfl, _⟩ := h
    rfl
  · obtain ⟨v, d, rfl, g, hd, q⟩ := h
    refine ⟨_, (pss_cons (ps_if (pt_not (pt_val (pe_callB call_isiT (by rfl) T.m_isinstance (by decide +kernel) (pa_cons (pv 0) (pa_cons (pe_tup (pa_cons (pe_bltn (v := .ty "tuple") (by rfl) T.m_tuple (by decide +kernel) rfl) (pa_cons (pe_bltn (v := .ty "list") (by rfl) T.m_list (by decide +kernel) rfl) pa_nil))) pa_nil))))) (pss_one (ps_ret pe_bl)) pss_nil)
      (pss_cons (ps_if (pt_cmpR op_eq (pe_callB call_len_seq (by rfl) T.m_len (by decide +kernel) (pa_cons (pv 0) pa_nil)) pe_int (nomark _)) (pss_one (ps_ret (pe_cmpR (op_inA (units65 hr)) (pe_ix ix_seq (pv 0) pe_int (fun _ _ => rfl)) (pe_glob (v := .ref T.a_WORDS_ALONE) (by rfl) T.g_WORDS_ALONE rfl) (by rfl)))) pss_nil)
      (pss_cons (ps_if (pt_cmpR op_eq (pe_callB call_len_seq (by rfl) T.m_len (by decide +kernel) (pa_cons (pv 0) pa_nil)) pe_int (nomark _)) (pss_one (ps_ret (pe_call G_is_pair_entry hr (by rfl) T.g_is_pair_entry T.F_is_pair_entry.kp T.b_is_pair_entry .nil pass0 (pa_cons (pe_ix ix_seq (pv 0) pe_int (fun _ _ => rfl)) (pa_cons (pe_ix ix_seq (pv 0) pe_int (fun _ _ => rfl)) pa_nil))))) pss_nil)
      (pss_one (ps_ret (pe_and (pe_cmpR op_eq (pe_callB call_len_seq (by rfl) T.m_len (by decide +kernel) (pa_cons (pv 0) pa_nil)) pe_int (nomark _)) (pe_and (pe_cmpR (op_eqA hr.units) (pe_ix ix_seq (pv 0) pe_int (fun _ _ => rfl)) pe_str (nomark _)) (pe_and (pe_call G_is_many (hr.mono (by decide)) (by rfl) T.g_is_many T.F_is_many.kp T.b_is_many .nil pass0 (pa_cons (pe_ix ix_seq (pv 0) pe_int (fun _ _ => rfl)) pa_nil)) (pe_one (pe_call G_is_sign (hr.mono (by decide)) (by rfl) T.g_is_sign T.F_is_sign.kp T.b_is_sign .nil pass0 (pa_cons (pe_ix ix_seq (pv 0) pe_int (fun _ _ => rfl)) pa_nil))))))))))), ?_⟩
    obtain ⟨x, y, k1, k2, exy⟩ := kit_seq d
    refine ⟨v, rfl, by show 2 ≤ sizeLine; decide, fun tp np => ⟨v, tp, _, _, _, _, rfl, upd_same, .cons (.ty _) (.cons (.ty _) .nil), ty_dp (dp_same (same_upd np) d v hd), kit_any2 k1 k2, _, rfl, ?_⟩⟩
    rw [exy]
    have s0 := same_upd (o := .tup [.ty "tuple", .ty "list"]) np
    have hd0 := dp_same s0 d v hd
    cases e : seqD d with
    | none =>
      rw [show entD d = false by unfold entD; rw [e]] at q
      exact iteT (q _ s0)
    | some ds =>
      rw [show entD d = entL ds by unfold entD; rw [e]] at q
      refine iteF ?_
      obtain ⟨hlen, hgp⟩ := ge_parts g e
      obtain ⟨a, xs, rfl, hs, ha⟩ := seq_dp hd0 e
      have lx := dpa_len ds xs ha
      refine ⟨.ref a, rfl, a, xs, rfl, hs, rfl, _, rfl, ?_⟩
      by_cases n1 : ds.length = 1
      · obtain ⟨d1, rfl⟩ := len1 ds n1
        obtain ⟨x1, rfl, h1⟩ := dpa1 ha
        · refine iteDY (decide_eq_true rfl) ⟨.ref a, rfl, ixA (j := 0) hs rfl (inA_of (ws := wAlone) h1 (hgp d1 (by simp)) (T.v_WORDS_ALONE _) (by decide +kernel) (q _ s0))⟩
      refine iteDN (decide_eq_false (fun z => n1 (by have := V.int.inj z; omega))) ?_
      refine ⟨.ref a, rfl, a, xs, rfl, hs, rfl, _, rfl, ?_⟩
      by_cases n2 : ds.length = 2
      · obtain ⟨d1, d2, rfl⟩ := len2 ds n2
        obtain ⟨x1, x2, rfl, h1, h2⟩ := dpa2 ha
        · refine iteDY (decide_eq_true rfl) ⟨.ref a, rfl, ixA (j := 0) hs rfl ⟨.ref a, rfl, ixA (j := 1) hs rfl ⟨x1, x2, d1, d2, rfl, hgp d1 (by simp), hgp d2 (by simp), h1, h2, fun H' sm => q _ (s0.trans sm)⟩⟩⟩
      refine iteDN (decide_eq_false (fun z => n2 (by have := V.int.inj z; omega))) ?_
      refine ⟨.ref a, rfl, a, xs, rfl, hs, rfl, _, rfl, ?_⟩
      by_cases n3 : ds.length = 3
      · obtain ⟨d1, d2, d3, rfl⟩ := len3 ds n3
        obtain ⟨x1, x2, x3, rfl, h1, h2, h3⟩ := dpa3 ha
        · have q : ∀ H', Same H H' → Q (.bl (eqS d1 "spy" && (manyD d2 && sgD d3))) H' := q
          refine iteDY (decide_eq_true rfl) ⟨.ref a, rfl, ixA (j := 0) hs rfl (eqA_of h1 (hgp d1 (by simp)) (by decide +kernel) ⟨_, rfl, ite2 (fun e1 => ?_) (fun e1 => ?_)⟩)⟩
          · rw [e1] at q
            refine ⟨.ref a, rfl, ixA (j := 1) hs rfl ⟨x2, d2, rfl, hgp d2 (by simp), h2, fun H2 s2 => ⟨_, rfl, ite2 (fun e2 => ?_) (fun e2 => ?_)⟩⟩⟩
            · rw [e2] at q
              refine ⟨.ref a, rfl, ixA (j := 2) (hs.same s2) rfl ⟨x3, rfl, th_dp (dp_same s2 _ _ h3) (hgp d3 (by simp)), fun H3 s3 => ?_⟩⟩
              rw [sg_dp h3]
              exact q _ ((s0.trans s2).trans s3)
            · rw [Bool.eq_false_iff.mpr e2] at q
              exact q _ (s0.trans s2)
          · rw [Bool.eq_false_iff.mpr e1] at q
            exact q _ s0
      refine iteDN (decide_eq_false (fun z => n3 (by have := V.int.inj z; omega))) ?_
      rw [ent_else ds n1 n2 n3] at q
      exact q _ s0
theorem many_fin : ∀ n : Fin 9, manyD (.int ((n.val : Int) + 1)) = true := by decide
theorem let_fin : ∀ l : Fin 4, letD (.str (Lt l)) = true := by decide +kernel
theorem ent_L {e : Ent} (h : e.ok) : entL e.parts = true := by
  cases e with
  | face l =>
    show pairD (.str (ws 0)) (.str (Lt l)) = true
    unfold pairD
    rw [if_pos (by decide +kernel)]
    exact let_fin l
  | go n =>
    show pairD (.str (ws 4)) (.int ((n.val : Int) + 1)) = true
    unfold pairD
    rw [if_neg (by decide +kernel), if_pos (by decide +kernel)]
    exact many_fin n
  | sign z =>
    show pairD (.str (ws 6)) (.str z) = true
    unfold pairD
    rw [if_neg (by decide +kernel), if_neg (by decide +kernel)]
    show (eqS (.str (ws 6)) "sign" && Ent.sgS z) = true
    rw [h.2.2, show eqS (.str (ws 6)) "sign" = true by decide +kernel]
    rfl
  | spy n z =>
    show (eqS (.str (ws 8)) "spy" && (manyD (.int ((n.val : Int) + 1)) && Ent.sgS z)) = true
    rw [h.2.2, many_fin n, show eqS (.str (ws 8)) "spy" = true by decide +kernel]
    rfl
  | turn q =>
    have : ∀ q : Fin 3, entL (Ent.turn q).parts = true := by decide +kernel
    exact this q
  | bump => show inW (.str (ws 5)) wAlone = true; decide +kernel
  | bare => show inW (.str (ws 7)) wAlone = true; decide +kernel
  | swap => show inW (.str (ws 9)) wAlone = true; decide +kernel
--@@SPLIT
/-! ### logs that are right, held -/
theorem ws_gp : ∀ i : Fin 10, gp (.str (ws i)) = true := by decide +kernel
theorem seq_entD {d : PyData} {e : Ent} (h : seqD d = some e.parts) (ok : e.ok) : entD d = true := by
  unfold entD
  rw [h]
  exact ent_L ok
theorem parts_gp {e : Ent} (ok : e.ok) : ∀ d ∈ e.parts, gp d = true := by
  intro d hd
  rcases List.mem_cons.mp hd with hd | hd
  · rw [hd]
    have : ∀ i : Fin 10, gp (.str (ws i)) = true := by decide +kernel
    exact this _
  have sg : ∀ {z : Str}, (z.length ≤ 12 ∧ PyData.strOk z = true ∧ Ent.sgS z = true) → gp (.str z) = true := fun h => decide_eq_true (by have := h.1; omega)
  have lt : ∀ l : Fin 4, gp (.str (Lt l)) = true := by decide +kernel
  cases e with
  | face l => rw [List.mem_singleton.mp hd]; exact lt l
  | go n => rw [List.mem_singleton.mp hd]; rfl
  | sign z => rw [List.mem_singleton.mp hd]; exact sg ok
  | spy n z =>
    rcases List.mem_cons.mp hd with hd | hd
    · rw [hd]; rfl
    · rw [List.mem_singleton.mp hd]; exact sg ok
  | turn q => cases hd
  | bump => cases hd
  | bare => cases hd
  | swap => cases hd
theorem plen3 (e : Ent) : e.parts.length ≤ 3 := by
  cases e with
  | face l => exact (show 2 ≤ 3 by decide)
  | turn q => exact (show 1 ≤ 3 by decide)
  | go n => exact (show 2 ≤ 3 by decide)
  | bump => exact (show 1 ≤ 3 by decide)
  | sign z => exact (show 2 ≤ 3 by decide)
  | bare => exact (show 1 ≤ 3 by decide)
  | spy n z => exact (show 3 ≤ 3 by decide)
  | swap => exact (show 1 ≤ 3 by decide)
theorem seq_ge {d : PyData} {e : Ent} (h : seqD d = some e.parts) (ok : e.ok) : ge d = true := by
  unfold ge
  rw [h]
  refine Bool.and_eq_true_iff.mpr ⟨decide_eq_true (by have := plen3 e; omega), List.all_eq_true.mpr (parts_gp ok)⟩
/-- the i-th entry as data -/
theorem Rows.dp_at {K : PySem.W.Frag} {H : Hp} {xs : List V} {es : List Ent} (h : Rows K H xs es) {i : Nat} {v : V} (hv : xs[i]? = some v) : ∃ e d, es[i]? = some e ∧ Dp K H v d ∧ seqD d = some e.parts := by
  obtain ⟨ds, h1, h2⟩ := h
  obtain ⟨d, fd, gd⟩ := dpa_at ds xs h1 i v hv
  have e1 : (ds.map seqD)[i]? = some (seqD d) := by rw [List.getElem?_map, fd]; rfl
  rw [h2, List.getElem?_map] at e1
  cases e2 : es[i]? with
  | none => rw [e2] at e1; cases e1
  | some e =>
    rw [e2] at e1
    exact ⟨e, d, rfl, gd, (Option.some.inj e1).symm⟩
theorem need_iff : ∀ i : Fin 10, inV (.str (ws i)) (wFace.map V.str) = decide (i = 1 ∨ i = 2 ∨ i = 3 ∨ i = 4 ∨ i = 5 ∨ i = 8) := by decide +kernel
theorem need_kind (e : Ent) : decide (e.kind = 1 ∨ e.kind = 2 ∨ e.kind = 3 ∨ e.kind = 4 ∨ e.kind = 5 ∨ e.kind = 8) = e.need := by
  cases e with
  | turn q =>
    have : ∀ q : Fin 3, decide ((Ent.turn q).kind = 1 ∨ (Ent.turn q).kind = 2 ∨ (Ent.turn q).kind = 3 ∨ (Ent.turn q).kind = 4 ∨ (Ent.turn q).kind = 5 ∨ (Ent.turn q).kind = 8) = true := by decide
    exact this q
  | _ => rfl
theorem faceW (e : Ent) : decide (V.str (ws e.kind) = V.str (PySem.Str.ofString "face")) = e.isFace := (wsd e.kind 0).trans e.face_iff.symm
def spHeld (K : PySem.W.Frag) : Sp := fun vs H Q _ => ∃ (e : Addr) (xs : List V) (es : List Ent), vs = [.ref e] ∧ SqA K H e xs ∧ Rows K H xs es ∧ (∀ e ∈ es, e.ok) ∧ Right es ∧ es.length ≤ 200 ∧ ∀ H' r ys, Same H H' → H r = none → H' r = some (.tup ys) → DpAll K H' ys (es.map Ent.tup) → Q (.ref r) H'
theorem ok_held_log (T : Top w K mg) : FnOk P w K mg base CX0 6 T.a_held_log T.fd_held_log ["entries"] (spHeld K) := by
  have G_is_entry := ok_is_entry (P := P) (w := w) (base := base) T
  refine T.F_held_log.ok sc_held_log (fun vs H Q E h => ?_) (fun cdv A outer s H vs Q E hr h => ?_)
  · obtain ⟨e, xs, es, rfl, _⟩ := h
    rfl
  · obtain ⟨e, xs, es, rfl, hs, ha, ok, hR, hlen, q⟩ := h
    refine ⟨_, (pss_cons (ps_set (i := 1) sc_held_log.nd rfl (.inl rfl) pe_bl)
      (pss_cons (ps_set (i := 2) sc_held_log.nd rfl (.inl rfl) (pe_lst pa_nil))
      (pss_cons (ps_for PassesOwn.never rfl (SeqW.pi_enumA (by rfl) T.m_enumerate (pa_cons (pv 0) pa_nil)) (pg_tup rfl (pgs_cons (pg_name (i := 3) sc_held_log.nd rfl (.inl rfl)) (pgs_cons (pg_name (i := 4) sc_held_log.nd rfl (.inl rfl)) pgs_nil))) (pss_cons (ps_if (pt_not (pt_val (pe_call G_is_entry hr (by rfl) T.g_is_entry T.F_is_entry.kp T.b_is_entry .nil pass0 (pa_cons (pv 4) pa_nil)))) (pss_one ps_never) pss_nil)
      (Evl.pss_cut (ps_if (PW.pt (pw_and (pt_cmpR (op_inA (units65 hr)) (pe_ix (r := rIx K) (SeqW.ix_seqK rfl) (pv 4) pe_int (fun _ _ => rfl)) (pe_glob (v := .ref T.a_WORDS_BEHIND_A_FACE) (by rfl) T.g_WORDS_BEHIND_A_FACE rfl) (by rfl)) (pw_and1 (pt_not (pt_val (pv 1)))))) (pss_one ps_never) pss_nil)
      (Evl.pss_cut (ps_set (i := 1) sc_held_log.nd rfl (.inl rfl) (pe_or (pv 1) (pe_one (pe_cmpR (op_eqA hr.units) (pe_ix (r := rIx K) (SeqW.ix_seqK rfl) (pv 4) pe_int (fun _ _ => rfl)) pe_str (nomark _)))))
      (pss_one (ps_expr (pe_bm PySem.F.plainAttrs_list PySem.F.slot_list_append PySem.F.type_list_append mt_append (pv 2) (pa_cons (pe_callTy call_tuple_of (by rfl) T.m_tuple (by decide +kernel) (pa_cons (pv 4) pa_nil)) pa_nil))))))))
      (pss_one (ps_ret (pe_callTy call_tuple_of (by rfl) T.m_tuple (by decide +kernel) (pa_cons (pv 2) pa_nil))))))), ?_⟩
    have lx := ha.len
    refine ⟨Nat.zero_le _, fun L nL => ?_⟩
    have s0 := same_upd (o := .lst []) nL
    refine ⟨.ref e, rfl, e, xs, rfl, (fun H' => Same H H'), kpA hs, s0, fun J G wk hG => for_it wk (fun i σ H' => Same H H' ∧ ∃ y3 y4 ys, σ = [some (.ref e), some (.bl ((es.take i).any Ent.isFace)), some (.ref L), y3, y4] ∧ H' L = some (.lst ys) ∧ ys.length = i ∧ DpAll K (wo H' (fun b => b = L)) ys ((es.take i).map Ent.tup)) ⟨s0, none, none, [], rfl, upd_same, rfl, .nil⟩ (fun i σ H' _ h => hG _ h.1) ?_ ?_⟩
    · rintro i v σ H1 H2 hi ⟨sm, y3, y4, ys, rfl, eL, ly, hy⟩ ⟨t, u1, u2, rfl, nt, rfl, e1, e2⟩
      cases e1
      have e2 : xs[i]? = some u2 := e2
      obtain ⟨en, d, fe, gd, sd⟩ := ha.dp_at e2
      have oke := ok en (List.mem_of_getElem? fe)
      have st := same_upd (o := .tup [.int (i : Nat), u2]) nt
      have sm2 := sm.trans st
      refine ⟨t, _, rfl, .inl (.inl upd_same), rfl, _, _, rfl, _, _, rfl, rfl, ?_⟩
      refine ⟨u2, rfl, u2, d, rfl, seq_ge sd oke, dp_same sm2 d u2 gd, fun H3 s3 => ⟨_, rfl, ?_⟩⟩
      rw [seq_entD sd oke]
      refine iteF ?_
      have sm3 := sm2.trans s3
      have nLt : L ≠ t := ne_of_none eL nt
      have eL3 := s3 _ _ (st _ _ eL)
      have mH : Same H (wo H3 (fun b => b = L)) := fun b o h => by
        rw [wo_in (X := fun b => b = L) (ne_of_none h nL)]
        exact sm3 _ _ h
      obtain ⟨a, us, rfl, hqW, hallW⟩ := ent_at (dp_same mH d u2 gd) sd
      have hq := hqW.same wo_same
      have fin : (Same H H3 ∧ ∃ y3 y4 ys, [some (V.ref e), some (.bl ((es.take i).any Ent.isFace)), some (.ref L), some (.int (i : Nat)), some (.ref a)] = [some (V.ref e), some (.bl ((es.take i).any Ent.isFace)), some (.ref L), y3, y4] ∧ H3 L = some (.lst ys)) := ⟨sm3, _, _, _, rfl, eL3⟩
      refine ⟨fun σ H' => H3 = H' ∧ σ = [some (.ref e), some (.bl ((es.take i).any Ent.isFace)), some (.ref L), some (.int (i : Nat)), some (.ref a)], ?_, ?_⟩
      · refine ⟨.ref a, rfl, ixA (j := 0) hq rfl (inA_of (d := .str (ws en.kind)) (ws := wFace) (.str _) (ws_gp _) (T.v_WORDS_BEHIND_A_FACE _) (by decide +kernel) ⟨_, rfl, ?_⟩)⟩
        have hn : inW (.str (ws en.kind)) wFace = en.need := by
          rw [← need_kind, ← need_iff]
          exact (inW_flat (v := .str (ws en.kind)) (d := .str (ws en.kind)) (fun s => rfl) wFace).symm
        rw [hn]
        refine ite2 (fun e3 => ?_) (fun e3 => ⟨rfl, rfl⟩)
        refine ⟨_, rfl, _, rfl, ?_⟩
        rw [hR i en fe e3]
        exact iteF ⟨rfl, rfl⟩
      rintro σ H4 ⟨rfl, rfl⟩
      refine ⟨fun σ H' => H3 = H' ∧ σ = [some (.ref e), some (.bl ((es.take (i + 1)).any Ent.isFace)), some (.ref L), some (.int (i : Nat)), some (.ref a)], ?_, ?_⟩
      · have ea : (es.take (i + 1)).any Ent.isFace = ((es.take i).any Ent.isFace || en.isFace) := by
          rw [List.take_add_one, fe, List.any_append]
          show (_ || (en.isFace || false)) = _
          rw [Bool.or_false]
        refine ⟨_, rfl, _, rfl, ?_⟩
        cases eb : (es.take i).any Ent.isFace with
        | true =>
          rw [ea, eb]
          exact iteT ⟨rfl, rfl⟩
        | false =>
          rw [ea, eb]
          refine iteF ⟨.ref a, rfl, ixA (j := 0) hq rfl (.inl ⟨rfl, ?_⟩)⟩
          rw [faceW]
          exact ⟨rfl, rfl⟩
      rintro σ H4 ⟨rfl, rfl⟩
      have i2 : (es.take (i + 1)).map Ent.tup = (es.take i).map Ent.tup ++ [en.tup] := by
        rw [List.take_add_one, fe, List.map_append]
        rfl
      have hw : Same (wo H1 (fun b => b = L)) (wo H3 (fun b => b = L)) := fun b o h => by
        have h2 := wo_some h
        rw [wo_in (X := fun b => b = L) h2.1]
        exact s3 _ _ (st _ _ h2.2)
      have more : ∀ (H5 : Hp) (r : Addr), Same H3 H5 → Dp K (wo H5 (fun b => b = L)) (.ref r) en.tup → H5 L = some (.lst ys) → ∃ l zs y, V.ref L = .ref l ∧ [V.ref r] = [y] ∧ H5 l = some (.lst zs) ∧ zs.length < sizeLine ∧ (Same H (upd H5 l (.lst (zs ++ [y]))) ∧ ∃ y3 y4 ys, [some (V.ref e), some (.bl ((es.take (i + 1)).any Ent.isFace)), some (.ref L), some (.int (i : Nat)), some (.ref a)] = [some (V.ref e), some (.bl ((es.take (i + 1)).any Ent.isFace)), some (.ref L), y3, y4] ∧ (upd H5 l (.lst (zs ++ [y]))) L = some (.lst ys) ∧ ys.length = i + 1 ∧ DpAll K (wo (upd H5 l (.lst (zs ++ [y]))) (fun b => b = L)) ys ((es.take (i + 1)).map Ent.tup)) := fun H5 r s5 hd5 eL5 => by
        have m6 : Same (wo H5 (fun b => b = L)) (wo (upd H5 L (.lst (ys ++ [.ref r]))) (fun b => b = L)) := fun c u z => by
          have h2 := wo_some z
          rw [wo_in (X := fun b => b = L) h2.1, upd_ne h2.1]
          exact h2.2
        have w35 : Same (wo H3 (fun b => b = L)) (wo H5 (fun b => b = L)) := fun b o h => by
          have h2 := wo_some h
          rw [wo_in (X := fun b => b = L) h2.1]
          exact s5 _ _ h2.2
        refine ⟨L, ys, .ref r, rfl, rfl, eL5, small1000 (by omega), ?_, _, _, _, rfl, upd_same, ?_, ?_⟩
        · exact fun b o h => by
            rw [upd_ne (ne_of_none h nL)]
            exact s5 _ _ (sm3 _ _ h)
        · rw [List.length_append, ly]
          rfl
        · rw [i2]
          exact dpa_snoc (dp_same m6 _ _ hd5) _ _ (dpa_same ((hw.trans w35).trans m6) _ _ hy)
      refine ⟨.ref L, rfl, .inl ⟨rfl, _, .inl (.inl eL3)⟩, .ref a, rfl, a, .str (ws en.kind) :: us, rfl, ?_⟩
      rcases hqW with hl | ht
      · refine .inl ⟨wo_same.seq hl, fun r nr => ?_⟩
        have sr := same_upd (o := .tup (.str (ws en.kind) :: us)) nr
        refine more _ r sr ?_ (sr _ _ eL3)
        refine .tup (.inl (.inl ?_)) (.cons (.str _) (dpa_same (fun b o h => ?_) _ _ hallW))
        · rw [wo_in (X := fun b => b = L) (fun z : r = L => by rw [z, eL3] at nr; cases nr)]
          exact upd_same
        · have h2 := wo_some h
          rw [wo_in (X := fun b => b = L) h2.1]
          exact sr _ _ h2.2
      · exact .inr ⟨sqt_same wo_same ht, more _ a (Same.refl _) (.tup ht (.cons (.str _) hallW)) eL3⟩
    · rintro σ H1 ⟨sm, y3, y4, ys, rfl, eL, ly, hy⟩
      rw [lx, List.take_length] at hy
      refine ⟨.ref L, rfl, L, ys, rfl, .inl ⟨.inl (.inl eL), fun r nr => ?_⟩⟩
      have sr := same_upd (o := .tup ys) nr
      exact q _ r ys (sm.trans sr) (sm.free nr) upd_same (dpa_same (wo_same.trans sr) _ _ hy)
/-! ### a box that is right, held -/
def spHeldBox (K : PySem.W.Frag) : Sp := fun vs H Q _ => ∃ (b : Addr) (box : List Nat), vs = [.ref b] ∧ SqA K H b (box.map fun n => V.int (n : Nat)) ∧ box.length = 8 ∧ ∀ H' r, Same H H' → SqT K H' r (box.map fun n => V.int (n : Nat)) → Q (.ref r) H'
theorem ok_is_wholeI (T : Top w K mg) : FnOk P w K mg base CX0 1 T.a_is_whole T.fd_is_whole ["thing"] spWhole := by
  refine T.F_is_whole.ok sc_is_whole (fun vs H Q E h => ?_) (fun cdv A outer s H vs Q E hr h => ?_)
  · obtain ⟨i, rfl, _⟩ := h
    rfl
  · obtain ⟨i, rfl, q⟩ := h
    refine ⟨_, (pss_one (ps_ret (pe_and (pe_callB call_isi (by rfl) T.m_isinstance (by decide +kernel) (pa_cons (pv 0) (pa_cons (pe_bltn (v := .ty "int") (by rfl) T.m_int (by decide +kernel) rfl) pa_nil))) (pe_one (pe_not (pe_callB call_isi (by rfl) T.m_isinstance (by decide +kernel) (pa_cons (pv 0) (pa_cons (pe_bltn (v := .ty "bool") (by rfl) T.m_bool (by decide +kernel) rfl) pa_nil)))))))), ?_⟩
    refine ⟨.int i, rfl, _, _, _, _, true, rfl, .ty _, .base (.int i), kit_ty (by decide +kernel), _, rfl, iteT ?_⟩
    exact ⟨.int i, rfl, _, _, _, _, false, rfl, .ty _, .base (.int i), kit_ty (by decide +kernel), _, rfl, q⟩
theorem ok_held_box (T : Top w K mg) : FnOk P w K mg base CX0 2 T.a_held_box T.fd_held_box ["box"] (spHeldBox K) := by
  have G_is_whole := ok_is_wholeI (P := P) (w := w) (base := base) T
  refine T.F_held_box.ok sc_held_box (fun vs H Q E h => ?_) (fun cdv A outer s H vs Q E hr h => ?_)
  · obtain ⟨b, box, rfl, _⟩ := h
    rfl
  · obtain ⟨b, box, rfl, hs, h8, q⟩ := h
    refine ⟨_, (pss_cons (ps_if (pt_cmpR op_ne (pe_callB call_len_seq (by rfl) T.m_len (by decide +kernel) (pa_cons (pv 0) pa_nil)) (pe_glob (v := .int 8) (by rfl) T.g_HOW_MANY_LOTS.choose_spec ⟨_, rfl⟩) (nomark _)) (pss_one ps_never) pss_nil)
      (pss_cons (ps_for PassesOwn.never rfl (SeqW.pi_enumA (by rfl) T.m_enumerate (pa_cons (pv 0) pa_nil)) (pg_tup rfl (pgs_cons (pg_name (i := 1) sc_held_box.nd rfl (.inl rfl)) (pgs_cons (pg_name (i := 2) sc_held_box.nd rfl (.inl rfl)) pgs_nil))) (pss_one (ps_if (PW.pt (pw_or (pt_not (pt_val (pe_call G_is_whole hr (by rfl) T.g_is_whole T.F_is_whole.kp T.b_is_whole .nil pass0 (pa_cons (pv 2) pa_nil)))) (pw_or1 (pt_cmpR op_lt (pv 2) pe_int (nomark _))))) (pss_one ps_never) pss_nil)))
      (pss_one (ps_ret (pe_callTy call_tuple_of (by rfl) T.m_tuple (by decide +kernel) (pa_cons (pv 0) pa_nil)))))), ?_⟩
    refine ⟨.ref b, rfl, b, _, rfl, hs, rfl, _, rfl, iteN (by rw [List.length_map, h8]; rfl) ?_⟩
    refine ⟨.ref b, rfl, b, _, rfl, (fun H' => Same H H'), kpA hs, Same.refl _, fun J G wk hG => for_it wk (fun i σ H' => Same H H' ∧ ∃ y1 y2, σ = [some (.ref b), y1, y2]) ⟨Same.refl _, _, _, rfl⟩ (fun i σ H' _ h => hG _ h.1) ?_ ?_⟩
    · rintro i v σ H1 H2 hi ⟨sm, y1, y2, rfl⟩ ⟨t, u1, u2, rfl, nt, rfl, e1, e2⟩
      cases e1
      have e2 : (box.map fun n => V.int (n : Nat))[i]? = some u2 := e2
      rw [List.getElem?_map] at e2
      obtain ⟨n, fn, rfl⟩ : ∃ n, box[i]? = some n ∧ V.int (n : Nat) = u2 := by
        cases e1 : box[i]? with
        | none => rw [e1] at e2; cases e2
        | some n => rw [e1] at e2; exact ⟨n, rfl, Option.some.inj e2⟩
      refine ⟨t, _, rfl, .inl (.inl upd_same), rfl, _, _, rfl, _, _, rfl, rfl, ?_⟩
      refine ⟨_, rfl, _, rfl, _, rfl, iteF ⟨_, rfl, _, _, rfl, rfl, _, rfl, iteDN (decide_eq_false (by omega)) ⟨sm.trans (same_upd nt), _, _, rfl⟩⟩⟩
    · rintro σ H1 ⟨sm, y1, y2, rfl⟩
      refine ⟨.ref b, rfl, b, box.map fun n => V.int (n : Nat), rfl, ?_⟩
      rcases hs.same sm with h | h
      · exact .inl ⟨h, fun r nr => q _ r (sm.trans (same_upd nr)) (.inl (.inl upd_same))⟩
      · exact .inr ⟨h, q _ b sm h⟩
def spHeldOf (K : PySem.W.Frag) : Sp := fun vs H Q _ => ∃ (z : Str) (e : Addr) (xs : List V) (es : List Ent), vs = [.str z, .ref e] ∧ SqA K H e xs ∧ Rows K H xs es ∧ (∀ e ∈ es, e.ok) ∧ Right es ∧ es.length ≤ 200 ∧ ∀ H' r ys, Same H H' → H r = none → H' r = some (.tup ys) → DpAll K H' ys (es.map Ent.tup) → Q (.ref r) H'
theorem ok_held_log_of (T : Top w K mg) : FnOk P w K mg base CX0 7 T.a_held_log_of T.fd_held_log_of ["name", "log"] (spHeldOf K) := by
  have G_held_log := ok_held_log (P := P) (w := w) (base := base) T
  refine T.F_held_log_of.ok sc_held_log_of (fun vs H Q E h => ?_) (fun cdv A outer s H vs Q E hr h => ?_)
  · obtain ⟨z, e, xs, es, rfl, _⟩ := h
    rfl
  · obtain ⟨z, e, xs, es, rfl, hs, ha, ok, hR, hlen, q⟩ := h
    refine ⟨_, (pss_one (ps_try_thru0 (pss_one (ps_ret (pe_call G_held_log hr (by rfl) T.g_held_log T.F_held_log.kp T.b_held_log .nil pass0 (pa_cons (pv 1) pa_nil)))))), ?_⟩
    exact ⟨.ref e, rfl, e, xs, es, rfl, hs, ha, ok, hR, hlen, q⟩
--@@SPLIT
/-! ### rows of walkers: names and logs -/
abbrev Row := Str × List Ent
def ltN (a b : Str) : Prop := a.cps.toList < b.cps.toList
/-- rising by names -/
def Srt (rs : List Row) : Prop := rs.Pairwise fun a b => ltN a.1 b.1
def nms (rs : List Row) : List Str := rs.map (·.1)
def logD (r : Row) : PyData := .tuple (r.2.map Ent.tup)
structure RowOk (r : Row) : Prop where
  nm : nmL r.1.cps.toList = true
  ok : ∀ e ∈ r.2, e.ok
  right : Right r.2
  len : r.2.length ≤ 100
theorem srt_uniq {a b : List Row} (h : a.Perm b) (ha : Srt a) (hb : Srt b) : a = b :=
  h.eq_of_pairwise (fun x y _ _ h1 h2 => absurd (List.lt_trans h1 h2) (List.lt_irrefl _)) ha hb
theorem perm_lift {α β : Type} {f : α → β} : ∀ {ys : List β} {rs : List α}, ys.Perm (rs.map f) → ∃ rs' : List α, rs'.Perm rs ∧ rs'.map f = ys
  | [], rs, h => by
    have e : rs.map f = [] := h.symm.eq_nil
    have e2 : rs = [] := List.map_eq_nil_iff.mp e
    exact ⟨[], by rw [e2], rfl⟩
  | y :: ys, rs, h => by
    obtain ⟨r, hr, rfl⟩ := List.mem_map.mp (h.mem_iff.mp List.mem_cons_self)
    obtain ⟨s, t, rfl⟩ := List.append_of_mem hr
    have h2 : ys.Perm ((s ++ t).map f) := by
      have e : ((s ++ r :: t).map f).Perm (f r :: (s ++ t).map f) := (List.perm_middle (a := r) (l₁ := s) (l₂ := t)).map f
      exact (h.trans e).cons_inv
    obtain ⟨rs', p, e⟩ := perm_lift h2
    exact ⟨r :: rs', (p.cons r).trans List.perm_middle.symm, by rw [List.map_cons, e]⟩
theorem le_of_rising : ∀ (p : Str) (r : List Str), risingS p r = true → ∀ x ∈ r, ¬ x.cps.toList < p.cps.toList
  | _, [], _, _, h => nomatch h
  | p, x :: r, h, y, hy => by
    obtain ⟨h1, h2⟩ := Bool.and_eq_true_iff.mp h
    have h1 : ¬ x.cps.toList < p.cps.toList := fun z => by
      rw [ltCps_eq, decide_eq_true z] at h1
      cases h1
    rcases List.mem_cons.mp hy with e | hy
    · rw [e]
      exact h1
    · have h3 := le_of_rising x r h2 y hy
      exact List.not_lt.mpr (List.le_trans (List.not_lt.mp h1) (List.not_lt.mp h3))
theorem sortedS_pw : ∀ l : List Str, sortedS l = true → l.Pairwise fun a b => ¬ b.cps.toList < a.cps.toList
  | [], _ => .nil
  | x :: r, h => by
    refine .cons (fun y hy => le_of_rising x r h y hy) ?_
    cases r with
    | nil => exact .nil
    | cons z t => exact sortedS_pw (z :: t) (Bool.and_eq_true_iff.mp h).2
theorem str_inj {a b : Str} (h : a.cps.toList = b.cps.toList) : a = b := by
  cases a with
  | mk x =>
    cases b with
    | mk y =>
      congr 1
      exact Array.toList_inj.mp h
/-- no name twice, none falling: rising -/
theorem srt_of {rs : List Row} (nd : (nms rs).Nodup) (h : (nms rs).Pairwise fun a b => ¬ b.cps.toList < a.cps.toList) : Srt rs := by
  have h1 : rs.Pairwise fun a b => a.1 ≠ b.1 := List.pairwise_map.mp nd
  have h2 : rs.Pairwise fun a b => ¬ b.1.cps.toList < a.1.cps.toList := List.pairwise_map.mp h
  refine (h1.and h2).imp fun {a b} z => ?_
  refine Classical.byContradiction fun l => z.1 (str_inj (List.le_antisymm (List.not_lt.mp z.2) (List.not_lt.mp l)))
theorem Srt.nodup {rs : List Row} (h : Srt rs) : (nms rs).Nodup := by
  refine List.pairwise_map.mpr (h.imp fun {a b} z e => ?_)
  unfold ltN at z
  rw [e] at z
  exact List.lt_irrefl _ z
/-- the dict of names and logs -/
def kvsOf : List Row → List V → List (Key × V)
  | r :: rs, v :: vs => (Sum.inr r.1, v) :: kvsOf rs vs
  | _, _ => []
theorem kvs_keys : ∀ (rs : List Row) (vs : List V), vs.length = rs.length → (kvsOf rs vs).map (·.1) = (nms rs).map Sum.inr
  | [], _, _ => rfl
  | r :: rs, v :: vs, h => by
    show Sum.inr r.1 :: (kvsOf rs vs).map (·.1) = Sum.inr r.1 :: (nms rs).map Sum.inr
    rw [kvs_keys rs vs (Nat.succ.inj h)]
  | r :: rs, [], h => by cases h
theorem kvs_snoc : ∀ (rs : List Row) (vs : List V) (r : Row) (v : V), vs.length = rs.length → kvsOf (rs ++ [r]) (vs ++ [v]) = kvsOf rs vs ++ [(Sum.inr r.1, v)]
  | [], [], r, v, _ => rfl
  | q :: rs, u :: vs, r, v, h => by
    show (Sum.inr q.1, u) :: kvsOf (rs ++ [r]) (vs ++ [v]) = (Sum.inr q.1, u) :: (kvsOf rs vs ++ [(Sum.inr r.1, v)])
    rw [kvs_snoc rs vs r v (Nat.succ.inj h)]
  | [], _ :: _, _, _, h => by cases h
  | _ :: _, [], _, _, h => by cases h
theorem kvs_none : ∀ (rs : List Row) (vs : List V) (z : Str), z ∉ nms rs → valV (kvsOf rs vs) (Sum.inr z : Key) = none
  | [], _, _, _ => rfl
  | r :: rs, [], _, _ => rfl
  | r :: rs, v :: vs, z, h => by
    have h1 : ¬ ((Sum.inr r.1 : Key) = Sum.inr z) := fun e => h (List.mem_cons.mpr (.inl (Sum.inr.inj e).symm))
    exact (valV_neg (p := ((Sum.inr r.1 : Key), v)) h1).trans (kvs_none rs vs z fun m => h (List.mem_cons_of_mem _ m))
theorem kvs_some : ∀ (rs : List Row) (vs : List V) (m : Nat) (r : Row) (v : V), (nms rs).Nodup → rs[m]? = some r → vs[m]? = some v → valV (kvsOf rs vs) (Sum.inr r.1 : Key) = some v
  | [], _, _, _, _, _, h, _ => by cases h
  | q :: rs, [], _, _, _, _, _, h => by cases h
  | q :: rs, u :: vs, 0, r, v, _, h1, h2 => by
    cases h1
    cases h2
    exact valV_pos rfl
  | q :: rs, u :: vs, m + 1, r, v, nd, h1, h2 => by
    have nd2 := List.nodup_cons.mp (show (q.1 :: nms rs).Nodup from nd)
    have hr : r.1 ∈ nms rs := List.mem_map.mpr ⟨r, List.mem_of_getElem? h1, rfl⟩
    have h3 : ¬ ((Sum.inr q.1 : Key) = Sum.inr r.1) := fun e => nd2.1 (by rw [Sum.inr.inj e]; exact hr)
    exact (valV_neg (p := ((Sum.inr q.1 : Key), u)) h3).trans (kvs_some rs vs m r v nd2.2 h1 h2)
theorem kvs_len : ∀ (rs : List Row) (vs : List V), (kvsOf rs vs).length ≤ rs.length
  | [], _ => Nat.zero_le _
  | _ :: _, [] => Nat.zero_le _
  | _ :: rs, _ :: vs => Nat.succ_le_succ (kvs_len rs vs)
/-! ### an atlas -/
def flds (b n l : Addr) : List (Str × V) := putF "logs" (.ref l) (putF "names" (.ref n) (putF "box" (.ref b) []))
theorem fl_nl : ¬ (("names" : Str) = "logs") := by decide +kernel
theorem fl_bl : ¬ (("box" : Str) = "logs") := by decide +kernel
theorem fl_bn : ¬ (("box" : Str) = "names") := by decide +kernel
theorem fl_box (b n l : Addr) : (flds b n l).lookup ("box" : Str) = some (.ref b) := by
  unfold flds
  rw [lookup_putF, if_neg fl_bl, lookup_putF, if_neg fl_bn, lookup_putF, if_pos rfl]
theorem fl_names (b n l : Addr) : (flds b n l).lookup ("names" : Str) = some (.ref n) := by
  unfold flds
  rw [lookup_putF, if_neg fl_nl, lookup_putF, if_pos rfl]
theorem fl_logs (b n l : Addr) : (flds b n l).lookup ("logs" : Str) = some (.ref l) := by
  unfold flds
  rw [lookup_putF, if_pos rfl]
theorem fl_no (b n l : Addr) {m : Str} (h1 : ¬ m = "logs") (h2 : ¬ m = "names") (h3 : ¬ m = "box") : (flds b n l).lookup m = none := by
  unfold flds
  rw [lookup_putF, if_neg h1, lookup_putF, if_neg h2, lookup_putF, if_neg h3]
  rfl
def boxV (box : List Nat) : List V := box.map fun n => V.int (n : Nat)
def namV (rs : List Row) : List V := (nms rs).map V.str
def AtlasAt (K : PySem.W.Frag) (C : Addr) (H : Hp) (p : Addr) (box : List Nat) (rs : List Row) : Prop :=
  ∃ dx b n l ls on, OwnI.PlainT on ∧ H p = some (.ins C dx (flds b n l)) ∧ SqT K H b (boxV box) ∧ H n = some (.frz on (.tup (namV rs))) ∧ SqT K H l ls ∧ DpAll K H ls (rs.map logD)
theorem AtlasAt.same {K : PySem.W.Frag} {C : Addr} {H H' : Hp} {p : Addr} {box : List Nat} {rs : List Row} (h : AtlasAt K C H p box rs) (s : Same H H') : AtlasAt K C H' p box rs := by
  obtain ⟨dx, b, n, l, ls, on, po, h1, h2, h3, h4, h5⟩ := h
  exact ⟨dx, b, n, l, ls, on, po, s _ _ h1, sqt_same s h2, s _ _ h3, sqt_same s h4, dpa_same s _ _ h5⟩
/-- tuples and instances as they were, whatever became of lists -/
def keepO : HO → Bool
  | .lst _ => false
  | .dK _ => false
  | _ => true
def Kp (H H' : Hp) : Prop := ∀ b o, keepO o = true → H b = some o → H' b = some o
theorem Kp.of {H H' : Hp} (s : Same H H') : Kp H H' := fun b o _ h => s b o h
theorem Kp.trans {H H1 H2 : Hp} (a : Kp H H1) (b : Kp H1 H2) : Kp H H2 := fun c o z h => b c o z (a c o z h)
theorem Kp.upd {H : Hp} {a : Addr} {o u : HO} (e : H a = some u) (n : keepO u = false) : Kp H (L2.upd H a o) := fun b v z h => by
  rw [upd_ne (fun y => by rw [y, e] at h; cases h; rw [n] at z; cases z)]
  exact h
theorem Kp.but {H H' : Hp} {p : Addr} (hp : Pool H p) (b : But p H H') : Kp H H' := fun c o z h => by
  refine b c o (fun e => ?_) h
  obtain ⟨l, x, k, n, _, h1⟩ := hp
  rw [e, h1] at h
  cases h
  cases z
/-- tuples as they were -/
def tpO : HO → Bool
  | .tup _ => true
  | .frz _ _ => true
  | _ => false
def Tp (H H' : Hp) : Prop := ∀ b o, tpO o = true → H b = some o → H' b = some o
theorem Kp.tp {H H' : Hp} (k : Kp H H') : Tp H H' := fun b o z h => k b o (by cases o <;> first | rfl | cases z) h
theorem Tp.wo {H : Hp} {X : Addr → Prop} (h : ∀ b o, X b → H b = some o → tpO o = false) : Tp H (M.wo H X) := fun b o z e => by
  rw [wo_in (X := X) (fun x => by rw [h b o x e] at z; cases z)]
  exact e
theorem sqt_kp {K : PySem.W.Frag} {H H' : Hp} {a : Addr} {xs : List V} (e : Tp H H') (h : SqT K H a xs) : SqT K H' a xs := by
  rcases h with (h | ⟨o, h⟩) | h
  · exact .inl (.inl (e _ _ rfl h))
  · exact .inl (.inr ⟨o, e _ _ rfl h⟩)
  · exact .inr h
theorem dpa_kpA {K : PySem.W.Frag} {H H' : Hp} {P : PyData → Prop} (f : ∀ d v, P d → Dp K H v d → Dp K H' v d) : ∀ (ds : List PyData) (vs : List V), (∀ d ∈ ds, P d) → DpAll K H vs ds → DpAll K H' vs ds
  | [], _, _, h => by cases h; exact .nil
  | d :: ds, _, hp, h => by
    cases h with
    | cons h1 h2 => exact .cons (f d _ (hp d List.mem_cons_self) h1) (dpa_kpA f ds _ (fun x hx => hp x (List.mem_cons_of_mem _ hx)) h2)
theorem dp_kp {K : PySem.W.Frag} {H H' : Hp} (e : Tp H H') : ∀ (n : Nat) (d : PyData) (v : V), okD n d = true → Dp K H v d → Dp K H' v d
  | n, .none, _, _, h => by cases h; exact .non
  | n, .bool b, _, _, h => by cases h; exact .bl b
  | n, .int i, _, _, h => by cases h; exact .int i
  | n, .str x, _, _, h => by cases h; exact .str x
  | 0, .list ds, _, o, _ => by cases o
  | n + 1, .list ds, _, o, _ => by cases o
  | 0, .tuple ds, _, o, _ => by cases o
  | n + 1, .tuple ds, _, o, h => by
    cases h with
    | tup hs ha =>
      have o2 := (Bool.and_eq_true_iff.mp (show (decide (ds.length ≤ 1000) && ds.all fun d => okD n d) = true from o)).2
      exact .tup (sqt_kp e hs) (dpa_kpA (P := fun d => okD n d = true) (fun d v o h => dp_kp e n d v o h) ds _ (fun d hd => List.all_eq_true.mp o2 d hd) ha)
  | 0, .dict ds, _, o, _ => by cases o
  | n + 1, .dict ds, _, o, _ => by cases o
theorem part_ok0 {e : Ent} : ∀ d ∈ e.parts, okD 0 d = true := by
  intro d hd
  rcases List.mem_cons.mp hd with hd | hd
  · rw [hd]; rfl
  cases e with
  | face l => rw [List.mem_singleton.mp hd]; rfl
  | go n => rw [List.mem_singleton.mp hd]; rfl
  | sign z => rw [List.mem_singleton.mp hd]; rfl
  | spy n z =>
    rcases List.mem_cons.mp hd with hd | hd
    · rw [hd]; rfl
    · rw [List.mem_singleton.mp hd]; rfl
  | turn q => cases hd
  | bump => cases hd
  | bare => cases hd
  | swap => cases hd
theorem ent_okT (e : Ent) : okD 1 e.tup = true := Bool.and_eq_true_iff.mpr ⟨decide_eq_true (by have := plen3 e; omega), List.all_eq_true.mpr part_ok0⟩
theorem log_okD {r : Row} (h : r.2.length ≤ 1000) : okD 2 (logD r) = true := by
  refine Bool.and_eq_true_iff.mpr ⟨decide_eq_true (by rw [List.length_map]; exact h), List.all_eq_true.mpr fun d hd => ?_⟩
  obtain ⟨e, _, rfl⟩ := List.mem_map.mp hd
  exact ent_okT e
theorem AtlasAt.kp {K : PySem.W.Frag} {C : Addr} {H H' : Hp} {p : Addr} {box : List Nat} {rs : List Row} (h : AtlasAt K C H p box rs) (hr : ∀ r ∈ rs, r.2.length ≤ 1000) (s : Kp H H') : AtlasAt K C H' p box rs := by
  obtain ⟨dx, b, n, l, ls, on, po, h1, h2, h3, h4, h5⟩ := h
  refine ⟨dx, b, n, l, ls, on, po, s _ _ rfl h1, sqt_kp s.tp h2, s _ _ rfl h3, sqt_kp s.tp h4, dpa_kpA (P := fun d => okD 2 d = true) (fun d v o h => dp_kp s.tp 2 d v o h) _ _ (fun d hd => ?_) h5⟩
  obtain ⟨r, hr2, rfl⟩ := List.mem_map.mp hd
  exact log_okD (hr r hr2)
--@@SPLIT
/-! ### an atlas is made -/
/-- one pair of a name and a log, as it is handed in -/
def PairAt (K : PySem.W.Frag) (H : Hp) (v : V) (r : Row) : Prop := ∃ p l xs, v = .ref p ∧ SqA K H p [.str r.1, .ref l] ∧ SqA K H l xs ∧ Rows K H xs r.2
theorem PairAt.same {K : PySem.W.Frag} {H H' : Hp} {v : V} {r : Row} (h : PairAt K H v r) (s : Same H H') : PairAt K H' v r := by
  obtain ⟨p, l, xs, h1, h2, h3, h4⟩ := h
  exact ⟨p, l, xs, h1, h2.same s, h3.same s, h4.same s⟩
theorem PairAt.seqs {K : PySem.W.Frag} {H H' : Hp} {v : V} {r : Row} (h : PairAt K H v r) (s : Seqs H H') : PairAt K H' v r := by
  obtain ⟨p, l, xs, h1, h2, h3, ds, h4, h5⟩ := h
  exact ⟨p, l, xs, h1, h2.elim (fun h => .inl (seqs_l s h)) (fun h => .inr (seqs_t s h)), h3.elim (fun h => .inl (seqs_l s h)) (fun h => .inr (seqs_t s h)), ds, dpa_seqs s _ _ h4, h5⟩
theorem seqs_of {H H' : Hp} {x C dx : Addr} {fs : List (Str × V)} (hx : H x = some (.ins C dx fs)) (b : But x H H') : Seqs H H' := fun c o z h => b c o (fun e => by rw [e, hx] at h; cases h; cases z) h
inductive Pairs (K : PySem.W.Frag) (H : Hp) : List V → List Row → Prop
  | nil : Pairs K H [] []
  | cons {v : V} {r : Row} {vs : List V} {rs : List Row} : PairAt K H v r → Pairs K H vs rs → Pairs K H (v :: vs) (r :: rs)
theorem Pairs.same {K : PySem.W.Frag} {H H' : Hp} {vs : List V} {rs : List Row} (h : Pairs K H vs rs) (s : Same H H') : Pairs K H' vs rs := by
  induction h with
  | nil => exact .nil
  | cons h1 _ ih => exact .cons (h1.same s) ih
theorem Pairs.len {K : PySem.W.Frag} {H : Hp} {vs : List V} {rs : List Row} (h : Pairs K H vs rs) : vs.length = rs.length := by
  induction h with
  | nil => rfl
  | cons _ _ ih => rw [List.length_cons, List.length_cons, ih]
theorem Pairs.at_ {K : PySem.W.Frag} {H : Hp} {vs : List V} {rs : List Row} (h : Pairs K H vs rs) : ∀ {i : Nat} {v : V}, vs[i]? = some v → ∃ r, rs[i]? = some r ∧ PairAt K H v r := by
  induction h with
  | nil => exact fun h => by cases h
  | cons h1 _ ih =>
    intro i v hv
    cases i with
    | zero => cases hv; exact ⟨_, rfl, h1⟩
    | succ i => exact ih hv
theorem Pairs.snoc {K : PySem.W.Frag} {H : Hp} {vs : List V} {rs : List Row} {v : V} {r : Row} (h : Pairs K H vs rs) (h1 : PairAt K H v r) : Pairs K H (vs ++ [v]) (rs ++ [r]) := by
  induction h with
  | nil => exact .cons h1 .nil
  | cons h2 _ ih => exact .cons h2 ih
theorem th_name {K : PySem.W.Frag} {H : Hp} {z : Str} (h : nmL z.cps.toList = true) : Th K H (.str z) ∧ nmV (.str z) = true := by
  refine ⟨.inl ⟨z, rfl, ?_⟩, h⟩
  have h1 := (Bool.and_eq_true_iff.mp (show (shL z.cps.toList && z.cps.toList.all smC) = true from h)).1
  have := of_decide_eq_true (Bool.and_eq_true_iff.mp h1).2
  have hl := len_toList z
  omega
def spAtlasInit (K : PySem.W.Frag) (C : Addr) : Sp := fun vs H Q _ => ∃ (x dx b l : Addr) (box : List Nat) (ps : List V) (rs : List Row), vs = [.ref x, .ref b, .ref l] ∧ H x = some (.ins C dx []) ∧ SqA K H b (boxV box) ∧ box.length = 8 ∧ SqA K H l ps ∧ Pairs K H ps rs ∧ (∀ r ∈ rs, RowOk r) ∧ (nms rs).Nodup ∧ rs.length ≤ 60 ∧
  ∀ H' rs', But x H H' → rs'.Perm rs → Srt rs' → AtlasAt K C H' x box rs' → Q .non H'
theorem ok_Atlas_init (T : Top w K mg) : FnOk P w K mg base CX0 8 T.a_Atlas_init T.fd_Atlas_init ["self", "box", "logs"] (spAtlasInit K T.a_Atlas) := by
  have G_held_box := ok_held_box (P := P) (w := w) (base := base) T
  have G_is_name := ok_is_name (P := P) (w := w) (base := base) T
  have G_held_log_of := ok_held_log_of (P := P) (w := w) (base := base) T
  refine OwnI.funD_ok T.F_Atlas_init sc_Atlas_init (fun vs H Q E h => ?_) (fun cdv A outer s H vs Q E hr h => ?_)
  · obtain ⟨x, dx, b, l, box, ps, rs, rfl, _⟩ := h
    rfl
  · obtain ⟨x, dx, b, l, box, ps, rs, rfl, hx, hb, h8, hl, hps, hok, hnd, hlen, q⟩ := h
    refine ⟨_, (pss_cons (ps_fld (pv 0) (pe_call G_held_box (hr.mono (by decide)) (by rfl) T.g_held_box T.F_held_box.kp T.b_held_box .nil pass0 (pa_cons (pv 1) pa_nil)) rfl)
      (pss_cons (ps_set (i := 3) sc_Atlas_init.nd rfl (.inr rfl) pe_dnewK)
      (pss_cons (ps_for PassesOwn.never rfl (SeqW.pi_seq (pv 2)) (SeqW.pg_any rfl (pgs_cons (pg_name (i := 4) sc_Atlas_init.nd rfl (.inl rfl)) (pgs_cons (pg_name (i := 5) sc_Atlas_init.nd rfl (.inl rfl)) pgs_nil))) (pss_cons (ps_if (pt_not (pt_val (pe_call G_is_name (hr.mono (by decide)) (by rfl) T.g_is_name T.F_is_name.kp T.b_is_name .nil pass0 (pa_cons (pv 4) pa_nil)))) (pss_one ps_never) pss_nil)
      (pss_cons (ps_if (pt_cmp (pc_din (hu_of hr) (pv 4) (pv 3))) (pss_one ps_never) pss_nil)
      (pss_one (ps_dput (hu_of hr) (pv 3) (pv 4) (pe_call G_held_log_of hr (by rfl) T.g_held_log_of T.F_held_log_of.kp T.b_held_log_of .nil pass0 (pa_cons (pv 4) (pa_cons (pv 5) pa_nil))) rfl)))))
      (pss_cons (ps_fld (pv 0) (pe_callTy OwnI.call_tuple_frz (by rfl) T.m_tuple (by decide +kernel) (pa_cons (pe_callB (call_sortedD rfl) (by rfl) T.m_sorted (by decide +kernel) (pa_cons (pv 3) pa_nil)) pa_nil)) rfl)
      (pss_one (ps_fld (pv 0) (pe_callTy call_tuple_of (by rfl) T.m_tuple (by decide +kernel) (pa_cons (pe_lc (own := [("name", 4)]) (g := gName 4) (by rfl) sc_Atlas_init.nd (pi_tup (pe_fld (pv 0) rfl)) (blkOk_by (own := [("name", 4)]) (N := ["self", "box", "logs", "held", "name", "log"]) (sc := defScope s_Atlas_init) (by decide +kernel)) (fun _ _ _ _ _ => (pg_name (i := 4) sc_Atlas_init.nd rfl (Or.inl rfl))) (fun _ _ _ _ _ => pts_nil) (fun _ _ _ _ _ => (pe_dget (hu_of hr) (pv 3) (pv 4) (fun _ _ => rfl)))) pa_nil)) rfl)))))), ?_⟩
    have hpl := hps.len
    refine ⟨.ref b, rfl, b, box, rfl, hb, h8, fun H1 bt s1 hbt => ?_⟩
    refine ⟨.ref x, rfl, x, T.a_Atlas, dx, [], rfl, s1 _ _ hx, T.cl_Atlas, T.nf_Atlas_box, by show 0 < 1000; decide, ?_⟩
    intro d nd
    generalize efs : putF "box" (.ref bt) [] = fs1 at nd ⊢
    have ndx : d ≠ x := fun z => by rw [z, upd_same] at nd; cases nd
    have nd1 : H1 d = none := by rw [upd_ne ndx] at nd; exact nd
    have nd0 : H d = none := s1.free nd1
    have b1 : But x H (upd (upd H1 x (.ins T.a_Atlas dx fs1)) d (.dK [])) := fun c o hc h => by
      rw [upd_ne (ne_of_none h nd0), upd_ne hc]
      exact s1 _ _ h
    have ex2 : (upd (upd H1 x (.ins T.a_Atlas dx fs1)) d (.dK [])) x = some (.ins T.a_Atlas dx fs1) := by
      rw [upd_ne (Ne.symm ndx)]
      exact upd_same
    have hbt2 : SqT K (upd (upd H1 x (.ins T.a_Atlas dx fs1)) d (.dK [])) bt (boxV box) := by
      refine seqs_t (fun c o z h => ?_) hbt
      have hcx : c ≠ x := fun e => by rw [e, s1 _ _ hx] at h; cases h; cases z
      rw [upd_ne (ne_of_none h nd1), upd_ne hcx]
      exact h
    refine ⟨.ref l, rfl, l, ps, rfl, (fun H' => Seqs H H'), hl.elim (fun h => .inl fun _ s => seqs_l s h) (fun h => .inr fun _ s => seqs_t s h), seqs_of hx b1, fun J G wk hG => for_it wk (fun i σ H' => But x H H' ∧ H' x = some (.ins T.a_Atlas dx fs1) ∧ SqT K H' bt (boxV box) ∧ ∃ y4 y5 ls, σ = [some (.ref x), some (.ref b), some (.ref l), some (.ref d), y4, y5] ∧ H' d = some (.dK (kvsOf (rs.take i) ls)) ∧ ls.length = i ∧ DpAll K (wo H' (fun c => c = x ∨ c = d)) ls ((rs.take i).map logD)) ⟨b1, ex2, hbt2, _, _, [], rfl, upd_same, rfl, .nil⟩ (fun i σ H' _ h => hG _ (seqs_of hx h.1)) ?_ ?_⟩
    · rintro i v σ H2 H3 hi ⟨b2, e2, hb2, y4, y5, ls, rfl, ed, ll, hls⟩ ⟨rfl, hv⟩
      have hil : i < rs.length := by omega
      obtain ⟨r, fr, hpr⟩ := hps.at_ hv
      have ro := hok r (List.mem_of_getElem? fr)
      obtain ⟨pp, lg, xs, rfl, hsp, hsl, hrw⟩ := hpr.seqs (seqs_of hx b2)
      have ltk : (rs.take i).length = i := by rw [List.length_take]; omega
      refine ⟨pp, _, rfl, hsp, rfl, _, _, rfl, _, _, rfl, rfl, ?_⟩
      obtain ⟨hth, hnm⟩ := th_name (K := K) (H := H3) ro.nm
      refine ⟨_, rfl, .str r.1, rfl, hth, fun H4 s4 => ⟨_, rfl, ?_⟩⟩
      rw [hnm]
      refine iteF ?_
      have ed4 := s4 _ _ ed
      have hnew : r.1 ∉ nms (rs.take i) := fun hm => by
        obtain ⟨r2, hr2, e3⟩ := List.mem_map.mp hm
        obtain ⟨j, hj⟩ := List.mem_iff_getElem?.mp hr2
        have hjl := (List.getElem?_eq_some_iff.mp hj).1
        rw [ltk] at hjl
        rw [List.getElem?_take_of_lt hjl] at hj
        have e5 : (nms rs)[j]? = some r.1 := by unfold nms; rw [List.getElem?_map, hj]; exact congrArg some e3
        have e6 : (nms rs)[i]? = some r.1 := by unfold nms; rw [List.getElem?_map, fr]; rfl
        have j1 := (List.getElem?_eq_some_iff.mp e5)
        have i1 := (List.getElem?_eq_some_iff.mp e6)
        exact (List.pairwise_iff_getElem.mp hnd) j i j1.1 i1.1 hjl (j1.2.trans i1.2.symm)
      have hno := kvs_none (rs.take i) ls r.1 hnew
      refine ⟨_, rfl, _, rfl, d, _, rfl, DGet.k (k := Sum.inr r.1) ed4, _, rfl, ?_⟩
      rw [hno]
      refine iteF ?_
      refine ⟨.str r.1, rfl, .ref lg, rfl, r.1, lg, xs, r.2, rfl, hsl.same s4, hrw.same s4, ro.ok, ro.right, by have := ro.len; omega, fun H5 rr ys s5 nr er hdp => ?_⟩
      have ed5 := s5 _ _ ed4
      have klen := kvs_len (rs.take i) ls
      rw [ltk] at klen
      refine ⟨_, rfl, _, rfl, d, _, rfl, DPut.k (k := Sum.inr r.1) ed5 (small1000 (by omega)), ?_⟩
      have s35 := s4.trans s5
      have nrd : rr ≠ d := fun z => by rw [z, ed4] at nr; cases nr
      have nrx : rr ≠ x := fun z => by rw [z, s4 _ _ e2] at nr; cases nr
      refine ⟨fun c o hc h => ?_, ?_, ?_, _, _, ls ++ [.ref rr], rfl, ?_, ?_, ?_⟩
      · rw [upd_ne (ne_of_none h nd0)]
        exact s35 _ _ (b2 _ _ hc h)
      · rw [upd_ne (Ne.symm ndx)]
        exact s35 _ _ e2
      · refine seqs_t (fun c o z h => ?_) hb2
        rw [upd_ne (fun e => by rw [e, ed] at h; cases h; cases z)]
        exact s35 _ _ h
      · rw [upd_same, putK_new _ hno, List.take_add_one, fr]
        show some (HO.dK _) = some (HO.dK (kvsOf (rs.take i ++ [r]) (ls ++ [.ref rr])))
        rw [kvs_snoc _ _ _ _ (by rw [ll, ltk])]
      · rw [List.length_append, ll]
        rfl
      · rw [List.take_add_one, fr, List.map_append]
        have m6 : Same (wo H5 (fun c => c = x ∨ c = d)) (wo (upd H5 d (.dK (putK (kvsOf (rs.take i) ls) (Sum.inr r.1) (.ref rr)))) (fun c => c = x ∨ c = d)) := fun c o h => by
          have h2 := wo_some h
          rw [wo_in (X := fun c => c = x ∨ c = d) h2.1, upd_ne (fun z => h2.1 (.inr z))]
          exact h2.2
        have m5 : Same (wo H3 (fun c => c = x ∨ c = d)) (wo H5 (fun c => c = x ∨ c = d)) := fun c o h => by
          have h2 := wo_some h
          rw [wo_in (X := fun c => c = x ∨ c = d) h2.1]
          exact s35 _ _ h2.2
        refine dpa_snoc (dp_same m6 _ _ ?_) _ _ (dpa_same (m5.trans m6) _ _ hls)
        refine dp_kp (Tp.wo (fun c o hc h => ?_)) 2 _ _ (log_okD (by have := ro.len; omega)) (show Dp K H5 (.ref rr) (logD r) from .tup (.inl (.inl er)) hdp)
        rcases hc with hc | hc
        · rw [hc, s35 _ _ e2] at h; cases h; rfl
        · rw [hc, ed5] at h; cases h; rfl
    · rintro σ H2 ⟨b2, e2, hb2, y4, y5, ls, rfl, ed, ll, hls⟩
      rw [hpl] at ll hls ed
      rw [List.take_length] at hls ed
      refine ⟨.ref d, rfl, d, _, nms rs, rfl, Rd.of ed, kvs_keys rs ls ll, by unfold nms; rw [List.length_map]; omega, fun ys p perm srt np => ?_⟩
      obtain ⟨rs', prm, ey⟩ := perm_lift (f := fun r : Row => r.1) perm
      have nd' : (nms rs').Nodup := (show (nms rs').Perm (nms rs) from prm.map _).nodup_iff.mpr hnd
      have hsrt : Srt rs' := srt_of nd' (by rw [show nms rs' = ys from ey]; exact sortedS_pw ys srt)
      have lrs : rs'.length = rs.length := prm.length_eq
      have sp := same_upd (o := .lst (ys.map V.str)) np
      refine ⟨p, _, rfl, .inl (.inl upd_same), fun n on po nn => ?_⟩
      have sn := same_upd (o := .frz on (.tup (ys.map V.str))) nn
      have s3 := sp.trans sn
      refine ⟨.ref x, rfl, x, T.a_Atlas, dx, fs1, rfl, s3 _ _ e2, T.cl_Atlas, T.nf_Atlas_names, by rw [← efs]; show 1 < 1000; decide, ?_⟩
      have nnx : n ≠ x := fun z => by rw [z, sp _ _ e2] at nn; cases nn
      have nnd : n ≠ d := fun z => by rw [z, sp _ _ ed] at nn; cases nn
      generalize eH3 : upd (upd (upd H2 p (.lst (ys.map V.str))) n (.frz on (.tup (ys.map V.str)))) x (.ins T.a_Atlas dx (putF "names" (.ref n) fs1)) = H3
      have k3 : ∀ c o, c ≠ x → H2 c = some o → H3 c = some o := fun c o hc h => by
        rw [← eH3, upd_ne hc]
        exact s3 _ _ h
      have x3 : H3 x = some (.ins T.a_Atlas dx (putF "names" (.ref n) fs1)) := by rw [← eH3]; exact upd_same
      have n3 : H3 n = some (.frz on (.tup (ys.map V.str))) := by
        rw [← eH3, upd_ne nnx]
        exact upd_same
      have d3 : H3 d = some (.dK (kvsOf rs ls)) := k3 _ _ ndx ed
      have hls3 : DpAll K (wo H3 (fun c => c = x ∨ c = d)) ls (rs.map logD) := dpa_same (fun c o h => by
        have h2 := wo_some h
        rw [wo_in (X := fun c => c = x ∨ c = d) h2.1]
        exact k3 _ _ (fun z => h2.1 (.inl z)) h2.2) _ _ hls
      have lkn : (putF "names" (.ref n) fs1).lookup ("names" : Str) = some (.ref n) := by rw [lookup_putF, if_pos rfl]
      refine ⟨.ref x, rfl, x, T.a_Atlas, dx, _, _, rfl, x3, T.cl_Atlas, T.nf_Atlas_names, lkn, n, rfl, ⟨_, .inl (.inr ⟨on, n3⟩)⟩, fun D hD => lc_it (walk_tup (xs := ys.map V.str)) (fun i H' => Same H3 H' ∧ ∃ zs, H' D = some (.lst zs) ∧ zs.length = i ∧ DpAll K (wo H3 (fun c => c = x ∨ c = d)) zs ((rs'.take i).map logD)) ⟨same_upd hD, [], upd_same, rfl, .nil⟩ (fun i H' _ h => .inl (.inr ⟨on, h.1 _ _ n3⟩)) ?_ ?_⟩
      · rintro i v H4 H5 hi ⟨s4, zs, eD, lz, hz⟩ ⟨rfl, hv⟩
        rw [← ey, List.map_map, List.getElem?_map] at hv
        obtain ⟨r, fr, rfl⟩ : ∃ r, rs'[i]? = some r ∧ V.str r.1 = v := by
          cases e1 : rs'[i]? with
          | none => rw [e1] at hv; cases hv
          | some r => rw [e1] at hv; exact ⟨r, rfl, Option.some.inj hv⟩
        obtain ⟨m, hm⟩ := List.mem_iff_getElem?.mp (prm.mem_iff.mp (List.mem_of_getElem? fr))
        have hml : m < ls.length := by rw [ll]; exact (List.getElem?_eq_some_iff.mp hm).1
        have hlm := List.getElem?_eq_getElem hml
        have hval := kvs_some rs ls m r ls[m] hnd hm hlm
        obtain ⟨dd, fd, gd⟩ := dpa_at _ ls hls3 m ls[m] hlm
        rw [List.getElem?_map, hm] at fd
        cases fd
        have il : i < rs'.length := (List.getElem?_eq_some_iff.mp fr).1
        refine ⟨rfl, _, rfl, _, rfl, d, ls[m], rfl, ?_, zs, eD, small1000 (by omega), ?_, _, upd_same, ?_, ?_⟩
        · have hg := DGet.k (k := Sum.inr r.1) (s4 _ _ d3)
          rw [hval] at hg
          exact hg
        · exact fun c o h => by
            rw [upd_ne (ne_of_none h hD)]
            exact s4 _ _ h
        · rw [List.length_append, lz]
          rfl
        · rw [List.take_add_one, fr, List.map_append]
          exact dpa_snoc gd _ _ hz
      · rintro H4 ⟨s4, zs, eD, lz, hz⟩
        rw [List.length_map, show ys.length = rs'.length by rw [← ey, List.length_map], List.take_length] at hz
        refine ⟨D, zs, rfl, .inl ⟨.inl (.inl eD), fun t nt => ?_⟩⟩
        have st := same_upd (o := .tup zs) nt
        have s34 := s4.trans st
        refine ⟨.ref x, rfl, x, T.a_Atlas, dx, _, rfl, s34 _ _ x3, T.cl_Atlas, T.nf_Atlas_logs, by rw [← efs]; show (putF "names" (.ref n) [("box", V.ref bt)]).length < 1000; exact Nat.lt_of_le_of_lt (length_putF _ _ _) (show 1 + 1 < 1000 by decide), ?_⟩
        have ntx : t ≠ x := fun z => by rw [z, s4 _ _ x3] at nt; cases nt
        have kf : Same (wo H3 (fun c => c = x ∨ c = d)) (upd (upd H4 t (.tup zs)) x (.ins T.a_Atlas dx (putF "logs" (.ref t) (putF "names" (.ref n) fs1)))) := fun c o h => by
          have h2 := wo_some h
          rw [upd_ne (fun z => h2.1 (.inl z))]
          exact s34 _ _ h2.2
        refine q _ rs' (fun c o hc h => ?_) prm hsrt ⟨dx, bt, n, t, zs, on, po, ?_, ?_, ?_, .inl (.inl ?_), dpa_same kf _ _ hz⟩
        · rw [upd_ne hc]
          exact s34 _ _ (k3 _ _ hc (b2 _ _ hc h))
        · rw [upd_same, ← efs]
          rfl
        · refine seqs_t (fun c o z h => ?_) hb2
          have hcx : c ≠ x := fun e => by rw [e, e2] at h; cases h; cases z
          rw [upd_ne hcx]
          exact s34 _ _ (k3 _ _ hcx h)
        · rw [upd_ne nnx, show namV rs' = ys.map V.str by unfold namV; rw [show nms rs' = ys from ey]]
          exact s34 _ _ n3
        · rw [upd_ne ntx]
          exact upd_same
theorem log_rows {K : PySem.W.Frag} {H : Hp} {v : V} {r : Row} (h : Dp K H v (logD r)) : ∃ a xs, v = .ref a ∧ SqT K H a xs ∧ Rows K H xs r.2 := by
  cases h with
  | tup hs ha => exact ⟨_, _, rfl, hs, rows_tup ha⟩
--@@SPLIT
theorem in_strs {l : List Str} {z : Str} : inV (.str z) (l.map V.str) = decide (z ∈ l) := by
  unfold inV
  by_cases h : z ∈ l
  · rw [decide_eq_true h]
    exact List.any_eq_true.mpr ⟨.str z, List.mem_map.mpr ⟨z, h, rfl⟩, decide_eq_true rfl⟩
  · rw [decide_eq_false h]
    refine Bool.eq_false_iff.mpr fun e => h ?_
    obtain ⟨v, hv, ev⟩ := List.any_eq_true.mp e
    obtain ⟨y, hy, rfl⟩ := List.mem_map.mp hv
    have ev : y = z := of_decide_eq_true ev
    rw [← ev]
    exact hy
def spLog (K : PySem.W.Frag) (C : Addr) : Sp := fun vs H Q _ => ∃ (x : Addr) (box : List Nat) (rs : List Row) (m : Nat) (r : Row), vs = [.ref x, .str r.1] ∧ AtlasAt K C H x box rs ∧ rs[m]? = some r ∧ (nms rs).Nodup ∧ rs.length ≤ 60 ∧ ∀ v, Dp K H v (logD r) → Q v H
theorem ok_Atlas_log (T : Top w K mg) : FnOk P w K mg base CX0 1 T.a_Atlas_log T.fd_Atlas_log ["self", "name"] (spLog K T.a_Atlas) := by
  refine T.F_Atlas_log.ok sc_Atlas_log (fun vs H Q E h => ?_) (fun cdv A outer s H vs Q E hr h => ?_)
  · obtain ⟨x, box, rs, m, r, rfl, _⟩ := h
    rfl
  · obtain ⟨x, box, rs, m, r, rfl, hA, hm, hnd, hlen, q⟩ := h
    obtain ⟨dx, b, n, l, ls, on, po, h1, h2, hn, h4, h5⟩ := hA
    have h3 : SqT K H n (namV rs) := .inl (.inr ⟨on, hn⟩)
    refine ⟨_, (pss_cons (ps_if (pt_cmpR op_notIn_seq (pv 1) (pe_fld (pv 0) rfl) (by rfl)) (pss_one ps_never) pss_nil)
      (pss_one (ps_ret (pe_ix ix_tup (pe_fld (pv 0) rfl) (OwnI.pe_bmF PySem.F.plainAttrs_tuple PySem.F.slot_tuple_index PySem.F.type_tuple_index mt_tup_index (pe_fld (pv 0) rfl) (pa_cons (pv 1) pa_nil)) (fun _ _ => rfl))))), ?_⟩
    have hin : inV (.str r.1) (namV rs) = true := by
      unfold inV
      refine List.any_eq_true.mpr ⟨.str r.1, List.mem_map.mpr ⟨r.1, List.mem_map.mpr ⟨r, List.mem_of_getElem? hm, rfl⟩, rfl⟩, ?_⟩
      exact decide_eq_true rfl
    have hfl : (namV rs).all flatV = true := List.all_eq_true.mpr fun v hv => by
      obtain ⟨z, _, rfl⟩ := List.mem_map.mp hv
      rfl
    refine ⟨.str r.1, rfl, .ref x, rfl, x, T.a_Atlas, dx, _, _, rfl, h1, T.cl_Atlas, T.nf_Atlas_names, fl_names b n l, n, _, rfl, .inr h3, rfl, hfl, _, rfl, ?_⟩
    rw [hin]
    refine iteF ?_
    have hj : (nms rs)[m]? = some r.1 := by
      unfold nms
      rw [List.getElem?_map, hm]
      rfl
    refine ⟨.ref x, rfl, x, T.a_Atlas, dx, _, _, rfl, h1, T.cl_Atlas, T.nf_Atlas_logs, fl_logs b n l, ?_⟩
    refine ⟨.ref x, rfl, x, T.a_Atlas, dx, _, _, rfl, h1, T.cl_Atlas, T.nf_Atlas_names, fl_names b n l, ⟨n, on, _, rfl, hn, po⟩, .str r.1, rfl, n, nms rs, r.1, m, rfl, rfl, h3, hj, ?_, ?_⟩
    · intro k hk e
      have hlt := (List.getElem?_eq_some_iff.mp hj).1
      have hkl : k < (nms rs).length := by omega
      have e1 := List.getElem?_eq_getElem hkl
      have e2 := List.getElem?_eq_getElem hlt
      have e3 : (nms rs)[k] = (nms rs)[m] := Option.some.inj ((e1.symm.trans e).trans (hj.symm.trans e2))
      exact (List.pairwise_iff_getElem.mp hnd) k m hkl hlt hk e3
    · have hls : ls.length = rs.length := by
        have := dpa_len _ _ h5
        rw [List.length_map] at this
        exact this
      have hml : m < ls.length := by rw [hls]; exact (List.getElem?_eq_some_iff.mp hm).1
      obtain ⟨d, fd, gd⟩ := dpa_at _ ls h5 m ls[m] (List.getElem?_eq_getElem hml)
      rw [List.getElem?_map, hm] at fd
      cases fd
      exact ⟨l, ls, m, _, rfl, rfl, h4, atI_nat (List.getElem?_eq_getElem hml), q _ gd⟩
/-! ### legs -/
def withQ (rs : List Row) (d : PyData) : List Row := rs.filter fun r => !eqS d r.1
theorem with_nodup {rs : List Row} {d : PyData} (h : (nms rs).Nodup) : (nms (withQ rs d)).Nodup := h.sublist (List.filter_sublist.map _)
/-- the pairs kept so far: new tuples, of names and of the logs that stood at H0 -/
structure KeptAt (K : PySem.W.Frag) (H0 : Hp) (D : Addr) (rs : List Row) (d : PyData) (i : Nat) (H : Hp) : Prop where
  same : Same H0 H
  had : ∃ zs, H D = some (.lst zs) ∧ zs.length = (withQ (rs.take i) d).length ∧ ∀ (j : Nat) (v : V), zs[j]? = some v → ∃ r T l, (withQ (rs.take i) d)[j]? = some r ∧ v = .ref T ∧ H T = some (.tup [.str r.1, .ref l]) ∧ Dp K H0 (.ref l) (logD r)
theorem logD_ref {K : PySem.W.Frag} {H : Hp} {v : V} {r : Row} (h : Dp K H v (logD r)) : ∃ l xs, v = .ref l ∧ SqT K H l xs ∧ DpAll K H xs (r.2.map Ent.tup) := by
  cases h with
  | tup h a => exact ⟨_, _, rfl, h, a⟩
theorem kept_step {K : PySem.W.Frag} {H0 H : Hp} {D T : Addr} {rs : List Row} {ls : List V} {d : PyData} {i : Nat} {x y : V} (hls : DpAll K H0 ls (rs.map logD)) (nD : H0 D = none) (p : KeptAt K H0 D rs d i H) (hlen : rs.length ≤ 60) (nT : H T = none) (ex : (namV rs)[i]? = some x) (ey : ls[i]? = some y) :
    ∃ r, r ∈ rs ∧ x = .str r.1 ∧ (eqS d r.1 = true → KeptAt K H0 D rs d (i + 1) (upd H T (.tup [x, y]))) ∧ (eqS d r.1 = false → ∃ acc, (upd H T (.tup [x, y])) D = some (.lst acc) ∧ acc.length < sizeLine ∧ KeptAt K H0 D rs d (i + 1) (upd (upd H T (.tup [x, y])) D (.lst (acc ++ [.ref T])))) := by
  obtain ⟨s, zs, eD, lz, hz⟩ := p
  obtain ⟨r, fr, rfl⟩ : ∃ r, rs[i]? = some r ∧ V.str r.1 = x := by
    unfold namV nms at ex
    rw [List.map_map, List.getElem?_map] at ex
    cases e : rs[i]? with
    | none => rw [e] at ex; cases ex
    | some r => rw [e] at ex; exact ⟨r, rfl, Option.some.inj ex⟩
  obtain ⟨dd, fd, gd⟩ := dpa_at _ ls hls i y ey
  rw [List.getElem?_map, fr] at fd
  cases fd
  obtain ⟨l, xs, rfl, hx, ha⟩ := logD_ref gd
  have tk : withQ (rs.take (i + 1)) d = withQ (rs.take i) d ++ (if (!eqS d r.1) = true then [r] else []) := by
    unfold withQ
    rw [List.take_add_one, fr, List.filter_append]
    show _ ++ List.filter (fun r : Row => !eqS d r.1) [r] = _
    cases h : eqS d r.1 <;> simp [h]
  have sT := same_upd (o := .tup [.str r.1, .ref l]) nT
  have nTD : T ≠ D := fun e => by rw [e, eD] at nT; cases nT
  have few : zs.length ≤ 60 := by
    rw [lz]
    unfold withQ
    have := List.length_filter_le (fun r => !eqS d r.1) (rs.take i)
    rw [List.length_take] at this
    omega
  refine ⟨r, List.mem_of_getElem? fr, rfl, fun e => ⟨s.trans sT, zs, sT _ _ eD, ?_, fun j v hv => ?_⟩, fun e => ⟨zs, sT _ _ eD, by show zs.length < sizeLine; exact small1000 (by omega), fun c o h => ?_, _, upd_same, ?_, fun j v hv => ?_⟩⟩
  · rw [tk, e, lz]
    simp
  · obtain ⟨q, T', l', h1, h2, h3, h4⟩ := hz j v hv
    refine ⟨q, T', l', ?_, h2, sT _ _ h3, h4⟩
    rw [tk, e]
    simpa using h1
  · rw [upd_ne (ne_of_none h nD)]
    exact sT _ _ (s _ _ h)
  · rw [tk, e, List.length_append, List.length_append, lz]
    rfl
  · rw [tk, e]
    by_cases hj : j < zs.length
    · rw [List.getElem?_append_left hj] at hv
      obtain ⟨q, T', l', h1, h2, h3, h4⟩ := hz j v hv
      refine ⟨q, T', l', ?_, h2, ?_, h4⟩
      · rw [List.getElem?_append_left (by rw [← lz]; exact hj)]
        exact h1
      · rw [upd_ne (fun e => by rw [e, eD] at h3; cases h3)]
        exact sT _ _ h3
    · rw [List.getElem?_append_right (by omega)] at hv
      have hj2 : j = zs.length := by
        have := (List.getElem?_eq_some_iff.mp hv).1
        have : j - zs.length < 1 := this
        omega
      subst hj2
      rw [Nat.sub_self] at hv
      cases hv
      refine ⟨r, T, l, ?_, rfl, (upd_ne nTD).trans upd_same, gd⟩
      rw [List.getElem?_append_right (by omega), lz, Nat.sub_self]
      rfl
/-! ### with a log, without one, where nothing is refused -/
theorem Pairs.of_at {K : PySem.W.Frag} {H : Hp} : ∀ {vs : List V} {rs : List Row}, vs.length = rs.length → (∀ (j : Nat) (v : V), vs[j]? = some v → ∃ r, rs[j]? = some r ∧ PairAt K H v r) → Pairs K H vs rs
  | [], [], _, _ => .nil
  | v :: vs, r :: rs, e, h => by
    obtain ⟨_, e1, h1⟩ := h 0 v rfl
    cases e1
    exact .cons h1 (Pairs.of_at (Nat.succ.inj e) fun j w hw => h (j + 1) w hw)
  | [], _ :: _, e, _ => nomatch e
  | _ :: _, [], e, _ => nomatch e
theorem kept_pairs {K : PySem.W.Frag} {H0 H : Hp} {D : Addr} {rs : List Row} {d : PyData} (p : KeptAt K H0 D rs d rs.length H) : ∃ zs, H D = some (.lst zs) ∧ zs.length ≤ rs.length ∧ ∀ H', Same H H' → Pairs K H' zs (withQ rs d) := by
  obtain ⟨s, zs, eD, lz, hz⟩ := p
  rw [List.take_length] at lz hz
  refine ⟨zs, eD, by rw [lz]; exact List.length_filter_le _ _, fun H' s' => Pairs.of_at lz fun j v hv => ?_⟩
  obtain ⟨r, T, l, h1, h2, h3, h4⟩ := hz j v hv
  obtain ⟨_, xs, e, hx, hr⟩ := log_rows h4
  cases e
  exact ⟨r, h1, T, l, xs, h2, .inr (.inl (.inl (s' _ _ h3))), .inr (sqt_same (s.trans s') hx), hr.same (s.trans s')⟩
theorem eqS_str (z s : Str) : eqS (.str z) s = decide (s = z) := by
  by_cases h : s = z
  · subst h
    exact (beq_self_eq_true _).trans (decide_eq_true rfl).symm
  · exact (beq_eq_false_iff_ne.mpr h).trans (decide_eq_false h).symm
theorem with_out {rs : List Row} {z : Str} : z ∉ nms (withQ rs (.str z)) := fun m => by
  obtain ⟨r, hr, e⟩ := List.mem_map.mp m
  have := (List.mem_filter.mp hr).2
  rw [eqS_str, decide_eq_true e] at this
  cases this
/-- nobody of that name: all stay -/
theorem with_new {rs : List Row} {z : Str} (h : z ∉ nms rs) : withQ rs (.str z) = rs := List.filter_eq_self.mpr fun r hr => by
  rw [eqS_str, decide_eq_false (fun e => h (List.mem_map.mpr ⟨r, hr, e⟩))]
  rfl
theorem iteNy {x y : V} {A B : Prop} (n : x ≠ y) (h : A) : if (!decide (x = y)) = true then A else B := by
  rw [decide_eq_false n]
  exact h
theorem with_nodupK {rs : List Row} {d : PyData} (h : (nms rs).Nodup) : (nms (withQ rs d)).Nodup := h.sublist (List.filter_sublist.map _)
def spWithK (K : PySem.W.Frag) (C : Addr) : Sp := fun vs H Q _ => ∃ (x lg : Addr) (z : Str) (xs : List V) (es : List Ent) (box : List Nat) (rs : List Row), vs = [.ref x, .str z, .ref lg] ∧ AtlasAt K C H x box rs ∧ box.length = 8 ∧ SqA K H lg xs ∧ Rows K H xs es ∧ RowOk (z, es) ∧ Srt rs ∧ (∀ r ∈ rs, RowOk r) ∧ rs.length ≤ 50 ∧
  ∀ H' y rs', Same H H' → rs'.Perm (withQ rs (.str z) ++ [(z, es)]) → Srt rs' → AtlasAt K C H' y box rs' → Q (.ref y) H'
theorem ok_with_logK (T : Top w K mg) : FnOk P w K mg base CX0 10 T.a_Atlas_with_log T.fd_Atlas_with_log ["self", "name", "log"] (spWithK K T.a_Atlas) := by
  have G_Atlas_init := ok_Atlas_init (P := P) (w := w) (base := base) T
  refine T.F_Atlas_with_log.ok sc_Atlas_with_log (fun vs H Q E h => ?_) (fun cdv A outer s H vs Q E hr h => ?_)
  · obtain ⟨x, lg, z, xs, es, box, rs, rfl, _⟩ := h
    rfl
  · obtain ⟨x, lg, z, xs, es, box, rs, rfl, hA, h8, hl, hes, hrow, hsrt, hok, hlen, q⟩ := h
    have hA' := hA
    obtain ⟨dx, b, n, l, ls, on, po, h1, h2, hn, h4, h5⟩ := hA'
    have h3 : SqT K H n (namV rs) := .inl (.inr ⟨on, hn⟩)
    refine ⟨_, (pss_cons (ps_setLc (i := 3) (own := [("pair", 4)]) (g := gName 4) (by rfl) sc_Atlas_with_log.nd rfl rfl (sw_true rfl rfl rfl (by decide +kernel)) (ZipW.pi_zipN (by rfl) T.m_zip (pa_cons (pe_fld (pv 0) rfl) (pa_cons (pe_fld (pv 0) rfl) pa_nil))) (blkOk_by (own := [("pair", 4)]) (N := ["self", "name", "log", "others", "pair"]) (sc := defScope s_Atlas_with_log) (by decide +kernel)) (fun _ _ _ _ _ => (pg_name (i := 4) sc_Atlas_with_log.nd rfl (Or.inl rfl))) (fun _ _ _ _ _ => (pts_one (pt_cmpR op_ne (pe_ix (r := rIx K) (SeqW.ix_seqK rfl) (pv 4) pe_int (fun _ _ => rfl)) (pv 1) (nomark _)))) (fun _ _ _ _ _ => (pv 4)))
      (pss_one (ps_ret (pe_make T.mk_Atlas G_Atlas_init hr (by rfl) T.g_Atlas T.b_Atlas_init .nil pass0 (pa_cons (pe_fld (pv 0) rfl) (pa_cons (pe_lst (StX.pa_star (pv 3) (pa_cons (pe_tup (pa_cons (pv 1) (pa_cons (pv 2) pa_nil))) pa_nil))) pa_nil)))))), ?_⟩
    refine ⟨.ref x, rfl, x, T.a_Atlas, dx, _, _, rfl, h1, T.cl_Atlas, T.nf_Atlas_names, fl_names b n l, .ref x, rfl, x, T.a_Atlas, dx, _, _, rfl, h1, T.cl_Atlas, T.nf_Atlas_logs, fl_logs b n l, ?_⟩
    refine ⟨n, l, namV rs, ls, rfl, true, true, h3, h4, fun D nD => lc_it (ZipG.walk_zipG (t1 := true) (t2 := true) (xs := namV rs) (ys := ls) (n := rs.length) ?_) (KeptAt K H D rs (.str z)) ⟨same_upd nD, [], upd_same, rfl, fun j v hv => nomatch hv⟩ (fun i H' _ h => ⟨sqt_same h.same h3, sqt_same h.same h4⟩) ?_ ?_⟩
    · rw [show (namV rs).length = rs.length by unfold namV nms; rw [List.length_map, List.length_map], (dpa_len _ _ h5).trans (List.length_map _), Nat.min_self]
    · rintro i v H1 H2 hi p ⟨T', u1, u2, rfl, nT, rfl, ex, ey⟩
      obtain ⟨r, hr, rfl, yes, no⟩ := kept_step h5 nD p (by omega) nT ex ey
      refine ⟨rfl, .ref T', rfl, ixA (j := 0) (.inr (.inl (.inl upd_same))) rfl ⟨.str z, rfl, rfl, _, rfl, ?_⟩⟩
      rw [eqS_str] at yes no
      by_cases e : r.1 = z
      · exact iteN (by rw [e]) (yes (decide_eq_true e))
      · exact iteNy (fun y => e (V.str.inj y)) ⟨.ref T', rfl, no (decide_eq_false e)⟩
    · intro H1 p
      obtain ⟨zs, eD, lz, hp⟩ := kept_pairs p
      refine ⟨.ref x, rfl, x, T.a_Atlas, dx, _, _, rfl, p.same _ _ h1, T.cl_Atlas, T.nf_Atlas_box, fl_box b n l, ?_⟩
      refine ⟨.ref D, rfl, D, zs, rfl, .inr (.inl (.inl eD)), .str z, rfl, .ref lg, rfl, by show 2 ≤ sizeLine; decide, fun t nt => ⟨Nat.le_of_lt (small1000 (by rw [List.length_append]; show zs.length + 1 ≤ 1000; omega)), fun L nL y dy ny ndy ne => ?_⟩⟩
      generalize eH2 : upd (upd (upd (upd H1 t (.tup [.str z, .ref lg])) L (.lst (zs ++ [.ref t]))) dy (.own y)) y (.ins T.a_Atlas dy []) = H2
      have y2 : H2 y = some (.ins T.a_Atlas dy []) := by rw [← eH2]; exact upd_same
      have st := same_upd (o := .tup [.str z, .ref lg]) nt
      have sL := same_upd (o := .lst (zs ++ [.ref t])) nL
      have sy : Same (upd (upd H1 t (.tup [.str z, .ref lg])) L (.lst (zs ++ [.ref t]))) H2 := fun c o h => by
        rw [← eH2, upd_ne (ne_of_none h ny)]
        exact same_upd ndy _ _ h
      have eL := sy _ _ (upd_same (H := upd H1 t (.tup [.str z, .ref lg])) (a := L))
      have et := sy _ _ (sL _ _ (upd_same (H := H1) (a := t)))
      have s12 := (st.trans sL).trans sy
      have s2 := p.same.trans s12
      have ny0 : H y = none := (p.same.trans (st.trans sL)).free ny
      have wl : (withQ rs (.str z)).length ≤ rs.length := List.length_filter_le _ _
      refine ⟨y, dy, b, L, box, zs ++ [.ref t], withQ rs (.str z) ++ [(z, es)], rfl, y2, .inr (sqt_same s2 h2), h8, .inl (.inl (.inl eL)), (hp _ s12).snoc ⟨t, lg, xs, rfl, .inr (.inl (.inl et)), hl.same s2, hes.same s2⟩, fun r hr => ?_, ?_, by rw [List.length_append]; show _ + 1 ≤ 60; omega, fun H' rs' bt prm srt at_ => ⟨rfl, q H' y rs' (fun c o h => bt _ _ (ne_of_none h ny0) (s2 _ _ h)) prm srt at_⟩⟩
      · rcases List.mem_append.mp hr with h | h
        · exact hok r (List.mem_filter.mp h).1
        · rw [List.mem_singleton.mp h]
          exact hrow
      · rw [show nms (withQ rs (.str z) ++ [(z, es)]) = nms (withQ rs (.str z)) ++ [z] from List.map_append]
        refine List.nodup_append.mpr ⟨with_nodupK hsrt.nodup, List.nodup_cons.mpr ⟨(fun h => nomatch h), .nil⟩, fun a ha c hc e => with_out (rs := rs) (z := z) ?_⟩
        exact (e.trans (List.mem_singleton.mp hc)) ▸ ha
def spWithoutK (K : PySem.W.Frag) (C : Addr) : Sp := fun vs H Q _ => ∃ (x : Addr) (z : Str) (box : List Nat) (rs : List Row), vs = [.ref x, .str z] ∧ AtlasAt K C H x box rs ∧ box.length = 8 ∧ z ∈ nms rs ∧ Srt rs ∧ (∀ r ∈ rs, RowOk r) ∧ rs.length ≤ 50 ∧
  ∀ H' y rs', Same H H' → rs'.Perm (withQ rs (.str z)) → Srt rs' → AtlasAt K C H' y box rs' → Q (.ref y) H'
theorem ok_withoutK (T : Top w K mg) : FnOk P w K mg base CX0 10 T.a_Atlas_without T.fd_Atlas_without ["self", "name"] (spWithoutK K T.a_Atlas) := by
  have G_Atlas_init := ok_Atlas_init (P := P) (w := w) (base := base) T
  refine T.F_Atlas_without.ok sc_Atlas_without (fun vs H Q E h => ?_) (fun cdv A outer s H vs Q E hr h => ?_)
  · obtain ⟨x, z, box, rs, rfl, _⟩ := h
    rfl
  · obtain ⟨x, z, box, rs, rfl, hA, h8, hin, hsrt, hok, hlen, q⟩ := h
    have hA' := hA
    obtain ⟨dx, b, n, l, ls, on, po, h1, h2, hn, h4, h5⟩ := hA'
    have h3 : SqT K H n (namV rs) := .inl (.inr ⟨on, hn⟩)
    refine ⟨_, (pss_cons (ps_if (pt_cmpR op_notIn_seq (pv 1) (pe_fld (pv 0) rfl) (by rfl)) (pss_one ps_never) pss_nil)
      (pss_one (ps_ret (pe_make T.mk_Atlas G_Atlas_init hr (by rfl) T.g_Atlas T.b_Atlas_init .nil pass0 (pa_cons (pe_fld (pv 0) rfl) (pa_cons (pe_lc (own := [("pair", 2)]) (g := gName 2) (by rfl) sc_Atlas_without.nd (ZipW.pi_zipN (by rfl) T.m_zip (pa_cons (pe_fld (pv 0) rfl) (pa_cons (pe_fld (pv 0) rfl) pa_nil))) (blkOk_by (own := [("pair", 2)]) (N := ["self", "name", "pair"]) (sc := defScope s_Atlas_without) (by decide +kernel)) (fun _ _ _ _ _ => (pg_name (i := 2) sc_Atlas_without.nd rfl (Or.inl rfl))) (fun _ _ _ _ _ => (pts_one (pt_cmpR op_ne (pe_ix (r := rIx K) (SeqW.ix_seqK rfl) (pv 2) pe_int (fun _ _ => rfl)) (pv 1) (nomark _)))) (fun _ _ _ _ _ => (pv 2))) pa_nil)))))), ?_⟩
    refine ⟨.str z, rfl, .ref x, rfl, x, T.a_Atlas, dx, _, _, rfl, h1, T.cl_Atlas, T.nf_Atlas_names, fl_names b n l, n, _, rfl, .inr h3, rfl, flat_strs (nms rs), _, rfl, ?_⟩
    rw [show inV (.str z) (namV rs) = true from in_strs.trans (decide_eq_true hin)]
    refine iteF ?_
    refine ⟨.ref x, rfl, x, T.a_Atlas, dx, _, _, rfl, h1, T.cl_Atlas, T.nf_Atlas_box, fl_box b n l, ?_⟩
    refine ⟨.ref x, rfl, x, T.a_Atlas, dx, _, _, rfl, h1, T.cl_Atlas, T.nf_Atlas_names, fl_names b n l, .ref x, rfl, x, T.a_Atlas, dx, _, _, rfl, h1, T.cl_Atlas, T.nf_Atlas_logs, fl_logs b n l, ?_⟩
    refine ⟨n, l, namV rs, ls, rfl, true, true, h3, h4, fun D nD => lc_it (ZipG.walk_zipG (t1 := true) (t2 := true) (xs := namV rs) (ys := ls) (n := rs.length) ?_) (KeptAt K H D rs (.str z)) ⟨same_upd nD, [], upd_same, rfl, fun j v hv => nomatch hv⟩ (fun i H' _ h => ⟨sqt_same h.same h3, sqt_same h.same h4⟩) ?_ ?_⟩
    · rw [show (namV rs).length = rs.length by unfold namV nms; rw [List.length_map, List.length_map], (dpa_len _ _ h5).trans (List.length_map _), Nat.min_self]
    · rintro i v H1 H2 hi p ⟨T', u1, u2, rfl, nT, rfl, ex, ey⟩
      obtain ⟨r, hr, rfl, yes, no⟩ := kept_step h5 nD p (by omega) nT ex ey
      refine ⟨rfl, .ref T', rfl, ixA (j := 0) (.inr (.inl (.inl upd_same))) rfl ⟨.str z, rfl, rfl, _, rfl, ?_⟩⟩
      rw [eqS_str] at yes no
      by_cases e : r.1 = z
      · exact iteN (by rw [e]) (yes (decide_eq_true e))
      · exact iteNy (fun y => e (V.str.inj y)) ⟨.ref T', rfl, no (decide_eq_false e)⟩
    · intro H1 p y dy ny ndy ne
      obtain ⟨zs, eD, lz, hp⟩ := kept_pairs p
      have s1 : Same H1 (upd (upd H1 dy (.own y)) y (.ins T.a_Atlas dy [])) := fun c o h => by
        rw [upd_ne (ne_of_none h ny)]
        exact same_upd ndy _ _ h
      have wl : (withQ rs (.str z)).length ≤ rs.length := List.length_filter_le _ _
      exact ⟨y, dy, b, D, box, zs, withQ rs (.str z), rfl, upd_same, .inr (sqt_same (p.same.trans s1) h2), h8, .inl (.inl (.inl (s1 _ _ eD))), hp _ s1, fun r hr => hok r (List.mem_filter.mp hr).1, with_nodupK hsrt.nodup, by omega, fun H' rs' bt prm srt at_ => ⟨rfl, q H' y rs' (fun c o h => bt _ _ (fun e => by rw [e] at h; rw [p.same _ _ h] at ny; cases ny) (s1 _ _ (p.same _ _ h))) prm srt at_⟩⟩
--@@SPLIT
/-! ### drawn texts, drawn things -/
theorem op_mulS {X : Cx} : OpR X (binaryOp .Mult) (fun x y H Q => ∃ (z : Str) (n : Int), x = .str z ∧ y = .int n ∧ z.length ≤ 16 ∧ 0 ≤ n ∧ n ≤ 1048576 ∧ ∀ z' : Str, (z'.length : Int) = (z.length : Int) * n → Q (.str z') H) := by
  intro pins s σ H x y v u Q I rx ry h
  obtain ⟨z, n, rfl, rfl, hz, h0, h1, q⟩ := h
  obtain ⟨t, rfl⟩ := rx
  obtain ⟨t', rfl⟩ := ry
  exact PySem.W.KXi.mul rfl hz (by omega) (by omega) fun t' k _ h2 => ⟨.str _, H, I.tok _, ⟨_, rfl⟩, q _ (h2 h0)⟩
theorem cut_len (z : Str) (lo hi : Option Int) : (cutS z lo hi).length ≤ z.length := by
  show (((z.cps.toList.drop (HT.sIx z.length 0 lo)).take (HT.sIx z.length z.length hi - HT.sIx z.length 0 lo)).toArray).size ≤ z.length
  rw [List.size_toArray, List.length_take, List.length_drop, len_toList]
  omega
theorem app_len (a b : Str) : (a ++ b).length = a.length + b.length := by
  show (a.cps ++ b.cps).size = _
  rw [Array.size_append]
  rfl
theorem str_at {z : Str} {i : Int} (h0 : 0 ≤ i) (h1 : i < (z.length : Int)) : ∃ c, atI z.cps.toList i = some c := by
  obtain ⟨j, rfl⟩ : ∃ j : Nat, i = j := ⟨i.toNat, by omega⟩
  have hj : j < z.cps.toList.length := by
    rw [len_toList]
    omega
  exact ⟨z.cps.toList[j], atI_nat (List.getElem?_eq_getElem hj)⟩
def spText (lo hi : Nat) : Sp := fun vs H Q _ => ∃ p, vs = [.ref p] ∧ Pool H p ∧ ∀ H' (z : Str), But p H H' → Pool H' p → lo ≤ z.length → z.length ≤ hi → (∀ c ∈ z.cps.toList, c ∈ SMALLs.cps.toList) → Q (.str z) H'
theorem app_mem {a b : Str} {c : Nat} (h : c ∈ (a ++ b).cps.toList) : c ∈ a.cps.toList ∨ c ∈ b.cps.toList := by
  have h2 : c ∈ (a.cps ++ b.cps).toList := h
  rw [Array.toList_append] at h2
  exact List.mem_append.mp h2
theorem join_mem {S : List Nat} : ∀ ys : List Str, (∀ y ∈ ys, ∀ c ∈ y.cps.toList, c ∈ S) → ∀ c ∈ (Str.join (PySem.Str.ofString "") ys).cps.toList, c ∈ S
  | [], _, c, h => by
    have h2 : c ∈ ([] : List Nat) := h
    cases h2
  | [y], hy, c, h => hy y (by simp) c h
  | y :: z :: r, hy, c, h => by
    have h2 : c ∈ ((y ++ PySem.Str.ofString "") ++ Str.join (PySem.Str.ofString "") (z :: r)).cps.toList := h
    rcases app_mem h2 with h3 | h3
    · rcases app_mem h3 with h4 | h4
      · exact hy y (by simp) c h4
      · have h5 : c ∈ ([] : List Nat) := by
          rw [show (PySem.Str.ofString "").cps.toList = [] by decide +kernel] at h4
          exact h4
        cases h5
    · exact join_mem (z :: r) (fun x hx => hy x (List.mem_cons_of_mem _ hx)) c h3
theorem ok_of_mem {z : Str} (h : ∀ c ∈ z.cps.toList, c < 0x110000) : PyData.strOk z = true := by
  show z.cps.all (fun c => decide (c < 0x110000)) = true
  rw [Array.all_eq_true_iff_forall_mem]
  intro c hc
  exact decide_eq_true (h c (Array.mem_toList_iff.mpr hc))
theorem small_ok : ∀ c ∈ SMALLs.cps.toList, c < 0x110000 := by decide +kernel
theorem cut_mem {z : Str} {lo hi : Option Int} {c : Nat} (h : c ∈ (cutS z lo hi).cps.toList) : c ∈ z.cps.toList := by
  have h2 : c ∈ (z.cps.toList.drop (HT.sIx z.length 0 lo)).take (HT.sIx z.length z.length hi - HT.sIx z.length 0 lo) := h
  exact List.mem_of_mem_drop (List.mem_of_mem_take h2)
theorem at_mem {z : Str} {i : Int} {c : Nat} (h : atI z.cps.toList i = some c) : c ∈ z.cps.toList := by
  obtain ⟨j, _, h2, _⟩ := atI_get h
  exact List.mem_of_getElem? h2
theorem join_len : ∀ ys : List Str, (∀ y ∈ ys, y.length = 1) → (Str.join (PySem.Str.ofString "") ys).length = ys.length
  | [], _ => rfl
  | [y], h => by
    show y.length = 1
    exact h y (by simp)
  | y :: z :: r, h => by
    show ((y ++ PySem.Str.ofString "") ++ Str.join (PySem.Str.ofString "") (z :: r)).length = _
    rw [app_len, app_len, join_len (z :: r) (fun x hx => h x (List.mem_cons_of_mem _ hx)), h y (by simp), s0]
    show 1 + 0 + (z :: r).length = (z :: r).length + 1
    omega
theorem sum_ones : ∀ ys : List Str, (∀ y ∈ ys, y.length = 1) → (ys.map (·.length)).sum = ys.length
  | [], _ => rfl
  | y :: r, h => by
    rw [List.map_cons, List.sum_cons, sum_ones r (fun x hx => h x (List.mem_cons_of_mem _ hx)), h y (by simp), List.length_cons]
    omega
theorem ok_Lname (T : Top w K mg) : FnOk P w K mg base CX0 2 T.a_Lname T.fd_Lname ["_law_pool_here"] (spText 1 8) := by
  have G_Ltake := ok_Ltake (P := P) (w := w) (base := base) T
  refine T.F_Lname.ok sc_Lname (fun vs H Q E h => ?_) (fun cdv A outer s H vs Q E hr h => ?_)
  · obtain ⟨p, rfl, _⟩ := h
    rfl
  · obtain ⟨p, rfl, hp, q⟩ := h
    refine ⟨_, (pss_cons (ps_set (i := 1) sc_Lname.nd rfl (.inr rfl) pe_str)
      (pss_one (ps_ret (pe_bm PySem.F.plainAttrs_str PySem.F.slot_str_join PySem.F.type_str_join mt_join pe_str (pa_cons (pe_lc (own := [("_law_k", 2)]) (g := gName 2) (by rfl) sc_Lname.nd (pi_range1 (by rfl) T.m_range (pa_cons (pe_op op_add pe_int (pe_call G_Ltake hr (by rfl) T.g_Ltake T.F_Ltake.kp T.b_Ltake .nil pass0 (pa_cons (pv 0) (pa_cons pe_int pa_nil)))) pa_nil)) (blkOk_by (own := [("_law_k", 2)]) (N := ["_law_pool_here", "_law_letters", "_law_k"]) (sc := defScope s_Lname) (by decide +kernel)) (fun _ _ _ _ _ => (pg_name (i := 2) sc_Lname.nd rfl (Or.inl rfl))) (fun _ _ _ _ _ => pts_nil) (fun _ _ _ _ _ => (pe_ix ix_str (pv 1) (pe_call G_Ltake hr (by rfl) T.g_Ltake T.F_Ltake.kp T.b_Ltake .nil pass0 (pa_cons (pv 0) (pa_cons pe_int pa_nil))) (fun _ _ => rfl)))) pa_nil))))), ?_⟩
    refine ⟨rfl, .ref p, rfl, p, 8, rfl, by decide, by decide, hp, fun H1 r b1 hp1 r0 r1 => ?_⟩
    have l26 : SMALLs.length = 26 := by decide +kernel
    refine ⟨_, _, rfl, rfl, 1 + r, rfl, by omega, by omega, fun D hD => lc_range (lo := 0) (n := (1 + r).toNat) (fun i H' => Pool H' p ∧ But p H H' ∧ ∃ ys : List Str, ys.length = i ∧ (∀ y ∈ ys, y.length = 1) ∧ (∀ y ∈ ys, ∀ c ∈ y.cps.toList, c ∈ SMALLs.cps.toList) ∧ H' D = some (.lst (ys.map V.str))) ⟨hp1.upd (hp1.ne_new hD), b1.mut (b1.free (hp1.ne_new hD) hD), [], rfl, (fun _ h => nomatch h), (fun _ h => nomatch h), upd_same⟩ ?_ ?_⟩
    · rintro i H2 hi ⟨hp2, b2, ys, hl, h1, hm, eD⟩
      have nD : D ≠ p := hp1.ne_new hD
      refine ⟨rfl, ?_⟩
      refine ⟨_, rfl, .ref p, rfl, p, 26, rfl, by decide, by decide, hp2, fun H3 k b3 hp3 k0 k1 => ?_⟩
      obtain ⟨c, hc⟩ := str_at (z := SMALLs) k0 (by rw [l26]; omega)
      refine ⟨_, k, c, rfl, rfl, by decide +kernel, hc, _, b3 _ _ nD eD, ?_, hp3.upd nD, (b2.trans b3).mut (b1.free nD hD), ys ++ [⟨#[c]⟩], ?_, ?_, ?_, ?_⟩
      · rw [List.length_map]
        exact small1000 (by omega)
      · rw [List.length_append, hl]
        rfl
      · intro y hy
        rcases List.mem_append.mp hy with h | h
        · exact h1 y h
        · rw [List.mem_singleton.mp h]
          rfl
      · intro y hy c2 hc2
        rcases List.mem_append.mp hy with h | h
        · exact hm y h c2 hc2
        · rw [List.mem_singleton.mp h] at hc2
          have h3 : c2 ∈ [c] := hc2
          rw [List.mem_singleton.mp h3]
          exact at_mem hc
      · rw [upd_same, List.map_append]
        rfl
    · rintro H2 ⟨hp2, b2, ys, hl, h1, hm, eD⟩
      have e := join_len ys h1
      refine ⟨_, D, ys, rfl, rfl, .inl (.inl (.inl eD)), ?_, ?_⟩
      · rw [sum_ones ys h1, s0]
        show ys.length + ys.length * 0 ≤ 16777216
        omega
      · rw [TL.join_eq]
        exact q H2 _ b2 hp2 (by omega) (by omega) (join_mem ys hm)
theorem up_gr : ∀ c ∈ SMALLs.cps.toList, (Txt.upper ⟨#[c]⟩).cps.toList = [c - 32] ∧ grC (c - 32) = true ∧ c - 32 < 0x110000 := by decide +kernel
theorem all_sm {cs : List Nat} (h : ∀ c ∈ cs, c ∈ SMALLs.cps.toList) : cs.all smC = true := List.all_eq_true.mpr fun c hc => decide_eq_true (h c hc)
theorem nm_of {z : Str} (h1 : 1 ≤ z.length) (h8 : z.length ≤ 8) (hm : ∀ c ∈ z.cps.toList, c ∈ SMALLs.cps.toList) : nmL z.cps.toList = true := by
  unfold nmL shL
  rw [all_sm hm, len_toList, decide_eq_true (show (1 : Int) ≤ (z.length : Int) by omega), decide_eq_true (show (z.length : Int) ≤ 8 by omega)]
  rfl
theorem cut1_tl (z : Str) (h : 1 ≤ z.length) : (cutS z (some 1) none).cps.toList = z.cps.toList.drop 1 := by
  show (z.cps.toList.drop (HT.sIx z.length 0 (some 1))).take (HT.sIx z.length z.length none - HT.sIx z.length 0 (some 1)) = _
  have e1 : HT.sIx z.length 0 (some 1) = 1 := by
    unfold HT.sIx
    simp
    omega
  have e2 : HT.sIx z.length z.length none = z.length := rfl
  rw [e1, e2]
  exact List.take_of_length_le (by rw [List.length_drop, len_toList]; exact Nat.le_refl _)
theorem lo_of {z : Str} {c : Nat} (h1 : 1 ≤ z.length) (h8 : z.length ≤ 8) (hm : ∀ c ∈ z.cps.toList, c ∈ SMALLs.cps.toList) (hc : c ∈ SMALLs.cps.toList) : (Txt.upper ⟨#[c]⟩ ++ cutS z (some 1) none).cps.toList = (c - 32) :: z.cps.toList.drop 1 ∧ loL ((c - 32) :: z.cps.toList.drop 1) = true := by
  obtain ⟨u1, u2, _⟩ := up_gr c hc
  refine ⟨?_, ?_⟩
  · show ((Txt.upper ⟨#[c]⟩).cps ++ (cutS z (some 1) none).cps).toList = _
    rw [Array.toList_append, u1, cut1_tl z h1]
    rfl
  · show (shL ((c - 32) :: z.cps.toList.drop 1) && (grC (c - 32) && (z.cps.toList.drop 1).all smC)) = true
    have l : ((c - 32) :: z.cps.toList.drop 1).length = z.length := by
      rw [List.length_cons, List.length_drop, len_toList]
      omega
    unfold shL
    rw [u2, all_sm (fun d hd => hm d (List.mem_of_mem_drop hd)), l, decide_eq_true (show (1 : Int) ≤ (z.length : Int) by omega), decide_eq_true (show (z.length : Int) ≤ 8 by omega)]
    rfl
/-! ### names, logs and boxes drawn -/
theorem pigeon {α : Type} [DecidableEq α] : ∀ (l found : List α), l.Nodup → (∀ x ∈ l, x ∈ found) → l.length ≤ found.length
  | [], _, _, _ => Nat.zero_le _
  | x :: r, found, nd, h => by
    have nd2 := List.nodup_cons.mp nd
    have hx := h x List.mem_cons_self
    have := pigeon r (found.erase x) nd2.2 (fun y hy => (List.mem_erase_of_ne (fun e => nd2.1 (by rw [← e]; exact hy))).mpr (h y (List.mem_cons_of_mem _ hy)))
    rw [List.length_erase_of_mem hx] at this
    have hp : 0 < found.length := List.length_pos_of_mem hx
    rw [List.length_cons]
    omega
def twelve : List Str := (PySem.Str.ofString "abcdefghijkl").cps.toList.map fun c => ⟨#[c]⟩
theorem twelve_nd : twelve.Nodup := by decide +kernel
theorem twelve_nm : ∀ z ∈ twelve, nmL z.cps.toList = true := by decide +kernel
theorem inV_str (z : Str) (zs : List Str) : inV (.str z) (zs.map V.str) = zs.any (fun y => y == z) := by
  unfold inV
  rw [List.any_map]
  rfl
theorem inV_mem {z : Str} {zs : List Str} : inV (.str z) (zs.map V.str) = true ↔ z ∈ zs := by
  rw [inV_str, List.any_eq_true]
  constructor
  · rintro ⟨y, hy, e⟩
    rw [← eq_of_beq e]
    exact hy
  · exact fun h => ⟨z, h, beq_self_eq_true z⟩
theorem flat_strsM (zs : List Str) : (zs.map V.str).all flatV = true := List.all_eq_true.mpr fun v hv => by
  obtain ⟨z, _, rfl⟩ := List.mem_map.mp hv
  rfl
theorem cut0_tl (z : Str) : (cutS z none (some 1)).cps.toList = z.cps.toList.take 1 := by
  show (z.cps.toList.drop (HT.sIx z.length 0 none)).take (HT.sIx z.length z.length (some 1) - HT.sIx z.length 0 none) = _
  have e1 : HT.sIx z.length 0 none = 0 := rfl
  rw [e1, List.drop_zero, Nat.sub_zero]
  have e2 : HT.sIx z.length z.length (some 1) = min 1 z.length := by
    unfold HT.sIx
    simp
  rw [e2]
  by_cases h : z.length = 0
  · have : z.cps.toList = [] := List.eq_nil_of_length_eq_zero (by rw [len_toList]; exact h)
    rw [this]
    simp
  · rw [show min 1 z.length = 1 by omega]
def spNames : Sp := fun vs H Q _ => ∃ (p : Addr) (m : Nat), vs = [.ref p, .int (m : Nat)] ∧ m ≤ 11 ∧ Pool H p ∧ ∀ H' L (zs : List Str), But p H H' → Pool H' p → H L = none → H' L = some (.lst (zs.map V.str)) → zs.length = m → zs.Nodup → (∀ z ∈ zs, nmL z.cps.toList = true) → Q (.ref L) H'
theorem ok_Lnames (T : Top w K mg) : FnOk P w K mg base CX0 3 T.a_Lnames T.fd_Lnames ["_law_pool_here", "_law_many"] spNames := by
  have G_Ltake := ok_Ltake (P := P) (w := w) (base := base) T
  have G_Lname := ok_Lname (P := P) (w := w) (base := base) T
  refine T.F_Lnames.ok sc_Lnames (fun vs H Q E h => ?_) (fun cdv A outer s H vs Q E hr h => ?_)
  · obtain ⟨p, m, rfl, _⟩ := h
    rfl
  · obtain ⟨p, m, rfl, hm, hp, q⟩ := h
    refine ⟨_, (pss_cons (ps_set (i := 2) sc_Lnames.nd rfl (.inr rfl) (pe_lst pa_nil))
      (pss_cons (ps_for PassesOwn.never rfl (pi_range1 (by rfl) T.m_range (pa_cons (pv 1) pa_nil)) (pg_name (i := 3) sc_Lnames.nd rfl (.inl rfl)) (pss_cons (ps_set (i := 4) sc_Lnames.nd rfl (.inl rfl) (pe_call G_Lname hr (by rfl) T.g_Lname T.F_Lname.kp T.b_Lname .nil pass0 (pa_cons (pv 0) pa_nil)))
      (Evl.pss_cut (ps_if (pt_cmpR op_eq (pe_call G_Ltake (hr.mono (by decide)) (by rfl) T.g_Ltake T.F_Ltake.kp T.b_Ltake .nil pass0 (pa_cons (pv 0) (pa_cons pe_int pa_nil))) pe_int (nomark _)) (pss_one (ps_set (i := 4) sc_Lnames.nd rfl (.inl rfl) (pe_slice sl_str (pv 4) po_none (po_some pe_int)))) pss_nil)
      (Evl.pss_cut (ps_if (pt_cmpR op_in_seq (pv 4) (pv 2) (by rfl)) (pss_one (ps_set (i := 4) sc_Lnames.nd rfl (.inl rfl) (pe_ix ix_list (pe_lc (own := [("_law_letter", 5)]) (g := gName 5) (by rfl) sc_Lnames.nd (pi_str pe_str) (blkOk_by (own := [("_law_letter", 5)]) (N := ["_law_pool_here", "_law_many", "_law_found", "_law_k", "_law_name_here", "_law_letter"]) (sc := defScope s_Lnames) (by decide +kernel)) (fun _ _ _ _ _ => (pg_name (i := 5) sc_Lnames.nd rfl (Or.inl rfl))) (fun _ _ _ _ _ => (pts_one (pt_cmpR (r := rIn K true) (SeqW.notIn_K rfl) (pv 5) (pv 2) (by rfl)))) (fun _ _ _ _ _ => (pv 5))) pe_int (fun _ _ => rfl)))) pss_nil)
      (pss_one (ps_expr (pe_bm PySem.F.plainAttrs_list PySem.F.slot_list_append PySem.F.type_list_append mt_append (pv 2) (pa_cons (pv 4) pa_nil))))))))
      (pss_one (ps_ret (pv 2))))), ?_⟩
    refine ⟨Nat.zero_le _, fun L nL => ?_⟩
    have nLp : L ≠ p := hp.ne_new nL
    have s0 := same_upd (o := .lst []) nL
    refine ⟨.int m, rfl, m, rfl, by omega, by omega, for_range (n := m) (fun i σ H' => But p H H' ∧ Pool H' p ∧ ∃ y3 y4 y5 zs, σ = [some (.ref p), some (.int (m : Nat)), some (.ref L), y3, y4, y5] ∧ H' L = some (.lst (zs.map V.str)) ∧ zs.length = i ∧ zs.Nodup ∧ (∀ z ∈ zs, nmL z.cps.toList = true)) ⟨But.of s0, hp.same s0, none, none, none, [], rfl, upd_same, rfl, .nil, (fun _ h => nomatch h)⟩ ?_ ?_⟩
    · rintro i σ H1 hi ⟨b1, hp1, y3, y4, y5, zs, rfl, eL, lz, nd, hz⟩
      refine ⟨.ref p, rfl, p, rfl, hp1, fun H2 z b2 hp2 z0 z1 zm => ?_⟩
      have eL2 := b2 _ _ nLp eL
      refine ⟨fun σ H' => But p H H' ∧ Pool H' p ∧ H' L = some (.lst (zs.map V.str)) ∧ ∃ y3 y5 z, σ = [some (.ref p), some (.int (m : Nat)), some (.ref L), y3, some (.str z), y5] ∧ nmL z.cps.toList = true, ?_, ?_⟩
      · refine ⟨.ref p, rfl, p, 3, rfl, by decide, by decide, hp2, fun H3 r b3 hp3 _ _ => ⟨rfl, _, rfl, ite2 (fun e => ?_) (fun e => ?_)⟩⟩
        · refine ⟨.str z, rfl, 1, rfl, z, rfl, thou (by omega), (b1.trans b2).trans b3, hp3, b3 _ _ nLp eL2, _, _, _, rfl, ?_⟩
          have l1 : (cutS z none (some 1)).cps.toList.length = 1 := by
            rw [cut0_tl, List.length_take, len_toList]
            omega
          rw [len_toList] at l1
          exact nm_of (by omega) (by omega) (fun c hc => zm c (by rw [cut0_tl] at hc; exact List.mem_of_mem_take hc))
        · exact ⟨(b1.trans b2).trans b3, hp3, b3 _ _ nLp eL2, _, _, z, rfl, nm_of z0 z1 zm⟩
      rintro σ H3 ⟨b3, hp3, eL3, y3, y5, z, rfl, hn⟩
      refine ⟨fun σ H' => But p H H' ∧ Pool H' p ∧ H' L = some (.lst (zs.map V.str)) ∧ ∃ y3 y5 z, σ = [some (.ref p), some (.int (m : Nat)), some (.ref L), y3, some (.str z), y5] ∧ nmL z.cps.toList = true ∧ z ∉ zs, ?_, ?_⟩
      · refine ⟨.str z, rfl, .ref L, rfl, L, _, rfl, .inl (.inl (.inl eL3)), rfl, flat_strsM zs, _, rfl, ite2 (fun e => ?_) (fun e => ?_)⟩
        · refine ⟨_, rfl, fun D hD => lc_it walk_str (fun i H' => Same H3 H' ∧ H' D = some (.lst (((twelve.take i).filter fun y => !(inV (.str y) (zs.map V.str))).map V.str))) ⟨same_upd hD, upd_same⟩ (fun _ _ _ _ => trivial) ?_ ?_⟩
          · rintro j v H4 H5 hj ⟨sm, eD⟩ ⟨rfl, c, hc, rfl⟩
            have ht : twelve[j]? = some ⟨#[c]⟩ := by
              unfold twelve
              rw [List.getElem?_map, Array.getElem?_toList, hc]
              rfl
            have tk : twelve.take (j + 1) = twelve.take j ++ [⟨#[c]⟩] := by rw [List.take_add_one, ht]; rfl
            refine ⟨rfl, _, rfl, .ref L, rfl, L, _, rfl, .inl (.inl (.inl (sm _ _ eL3))), rfl, flat_strsM zs, _, rfl, ite2 (fun e2 => ?_) (fun e2 => ?_)⟩
            · have e2 : (!(inV (.str ⟨#[c]⟩) (zs.map V.str))) = true := e2
              refine ⟨_, rfl, _, eD, ?_, ?_, ?_⟩
              · rw [List.length_map]
                have h1 := List.length_filter_le (fun y => !(inV (.str y) (zs.map V.str))) (twelve.take j)
                have h2 : (twelve.take j).length ≤ 12 := by
                  rw [List.length_take]
                  have : twelve.length = 12 := by decide +kernel
                  omega
                exact small1000 (by omega)
              · exact fun b' o e => by
                  rw [upd_ne (ne_of_none e hD)]
                  exact sm _ _ e
              · rw [upd_same, tk, List.filter_append, List.map_append, List.filter_cons, if_pos e2]
                rfl
            · have e2 : ¬ (!(inV (.str ⟨#[c]⟩) (zs.map V.str))) = true := e2
              refine ⟨sm, ?_⟩
              rw [tk, List.filter_append, List.filter_cons, if_neg e2, List.filter_nil, List.append_nil]
              exact eD
          · rintro H4 ⟨sm, eD⟩
            have l12 : (PySem.Str.ofString "abcdefghijkl").cps.size = 12 := by decide +kernel
            rw [l12, show twelve.take 12 = twelve from List.take_of_length_le (by decide +kernel)] at eD
            obtain ⟨x, xs, ex⟩ : ∃ x xs, (twelve.filter fun y => !(inV (.str y) (zs.map V.str))) = x :: xs := by
              cases ef : twelve.filter fun y => !(inV (.str y) (zs.map V.str)) with
              | cons x xs => exact ⟨x, xs, rfl⟩
              | nil =>
                have hall : ∀ y ∈ twelve, y ∈ zs := fun y hy => by
                  have := List.filter_eq_nil_iff.mp ef y hy
                  refine inV_mem.mp ?_
                  cases h : inV (.str y) (zs.map V.str) with
                  | true => rfl
                  | false => rw [h] at this; exact absurd rfl this
                have := pigeon twelve zs twelve_nd hall
                have t12 : twelve.length = 12 := by decide +kernel
                omega
            rw [ex] at eD
            have hxm : x ∈ twelve.filter fun y => !(inV (.str y) (zs.map V.str)) := by rw [ex]; exact List.mem_cons_self
            obtain ⟨hx1, hx2⟩ := List.mem_filter.mp hxm
            refine ⟨D, _, 0, _, rfl, rfl, .inl (.inl eD), atI_nat (j := 0) rfl, b3.trans (But.of sm), hp3.same sm, sm _ _ eL3, _, _, x, rfl, twelve_nm x hx1, fun hm => ?_⟩
            rw [inV_mem.mpr hm] at hx2
            cases hx2
        · exact ⟨b3, hp3, eL3, _, _, z, rfl, hn, fun hm => e (inV_mem.mpr hm)⟩
      rintro σ H4 ⟨b4, hp4, eL4, y3, y5, z, rfl, hn, hnew⟩
      refine ⟨.ref L, rfl, .inl ⟨rfl, _, .inl (.inl eL4)⟩, .str z, rfl, L, _, _, rfl, rfl, eL4, small1000 (by rw [List.length_map]; omega), b4.mut nL, hp4.upd nLp, _, _, _, zs ++ [z], rfl, ?_, ?_, ?_, ?_⟩
      · rw [upd_same, List.map_append]
        rfl
      · rw [List.length_append, lz]
        rfl
      · exact List.nodup_append.mpr ⟨nd, List.nodup_cons.mpr ⟨List.not_mem_nil, .nil⟩, fun a ha b hb e => hnew (by rw [← List.mem_singleton.mp hb, ← e]; exact ha)⟩
      · intro y hy
        rcases List.mem_append.mp hy with h | h
        · exact hz y h
        · rw [List.mem_singleton.mp h]
          exact hn
    · rintro σ H1 ⟨b1, hp1, y3, y4, y5, zs, rfl, eL, lz, nd, hz⟩
      exact ⟨.ref L, rfl, q H1 L zs b1 hp1 nL eL lz nd hz⟩
--@@SPLIT
theorem dpa_tp {K : PySem.W.Frag} {H H' : Hp} {n : Nat} (e : Tp H H') {ds : List PyData} {vs : List V} (ho : ∀ d ∈ ds, okD n d = true) (h : DpAll K H vs ds) : DpAll K H' vs ds := dpa_kpA (P := fun d => okD n d = true) (fun d v o h => dp_kp e n d v o h) ds vs ho h
theorem Tp.of {H H' : Hp} (s : Same H H') : Tp H H' := fun b o _ h => s b o h
theorem Tp.trans {H H1 H2 : Hp} (a : Tp H H1) (b : Tp H1 H2) : Tp H H2 := fun c o z h => b c o z (a c o z h)
theorem Tp.but {H H' : Hp} {p : Addr} (hp : Pool H p) (b : But p H H') : Tp H H' := (Kp.but hp b).tp
theorem Tp.lst {H : Hp} {a : Addr} {xs ys : List V} (e : H a = some (.lst xs)) : Tp H (L2.upd H a (.lst ys)) := (Kp.upd e rfl).tp
theorem tups_ok (es : List Ent) : ∀ d ∈ es.map Ent.tup, okD 1 d = true := fun d hd => by
  obtain ⟨e, _, rfl⟩ := List.mem_map.mp hd
  exact ent_okT e
def RowAt (K : PySem.W.Frag) (H : Hp) (v : V) (r : Row) : Prop := ∃ t l, v = .ref t ∧ H t = some (.tup [.str r.1, .ref l]) ∧ Dp K H (.ref l) (logD r)
theorem RowAt.tp {K : PySem.W.Frag} {H H' : Hp} {v : V} {r : Row} (h : RowAt K H v r) (hl : r.2.length ≤ 1000) (e : Tp H H') : RowAt K H' v r := by
  obtain ⟨t, l, rfl, h1, h2⟩ := h
  exact ⟨t, l, rfl, e _ _ rfl h1, dp_kp e 2 _ _ (log_okD hl) h2⟩
inductive RowsAt (K : PySem.W.Frag) (H : Hp) : List V → List Row → Prop
  | nil : RowsAt K H [] []
  | cons {v : V} {r : Row} {vs : List V} {rs : List Row} : RowAt K H v r → RowsAt K H vs rs → RowsAt K H (v :: vs) (r :: rs)
theorem RowsAt.tp {K : PySem.W.Frag} {H H' : Hp} {vs : List V} {rs : List Row} (h : RowsAt K H vs rs) (hl : ∀ r ∈ rs, r.2.length ≤ 1000) (e : Tp H H') : RowsAt K H' vs rs := by
  induction h with
  | nil => exact .nil
  | cons h1 _ ih => exact .cons (h1.tp (hl _ List.mem_cons_self) e) (ih fun r hr => hl r (List.mem_cons_of_mem _ hr))
theorem RowsAt.len {K : PySem.W.Frag} {H : Hp} {vs : List V} {rs : List Row} (h : RowsAt K H vs rs) : vs.length = rs.length := by
  induction h with
  | nil => rfl
  | cons _ _ ih => rw [List.length_cons, List.length_cons, ih]
theorem RowsAt.at_ {K : PySem.W.Frag} {H : Hp} {vs : List V} {rs : List Row} (h : RowsAt K H vs rs) : ∀ {i : Nat} {v : V}, vs[i]? = some v → ∃ r, rs[i]? = some r ∧ RowAt K H v r := by
  induction h with
  | nil => exact fun h => by cases h
  | cons h1 _ ih =>
    intro i v hv
    cases i with
    | zero => cases hv; exact ⟨_, rfl, h1⟩
    | succ i => exact ih hv
theorem RowsAt.snoc {K : PySem.W.Frag} {H : Hp} {vs : List V} {rs : List Row} {v : V} {r : Row} (h : RowsAt K H vs rs) (h1 : RowAt K H v r) : RowsAt K H (vs ++ [v]) (rs ++ [r]) := by
  induction h with
  | nil => exact .cons h1 .nil
  | cons h2 _ ih => exact .cons h2 ih
theorem RowAt.same {K : PySem.W.Frag} {H H' : Hp} {v : V} {r : Row} (h : RowAt K H v r) (s : Same H H') : RowAt K H' v r := by
  obtain ⟨t, l, rfl, h1, h2⟩ := h
  exact ⟨t, l, rfl, s _ _ h1, dp_same s _ _ h2⟩
def nmAt (H : Hp) (v : V) : Str := match v with
  | .ref t => match H t with
    | some (.tup (.str z :: _)) => z
    | _ => ⟨#[]⟩
  | _ => ⟨#[]⟩
def lgAt (H : Hp) (v : V) : Addr := match v with
  | .ref t => match H t with
    | some (.tup [_, .ref l]) => l
    | _ => 0
  | _ => 0
theorem RowAt.nm {K : PySem.W.Frag} {H : Hp} {v : V} {r : Row} (h : RowAt K H v r) : nmAt H v = r.1 ∧ ∃ t, v = .ref t ∧ H t = some (.tup [.str (nmAt H v), .ref (lgAt H v)]) := by
  obtain ⟨t, l, rfl, h1, h2⟩ := h
  have e1 : nmAt H (.ref t) = r.1 := by unfold nmAt; simp only [h1]
  have e2 : lgAt H (.ref t) = l := by unfold lgAt; simp only [h1]
  refine ⟨e1, t, rfl, ?_⟩
  rw [e1, e2]
  exact h1
theorem RowsAt.zip {K : PySem.W.Frag} {H : Hp} {vs : List V} {rs : List Row} (h : RowsAt K H vs rs) : ∃ zs : List (V × Row), vs = zs.map (·.1) ∧ rs = zs.map (·.2) ∧ ∀ z ∈ zs, RowAt K H z.1 z.2 := by
  induction h with
  | nil => exact ⟨[], rfl, rfl, fun _ h => nomatch h⟩
  | @cons v r vs rs h1 _ ih =>
    obtain ⟨zs, e1, e2, h2⟩ := ih
    refine ⟨(v, r) :: zs, by rw [e1]; rfl, by rw [e2]; rfl, fun z hz => ?_⟩
    rcases List.mem_cons.mp hz with e | hz
    · rw [e]; exact h1
    · exact h2 z hz
theorem RowsAt.unzip {K : PySem.W.Frag} {H : Hp} : ∀ {zs : List (V × Row)}, (∀ z ∈ zs, RowAt K H z.1 z.2) → RowsAt K H (zs.map (·.1)) (zs.map (·.2))
  | [], _ => .nil
  | z :: zs, h => .cons (h z List.mem_cons_self) (RowsAt.unzip fun y hy => h y (List.mem_cons_of_mem _ hy))
theorem RowsAt.perm {K : PySem.W.Frag} {H : Hp} {vs ys : List V} {rs : List Row} (h : RowsAt K H vs rs) (p : ys.Perm vs) : ∃ rs', RowsAt K H ys rs' ∧ rs'.Perm rs := by
  obtain ⟨zs, e1, e2, hz⟩ := h.zip
  rw [e1] at p
  obtain ⟨zs', p', e⟩ := perm_lift (f := fun z : V × Row => z.1) p
  refine ⟨zs'.map (·.2), ?_, ?_⟩
  · rw [← e]
    exact RowsAt.unzip fun z hz' => hz z (p'.mem_iff.mp hz')
  · rw [e2]
    exact p'.map _
theorem RowsAt.same {K : PySem.W.Frag} {H H' : Hp} {vs : List V} {rs : List Row} (h : RowsAt K H vs rs) (s : Same H H') : RowsAt K H' vs rs := by
  induction h with
  | nil => exact .nil
  | cons h1 _ ih => exact .cons (h1.same s) ih
theorem RowsAt.nms {K : PySem.W.Frag} {H : Hp} {vs : List V} {rs : List Row} (h : RowsAt K H vs rs) : vs.map (nmAt H) = M.nms rs := by
  induction h with
  | nil => rfl
  | cons h1 _ ih =>
    show _ :: _ = _ :: _
    rw [h1.nm.1]
    exact congrArg _ ih
theorem RowsAt.pairs {K : PySem.W.Frag} {H : Hp} {vs : List V} {rs : List Row} (h : RowsAt K H vs rs) : Pairs K H vs rs := by
  induction h with
  | nil => exact .nil
  | cons h1 _ ih =>
    obtain ⟨t, l, rfl, h2, h3⟩ := h1
    obtain ⟨a, xs, e, hs, hr⟩ := log_rows h3
    cases e
    exact .cons ⟨t, l, xs, rfl, .inr (.inl (.inl h2)), .inr hs, hr⟩ ih
theorem RowsAt.apart {K : PySem.W.Frag} {H : Hp} {xs : List V} {rs : List Row} (h : RowsAt K H xs rs) (nd : (M.nms rs).Nodup) : ∀ u ∈ xs, ∀ v ∈ xs, nmAt H u = nmAt H v → lgAt H u = lgAt H v := fun u hu v hv e => by
  obtain ⟨i, hi⟩ := List.mem_iff_getElem?.mp hu
  obtain ⟨j, hj⟩ := List.mem_iff_getElem?.mp hv
  obtain ⟨r1, f1, h1⟩ := h.at_ hi
  obtain ⟨r2, f2, h2⟩ := h.at_ hj
  have e1 : (M.nms rs)[i]? = some (nmAt H u) := by unfold M.nms; rw [List.getElem?_map, f1, h1.nm.1]; rfl
  have e2 : (M.nms rs)[j]? = some (nmAt H v) := by unfold M.nms; rw [List.getElem?_map, f2, h2.nm.1]; rfl
  have i1 := List.getElem?_eq_some_iff.mp e1
  have j1 := List.getElem?_eq_some_iff.mp e2
  have eij : i = j := by
    rcases Nat.lt_trichotomy i j with h | h | h
    · exact absurd (i1.2.trans (e.trans j1.2.symm)) ((List.pairwise_iff_getElem.mp nd) i j i1.1 j1.1 h)
    · exact h
    · exact absurd (j1.2.trans (e.symm.trans i1.2.symm)) ((List.pairwise_iff_getElem.mp nd) j i j1.1 i1.1 h)
  subst eij
  rw [Option.some.inj (hi.symm.trans hj)]
theorem RowsAt.keyed {K : PySem.W.Frag} {H : Hp} {xs : List V} {rs : List Row} (h : RowsAt K H xs rs) : ∀ v ∈ xs, ∃ t, v = .ref t ∧ H t = some (.tup [.str (nmAt H v), .ref (lgAt H v)]) := fun v hv => by
  obtain ⟨i, hi⟩ := List.mem_iff_getElem?.mp hv
  obtain ⟨r, _, hr'⟩ := h.at_ hi
  exact hr'.nm.2
theorem RowsAt.sorted {K : PySem.W.Frag} {H : Hp} {xs ys : List V} {rs : List Row} (h : RowsAt K H xs rs) (nd : (M.nms rs).Nodup) (srt : SrtO.Srtd (fun x y => SrtSP.ltS (nmAt H x) (nmAt H y)) ys) (prm : ys.Perm xs) : ∃ rs2, RowsAt K H ys rs2 ∧ rs2.Perm rs ∧ Srt rs2 := by
  obtain ⟨rs2, hrs2, p2⟩ := h.perm prm
  refine ⟨rs2, hrs2, p2, srt_of ((show (M.nms rs2).Perm (M.nms rs) from p2.map _).nodup_iff.mpr nd) ?_⟩
  rw [← hrs2.nms]
  exact List.pairwise_map.mpr (srt.imp fun {a b} h z => by
    have h : SrtSP.ltS (nmAt H b) (nmAt H a) = false := h
    have this : SrtSP.ltS (nmAt H b) (nmAt H a) = true := decide_eq_true z
    rw [h] at this
    cases this)
theorem RowsAt.of_at {K : PySem.W.Frag} {H : Hp} : ∀ {vs : List V} {rs : List Row}, vs.length = rs.length → (∀ (j : Nat) (v : V), vs[j]? = some v → ∃ r, rs[j]? = some r ∧ RowAt K H v r) → RowsAt K H vs rs
  | [], [], _, _ => .nil
  | v :: vs, r :: rs, e, h => by
    obtain ⟨_, e1, h1⟩ := h 0 v rfl
    cases e1
    exact .cons h1 (RowsAt.of_at (Nat.succ.inj e) fun j w hw => h (j + 1) w hw)
  | [], _ :: _, e, _ => nomatch e
  | _ :: _, [], e, _ => nomatch e
--@@SPLIT
/-! ### lists that go together -/
inductive All2 {α β : Type} (R : α → β → Prop) : List α → List β → Prop
  | nil : All2 R [] []
  | cons {a : α} {b : β} {as : List α} {bs : List β} (h : R a b) (t : All2 R as bs) : All2 R (a :: as) (b :: bs)
theorem All2.imp {α β : Type} {R S : α → β → Prop} {as : List α} {bs : List β} (h : All2 R as bs) (f : ∀ a b, R a b → S a b) : All2 S as bs := by
  induction h with
  | nil => exact .nil
  | cons h1 _ ih => exact .cons (f _ _ h1) ih
theorem All2.len {α β : Type} {R : α → β → Prop} {as : List α} {bs : List β} (h : All2 R as bs) : as.length = bs.length := by
  induction h with
  | nil => rfl
  | cons _ _ ih => rw [List.length_cons, List.length_cons, ih]
theorem All2.at_ {α β : Type} {R : α → β → Prop} {as : List α} {bs : List β} (h : All2 R as bs) : ∀ {i : Nat} {a : α}, as[i]? = some a → ∃ b, bs[i]? = some b ∧ R a b := by
  induction h with
  | nil => intro i a h; cases h
  | cons h1 _ ih =>
    intro i a h
    cases i with
    | zero => cases h; exact ⟨_, rfl, h1⟩
    | succ i => exact ih h
theorem All2.app {α β : Type} {R : α → β → Prop} {as as' : List α} {bs bs' : List β} (h : All2 R as bs) (h' : All2 R as' bs') : All2 R (as ++ as') (bs ++ bs') := by
  induction h with
  | nil => exact h'
  | cons h1 _ ih => exact .cons h1 ih
theorem All2.snoc {α β : Type} {R : α → β → Prop} {as : List α} {bs : List β} {a : α} {b : β} (h : All2 R as bs) (h1 : R a b) : All2 R (as ++ [a]) (bs ++ [b]) := h.app (.cons h1 .nil)
theorem All2.zip {α β : Type} {R : α → β → Prop} {as : List α} {bs : List β} (h : All2 R as bs) : ∃ zs : List (α × β), as = zs.map (·.1) ∧ bs = zs.map (·.2) ∧ ∀ z ∈ zs, R z.1 z.2 := by
  induction h with
  | nil => exact ⟨[], rfl, rfl, fun _ h => nomatch h⟩
  | @cons a b as bs h1 _ ih =>
    obtain ⟨zs, e1, e2, h2⟩ := ih
    refine ⟨(a, b) :: zs, by rw [e1]; rfl, by rw [e2]; rfl, fun z hz => ?_⟩
    rcases List.mem_cons.mp hz with e | hz
    · rw [e]; exact h1
    · exact h2 z hz
theorem All2.unzip {α β : Type} {R : α → β → Prop} : ∀ {zs : List (α × β)}, (∀ z ∈ zs, R z.1 z.2) → All2 R (zs.map (·.1)) (zs.map (·.2))
  | [], _ => .nil
  | z :: zs, h => .cons (h z List.mem_cons_self) (All2.unzip fun y hy => h y (List.mem_cons_of_mem _ hy))
theorem All2.perm {α β : Type} {R : α → β → Prop} {as ys : List α} {bs : List β} (h : All2 R as bs) (p : ys.Perm as) : ∃ bs', All2 R ys bs' ∧ bs'.Perm bs := by
  obtain ⟨zs, e1, e2, hz⟩ := h.zip
  rw [e1] at p
  obtain ⟨zs', p', e⟩ := perm_lift (f := fun z : α × β => z.1) p
  refine ⟨zs'.map (·.2), ?_, ?_⟩
  · rw [← e]
    exact All2.unzip fun z hz' => hz z (p'.mem_iff.mp hz')
  · rw [e2]
    exact p'.map _
theorem All2.take {α β : Type} {R : α → β → Prop} {as : List α} {bs : List β} (h : All2 R as bs) : ∀ n, All2 R (as.take n) (bs.take n) := by
  induction h with
  | nil => intro n; rw [List.take_nil, List.take_nil]; exact .nil
  | cons h1 _ ih =>
    intro n
    cases n with
    | zero => exact .nil
    | succ n => exact .cons h1 (ih n)
theorem count_vals {y : V} : ∀ {ys : List V} {us : List Value}, Vals ys us → ys.all flatV = true → us.countP (eqU y) = ys.countP (fun z => eqV z y)
  | _, _, .nil, _ => rfl
  | _, _, .cons r rs, h => by
    rw [List.all_cons] at h
    obtain ⟨h1, h2⟩ := Bool.and_eq_true_iff.mp h
    rw [List.countP_cons, List.countP_cons, count_vals rs h2, eqU_of r h1]
theorem mt_countV {X : Cx} : MtR X "list.count" (fun x xs H Q => ∃ (p : Addr) (ys : List V) (y : V), x = .ref p ∧ xs = [y] ∧ SqL X.K H p ys ∧ flatV y = true ∧ ys.all flatV = true ∧ Q (.int (ys.countP (fun z => eqV z y) : Nat)) H) := by
  intro pins s σ H x xs v us Q I rx rxs h
  obtain ⟨p, ys, y, rfl, rfl, hs, fy, fys, q⟩ := h
  cases rx
  obtain ⟨u, rfl, ru⟩ := rxs.one
  obtain ⟨its, rv, ⟨⟨cls, dd, data, sl⟩, n, ho, hc, hdn, hd⟩, hlen⟩ := I.list hs
  simp only at hc hd
  subst hc hd
  refine call_meets PySem.F.slot_list_count ⟨_, ho, rfl⟩ PySem.F.entry_list_count (PySem.F.args_list_count_2 _ _) (SeqAt.list_countAt p its.toArray n dd sl u (eqU y)) ⟨ho, fun z hz => mem_eqAt ru fy rv fys z (by simpa using hz), ?_⟩
  refine ⟨.int (ys.countP (fun z => eqV z y) : Nat), H, I.tok _, ⟨s.toks, ?_⟩, q⟩
  show Value.int ((its.toArray.toList.countP (eqU y) : Nat) : Int) s.toks = _
  rw [show its.toArray.toList = its from rfl, count_vals rv fys]
theorem parts_len (e : Ent) : e.parts.length ≤ 3 := plen3 e
theorem kit_same {K : PySem.W.Frag} {C : Addr} : PySem.W.kitOne K (.ref C) (.ref C) = some true := by
  unfold PySem.W.kitOne
  rw [if_pos (beq_self_eq_true _)]
theorem kit_other {K : PySem.W.Frag} {D C : Addr} {b : Bool} (hn : (Value.ref D == Value.ref C) = false) (h1 : PySem.W.isClsIn K C = true) (h2 : PySem.W.typeIn K (.ref C) = some (.type "type")) (h3 : PySem.W.subIn K (.ref D) (.ref C) = some b) : PySem.W.kitOne K (.ref D) (.ref C) = some b := by
  unfold PySem.W.kitOne
  rw [hn, if_neg Bool.false_ne_true]
  show (if ((PySem.W.clsIn K C).isSome && PySem.W.typeIn K (.ref C) == some (.type "type")) = true then PySem.W.subIn K (.ref D) (.ref C) else none) = some b
  rw [if_pos (by rw [show (PySem.W.clsIn K C).isSome = true from h1, h2]; rfl)]
  exact h3
theorem kit_ve {K : PySem.W.Frag} {D : Addr} (h : PySem.W.subIn K (.ref D) (.type "ValueError") = some true) : PySem.W.kitOne K (.ref D) (.type "ValueError") = some true := by
  unfold PySem.W.kitOne
  rw [show (Value.ref D == Value.type "ValueError") = false from rfl, if_neg Bool.false_ne_true]
  show (if PySem.W.kitMeta "ValueError" = true then PySem.W.subIn K (.ref D) (.type "ValueError") else none) = some true
  rw [if_pos (by decide +kernel)]
  exact h
/-! ### data that can be shown -/
structure Good (d : PyData) (n w : Nat) : Prop where
  sh : d.showable = true
  nd : d.hasDict = false
  dep : d.depth ≤ n
  lay : d.canLay0 = true
  short : d.intsShort 13 = true
  wt : d.weight ≤ w
structure GoodL (ds : List PyData) (n w : Nat) : Prop where
  sh : PyData.showableAll ds = true
  nd : PyData.hasDictAll ds = false
  dep : PyData.depthAll ds ≤ n
  lay : PyData.canLayAll0 ds = true
  short : PyData.intsShortAll 13 ds = true
  wt : PyData.weightAll ds ≤ (w + 1) * ds.length
theorem good_all {n w : Nat} : ∀ ds : List PyData, (∀ d ∈ ds, Good d n w) → GoodL ds n w
  | [], _ => ⟨rfl, rfl, Nat.zero_le _, rfl, rfl, Nat.zero_le _⟩
  | d :: ds, h => by
    have i := good_all ds (fun x hx => h x (List.mem_cons_of_mem _ hx))
    have g := h d List.mem_cons_self
    refine ⟨?_, ?_, ?_, ?_, ?_, ?_⟩
    · show (d.showable && PyData.showableAll ds) = true
      rw [g.sh, i.sh]; rfl
    · show (d.hasDict || PyData.hasDictAll ds) = false
      rw [g.nd, i.nd]; rfl
    · exact Nat.max_le.mpr ⟨g.dep, i.dep⟩
    · show (d.canLay0 && PyData.canLayAll0 ds) = true
      rw [g.lay, i.lay]; rfl
    · show (PyData.intsShort 13 d && PyData.intsShortAll 13 ds) = true
      rw [g.short, i.short]; rfl
    · have h1 := g.wt
      have h2 := i.wt
      show d.weight + 1 + PyData.weightAll ds ≤ (w + 1) * (ds.length + 1)
      rw [Nat.mul_add]
      omega
theorem GoodL.list {ds : List PyData} {n w : Nat} (h : GoodL ds n w) : Good (.list ds) (n + 1) ((w + 1) * ds.length) := ⟨h.sh, h.nd, Nat.succ_le_succ h.dep, h.lay, h.short, h.wt⟩
theorem GoodL.tuple {ds : List PyData} {n w : Nat} (h : GoodL ds n w) : Good (.tuple ds) (n + 1) ((w + 1) * ds.length) := ⟨h.sh, h.nd, Nat.succ_le_succ h.dep, h.lay, h.short, h.wt⟩
theorem Good.more {d : PyData} {n w m v : Nat} (h : Good d n w) (h1 : n ≤ m) (h2 : w ≤ v) : Good d m v := ⟨h.sh, h.nd, Nat.le_trans h.dep h1, h.lay, h.short, Nat.le_trans h.wt h2⟩
theorem Good.shown {d : PyData} {n w : Nat} (h : Good d n w) (hn : n ≤ 60) (hw : w ≤ 1000000) : d.shown.length ≤ sizeLine := by
  have h1 := h.dep
  have h2 := h.wt
  have l : PyData.layable0 d = true := by
    show (d.canLay0 && decide (d.depth ≤ 64) && decide (d.weight ≤ 2 ^ 20)) = true
    rw [h.lay, decide_eq_true (by omega), decide_eq_true (by omega)]
    rfl
  exact Nat.le_trans (PyProof.Rows.shown_le13 l h.short) (by decide)
theorem good_str {z : Str} (h1 : z.length ≤ 12) (h2 : PyData.strOk z = true) : Good (.str z) 1 12 := ⟨rfl, rfl, Nat.zero_le _, h2, rfl, h1⟩
theorem good_int : ∀ n : Fin 9, Good (.int ((n.val : Int) + 1)) 1 12 := by
  have h : ∀ n : Fin 9, (PyData.int ((n.val : Int) + 1)).showable = true ∧ (PyData.int ((n.val : Int) + 1)).intsShort 13 = true ∧ (PyData.int ((n.val : Int) + 1)).weight ≤ 12 := by decide +kernel
  exact fun n => ⟨(h n).1, rfl, Nat.zero_le _, rfl, (h n).2.1, (h n).2.2⟩
theorem lt_ok : ∀ l : Fin 4, (Lt l).length ≤ 12 ∧ PyData.strOk (Lt l) = true := by decide +kernel
theorem good_part {e : Ent} (h : e.ok) : ∀ d ∈ e.parts, Good d 1 12 := by
  intro d hd
  rcases List.mem_cons.mp hd with hd | hd
  · rw [hd]; exact good_str (ws_ok _).2 (ws_ok _).1
  cases e with
  | face l => rw [List.mem_singleton.mp hd]; exact good_str (lt_ok l).1 (lt_ok l).2
  | go n => rw [List.mem_singleton.mp hd]; exact good_int n
  | sign z => rw [List.mem_singleton.mp hd]; exact good_str h.1 h.2.1
  | spy n z =>
    rcases List.mem_cons.mp hd with hd | hd
    · rw [hd]; exact good_int n
    · rw [List.mem_singleton.mp hd]; exact good_str h.1 h.2.1
  | turn q => cases hd
  | bump => cases hd
  | bare => cases hd
  | swap => cases hd
theorem good_ent {e : Ent} (h : e.ok) {d : PyData} (hs : seqD d = some e.parts) : Good d 2 39 := by
  have g := good_all e.parts (good_part h)
  have l := parts_len e
  have lw : (12 + 1) * e.parts.length ≤ 39 := by omega
  cases d with
  | list ds => cases hs; exact g.list.more (Nat.le_refl _) lw
  | tuple ds => cases hs; exact g.tuple.more (Nat.le_refl _) lw
  | _ => cases hs
theorem good_rows {es : List Ent} (h : ∀ e ∈ es, e.ok) {ds : List PyData} (hs : ds.map seqD = es.map fun e => some e.parts) : GoodL ds 2 39 := by
  refine good_all ds fun d hd => ?_
  obtain ⟨i, hi⟩ := List.mem_iff_getElem?.mp hd
  have e1 : (ds.map seqD)[i]? = some (seqD d) := by rw [List.getElem?_map, hi]; rfl
  rw [hs, List.getElem?_map] at e1
  cases e2 : es[i]? with
  | none => rw [e2] at e1; cases e1
  | some e =>
    rw [e2] at e1
    exact good_ent (h e (List.mem_of_getElem? e2)) (Option.some.inj e1).symm
theorem nm_strOk {z : Str} (h : nmL z.cps.toList = true) : PyData.strOk z = true := ok_of_mem fun c hc => small_ok c (of_decide_eq_true (List.all_eq_true.mp (Bool.and_eq_true_iff.mp (show (shL z.cps.toList && z.cps.toList.all smC) = true from h)).2 c hc))
theorem strs_lay : ∀ zs : List Str, (∀ z ∈ zs, PyData.strOk z = true) → PyData.canLayAll0 (zs.map PyData.str) = true ∧ PyData.depthAll (zs.map PyData.str) ≤ 2
  | [], _ => ⟨rfl, Nat.zero_le _⟩
  | z :: r, h => by
    obtain ⟨i1, i2⟩ := strs_lay r (fun x hx => h x (List.mem_cons_of_mem _ hx))
    refine ⟨?_, ?_⟩
    · show (PyData.strOk z && PyData.canLayAll0 (r.map PyData.str)) = true
      rw [i1, h z List.mem_cons_self]
      rfl
    · exact Nat.max_le.mpr ⟨Nat.zero_le 2, i2⟩
theorem lay_sh {ds : List PyData} (h : PyData.canLayAll0 ds = true ∧ PyData.depthAll ds ≤ 10) : SeqAt.shaped (.list ds) = true := by
  refine Bool.and_eq_true_iff.mpr ⟨h.1, decide_eq_true ?_⟩
  show PyData.depthAll _ + 1 ≤ 64
  have := h.2
  omega
/-! ### shapes of an atlas's parts -/
theorem box_dpa {K : PySem.W.Frag} {H : Hp} : ∀ box : List Nat, DpAll K H (boxV box) (box.map fun n => PyData.int (n : Nat))
  | [] => .nil
  | n :: r => .cons (.int _) (box_dpa r)
theorem ints_layB : ∀ box : List Nat, PyData.canLayAll0 (box.map fun n => PyData.int (n : Nat)) = true ∧ PyData.depthAll (box.map fun n => PyData.int (n : Nat)) ≤ 10
  | [] => ⟨rfl, Nat.zero_le _⟩
  | n :: r => by
    obtain ⟨i1, i2⟩ := ints_layB r
    refine ⟨?_, ?_⟩
    · show (true && PyData.canLayAll0 (r.map fun n => PyData.int (n : Nat))) = true
      rw [i1]
      rfl
    · exact Nat.max_le.mpr ⟨Nat.zero_le 10, i2⟩
theorem strs_dp {K : PySem.W.Frag} {H : Hp} : ∀ ws : List Str, DpAll K H (ws.map V.str) (ws.map PyData.str)
  | [] => .nil
  | z :: r => .cons (.str z) (strs_dp r)
theorem logD_good {r : Row} (ro : RowOk r) : Good (logD r) 3 4000 := by
  have h : (r.2.map Ent.tup).map seqD = r.2.map fun e => some e.parts := by
    rw [List.map_map]
    rfl
  refine (good_rows ro.ok h).tuple.more (Nat.le_refl _) ?_
  rw [List.length_map]
  have := ro.len
  omega
theorem logs_shaped {rs : List Row} (h : ∀ r ∈ rs, RowOk r) : SeqAt.shaped (.tuple (rs.map logD)) = true := by
  have g := (good_all (n := 3) (w := 4000) (rs.map logD) (fun d hd => by
    obtain ⟨r, hr, rfl⟩ := List.mem_map.mp hd
    exact logD_good (h r hr))).tuple
  exact Bool.and_eq_true_iff.mpr ⟨g.lay, decide_eq_true (Nat.le_trans g.dep (by decide))⟩
theorem nms_shaped {rs : List Row} (h : ∀ r ∈ rs, RowOk r) : SeqAt.shaped (.tuple ((nms rs).map PyData.str)) = true := by
  have l := strs_lay (nms rs) (fun z hz => by
    obtain ⟨r, hr, rfl⟩ := List.mem_map.mp hz
    exact nm_strOk (h r hr).nm)
  refine Bool.and_eq_true_iff.mpr ⟨l.1, decide_eq_true ?_⟩
  have := l.2
  show PyData.depthAll _ + 1 ≤ 64
  omega
theorem box_shaped (box : List Nat) : SeqAt.shaped (.tuple (box.map fun n => PyData.int (n : Nat))) = true := by
  have l := ints_layB box
  refine Bool.and_eq_true_iff.mpr ⟨l.1, decide_eq_true ?_⟩
  have := l.2
  show PyData.depthAll _ + 1 ≤ 64
  omega
/-! ### == of atlases, whatever it answers -/
def boxD (box : List Nat) : PyData := .tuple (box.map fun n => PyData.int (n : Nat))
def eqA (box : List Nat) (rs : List Row) (box2 : List Nat) (rs2 : List Row) : Bool := PyData.eqv (boxD box) (boxD box2) && (PyData.eqv (.tuple ((nms rs).map PyData.str)) (.tuple ((nms rs2).map PyData.str)) && PyData.eqv (.tuple (rs.map logD)) (.tuple (rs2.map logD)))
def spEqA (K : PySem.W.Frag) (C : Addr) : Sp := fun vs H Q _ => ∃ (a : Addr) (y : V), vs = [.ref a, y] ∧ ((∃ (b : Addr) (box box2 : List Nat) (rs rs2 : List Row), y = .ref b ∧ AtlasAt K C H a box rs ∧ AtlasAt K C H b box2 rs2 ∧ (∀ r ∈ rs, RowOk r) ∧ (∀ r ∈ rs2, RowOk r) ∧ Q (.bl (eqA box rs box2 rs2)) H) ∨ (∃ t : Value, TyX K H y t ∧ PySem.W.kitOne K t (.ref C) = some false ∧ Q (.bl false) H))
theorem ok_Atlas_eqA (T : Top w K mg) : FnOk P w K mg base CX0 1 T.a_Atlas_eq T.fd_Atlas_eq ["self", "other"] (spEqA K T.a_Atlas) := by
  refine T.F_Atlas_eq.ok sc_Atlas_eq (fun vs H Q E h => ?_) (fun cdv A outer s H vs Q E hr h => ?_)
  · obtain ⟨a, y, rfl, _⟩ := h
    rfl
  · obtain ⟨a, y, rfl, h⟩ := h
    refine ⟨_, (pss_one (ps_ret (pe_and (pe_callB call_isi (by rfl) T.m_isinstance (by decide +kernel) (pa_cons (pv 1) (pa_cons (pe_glob (v := .ref T.a_Atlas) (by rfl) T.g_Atlas rfl) pa_nil))) (pe_and (pe_cmpR (op_eqD hr.units) (pe_fld (pv 0) rfl) (pe_fld (pv 1) rfl) (nomark _)) (pe_and (pe_cmpR (op_eqD hr.units) (pe_fld (pv 0) rfl) (pe_fld (pv 1) rfl) (nomark _)) (pe_one (pe_cmpR (op_eqD hr.units) (pe_fld (pv 0) rfl) (pe_fld (pv 1) rfl) (nomark _)))))))), ?_⟩
    rcases h with ⟨b, box, box2, rs, rs2, rfl, hA, hB, hok, hok2, q⟩ | ⟨t, ty, kt, q⟩
    · obtain ⟨dx, bx, nx, lx, ls, on, po, h1, h2, h3, h4, h5⟩ := hA
      obtain ⟨dy, bY, ny, lY, ms, om, pm, g1, g2, g3, g4, g5⟩ := hB
      have t3 : SqT K H nx (namV rs) := .inl (.inr ⟨on, h3⟩)
      have u3 : SqT K H ny (namV rs2) := .inl (.inr ⟨om, g3⟩)
      unfold eqA boxD at q
      refine ⟨.ref b, rfl, _, _, _, _, true, rfl, .own _, .base (.ins g1 T.cl_Atlas T.ty_Atlas.1 T.ty_Atlas.2.1 T.ty_Atlas.2.2.1 T.ty_Atlas.2.2.2), kit_same, _, rfl, iteT ?_⟩
      refine ⟨.ref a, rfl, a, T.a_Atlas, dx, _, _, rfl, h1, T.cl_Atlas, T.nf_Atlas_box, fl_box bx nx lx, .ref b, rfl, b, T.a_Atlas, dy, _, _, rfl, g1, T.cl_Atlas, T.nf_Atlas_box, fl_box bY ny lY, _, _, .tup h2 (box_dpa box), .tup g2 (box_dpa box2), box_shaped box, box_shaped box2, _, rfl, ?_⟩
      generalize PyData.eqv (.tuple (box.map fun n => PyData.int (n : Nat))) (.tuple (box2.map fun n => PyData.int (n : Nat))) = b1 at q ⊢
      cases b1 with
      | false => exact iteF q
      | true =>
        refine iteT ⟨.ref a, rfl, a, T.a_Atlas, dx, _, _, rfl, h1, T.cl_Atlas, T.nf_Atlas_names, fl_names bx nx lx, .ref b, rfl, b, T.a_Atlas, dy, _, _, rfl, g1, T.cl_Atlas, T.nf_Atlas_names, fl_names bY ny lY, _, _, .tup t3 (strs_dp (nms rs)), .tup u3 (strs_dp (nms rs2)), nms_shaped hok, nms_shaped hok2, _, rfl, ?_⟩
        generalize PyData.eqv (.tuple ((nms rs).map PyData.str)) (.tuple ((nms rs2).map PyData.str)) = b2 at q ⊢
        cases b2 with
        | false => exact iteF q
        | true => exact iteT ⟨.ref a, rfl, a, T.a_Atlas, dx, _, _, rfl, h1, T.cl_Atlas, T.nf_Atlas_logs, fl_logs bx nx lx, .ref b, rfl, b, T.a_Atlas, dy, _, _, rfl, g1, T.cl_Atlas, T.nf_Atlas_logs, fl_logs bY ny lY, _, _, .tup h4 h5, .tup g4 g5, logs_shaped hok, logs_shaped hok2, q⟩
    · exact ⟨y, rfl, _, _, _, _, false, rfl, .own _, ty, kt, _, rfl, iteF q⟩
/-- what is due: the boxes, and the rows sorted -/
def rowD2 (r : Row) : PyData := .tuple [.str r.1, logD r]
theorem rows_eqv : ∀ rs rs2 : List Row, PyData.eqvAll (rs.map rowD2) (rs2.map rowD2) = (PyData.eqvAll ((nms rs).map PyData.str) ((nms rs2).map PyData.str) && PyData.eqvAll (rs.map logD) (rs2.map logD))
  | [], [] => by simp [nms, PyData.eqvAll]
  | [], r :: rs => by simp [nms, PyData.eqvAll]
  | r :: rs, [] => by simp [nms, PyData.eqvAll]
  | r :: rs, q :: qs => by
    have ih := rows_eqv rs qs
    have e1 : PyData.eqv (rowD2 r) (rowD2 q) = (PyData.eqv (.str r.1) (.str q.1) && PyData.eqv (logD r) (logD q)) := by
      unfold rowD2
      simp only [PyData.eqv, PyData.eqvAll, Bool.and_true]
    unfold nms at ih ⊢
    rw [List.map_cons, List.map_cons, List.map_cons, List.map_cons, List.map_cons, List.map_cons, List.map_cons, List.map_cons, PyData.eqvAll, PyData.eqvAll, PyData.eqvAll, e1, ih]
    generalize PyData.eqv (.str r.1) (.str q.1) = a
    generalize PyData.eqv (logD r) (logD q) = b
    generalize PyData.eqvAll _ _ = c
    generalize PyData.eqvAll _ _ = d
    cases a <;> cases b <;> cases c <;> cases d <;> rfl
theorem eqA_due (box : List Nat) (rs : List Row) (box2 : List Nat) (rs2 : List Row) : eqA box rs box2 rs2 = (PyData.eqv (boxD box) (boxD box2) && PyData.eqv (.list (rs.map rowD2)) (.list (rs2.map rowD2))) := by
  unfold eqA
  have e1 : PyData.eqv (.list (rs.map rowD2)) (.list (rs2.map rowD2)) = PyData.eqvAll (rs.map rowD2) (rs2.map rowD2) := by rw [PyData.eqv]
  have e2 : PyData.eqv (.tuple ((nms rs).map PyData.str)) (.tuple ((nms rs2).map PyData.str)) = PyData.eqvAll ((nms rs).map PyData.str) ((nms rs2).map PyData.str) := by rw [PyData.eqv]
  have e3 : PyData.eqv (.tuple (rs.map logD)) (.tuple (rs2.map logD)) = PyData.eqvAll (rs.map logD) (rs2.map logD) := by rw [PyData.eqv]
  rw [e1, e2, e3, rows_eqv]
theorem rows_shaped {rs : List Row} (h : ∀ r ∈ rs, RowOk r) : SeqAt.shaped (.list (rs.map rowD2)) = true := by
  have g := (good_all (n := 4) (w := 9000) (rs.map rowD2) (fun d hd => by
    obtain ⟨r, hr, rfl⟩ := List.mem_map.mp hd
    have n8 : r.1.length ≤ 8 := by
      obtain ⟨h1, h2⟩ := Bool.and_eq_true_iff.mp (show (shL r.1.cps.toList && r.1.cps.toList.all smC) = true from (h r hr).nm)
      have := of_decide_eq_true (Bool.and_eq_true_iff.mp h1).2
      rw [len_toList] at this
      omega
    have := (good_all (n := 3) (w := 4000) [.str r.1, logD r] (fun d hd => by
      rcases List.mem_cons.mp hd with e | hd
      · rw [e]
        exact (good_str (by omega) (nm_strOk (h r hr).nm)).more (by decide) (by decide)
      · rw [List.mem_singleton.mp hd]
        exact logD_good (h r hr))).tuple
    exact this.more (Nat.le_refl _) (by show (4000 + 1) * 2 ≤ 9000; decide))).list
  exact Bool.and_eq_true_iff.mpr ⟨g.lay, decide_eq_true (Nat.le_trans g.dep (by decide))⟩
theorem rows_dpa {K : PySem.W.Frag} {H : Hp} {vs : List V} {rs : List Row} (h : RowsAt K H vs rs) : DpAll K H vs (rs.map rowD2) := by
  induction h with
  | nil => exact .nil
  | cons h1 _ ih =>
    obtain ⟨t, l, rfl, et, hd⟩ := h1
    exact .cons (.tup (.inl (.inl et)) (.cons (.str _) (.cons hd .nil))) ih
theorem kit_tyC {K : PySem.W.Frag} {C : Addr} {T : String} {b : Bool} (h1 : PySem.W.isClsIn K C = true) (h2 : PySem.W.typeIn K (.ref C) = some (.type "type")) (h3 : PySem.W.subIn K (.type T) (.ref C) = some b) : PySem.W.kitOne K (.type T) (.ref C) = some b := by
  unfold PySem.W.kitOne
  rw [show (Value.type T == Value.ref C) = false from rfl, if_neg Bool.false_ne_true]
  show (if ((PySem.W.clsIn K C).isSome && PySem.W.typeIn K (.ref C) == some (.type "type")) = true then PySem.W.subIn K (.type T) (.ref C) else none) = some b
  rw [if_pos (by rw [show (PySem.W.clsIn K C).isSome = true from h1, h2]; rfl)]
  exact h3
theorem eqA_comm (b1 : List Nat) (r1 : List Row) (b2 : List Nat) (r2 : List Row) : eqA b1 r1 b2 r2 = eqA b2 r2 b1 r1 := by
  unfold eqA
  rw [PySem.W.eqv_comm (boxD b1), PySem.W.eqv_comm (.tuple ((nms r1).map PyData.str)), PySem.W.eqv_comm (.tuple (r1.map logD))]
theorem eqA_refl {b : List Nat} {rs : List Row} (h : ∀ r ∈ rs, RowOk r) : eqA b rs b rs = true := by
  unfold eqA boxD
  rw [SeqAt.eqv_refl _ (SeqAt.canLay_of_shaped (box_shaped b)), SeqAt.eqv_refl _ (SeqAt.canLay_of_shaped (nms_shaped h)), SeqAt.eqv_refl _ (SeqAt.canLay_of_shaped (logs_shaped h))]
  rfl
theorem nf_own {K : PySem.W.Frag} {C : Addr} : PySem.W.notFirst K C (.ref C) = true := by simp [PySem.W.notFirst]
theorem nf_ty {K : PySem.W.Frag} {C : Addr} {T : String} (h : PySem.W.subIn K (.type T) (.ref C) = some false) : PySem.W.notFirst K C (.type T) = true := by
  unfold PySem.W.notFirst
  rw [h]
  simp
theorem ne_eq_bl (k : Bool) : decide (V.bl (!k) = V.bl k) = false := by cases k <;> rfl
--@@SPLIT
/-! ### books -/
abbrev AS := List Nat × List Row
def spDead : Sp := fun _ _ _ _ => False
theorem ok_all_that_fit (T : Top w K mg) : FnOk P w K mg base CX0 1 T.a_all_that_fit T.fd_all_that_fit ["atlas", "most"] spDead := T.F_all_that_fit.ok sc_all_that_fit (fun _ _ _ _ h => h.elim) (fun _ _ _ _ _ _ _ _ _ h => h.elim)
theorem ok_Watch_are_told (T : Top w K mg) : FnOk P w K mg base CX0 1 T.a_Watch_are_told T.fd_Watch_are_told ["self", "atlas"] spDead := T.F_Watch_are_told.ok sc_Watch_are_told (fun _ _ _ _ h => h.elim) (fun _ _ _ _ _ _ _ _ _ h => h.elim)
theorem ok_Watch_hear (T : Top w K mg) : FnOk P w K mg base CX0 1 T.a_Watch_hear T.fd_Watch_hear ["self", "atlas", "found"] spDead := T.F_Watch_hear.ok sc_Watch_hear (fun _ _ _ _ h => h.elim) (fun _ _ _ _ _ _ _ _ _ h => h.elim)
def spPairsOf (K : PySem.W.Frag) (C : Addr) : Sp := fun vs H Q _ => ∃ (x : Addr) (box : List Nat) (rs : List Row), vs = [.ref x] ∧ AtlasAt K C H x box rs ∧ rs.length ≤ 50 ∧ ∀ H' D us, Same H H' → H D = none → H' D = some (.lst us) → RowsAt K H' us rs → Q (.ref D) H'
theorem ok_pairs_of (T : Top w K mg) : FnOk P w K mg base CX0 1 T.a_pairs_of T.fd_pairs_of ["atlas"] (spPairsOf K T.a_Atlas) := by
  refine T.F_pairs_of.ok sc_pairs_of (fun vs H Q E h => ?_) (fun cdv A outer s H vs Q E hr h => ?_)
  · obtain ⟨x, box, rs, rfl, _⟩ := h
    rfl
  · obtain ⟨x, box, rs, rfl, hA, hlen, q⟩ := h
    obtain ⟨dx, b, n, l, ls, on, po, h1, h2, hn, h4, h5⟩ := hA
    have h3 : SqT K H n (namV rs) := .inl (.inr ⟨on, hn⟩)
    refine ⟨_, (pss_one (ps_ret (ZipL.pe_listZip (by rfl) (by rfl) T.m_list (by decide +kernel) (by rfl) T.m_zip (pa_cons (pe_fld (pv 0) rfl) (pa_cons (pe_fld (pv 0) rfl) pa_nil))))), ?_⟩
    refine ⟨.ref x, rfl, x, T.a_Atlas, dx, _, _, rfl, h1, T.cl_Atlas, T.nf_Atlas_names, fl_names b n l, .ref x, rfl, x, T.a_Atlas, dx, _, _, rfl, h1, T.cl_Atlas, T.nf_Atlas_logs, fl_logs b n l, ?_⟩
    have lls : ls.length = rs.length := (dpa_len _ _ h5).trans (List.length_map _)
    have lns : (namV rs).length = rs.length := by unfold namV nms; rw [List.length_map, List.length_map]
    have mn : min (namV rs).length ls.length = rs.length := by rw [lls, lns, Nat.min_self]
    refine ⟨n, l, namV rs, ls, rfl, true, true, h3, h4, by rw [mn]; exact Nat.le_of_lt (small1000 (by omega)), fun H' D ts ke nD nts lts eD prs => ?_⟩
    rw [mn] at lts
    have s : Same H H' := ke
    refine q H' D _ s nD eD (RowsAt.of_at (by rw [List.length_map, lts]) fun j v hv => ?_)
    rw [List.getElem?_map] at hv
    obtain ⟨tj, ej, rfl⟩ : ∃ tj, ts[j]? = some tj ∧ V.ref tj = v := by
      cases e : ts[j]? with
      | none => rw [e] at hv; cases hv
      | some tj => rw [e] at hv; exact ⟨tj, rfl, Option.some.inj hv⟩
    obtain ⟨u1, u2, e1, e2, e3⟩ := prs j tj ej
    have lj : j < rs.length := by rw [← lts]; exact (List.getElem?_eq_some_iff.mp ej).1
    have fr : rs[j]? = some rs[j] := List.getElem?_eq_getElem lj
    unfold namV nms at e1
    rw [List.getElem?_map, List.getElem?_map, fr] at e1
    cases e1
    obtain ⟨d, fd, gd⟩ := dpa_at _ ls h5 j u2 e2
    rw [List.getElem?_map, fr] at fd
    cases fd
    obtain ⟨l2, xs2, rfl, _, _⟩ := log_rows gd
    exact ⟨_, fr, tj, l2, rfl, e3, dp_same s _ _ gd⟩
def spListen0 : Sp := fun vs H Q _ => ∃ (x w : Addr), vs = [.ref x, .ref w] ∧ H w = some (.lst []) ∧ ∀ H', Same H H' → Q .non H'
theorem ok_listen (T : Top w K mg) : FnOk P w K mg base CX0 2 T.a_listen T.fd_listen ["atlas", "watches"] spListen0 := by
  have G_all_that_fit := ok_all_that_fit (P := P) (w := w) (base := base) T
  have G_Watch_are_told := ok_Watch_are_told (P := P) (w := w) (base := base) T
  have G_Watch_hear := ok_Watch_hear (P := P) (w := w) (base := base) T
  refine T.F_listen.ok sc_listen (fun vs H Q E h => ?_) (fun cdv A outer s H vs Q E hr h => ?_)
  · obtain ⟨x, w', rfl, _⟩ := h
    rfl
  · obtain ⟨x, w', rfl, hw, q⟩ := h
    refine ⟨_, (pss_cons (ps_set (i := 3) sc_listen.nd rfl (.inl rfl) (pe_ifExp (pt_val (pe_callB (cr_any rfl) (by rfl) T.m_any (by decide +kernel) (pa_cons (pe_lc (own := [("watch", 2)]) (g := gName 2) (by rfl) sc_listen.nd (pi_list (pv 1)) (blkOk_by (own := [("watch", 2)]) (N := ["atlas", "watches", "watch", "found"]) (sc := defScope s_listen) (by decide +kernel)) (fun _ _ _ _ _ => (pg_name (i := 2) sc_listen.nd rfl (Or.inl rfl))) (fun _ _ _ _ _ => pts_nil) (fun _ _ _ _ _ => (pe_meth (pv 2) T.cl_Watch T.me_Watch_are_told G_Watch_are_told hr T.b_Watch_are_told .nil pass0 (pa_cons (pv 0) pa_nil)))) pa_nil))) (pe_call G_all_that_fit hr (by rfl) T.g_all_that_fit T.F_all_that_fit.kp T.b_all_that_fit .nil pass0 (pa_cons (pv 0) pa_nil)) (pe_lst pa_nil)))
      (pss_one (ps_for PassesOwn.never rfl (pi_list (pv 1)) (pg_name (i := 2) sc_listen.nd rfl (.inl rfl)) (pss_one (ps_expr (pe_meth (pv 2) T.cl_Watch T.me_Watch_hear G_Watch_hear hr T.b_Watch_hear .nil pass0 (pa_cons (pv 0) (pa_cons (pv 3) pa_nil)))))))), ?_⟩
    refine ⟨.ref w', rfl, w', rfl, ⟨[], .inl (.inl hw)⟩, fun D hD => lc_it (walk_list (xs := [])) (fun i H' => Same H H' ∧ H' D = some (.lst [])) ⟨same_upd hD, upd_same⟩ (fun i H' _ h => .inl (.inl (h.1 _ _ hw))) (fun i v H1 H2 hi => absurd hi (Nat.not_lt_zero _)) ?_⟩
    rintro H1 ⟨s1, eD⟩
    refine ⟨D, [], rfl, .inl (.inl eD), _, rfl, iteF ⟨Nat.zero_le _, fun F nF => ?_⟩⟩
    have sF := same_upd (o := .lst []) nF
    refine ⟨.ref w', rfl, w', rfl, ⟨[], .inl (.inl (sF _ _ (s1 _ _ hw)))⟩, for_it (walk_list (xs := [])) (fun i σ H' => Same H H') (s1.trans sF) (fun i σ H' _ h => .inl (.inl (h _ _ hw))) (fun i v σ H2 H3 hi => absurd hi (Nat.not_lt_zero _)) ?_⟩
    exact fun σ H2 s2 => q _ s2
/-! ### a book as data -/
def bfl (n p f w : Addr) : List (Str × V) := [("now", .ref n), ("past", .ref p), ("future", .ref f), ("watches", .ref w)]
section
variable (n p f w x : Addr)
theorem bf_now : (bfl n p f w).lookup ("now" : Str) = some (.ref n) := List.lookup_cons_self
theorem bf_past : (bfl n p f w).lookup ("past" : Str) = some (.ref p) := by
  have e1 : (("past" : Str) == "now") = false := by decide +kernel
  unfold bfl
  rw [List.lookup_cons, e1]
  exact List.lookup_cons_self
theorem bf_future : (bfl n p f w).lookup ("future" : Str) = some (.ref f) := by
  have e1 : (("future" : Str) == "now") = false := by decide +kernel
  have e2 : (("future" : Str) == "past") = false := by decide +kernel
  unfold bfl
  rw [List.lookup_cons, e1]
  show List.lookup _ (_ :: _) = _
  rw [List.lookup_cons, e2]
  exact List.lookup_cons_self
theorem bf_watches : (bfl n p f w).lookup ("watches" : Str) = some (.ref w) := by
  have e1 : (("watches" : Str) == "now") = false := by decide +kernel
  have e2 : (("watches" : Str) == "past") = false := by decide +kernel
  have e3 : (("watches" : Str) == "future") = false := by decide +kernel
  unfold bfl
  rw [List.lookup_cons, e1]
  show List.lookup _ (_ :: _) = _
  rw [List.lookup_cons, e2]
  show List.lookup _ (_ :: _) = _
  rw [List.lookup_cons, e3]
  exact List.lookup_cons_self
theorem bf_no {m : Str} (h1 : (m == "now") = false) (h2 : (m == "past") = false) (h3 : (m == "future") = false) (h4 : (m == "watches") = false) : (bfl n p f w).lookup m = none := by
  unfold bfl
  rw [List.lookup_cons, h1]
  show List.lookup _ (_ :: _) = _
  rw [List.lookup_cons, h2]
  show List.lookup _ (_ :: _) = _
  rw [List.lookup_cons, h3]
  show List.lookup _ (_ :: _) = _
  rw [List.lookup_cons, h4]
  rfl
theorem put_now : putF "now" (.ref x) (bfl n p f w) = bfl x p f w := if_pos rfl
theorem ne_np : ¬ (("now" : Str) = "past") := by decide +kernel
theorem ne_nf : ¬ (("now" : Str) = "future") := by decide +kernel
theorem ne_pf : ¬ (("past" : Str) = "future") := by decide +kernel
theorem ne_nw : ¬ (("now" : Str) = "watches") := by decide +kernel
theorem ne_pw : ¬ (("past" : Str) = "watches") := by decide +kernel
theorem ne_fw : ¬ (("future" : Str) = "watches") := by decide +kernel
theorem put_past : putF "past" (.ref x) (bfl n p f w) = bfl n x f w := by
  unfold bfl
  simp only [putF, ne_np, if_false, if_true]
theorem put_future : putF "future" (.ref x) (bfl n p f w) = bfl n p x w := by
  unfold bfl
  simp only [putF, ne_nf, ne_pf, if_false, if_true]
theorem put_all : putF "watches" (.ref w) (putF "future" (.ref f) (putF "past" (.ref p) (putF "now" (.ref n) []))) = bfl n p f w := by
  unfold bfl
  simp only [putF, ne_np, ne_nf, ne_pf, ne_nw, ne_pw, ne_fw, if_false]
end
structure ASok (s : AS) : Prop where
  len : s.1.length = 8
  srt : Srt s.2
  ok : ∀ r ∈ s.2, RowOk r
  few : s.2.length ≤ 40
def AtA (K : PySem.W.Frag) (C : Addr) (H : Hp) (v : V) (s : AS) : Prop := ∃ x, v = .ref x ∧ AtlasAt K C H x s.1 s.2
theorem AtA.same {K : PySem.W.Frag} {C : Addr} {H H' : Hp} {v : V} {s : AS} (h : AtA K C H v s) (m : Same H H') : AtA K C H' v s := by
  obtain ⟨x, e, h⟩ := h
  exact ⟨x, e, h.same m⟩
/-- the book bk, its four things all new over B -/
structure BookIs (K : PySem.W.Frag) (CB CA : Addr) (B H : Hp) (bk dx n p f w : Addr) (ps fs : List V) (now : AS) (past fut : List AS) : Prop where
  obj : H bk = some (.ins CB dx (bfl n p f w))
  atlas : AtlasAt K CA H n now.1 now.2
  hpast : H p = some (.lst ps)
  pasts : All2 (AtA K CA H) ps past
  hfut : H f = some (.lst fs)
  futs : All2 (AtA K CA H) fs fut
  watch : H w = some (.lst [])
  pf : p ≠ f
  pw : p ≠ w
  fw : f ≠ w
  new : B bk = none
  newp : B p = none
  newf : B f = none
  neww : B w = none
def BookOn (K : PySem.W.Frag) (CB CA : Addr) (B H : Hp) (bk : Addr) (now : AS) (past fut : List AS) : Prop := ∃ dx n p f w ps fs, BookIs K CB CA B H bk dx n p f w ps fs now past fut
section
variable {K : PySem.W.Frag} {CB CA : Addr} {B H H' : Hp} {bk dx n p f w : Addr} {ps fs : List V} {now : AS} {past fut : List AS}
theorem BookIs.same (h : BookIs K CB CA B H bk dx n p f w ps fs now past fut) (s : Same H H') : BookIs K CB CA B H' bk dx n p f w ps fs now past fut :=
  ⟨s _ _ h.obj, h.atlas.same s, s _ _ h.hpast, h.pasts.imp fun _ _ y => y.same s, s _ _ h.hfut, h.futs.imp fun _ _ y => y.same s, s _ _ h.watch, h.pf, h.pw, h.fw, h.new, h.newp, h.newf, h.neww⟩
theorem BookOn.same (h : BookOn K CB CA B H bk now past fut) (s : Same H H') : BookOn K CB CA B H' bk now past fut := by
  obtain ⟨dx, n, p, f, w, ps, fs, h⟩ := h
  exact ⟨dx, n, p, f, w, ps, fs, h.same s⟩
/-- objects of these kinds are no pool -/
def npl : HO → Bool
  | .lst (.int _ :: _) => false
  | _ => true
theorem npl_refs {C : Addr} {ps : List V} {ss : List AS} (h : All2 (AtA K C H) ps ss) : npl (.lst ps) = true := by
  cases h with
  | nil => rfl
  | cons h1 _ =>
    obtain ⟨x, e, _⟩ := h1
    rw [e]
    rfl
/-- every pool stays a pool -/
def PK (H H' : Hp) : Prop := ∀ q, Pool H q → Pool H' q
theorem PK.of (s : Same H H') : PK H H' := fun _ h => h.same s
theorem PK.trans {H1 : Hp} (a : PK H H1) (b : PK H1 H') : PK H H' := fun q h => b q (a q h)
theorem PK.upd {a : Addr} {o u : HO} (e : H a = some u) (n : npl u = true) : PK H (L2.upd H a o) := fun q h => by
  refine h.upd fun z => ?_
  obtain ⟨l, x, k, m, _, h1⟩ := h
  rw [z, h1] at e
  cases e
  cases n
/-- what a book shares with no list but its own: the mutable ones may change -/
theorem atl_ne {C : Addr} {x : Addr} {box : List Nat} {rs : List Row} {dy : Addr} (h : AtlasAt K C H x box rs) (e : H bk = some (.ins CB dy (bfl n p f w))) : x ≠ bk := fun z => by
  obtain ⟨dx, b, m, l, _, _, _, h1, _⟩ := h
  rw [z, e] at h1
  have := HO.ins.inj (Option.some.inj h1)
  have h2 : (bfl n p f w).lookup ("box" : Str) = some (.ref b) := by
    rw [this.2.2]
    exact fl_box b m l
  rw [bf_no n p f w (by decide +kernel) (by decide +kernel) (by decide +kernel) (by decide +kernel)] at h2
  cases h2
end
--@@SPLIT
/-! ### deeds -/
/-- behind a deed: what B knows stays, pools stay pools -/
def Deed (B H H' : Hp) : Prop := Same B H' ∧ PK H H'
theorem Deed.trans {B H H1 H2 : Hp} (a : Deed B H H1) (b : Deed B H1 H2) : Deed B H H2 := ⟨b.1, a.2.trans b.2⟩
theorem Deed.of {B H H' : Hp} (b : Same B H) (s : Same H H') : Deed B H H' := ⟨b.trans s, PK.of s⟩
theorem Deed.upd {B H : Hp} {a : Addr} {o u : HO} (b : Same B H) (n : B a = none) (e : H a = some u) (k : npl u = true) : Deed B H (L2.upd H a o) := ⟨fun c v h => by
  rw [upd_ne (ne_of_none h n)]
  exact b _ _ h, PK.upd e k⟩
/-- an atlas stays when a list or a book changes -/
theorem atl_upd {K : PySem.W.Frag} {CA CB x a : Addr} {H : Hp} {o : HO} {s : AS} (h : AtlasAt K CA H x s.1 s.2) (ok : ∀ r ∈ s.2, RowOk r) (e : (∃ xs, H a = some (.lst xs)) ∨ ∃ dy n p f w, H a = some (.ins CB dy (bfl n p f w))) : AtlasAt K CA (L2.upd H a o) x s.1 s.2 := by
  rcases e with ⟨xs, e⟩ | ⟨dy, n, p, f, w, e⟩
  · exact h.kp (fun r hr => Nat.le_trans (ok r hr).len (by decide)) (Kp.upd e rfl)
  · have ne := atl_ne h e
    obtain ⟨dx, b, n', l, ls, on, po, h1, h2, h3, h4, h5⟩ := h
    have t : Tp H (L2.upd H a o) := fun c v k hc => by
      rw [upd_ne fun z => by rw [z, e] at hc; cases hc; cases k]
      exact hc
    refine ⟨dx, b, n', l, ls, on, po, (upd_ne ne).trans h1, sqt_kp t h2, t _ _ rfl h3, sqt_kp t h4, dpa_kpA (P := fun d => okD 2 d = true) (fun d v o h => dp_kp t 2 d v o h) _ _ (fun d hd => ?_) h5⟩
    obtain ⟨r, hr, rfl⟩ := List.mem_map.mp hd
    exact log_okD (Nat.le_trans (ok r hr).len (by decide))
theorem all_upd {K : PySem.W.Frag} {CA CB a : Addr} {H : Hp} {o : HO} {ps : List V} {ss : List AS} (h : All2 (AtA K CA H) ps ss) (ok : ∀ s ∈ ss, ASok s) (e : (∃ xs, H a = some (.lst xs)) ∨ ∃ dy n p f w, H a = some (.ins CB dy (bfl n p f w))) : All2 (AtA K CA (L2.upd H a o)) ps ss := by
  induction h with
  | nil => exact .nil
  | @cons v s vs ss h1 _ ih =>
    obtain ⟨x, e1, h1⟩ := h1
    exact .cons ⟨x, e1, atl_upd h1 (ok s List.mem_cons_self).ok e⟩ (ih fun y m => ok y (List.mem_cons_of_mem _ m))
structure Hist (now : AS) (past fut : List AS) : Prop where
  now : ASok now
  hpast : ∀ s ∈ past, ASok s
  hfut : ∀ s ∈ fut, ASok s
  few : past.length ≤ 1000
  fewf : fut.length ≤ 1000
def spTurn (K : PySem.W.Frag) (CB CA : Addr) : Sp := fun vs H Q _ => ∃ (bk x : Addr) (B : Hp) (s now : AS) (past fut : List AS), vs = [.ref bk, .ref x] ∧ Same B H ∧ BookOn K CB CA B H bk now past fut ∧ Hist now past fut ∧ AtlasAt K CA H x s.1 s.2 ∧ ASok s ∧
  ∀ H', Deed B H H' → BookOn K CB CA B H' bk s past fut → Q .non H'
theorem ok_turn_to (T : Top w K mg) : FnOk P w K mg base CX0 3 T.a_Book_turn_to T.fd_Book_turn_to ["self", "atlas"] (spTurn K T.a_Book T.a_Atlas) := by
  have G_listen := ok_listen (P := P) (w := w) (base := base) T
  refine T.F_Book_turn_to.ok sc_Book_turn_to (fun vs H Q E h => ?_) (fun cdv A outer s H vs Q E hr h => ?_)
  · obtain ⟨bk, x, B, s', now, past, fut, rfl, _⟩ := h
    rfl
  · obtain ⟨bk, x, B, s', now, past, fut, rfl, hB, ⟨dx, n, p, f, w', ps, fs, h⟩, hi, hA, hs, q⟩ := h
    refine ⟨_, (pss_cons (ps_fld (pv 0) (pv 1) rfl)
      (pss_one (ps_expr (pe_call G_listen hr (by rfl) T.g_listen T.F_listen.kp T.b_listen .nil pass0 (pa_cons (pv 1) (pa_cons (pe_lc (own := [("watch", 2)]) (g := gName 2) (by rfl) sc_Book_turn_to.nd (pi_list (pe_fld (pv 0) rfl)) (blkOk_by (own := [("watch", 2)]) (N := ["self", "atlas", "watch"]) (sc := defScope s_Book_turn_to) (by decide +kernel)) (fun _ _ _ _ _ => (pg_name (i := 2) sc_Book_turn_to.nd rfl (Or.inl rfl))) (fun _ _ _ _ _ => (pts_one (pt_val (FldK.pe_fldK (K := K) rfl (pv 2) rfl)))) (fun _ _ _ _ _ => (pv 2))) pa_nil)))))), ?_⟩
    refine ⟨.ref x, rfl, .ref bk, rfl, bk, T.a_Book, dx, _, rfl, h.obj, T.cl_Book, T.nf_Book_now, by show 4 < 1000; decide, ?_⟩
    rw [put_now]
    have eb : (∃ xs, H bk = some (.lst xs)) ∨ ∃ dy n p f w, H bk = some (.ins T.a_Book dy (bfl n p f w)) := .inr ⟨_, _, _, _, _, h.obj⟩
    have nl : ∀ {c : Addr} {xs : List V}, H c = some (.lst xs) → c ≠ bk := fun e z => by rw [z, h.obj] at e; cases e
    have h1 : BookIs K T.a_Book T.a_Atlas B (upd H bk (.ins T.a_Book dx (bfl x p f w'))) bk dx x p f w' ps fs s' past fut := ⟨upd_same, atl_upd hA hs.ok eb, (upd_ne (nl h.hpast)).trans h.hpast, all_upd h.pasts hi.hpast eb, (upd_ne (nl h.hfut)).trans h.hfut, all_upd h.futs hi.hfut eb, (upd_ne (nl h.watch)).trans h.watch, h.pf, h.pw, h.fw, h.new, h.newp, h.newf, h.neww⟩
    have d1 : Deed B H (upd H bk (.ins T.a_Book dx (bfl x p f w'))) := Deed.upd hB h.new h.obj rfl
    generalize (upd H bk (.ins T.a_Book dx (bfl x p f w'))) = H1 at h1 d1 ⊢
    refine ⟨.ref x, rfl, .ref bk, rfl, bk, T.a_Book, dx, _, _, rfl, h1.obj, T.cl_Book, T.nf_Book_watches, bf_watches x p f w', w', rfl, ⟨[], .inl (.inl h1.watch)⟩, fun D hD => lc_it (walk_list (xs := [])) (fun i H' => Same H1 H' ∧ H' D = some (.lst [])) ⟨same_upd hD, upd_same⟩ (fun i H' _ g => .inl (.inl (g.1 _ _ h1.watch))) (fun i v H2 H3 hi => absurd hi (Nat.not_lt_zero _)) ?_⟩
    rintro H2 ⟨s2, eD⟩
    refine ⟨x, D, rfl, eD, fun H3 s3 => ?_⟩
    exact q H3 (d1.trans (Deed.of d1.1 (s2.trans s3))) ⟨dx, x, p, f, w', ps, fs, h1.same (s2.trans s3)⟩
section
variable {K : PySem.W.Frag} {CB CA : Addr} {B H : Hp} {bk dx n p f w : Addr} {ps fs : List V} {now : AS} {past fut : List AS}
theorem BookIs.nl (h : BookIs K CB CA B H bk dx n p f w ps fs now past fut) {c : Addr} {xs : List V} (e : H c = some (.lst xs)) : c ≠ bk := fun z => by
  rw [z, h.obj] at e
  cases e
theorem BookIs.lb (h : BookIs K CB CA B H bk dx n p f w ps fs now past fut) : (∃ xs, H bk = some (.lst xs)) ∨ ∃ dy n p f w, H bk = some (.ins CB dy (bfl n p f w)) := .inr ⟨_, _, _, _, _, h.obj⟩
/-- another atlas, another list of what was taken back -/
theorem BookIs.reset (h : BookIs K CB CA B H bk dx n p f w ps fs now past fut) (hp : ∀ s ∈ past, ASok s) {n' f' : Addr} {s : AS} {fs' : List V} {fut' : List AS} (hA : AtlasAt K CA H n' s.1 s.2) (sok : ASok s) (hf : H f' = some (.lst fs')) (hfs : All2 (AtA K CA H) fs' fut') (fok : ∀ s ∈ fut', ASok s) (pf' : p ≠ f') (fw' : f' ≠ w) (nf : B f' = none) :
    BookIs K CB CA B (L2.upd H bk (.ins CB dx (bfl n' p f' w))) bk dx n' p f' w ps fs' s past fut' :=
  ⟨upd_same, atl_upd hA sok.ok h.lb, (upd_ne (h.nl h.hpast)).trans h.hpast, all_upd h.pasts hp h.lb, (upd_ne (h.nl hf)).trans hf, all_upd hfs fok h.lb, (upd_ne (h.nl h.watch)).trans h.watch, pf', h.pw, fw', h.new, h.newp, nf, h.neww⟩
theorem BookIs.pastTo (h : BookIs K CB CA B H bk dx n p f w ps fs now past fut) (hi : Hist now past fut) {qs : List V} {past' : List AS} (hq : All2 (AtA K CA H) qs past') (ok : ∀ s ∈ past', ASok s) : BookIs K CB CA B (L2.upd H p (.lst qs)) bk dx n p f w qs fs now past' fut :=
  ⟨(upd_ne (Ne.symm (h.nl h.hpast))).trans h.obj, atl_upd (CB := CB) h.atlas hi.now.ok (.inl ⟨_, h.hpast⟩), upd_same, all_upd (CB := CB) hq ok (.inl ⟨_, h.hpast⟩), (upd_ne (Ne.symm h.pf)).trans h.hfut, all_upd (CB := CB) h.futs hi.hfut (.inl ⟨_, h.hpast⟩), (upd_ne (Ne.symm h.pw)).trans h.watch, h.pf, h.pw, h.fw, h.new, h.newp, h.newf, h.neww⟩
theorem BookIs.futTo (h : BookIs K CB CA B H bk dx n p f w ps fs now past fut) (hi : Hist now past fut) {qs : List V} {fut' : List AS} (hq : All2 (AtA K CA H) qs fut') (ok : ∀ s ∈ fut', ASok s) : BookIs K CB CA B (L2.upd H f (.lst qs)) bk dx n p f w ps qs now past fut' :=
  ⟨(upd_ne (Ne.symm (h.nl h.hfut))).trans h.obj, atl_upd (CB := CB) h.atlas hi.now.ok (.inl ⟨_, h.hfut⟩), (upd_ne h.pf).trans h.hpast, all_upd (CB := CB) h.pasts hi.hpast (.inl ⟨_, h.hfut⟩), upd_same, all_upd (CB := CB) hq ok (.inl ⟨_, h.hfut⟩), (upd_ne (Ne.symm h.fw)).trans h.watch, h.pf, h.pw, h.fw, h.new, h.newp, h.newf, h.neww⟩
theorem Hist.add {s : AS} (h : Hist now past fut) (hs : ASok s) (l : past.length < 1000) : Hist s (past ++ [now]) [] := ⟨hs, fun y m => by
  rcases List.mem_append.mp m with m | m
  · exact h.hpast y m
  · rw [List.mem_singleton.mp m]
    exact h.now, (fun _ m => nomatch m), by rw [List.length_append]; exact l, Nat.zero_le _⟩
end
theorem mem_snoc {α : Type} {P : α → Prop} {l : List α} {x : α} (h : ∀ y ∈ l, P y) (hx : P x) : ∀ y ∈ l ++ [x], P y := fun y m => (List.mem_append.mp m).elim (h y) fun m => List.mem_singleton.mp m ▸ hx
def spDo (K : PySem.W.Frag) (CB CA : Addr) : Sp := fun vs H Q _ => ∃ (bk x : Addr) (B : Hp) (s now : AS) (past fut : List AS), vs = [.ref bk, .ref x] ∧ Same B H ∧ BookOn K CB CA B H bk now past fut ∧ Hist now past fut ∧ past.length < 1000 ∧ AtlasAt K CA H x s.1 s.2 ∧ ASok s ∧
  ∀ H', Deed B H H' → BookOn K CB CA B H' bk s (past ++ [now]) [] → Q .non H'
theorem ok_do (T : Top w K mg) : FnOk P w K mg base CX0 4 T.a_Book_do T.fd_Book_do ["self", "atlas"] (spDo K T.a_Book T.a_Atlas) := by
  have G_Book_turn_to := ok_turn_to (P := P) (w := w) (base := base) T
  refine T.F_Book_do.ok sc_Book_do (fun vs H Q E h => ?_) (fun cdv A outer s H vs Q E hr h => ?_)
  · obtain ⟨bk, x, B, s', now, past, fut, rfl, _⟩ := h
    rfl
  · obtain ⟨bk, x, B, s', now, past, fut, rfl, hB, ⟨dx, n, p, f, w', ps, fs, h⟩, hi, lp, hA, hs, q⟩ := h
    refine ⟨_, (pss_cons (ps_expr (pe_bm PySem.F.plainAttrs_list PySem.F.slot_list_append PySem.F.type_list_append mt_append (pe_fld (pv 0) rfl) (pa_cons (pe_fld (pv 0) rfl) pa_nil)))
      (pss_cons (ps_fld (pv 0) (pe_lst pa_nil) rfl)
      (pss_one (ps_expr (pe_meth (pv 0) T.cl_Book T.me_Book_turn_to G_Book_turn_to hr T.b_Book_turn_to .nil pass0 (pa_cons (pv 1) pa_nil)))))), ?_⟩
    have lps := h.pasts.len
    refine ⟨.ref bk, rfl, bk, T.a_Book, dx, _, _, rfl, h.obj, T.cl_Book, T.nf_Book_past, bf_past n p f w', .inl ⟨rfl, _, .inl (.inl h.hpast)⟩, .ref bk, rfl, bk, T.a_Book, dx, _, _, rfl, h.obj, T.cl_Book, T.nf_Book_now, bf_now n p f w', ?_⟩
    refine ⟨p, ps, _, rfl, rfl, h.hpast, small1000 (by omega), ?_⟩
    have h1 := h.pastTo hi (qs := ps ++ [.ref n]) (h.pasts.snoc ⟨n, rfl, h.atlas⟩) (mem_snoc hi.hpast hi.now)
    have d1 : Deed B H (upd H p (.lst (ps ++ [.ref n]))) := Deed.upd hB h.newp h.hpast (npl_refs h.pasts)
    have hA1 : AtlasAt K T.a_Atlas (upd H p (.lst (ps ++ [.ref n]))) x s'.1 s'.2 := atl_upd (CB := T.a_Book) hA hs.ok (.inl ⟨_, h.hpast⟩)
    have hi1 : Hist now (past ++ [now]) fut := ⟨hi.now, mem_snoc hi.hpast hi.now, hi.hfut, by rw [List.length_append]; exact lp, hi.fewf⟩
    generalize (upd H p (.lst (ps ++ [.ref n]))) = H1 at h1 d1 hA1 ⊢
    refine ⟨Nat.zero_le _, fun F nF => ?_⟩
    have sF := same_upd (o := .lst []) nF
    have h2 := h1.same sF
    have fp : p ≠ F := fun z => by rw [← z, h1.hpast] at nF; cases nF
    have fw : F ≠ w' := fun z => by rw [z, h1.watch] at nF; cases nF
    have nFB : B F = none := by
      cases e : B F with
      | none => rfl
      | some o => rw [d1.1 _ _ e] at nF; cases nF
    refine ⟨.ref bk, rfl, bk, T.a_Book, dx, _, rfl, h2.obj, T.cl_Book, T.nf_Book_future, by show 4 < 1000; decide, ?_⟩
    rw [put_future]
    have h3 := h2.reset hi1.hpast h2.atlas hi.now (f' := F) (fs' := []) (fut' := []) upd_same .nil (fun _ m => nomatch m) fp fw nFB
    have d2 : Deed B H1 (upd H1 F (.lst [])) := Deed.of d1.1 sF
    have d3 := d1.trans (d2.trans (Deed.upd (o := .ins T.a_Book dx (bfl n p F w')) d2.1 h.new h2.obj rfl))
    have hA3 := atl_upd (o := .ins T.a_Book dx (bfl n p F w')) (hA1.same sF) hs.ok h2.lb
    refine ⟨.ref bk, rfl, bk, dx, _, rfl, h3.obj, bf_no n p F w' (by decide +kernel) (by decide +kernel) (by decide +kernel) (by decide +kernel), .ref x, rfl, ?_⟩
    refine ⟨bk, x, B, s', now, past ++ [now], [], rfl, d3.1, ⟨_, _, _, _, _, _, _, h3⟩, ⟨hi.now, hi1.hpast, (fun _ m => nomatch m), hi1.few, Nat.zero_le _⟩, hA3, hs, fun H' d4 hb => q H' (d3.trans d4) hb⟩
--@@SPLIT
theorem ASok.sub {s : AS} {rs : List Row} (h : ASok s) (srt : Srt rs) (ok : ∀ r ∈ rs, RowOk r) (few : rs.length ≤ 40) : ASok (s.1, rs) := ⟨h.len, srt, ok, few⟩
theorem nd_snoc {rs : List Row} {z : Str} {es : List Ent} (nd : (nms rs).Nodup) (out : z ∉ nms rs) : (nms (rs ++ [(z, es)])).Nodup := by
  rw [show nms (rs ++ [(z, es)]) = nms rs ++ [z] from List.map_append]
  exact List.nodup_append.mpr ⟨nd, List.nodup_cons.mpr ⟨(fun h => nomatch h), .nil⟩, fun a ha c hc e => out ((show a = z from e.trans (List.mem_singleton.mp hc)) ▸ ha)⟩
/-- a walker more -/
def spPut (K : PySem.W.Frag) (CB CA : Addr) : Sp := fun vs H Q _ => ∃ (bk l : Addr) (z : Str) (B : Hp) (xs : List V) (es : List Ent) (now : AS) (past fut : List AS), vs = [.ref bk, .str z, .ref l] ∧ Same B H ∧ BookOn K CB CA B H bk now past fut ∧ Hist now past fut ∧ past.length < 1000 ∧ now.2.length < 40 ∧ SqA K H l xs ∧ Rows K H xs es ∧ RowOk (z, es) ∧ z ∉ nms now.2 ∧
  ∀ H' rs, Deed B H H' → rs.Perm (now.2 ++ [(z, es)]) → ASok (now.1, rs) → BookOn K CB CA B H' bk (now.1, rs) (past ++ [now]) [] → Q .non H'
theorem ok_put (T : Top w K mg) : FnOk P w K mg base CX0 10 T.a_Book_put T.fd_Book_put ["self", "name", "log"] (spPut K T.a_Book T.a_Atlas) := by
  have G_Book_do := ok_do (P := P) (w := w) (base := base) T
  have G_pairs_of := ok_pairs_of (P := P) (w := w) (base := base) T
  have G_Atlas_init := ok_Atlas_init (P := P) (w := w) (base := base) T
  refine T.F_Book_put.ok sc_Book_put (fun vs H Q E h => ?_) (fun cdv A outer s H vs Q E hr h => ?_)
  · obtain ⟨bk, l, z, B, xs, es, now, past, fut, rfl, _⟩ := h
    rfl
  · obtain ⟨bk, l, z, B, xs, es, now, past, fut, rfl, hB, ⟨dx, n, p, f, w', ps, fs, h⟩, hi, lp, ln, hl, hes, hrow, out, q⟩ := h
    refine ⟨_, (pss_one (ps_expr (pe_meth (pv 0) T.cl_Book T.me_Book_do G_Book_do (hr.mono (by decide)) T.b_Book_do .nil pass0 (pa_cons (pe_make T.mk_Atlas G_Atlas_init hr (by rfl) T.g_Atlas T.b_Atlas_init .nil pass0 (pa_cons (pe_fld (pe_fld (pv 0) rfl) rfl) (pa_cons (pe_lst (StX.pa_star (pe_call G_pairs_of (hr.mono (by decide)) (by rfl) T.g_pairs_of T.F_pairs_of.kp T.b_pairs_of .nil pass0 (pa_cons (pe_fld (pv 0) rfl) pa_nil)) (pa_cons (pe_tup (pa_cons (pv 1) (pa_cons (pv 2) pa_nil))) pa_nil))) pa_nil))) pa_nil)))), ?_⟩
    refine ⟨.ref bk, rfl, bk, dx, _, rfl, h.obj, bf_no n p f w' (by decide +kernel) (by decide +kernel) (by decide +kernel) (by decide +kernel), ?_⟩
    obtain ⟨dxA, bA, nA, lA, lsA, onA, poA, hinsA, hboxA, _⟩ := id h.atlas
    refine ⟨.ref bk, rfl, bk, T.a_Book, dx, _, _, rfl, h.obj, T.cl_Book, T.nf_Book_now, bf_now n p f w', n, T.a_Atlas, dxA, _, _, rfl, hinsA, T.cl_Atlas, T.nf_Atlas_box, fl_box bA nA lA, ?_⟩
    refine ⟨.ref bk, rfl, bk, T.a_Book, dx, _, _, rfl, h.obj, T.cl_Book, T.nf_Book_now, bf_now n p f w', n, now.1, now.2, rfl, h.atlas, by omega, fun H1 D us s1 nD eD hus => ?_⟩
    have lu := hus.len
    refine ⟨D, us, rfl, .inr (.inl (.inl eD)), .str z, rfl, .ref l, rfl, by show 2 ≤ sizeLine; decide, fun t nt => ⟨Nat.le_of_lt (small1000 (by rw [List.length_append]; show us.length + 1 ≤ 1000; omega)), fun L nL y dy ny ndy ne => ?_⟩⟩
    generalize eH2 : upd (upd (upd (upd H1 t (.tup [.str z, .ref l])) L (.lst (us ++ [.ref t]))) dy (.own y)) y (.ins T.a_Atlas dy []) = H2
    have y2 : H2 y = some (.ins T.a_Atlas dy []) := by rw [← eH2]; exact upd_same
    have st := same_upd (o := .tup [.str z, .ref l]) nt
    have sL := same_upd (o := .lst (us ++ [.ref t])) nL
    have sy : Same (upd (upd H1 t (.tup [.str z, .ref l])) L (.lst (us ++ [.ref t]))) H2 := fun c o h => by
      rw [← eH2, upd_ne (ne_of_none h ny)]
      exact same_upd ndy _ _ h
    have eL := sy _ _ (upd_same (H := upd H1 t (.tup [.str z, .ref l])) (a := L))
    have et := sy _ _ (sL _ _ (upd_same (H := H1) (a := t)))
    have s12 := (st.trans sL).trans sy
    have s2 := s1.trans s12
    have ny0 : H y = none := (s1.trans (st.trans sL)).free ny
    refine ⟨y, dy, bA, L, now.1, us ++ [.ref t], now.2 ++ [(z, es)], rfl, y2, .inr (sqt_same s2 hboxA), hi.now.len, .inl (.inl (.inl eL)), ((hus.same s12).pairs).snoc ⟨t, l, xs, rfl, .inr (.inl (.inl et)), hl.same s2, hes.same s2⟩, mem_snoc hi.now.ok hrow, nd_snoc hi.now.srt.nodup out, by rw [List.length_append]; show _ + 1 ≤ 60; omega, fun H3 rs' bt prm srt at_ => ⟨rfl, ?_⟩⟩
    have s3 : Same H H3 := fun c o h => bt _ _ (ne_of_none h ny0) (s2 _ _ h)
    have sok : ASok (now.1, rs') := hi.now.sub srt (fun r hr => mem_snoc hi.now.ok hrow r (prm.mem_iff.mp hr)) (by rw [prm.length_eq, List.length_append]; exact ln)
    exact ⟨bk, y, B, (now.1, rs'), now, past, fut, rfl, hB.trans s3, ⟨_, _, _, _, _, _, _, h.same s3⟩, hi, lp, at_, sok, fun H' d hb => q H' rs' ((Deed.of hB s3).trans d) prm sok hb⟩
/-- a walker less -/
def spDrop (K : PySem.W.Frag) (CB CA : Addr) : Sp := fun vs H Q _ => ∃ (bk : Addr) (z : Str) (B : Hp) (now : AS) (past fut : List AS), vs = [.ref bk, .str z] ∧ Same B H ∧ BookOn K CB CA B H bk now past fut ∧ Hist now past fut ∧ past.length < 1000 ∧ z ∈ nms now.2 ∧
  ∀ H' rs, Deed B H H' → rs.Perm (withQ now.2 (.str z)) → ASok (now.1, rs) → BookOn K CB CA B H' bk (now.1, rs) (past ++ [now]) [] → Q .non H'
theorem ok_drop (T : Top w K mg) : FnOk P w K mg base CX0 11 T.a_Book_drop T.fd_Book_drop ["self", "name"] (spDrop K T.a_Book T.a_Atlas) := by
  have G_Book_do := ok_do (P := P) (w := w) (base := base) T
  have G_Atlas_without := ok_withoutK (P := P) (w := w) (base := base) T
  refine T.F_Book_drop.ok sc_Book_drop (fun vs H Q E h => ?_) (fun cdv A outer s H vs Q E hr h => ?_)
  · obtain ⟨bk, z, B, now, past, fut, rfl, _⟩ := h
    rfl
  · obtain ⟨bk, z, B, now, past, fut, rfl, hB, ⟨dx, n, p, f, w', ps, fs, h⟩, hi, lp, zin, q⟩ := h
    refine ⟨_, (pss_one (ps_expr (pe_meth (pv 0) T.cl_Book T.me_Book_do G_Book_do (hr.mono (by decide)) T.b_Book_do .nil pass0 (pa_cons (pe_meth (pe_fld (pv 0) rfl) T.cl_Atlas T.me_Atlas_without G_Atlas_without hr T.b_Atlas_without .nil pass0 (pa_cons (pv 1) pa_nil)) pa_nil)))), ?_⟩
    have few := hi.now.few
    obtain ⟨dxA, bA, nA, lA, lsA, onA, poA, hinsA, hboxA, _⟩ := id h.atlas
    refine ⟨.ref bk, rfl, bk, dx, _, rfl, h.obj, bf_no n p f w' (by decide +kernel) (by decide +kernel) (by decide +kernel) (by decide +kernel), ?_⟩
    refine ⟨.ref bk, rfl, bk, T.a_Book, dx, _, _, rfl, h.obj, T.cl_Book, T.nf_Book_now, bf_now n p f w', n, dxA, _, rfl, hinsA, fl_no bA nA lA (by decide +kernel) (by decide +kernel) (by decide +kernel), .str z, rfl, ?_⟩
    refine ⟨n, z, now.1, now.2, rfl, h.atlas, hi.now.len, zin, hi.now.srt, hi.now.ok, by omega, fun H1 y rs s1 prm srt at_ => ?_⟩
    have wl : (withQ now.2 (.str z)).length ≤ now.2.length := List.length_filter_le _ _
    have sok : ASok (now.1, rs) := hi.now.sub srt (fun r hr => hi.now.ok r (List.mem_filter.mp (prm.mem_iff.mp hr)).1) (by rw [prm.length_eq]; omega)
    exact ⟨bk, y, B, (now.1, rs), now, past, fut, rfl, hB.trans s1, ⟨_, _, _, _, _, _, _, h.same s1⟩, hi, lp, at_, sok, fun H' d hb => q H' rs ((Deed.of hB s1).trans d) prm sok hb⟩
theorem rows_more {K : PySem.W.Frag} {H : Hp} {xs : List V} {v : V} {es : List Ent} {e : Ent} (h : Rows K H xs es) (h1 : Rows K H [v] [e]) : Rows K H (xs ++ [v]) (es ++ [e]) := by
  obtain ⟨ds, hd, ed⟩ := h
  obtain ⟨d1, hd1, ed1⟩ := h1
  match d1, hd1, ed1 with
  | [d], .cons g .nil, ed1 => exact ⟨ds ++ [d], dpa_snoc g _ _ hd, by rw [List.map_append, List.map_append, ed, ed1]⟩
/-- an entry more -/
def spNote (K : PySem.W.Frag) (CB CA : Addr) : Sp := fun vs H Q _ => ∃ (bk : Addr) (z : Str) (B : Hp) (v : V) (es : List Ent) (e : Ent) (now : AS) (past fut : List AS), vs = [.ref bk, .str z, v] ∧ Same B H ∧ BookOn K CB CA B H bk now past fut ∧ Hist now past fut ∧ past.length < 1000 ∧ (z, es) ∈ now.2 ∧ RowOk (z, es ++ [e]) ∧ Rows K H [v] [e] ∧
  ∀ H' rs, Deed B H H' → rs.Perm (withQ now.2 (.str z) ++ [(z, es ++ [e])]) → ASok (now.1, rs) → BookOn K CB CA B H' bk (now.1, rs) (past ++ [now]) [] → Q .non H'
theorem ok_note (T : Top w K mg) : FnOk P w K mg base CX0 11 T.a_Book_note T.fd_Book_note ["self", "name", "entry"] (spNote K T.a_Book T.a_Atlas) := by
  have G_Book_do := ok_do (P := P) (w := w) (base := base) T
  have G_Atlas_with_log := ok_with_logK (P := P) (w := w) (base := base) T
  have G_Atlas_log := ok_Atlas_log (P := P) (w := w) (base := base) T
  refine T.F_Book_note.ok sc_Book_note (fun vs H Q E h => ?_) (fun cdv A outer s H vs Q E hr h => ?_)
  · obtain ⟨bk, z, B, v, es, e, now, past, fut, rfl, _⟩ := h
    rfl
  · obtain ⟨bk, z, B, v, es, e, now, past, fut, rfl, hB, ⟨dx, n, p, f, w', ps, fs, h⟩, hi, lp, zin, hrow, hv, q⟩ := h
    refine ⟨_, (pss_one (ps_expr (pe_meth (pv 0) T.cl_Book T.me_Book_do G_Book_do (hr.mono (by decide)) T.b_Book_do .nil pass0 (pa_cons (pe_meth (pe_fld (pv 0) rfl) T.cl_Atlas T.me_Atlas_with_log G_Atlas_with_log hr T.b_Atlas_with_log .nil pass0 (pa_cons (pv 1) (pa_cons (pe_tup (StX.pa_star (pe_meth (pe_fld (pv 0) rfl) T.cl_Atlas T.me_Atlas_log G_Atlas_log (hr.mono (by decide)) T.b_Atlas_log .nil pass0 (pa_cons (pv 1) pa_nil)) (pa_cons (pv 2) pa_nil))) pa_nil))) pa_nil)))), ?_⟩
    have few := hi.now.few
    obtain ⟨m, hm⟩ := List.mem_iff_getElem?.mp zin
    obtain ⟨dxA, bA, nA, lA, lsA, onA, poA, hinsA, hboxA, _⟩ := id h.atlas
    refine ⟨.ref bk, rfl, bk, dx, _, rfl, h.obj, bf_no n p f w' (by decide +kernel) (by decide +kernel) (by decide +kernel) (by decide +kernel), ?_⟩
    refine ⟨.ref bk, rfl, bk, T.a_Book, dx, _, _, rfl, h.obj, T.cl_Book, T.nf_Book_now, bf_now n p f w', n, dxA, _, rfl, hinsA, fl_no bA nA lA (by decide +kernel) (by decide +kernel) (by decide +kernel), .str z, rfl, ?_⟩
    refine ⟨.ref bk, rfl, bk, T.a_Book, dx, _, _, rfl, h.obj, T.cl_Book, T.nf_Book_now, bf_now n p f w', n, dxA, _, rfl, hinsA, fl_no bA nA lA (by decide +kernel) (by decide +kernel) (by decide +kernel), .str z, rfl, n, now.1, now.2, m, (z, es), rfl, h.atlas, hm, hi.now.srt.nodup, by omega, fun lv hlv => ?_⟩
    obtain ⟨la, xs, rfl, hsx, hrw⟩ := log_rows hlv
    have lx : xs.length = es.length := hrw.len
    have l100 : es.length ≤ 100 := (hi.now.ok (z, es) zin).len
    refine ⟨la, xs, rfl, .inl hsx, v, rfl, Nat.le_of_lt (small1000 (by rw [List.length_append]; show xs.length + 1 ≤ 1000; omega)), fun t nt => ?_⟩
    have st := same_upd (o := .tup (xs ++ [v])) nt
    refine ⟨n, t, z, xs ++ [v], es ++ [e], now.1, now.2, rfl, h.atlas.same st, hi.now.len, .inr (.inl (.inl upd_same)), (rows_more hrw hv).same st, hrow, hi.now.srt, hi.now.ok, by omega, fun H1 y rs s1 prm srt at_ => ?_⟩
    have s01 := st.trans s1
    have sok : ASok (now.1, rs) := hi.now.sub srt (fun r hr => mem_snoc (fun r m => hi.now.ok r (List.mem_filter.mp m).1) hrow r (prm.mem_iff.mp hr)) (by
      rw [prm.length_eq, List.length_append]
      have : (withQ now.2 (.str z)).length < now.2.length := List.length_filter_lt_length_iff_exists.mpr ⟨(z, es), zin, by rw [eqS_str, decide_eq_true rfl]; exact Bool.false_ne_true⟩
      show _ + 1 ≤ 40
      omega)
    exact ⟨bk, y, B, (now.1, rs), now, past, fut, rfl, hB.trans s01, ⟨_, _, _, _, _, _, _, h.same s01⟩, hi, lp, at_, sok, fun H' d hb => q H' rs ((Deed.of hB s01).trans d) prm sok hb⟩
/-- a walker called otherwise -/
def spRename (K : PySem.W.Frag) (CB CA : Addr) : Sp := fun vs H Q _ => ∃ (bk : Addr) (z o : Str) (B : Hp) (es : List Ent) (now : AS) (past fut : List AS), vs = [.ref bk, .str z, .str o] ∧ Same B H ∧ BookOn K CB CA B H bk now past fut ∧ Hist now past fut ∧ past.length < 1000 ∧ (z, es) ∈ now.2 ∧ RowOk (o, es) ∧ o ∉ nms now.2 ∧
  ∀ H' rs, Deed B H H' → rs.Perm (withQ now.2 (.str z) ++ [(o, es)]) → ASok (now.1, rs) → BookOn K CB CA B H' bk (now.1, rs) (past ++ [now]) [] → Q .non H'
theorem ok_rename (T : Top w K mg) : FnOk P w K mg base CX0 11 T.a_Book_rename T.fd_Book_rename ["self", "name", "other"] (spRename K T.a_Book T.a_Atlas) := by
  have G_Book_do := ok_do (P := P) (w := w) (base := base) T
  have G_pairs_of := ok_pairs_of (P := P) (w := w) (base := base) T
  have G_Atlas_init := ok_Atlas_init (P := P) (w := w) (base := base) T
  have G_Atlas_without := ok_withoutK (P := P) (w := w) (base := base) T
  have G_Atlas_log := ok_Atlas_log (P := P) (w := w) (base := base) T
  refine T.F_Book_rename.ok sc_Book_rename (fun vs H Q E h => ?_) (fun cdv A outer s H vs Q E hr h => ?_)
  · obtain ⟨bk, z, o, B, es, now, past, fut, rfl, _⟩ := h
    rfl
  · obtain ⟨bk, z, o, B, es, now, past, fut, rfl, hB, ⟨dx, n, p, f, w', ps, fs, h⟩, hi, lp, zin, hrow, out, q⟩ := h
    refine ⟨_, (pss_cons (ps_set (i := 3) sc_Book_rename.nd rfl (.inl rfl) (pe_meth (pe_fld (pv 0) rfl) T.cl_Atlas T.me_Atlas_log G_Atlas_log (hr.mono (by decide)) T.b_Atlas_log .nil pass0 (pa_cons (pv 1) pa_nil)))
      (pss_one (ps_expr (pe_meth (pv 0) T.cl_Book T.me_Book_do G_Book_do (hr.mono (by decide)) T.b_Book_do .nil pass0 (pa_cons (pe_meth (pe_make T.mk_Atlas G_Atlas_init (hr.mono (by decide)) (by rfl) T.g_Atlas T.b_Atlas_init .nil pass0 (pa_cons (pe_fld (pe_fld (pv 0) rfl) rfl) (pa_cons (pe_lst (StX.pa_star (pe_call G_pairs_of (hr.mono (by decide)) (by rfl) T.g_pairs_of T.F_pairs_of.kp T.b_pairs_of .nil pass0 (pa_cons (pe_fld (pv 0) rfl) pa_nil)) (pa_cons (pe_tup (pa_cons (pv 2) (pa_cons (pv 3) pa_nil))) pa_nil))) pa_nil))) T.cl_Atlas T.me_Atlas_without G_Atlas_without hr T.b_Atlas_without .nil pass0 (pa_cons (pv 1) pa_nil)) pa_nil))))), ?_⟩
    have few := hi.now.few
    obtain ⟨m, hm⟩ := List.mem_iff_getElem?.mp zin
    obtain ⟨dxA, bA, nA, lA, lsA, onA, poA, hinsA, hboxA, _⟩ := id h.atlas
    refine ⟨.ref bk, rfl, bk, T.a_Book, dx, _, _, rfl, h.obj, T.cl_Book, T.nf_Book_now, bf_now n p f w', n, dxA, _, rfl, hinsA, fl_no bA nA lA (by decide +kernel) (by decide +kernel) (by decide +kernel), .str z, rfl, n, now.1, now.2, m, (z, es), rfl, h.atlas, hm, hi.now.srt.nodup, by omega, fun lv hlv => ?_⟩
    obtain ⟨la, xs, rfl, hsx, hrw⟩ := log_rows hlv
    refine ⟨.ref bk, rfl, bk, dx, _, rfl, h.obj, bf_no n p f w' (by decide +kernel) (by decide +kernel) (by decide +kernel) (by decide +kernel), ?_⟩
    refine ⟨.ref bk, rfl, bk, T.a_Book, dx, _, _, rfl, h.obj, T.cl_Book, T.nf_Book_now, bf_now n p f w', n, T.a_Atlas, dxA, _, _, rfl, hinsA, T.cl_Atlas, T.nf_Atlas_box, fl_box bA nA lA, ?_⟩
    refine ⟨.ref bk, rfl, bk, T.a_Book, dx, _, _, rfl, h.obj, T.cl_Book, T.nf_Book_now, bf_now n p f w', n, now.1, now.2, rfl, h.atlas, by omega, fun H1 D us s1 nD eD hus => ?_⟩
    have lu := hus.len
    refine ⟨D, us, rfl, .inr (.inl (.inl eD)), .str o, rfl, .ref la, rfl, by show 2 ≤ sizeLine; decide, fun t nt => ⟨Nat.le_of_lt (small1000 (by rw [List.length_append]; show us.length + 1 ≤ 1000; omega)), fun L nL y dy ny ndy ne => ?_⟩⟩
    generalize eH2 : upd (upd (upd (upd H1 t (.tup [.str o, .ref la])) L (.lst (us ++ [.ref t]))) dy (.own y)) y (.ins T.a_Atlas dy []) = H2
    have y2 : H2 y = some (.ins T.a_Atlas dy []) := by rw [← eH2]; exact upd_same
    have st := same_upd (o := .tup [.str o, .ref la]) nt
    have sL := same_upd (o := .lst (us ++ [.ref t])) nL
    have sy : Same (upd (upd H1 t (.tup [.str o, .ref la])) L (.lst (us ++ [.ref t]))) H2 := fun c u h => by
      rw [← eH2, upd_ne (ne_of_none h ny)]
      exact same_upd ndy _ _ h
    have eL := sy _ _ (upd_same (H := upd H1 t (.tup [.str o, .ref la])) (a := L))
    have et := sy _ _ (sL _ _ (upd_same (H := H1) (a := t)))
    have s12 := (st.trans sL).trans sy
    have s2 := s1.trans s12
    have ny0 : H y = none := (s1.trans (st.trans sL)).free ny
    have ok2 := mem_snoc hi.now.ok hrow
    refine ⟨y, dy, bA, L, now.1, us ++ [.ref t], now.2 ++ [(o, es)], rfl, y2, .inr (sqt_same s2 hboxA), hi.now.len, .inl (.inl (.inl eL)), ((hus.same s12).pairs).snoc ⟨t, la, xs, rfl, .inr (.inl (.inl et)), .inr (sqt_same s2 hsx), hrw.same s2⟩, ok2, nd_snoc hi.now.srt.nodup out, by rw [List.length_append]; show _ + 1 ≤ 60; omega, fun H3 rs1 bt prm srt at_ => ⟨rfl, ?_⟩⟩
    have s3 : Same H H3 := fun c o h => bt _ _ (ne_of_none h ny0) (s2 _ _ h)
    have hm1 : (nms rs1).Perm (nms (now.2 ++ [(o, es)])) := prm.map _
    have zin1 : z ∈ nms rs1 := hm1.mem_iff.mpr (List.mem_map.mpr ⟨(z, es), List.mem_append_left _ zin, rfl⟩)
    obtain ⟨dxB, bB, nB, lB, lsB, onB, poB, hinsB, _⟩ := id at_
    refine ⟨y, dxB, _, rfl, hinsB, fl_no bB nB lB (by decide +kernel) (by decide +kernel) (by decide +kernel), .str z, rfl, ?_⟩
    refine ⟨y, z, now.1, rs1, rfl, at_, hi.now.len, zin1, srt, fun r hr => ok2 r (prm.mem_iff.mp hr), by rw [prm.length_eq, List.length_append]; show _ + 1 ≤ 50; omega, fun H4 y2' rs s4 prm2 srt2 at2 => ?_⟩
    have zo : z ≠ o := fun e => out (e ▸ List.mem_map.mpr ⟨(z, es), zin, rfl⟩)
    have prm3 : rs.Perm (withQ now.2 (.str z) ++ [(o, es)]) := by
      refine prm2.trans ((prm.filter _).trans (List.Perm.of_eq ?_))
      rw [List.filter_append, List.filter_cons, List.filter_nil, if_pos (by rw [eqS_str, decide_eq_false (Ne.symm zo)]; rfl)]
      rfl
    have s34 := s3.trans s4
    have sok : ASok (now.1, rs) := hi.now.sub srt2 (fun r hr => mem_snoc (fun r m => hi.now.ok r (List.mem_filter.mp m).1) hrow r (prm3.mem_iff.mp hr)) (by
      rw [prm3.length_eq, List.length_append]
      have : (withQ now.2 (.str z)).length < now.2.length := List.length_filter_lt_length_iff_exists.mpr ⟨(z, es), zin, by rw [eqS_str, decide_eq_true rfl]; exact Bool.false_ne_true⟩
      show _ + 1 ≤ 40
      omega)
    exact ⟨bk, y2', B, (now.1, rs), now, past, fut, rfl, hB.trans s34, ⟨_, _, _, _, _, _, _, h.same s34⟩, hi, lp, at2, sok, fun H' d hb => q H' rs ((Deed.of hB s34).trans d) prm3 sok hb⟩
--@@SPLIT
/-- another box -/
def spRefill (K : PySem.W.Frag) (CB CA : Addr) : Sp := fun vs H Q _ => ∃ (bk b : Addr) (B : Hp) (box : List Nat) (now : AS) (past fut : List AS), vs = [.ref bk, .ref b] ∧ Same B H ∧ BookOn K CB CA B H bk now past fut ∧ Hist now past fut ∧ past.length < 1000 ∧ SqA K H b (boxV box) ∧ box.length = 8 ∧
  ∀ H', Deed B H H' → ASok (box, now.2) → BookOn K CB CA B H' bk (box, now.2) (past ++ [now]) [] → Q .non H'
theorem ok_refill (T : Top w K mg) : FnOk P w K mg base CX0 10 T.a_Book_refill T.fd_Book_refill ["self", "box"] (spRefill K T.a_Book T.a_Atlas) := by
  have G_Book_do := ok_do (P := P) (w := w) (base := base) T
  have G_pairs_of := ok_pairs_of (P := P) (w := w) (base := base) T
  have G_Atlas_init := ok_Atlas_init (P := P) (w := w) (base := base) T
  refine T.F_Book_refill.ok sc_Book_refill (fun vs H Q E h => ?_) (fun cdv A outer s H vs Q E hr h => ?_)
  · obtain ⟨bk, b, B, box, now, past, fut, rfl, _⟩ := h
    rfl
  · obtain ⟨bk, b, B, box, now, past, fut, rfl, hB, ⟨dx, n, p, f, w', ps, fs, h⟩, hi, lp, hb, h8, q⟩ := h
    refine ⟨_, (pss_one (ps_expr (pe_meth (pv 0) T.cl_Book T.me_Book_do G_Book_do (hr.mono (by decide)) T.b_Book_do .nil pass0 (pa_cons (pe_make T.mk_Atlas G_Atlas_init hr (by rfl) T.g_Atlas T.b_Atlas_init .nil pass0 (pa_cons (pv 1) (pa_cons (pe_call G_pairs_of (hr.mono (by decide)) (by rfl) T.g_pairs_of T.F_pairs_of.kp T.b_pairs_of .nil pass0 (pa_cons (pe_fld (pv 0) rfl) pa_nil)) pa_nil))) pa_nil)))), ?_⟩
    have few := hi.now.few
    refine ⟨.ref bk, rfl, bk, dx, _, rfl, h.obj, bf_no n p f w' (by decide +kernel) (by decide +kernel) (by decide +kernel) (by decide +kernel), ?_⟩
    refine ⟨.ref b, rfl, .ref bk, rfl, bk, T.a_Book, dx, _, _, rfl, h.obj, T.cl_Book, T.nf_Book_now, bf_now n p f w', n, now.1, now.2, rfl, h.atlas, by omega, fun H1 D us s1 nD eD hus => ?_⟩
    refine fun y dy ny ndy ne => ?_
    have s2 : Same H1 (upd (upd H1 dy (.own y)) y (.ins T.a_Atlas dy [])) := fun c o h => by
      rw [upd_ne (ne_of_none h ny)]
      exact same_upd ndy _ _ h
    have s02 := s1.trans s2
    refine ⟨y, dy, b, D, box, us, now.2, rfl, upd_same, hb.same s02, h8, .inl (.inl (.inl (s2 _ _ eD))), (hus.same s2).pairs, hi.now.ok, hi.now.srt.nodup, by omega, fun H3 rs' bt prm srt at_ => ⟨rfl, ?_⟩⟩
    obtain rfl : rs' = now.2 := srt_uniq prm srt hi.now.srt
    have s3 : Same H H3 := fun c o h => bt _ _ (ne_of_none h (s1.free ny)) (s02 _ _ h)
    have sok : ASok (box, now.2) := ⟨h8, hi.now.srt, hi.now.ok, hi.now.few⟩
    exact ⟨bk, y, B, (box, now.2), now, past, fut, rfl, hB.trans s3, ⟨_, _, _, _, _, _, _, h.same s3⟩, hi, lp, at_, sok, fun H' d hk => q H' ((Deed.of hB s3).trans d) sok hk⟩
/-- the last deed taken back -/
def spUndo (K : PySem.W.Frag) (CB CA : Addr) : Sp := fun vs H Q _ => ∃ (bk : Addr) (B : Hp) (s now : AS) (past fut : List AS), vs = [.ref bk] ∧ Same B H ∧ BookOn K CB CA B H bk now (past ++ [s]) fut ∧ Hist now (past ++ [s]) fut ∧ fut.length < 1000 ∧
  ∀ H', Deed B H H' → BookOn K CB CA B H' bk s past (fut ++ [now]) → Q .non H'
theorem ok_undo (T : Top w K mg) : FnOk P w K mg base CX0 4 T.a_Book_undo T.fd_Book_undo ["self"] (spUndo K T.a_Book T.a_Atlas) := by
  have G_Book_turn_to := ok_turn_to (P := P) (w := w) (base := base) T
  refine T.F_Book_undo.ok sc_Book_undo (fun vs H Q E h => ?_) (fun cdv A outer s H vs Q E hr h => ?_)
  · obtain ⟨bk, B, s', now, past, fut, rfl, _⟩ := h
    rfl
  · obtain ⟨bk, B, s', now, past, fut, rfl, hB, ⟨dx, n, p, f, w', ps, fs, h⟩, hi, lf, q⟩ := h
    refine ⟨_, (pss_cons (ps_if (pt_not (pt_truth (pe_fld (pv 0) rfl) (by intro _; rfl))) (pss_one ps_never) pss_nil)
      (pss_cons (ps_expr (pe_bm PySem.F.plainAttrs_list PySem.F.slot_list_append PySem.F.type_list_append mt_append (pe_fld (pv 0) rfl) (pa_cons (pe_fld (pv 0) rfl) pa_nil)))
      (pss_one (ps_expr (pe_meth (pv 0) T.cl_Book T.me_Book_turn_to G_Book_turn_to hr T.b_Book_turn_to .nil pass0 (pa_cons (pe_bm0 PySem.F.plainAttrs_list PySem.F.slot_list_pop PySem.F.type_list_pop mt_pop (pe_fld (pv 0) rfl)) pa_nil)))))), ?_⟩
    refine ⟨.ref bk, rfl, bk, T.a_Book, dx, _, _, rfl, h.obj, T.cl_Book, T.nf_Book_past, bf_past n p f w', ?_⟩
    obtain ⟨qs, v, rfl, hqs, xs', ev, hxs⟩ : ∃ qs v, ps = qs ++ [v] ∧ All2 (AtA K T.a_Atlas H) qs past ∧ ∃ x, v = .ref x ∧ AtlasAt K T.a_Atlas H x s'.1 s'.2 := by
      have hp := h.pasts
      have l := hp.len
      rw [List.length_append, List.length_singleton] at l
      refine ⟨ps.take past.length, ps[past.length]'(by omega), ?_, ?_, ?_⟩
      · conv => lhs; rw [← List.take_append_drop past.length ps]
        rw [List.drop_eq_getElem_cons (by omega), List.drop_eq_nil_of_le (by omega)]
      · have := hp.take past.length
        rw [List.take_left' rfl] at this
        exact this
      · obtain ⟨b, eb, hb⟩ := hp.at_ (List.getElem?_eq_getElem (show past.length < ps.length by omega))
        rw [List.getElem?_append_right (Nat.le_refl _), Nat.sub_self] at eb
        cases eb
        exact hb
    subst ev
    have ne : (qs ++ [V.ref xs']).isEmpty = false := by
      cases qs <;> rfl
    refine ⟨!(qs ++ [V.ref xs']).isEmpty, .inl ⟨_, .inl (.inl h.hpast), rfl⟩, ?_⟩
    rw [ne]
    refine iteF ?_
    have lfs := h.futs.len
    refine ⟨.ref bk, rfl, bk, T.a_Book, dx, _, _, rfl, h.obj, T.cl_Book, T.nf_Book_future, bf_future n p f w', .inl ⟨rfl, _, .inl (.inl h.hfut)⟩, .ref bk, rfl, bk, T.a_Book, dx, _, _, rfl, h.obj, T.cl_Book, T.nf_Book_now, bf_now n p f w', f, fs, _, rfl, rfl, h.hfut, small1000 (by omega), ?_⟩
    have h1 := h.futTo hi (qs := fs ++ [.ref n]) (h.futs.snoc ⟨n, rfl, h.atlas⟩) (mem_snoc hi.hfut hi.now)
    have d1 : Deed B H (upd H f (.lst (fs ++ [.ref n]))) := Deed.upd hB h.newf h.hfut (npl_refs h.futs)
    have sok := hi.hpast s' (List.mem_append_right _ List.mem_cons_self)
    have pok : ∀ y ∈ past, ASok y := fun y m => hi.hpast y (List.mem_append_left _ m)
    have hi1 : Hist now (past ++ [s']) (fut ++ [now]) := ⟨hi.now, hi.hpast, mem_snoc hi.hfut hi.now, hi.few, by rw [List.length_append]; exact lf⟩
    have hqs1 := all_upd (CB := T.a_Book) (o := .lst (fs ++ [.ref n])) hqs pok (.inl ⟨_, h.hfut⟩)
    have hx1 := atl_upd (CB := T.a_Book) (o := .lst (fs ++ [.ref n])) hxs sok.ok (.inl ⟨_, h.hfut⟩)
    generalize (upd H f (.lst (fs ++ [.ref n]))) = H1 at h1 d1 hqs1 hx1 ⊢
    refine ⟨.ref bk, rfl, bk, dx, _, rfl, h1.obj, bf_no n p f w' (by decide +kernel) (by decide +kernel) (by decide +kernel) (by decide +kernel), ?_⟩
    refine ⟨.ref bk, rfl, bk, T.a_Book, dx, _, _, rfl, h1.obj, T.cl_Book, T.nf_Book_past, bf_past n p f w', .inl ⟨rfl, _, .inl (.inl h1.hpast)⟩, ?_⟩
    refine ⟨p, qs ++ [.ref xs'], .ref xs', rfl, rfl, h1.hpast, by rw [List.length_append, List.length_singleton, Nat.add_sub_cancel, List.getElem?_append_right (Nat.le_refl _), Nat.sub_self]; rfl, ?_⟩
    rw [List.dropLast_concat]
    have h2 := h1.pastTo hi1 (qs := qs) hqs1 pok
    have d2 : Deed B _ (upd H1 p (.lst qs)) := Deed.upd d1.1 h.newp h1.hpast (npl_refs h1.pasts)
    have hx2 := atl_upd (CB := T.a_Book) (o := .lst qs) hx1 sok.ok (.inl ⟨_, h1.hpast⟩)
    have d12 := d1.trans d2
    exact ⟨bk, xs', B, s', now, past, fut ++ [now], rfl, d12.1, ⟨_, _, _, _, _, _, _, h2⟩, ⟨hi.now, pok, hi1.hfut, by have := hi.few; rw [List.length_append] at this; exact Nat.le_of_succ_le this, hi1.fewf⟩, hx2, sok, fun H' d hb => q H' (d12.trans d) hb⟩
/-- the atlas as it stands -/
def spNow (CB : Addr) : Sp := fun vs H Q _ => ∃ (bk dx n p f w : Addr), vs = [.ref bk] ∧ H bk = some (.ins CB dx (bfl n p f w)) ∧ Q (.ref n) H
theorem ok_Book_atlas (T : Top w K mg) : FnOk P w K mg base CX0 1 T.a_Book_atlas T.fd_Book_atlas ["self"] (spNow T.a_Book) := by
  refine T.F_Book_atlas.ok sc_Book_atlas (fun vs H Q E h => ?_) (fun cdv A outer s H vs Q E hr h => ?_)
  · obtain ⟨bk, dx, n, p, f, w', rfl, _⟩ := h
    rfl
  · obtain ⟨bk, dx, n, p, f, w', rfl, h, q⟩ := h
    refine ⟨_, (pss_one (ps_ret (pe_fld (pv 0) rfl))), ?_⟩
    exact ⟨.ref bk, rfl, bk, T.a_Book, dx, _, _, rfl, h, T.cl_Book, T.nf_Book_now, bf_now n p f w', q⟩
theorem atl_wo {K : PySem.W.Frag} {C D x a dy : Addr} {H : Hp} {box : List Nat} {rs : List Row} {gs : List (Str × V)} (h : AtlasAt K C H x box rs) (ok : ∀ r ∈ rs, r.2.length ≤ 1000) (e : H a = some (.ins D dy gs)) (no : gs.lookup ("box" : Str) = none) : AtlasAt K C (wo H fun c => c = a) x box rs := by
  have t : Tp H (wo H fun c => c = a) := Tp.wo fun b o xb hb => by
    rw [xb, e] at hb
    cases hb
    rfl
  obtain ⟨dx, b, m, l, ls, on, po, h1, h2, h3, h4, h5⟩ := h
  have ne : x ≠ a := fun z => by
    rw [z, e] at h1
    have := (HO.ins.inj (Option.some.inj h1)).2.2
    rw [this, fl_box] at no
    cases no
  refine ⟨dx, b, m, l, ls, on, po, (wo_in (X := fun c => c = a) ne).trans h1, sqt_kp t h2, t _ _ rfl h3, sqt_kp t h4, dpa_kpA (P := fun d => okD 2 d = true) (fun d v o h => dp_kp t 2 d v o h) _ _ (fun d hd => ?_) h5⟩
  obtain ⟨r, hr, rfl⟩ := List.mem_map.mp hd
  exact log_okD (ok r hr)
/-- a book is made -/
def spBookInit (K : PySem.W.Frag) (CB CA : Addr) : Sp := fun vs H Q _ => ∃ (bk dx b : Addr) (B : Hp) (box : List Nat), vs = [.ref bk, .ref b] ∧ H bk = some (.ins CB dx []) ∧ Same B H ∧ B bk = none ∧ SqA K H b (boxV box) ∧ box.length = 8 ∧
  ∀ H', Deed B H H' → ASok (box, []) → BookOn K CB CA B H' bk (box, []) [] [] → Q .non H'
theorem ok_Book_init (T : Top w K mg) : FnOk P w K mg base CX0 10 T.a_Book_init T.fd_Book_init ["self", "box"] (spBookInit K T.a_Book T.a_Atlas) := by
  have G_Atlas_init := ok_Atlas_init (P := P) (w := w) (base := base) T
  refine T.F_Book_init.ok sc_Book_init (fun vs H Q E h => ?_) (fun cdv A outer s H vs Q E hr h => ?_)
  · obtain ⟨bk, dx, b, B, box, rfl, _⟩ := h
    rfl
  · obtain ⟨bk, dx, b, B, box, rfl, hbk, hB, nB, hb, h8, q⟩ := h
    refine ⟨_, (pss_cons (ps_fld (pv 0) (pe_make T.mk_Atlas G_Atlas_init hr (by rfl) T.g_Atlas T.b1_Atlas_init.choose_spec.2 T.b1_Atlas_init.choose_spec.1 pass0 (pa_cons (pv 1) pa_nil)) rfl)
      (pss_cons (ps_fld (pv 0) (pe_lst pa_nil) rfl)
      (pss_cons (ps_fld (pv 0) (pe_lst pa_nil) rfl)
      (pss_one (ps_fld (pv 0) (pe_lst pa_nil) rfl))))), ?_⟩
    have new : ∀ {c : Addr} {G : Hp}, Same B G → G c = none → B c = none := fun {c G} s n => by
      cases e : B c with
      | none => rfl
      | some o => rw [s _ _ e] at n; cases n
    refine ⟨.ref b, rfl, fun y dy ny ndy ne => ?_⟩
    have s0 : Same H (upd (upd H dy (.own y)) y (.ins T.a_Atlas dy [])) := fun c o h => by
      rw [upd_ne (ne_of_none h ny)]
      exact same_upd ndy _ _ h
    refine ⟨y, dy, b, T.e_Atlas_init, box, [], [], rfl, upd_same, hb.same s0, h8, .inr (T.ee_Atlas_init _), .nil, (fun _ m => nomatch m), .nil, Nat.zero_le _, fun H1 rs' bt prm srt at_ => ⟨rfl, ?_⟩⟩
    obtain rfl : rs' = [] := prm.eq_nil
    have s1 : Same H H1 := fun c o h => bt _ _ (ne_of_none h ny) (s0 _ _ h)
    have b1 := s1 _ _ hbk
    have atw := atl_wo at_ (fun _ m => nomatch m) b1 rfl
    refine ⟨.ref bk, rfl, bk, T.a_Book, dx, _, rfl, b1, T.cl_Book, T.nf_Book_now, by show 0 < 1000; decide, ?_⟩
    obtain ⟨H2, e2⟩ : ∃ H2, H2 = upd H1 bk (.ins T.a_Book dx (putF "now" (.ref y) [])) := ⟨_, rfl⟩
    rw [← e2]
    have w2 : Same (wo H1 fun c => c = bk) H2 := fun c o h => by
      have h' := wo_some h
      rw [e2, upd_ne h'.1]
      exact h'.2
    have k2 : PK H H2 := (PK.of s1).trans (by rw [e2]; exact PK.upd b1 rfl)
    have o2 : H2 bk = some (.ins T.a_Book dx (putF "now" (.ref y) [])) := by rw [e2]; exact upd_same
    refine ⟨Nat.zero_le _, fun p np => ?_⟩
    have sp := same_upd (o := .lst []) np
    have o3 := sp _ _ o2
    have l2 : (putF "past" (V.ref p) (putF "now" (.ref y) [])).length ≤ 2 := length_putF _ _ _
    refine ⟨.ref bk, rfl, bk, T.a_Book, dx, _, rfl, o3, T.cl_Book, T.nf_Book_past, by show 1 < 1000; decide, ?_⟩
    obtain ⟨H4, e4⟩ : ∃ H4, H4 = upd (upd H2 p (.lst [])) bk (.ins T.a_Book dx (putF "past" (.ref p) (putF "now" (.ref y) []))) := ⟨_, rfl⟩
    rw [← e4]
    have pb : p ≠ bk := fun z => by rw [z, o2] at np; cases np
    have p4 : H4 p = some (.lst []) := by rw [e4, upd_ne pb]; exact upd_same
    have w4 : Same (wo H1 fun c => c = bk) H4 := fun c o h => by
      have h' := wo_some h
      rw [e4, upd_ne h'.1]
      exact sp _ _ (w2 _ _ h)
    have k4 : PK H H4 := (k2.trans (PK.of sp)).trans (by rw [e4]; exact PK.upd o3 rfl)
    have o4 : H4 bk = some (.ins T.a_Book dx (putF "past" (.ref p) (putF "now" (.ref y) []))) := by rw [e4]; exact upd_same
    refine ⟨Nat.zero_le _, fun f nf => ?_⟩
    have sf := same_upd (o := .lst []) nf
    have o5 := sf _ _ o4
    have l3 : (putF "future" (V.ref f) (putF "past" (.ref p) (putF "now" (.ref y) []))).length ≤ 3 := Nat.le_trans (length_putF _ _ _) (Nat.succ_le_succ l2)
    refine ⟨.ref bk, rfl, bk, T.a_Book, dx, _, rfl, o5, T.cl_Book, T.nf_Book_future, Nat.lt_of_le_of_lt l2 (by decide), ?_⟩
    obtain ⟨H6, e6⟩ : ∃ H6, H6 = upd (upd H4 f (.lst [])) bk (.ins T.a_Book dx (putF "future" (.ref f) (putF "past" (.ref p) (putF "now" (.ref y) [])))) := ⟨_, rfl⟩
    rw [← e6]
    have fb : f ≠ bk := fun z => by rw [z, o4] at nf; cases nf
    have pf : p ≠ f := fun z => by rw [← z, p4] at nf; cases nf
    have f6 : H6 f = some (.lst []) := by rw [e6, upd_ne fb]; exact upd_same
    have p6 : H6 p = some (.lst []) := by rw [e6, upd_ne pb]; exact sf _ _ p4
    have w6 : Same (wo H1 fun c => c = bk) H6 := fun c o h => by
      have h' := wo_some h
      rw [e6, upd_ne h'.1]
      exact sf _ _ (w4 _ _ h)
    have k6 : PK H H6 := (k4.trans (PK.of sf)).trans (by rw [e6]; exact PK.upd o5 rfl)
    have o6 : H6 bk = some (.ins T.a_Book dx (putF "future" (.ref f) (putF "past" (.ref p) (putF "now" (.ref y) [])))) := by rw [e6]; exact upd_same
    refine ⟨Nat.zero_le _, fun w0 nw => ?_⟩
    have sw := same_upd (o := .lst []) nw
    have o7 := sw _ _ o6
    refine ⟨.ref bk, rfl, bk, T.a_Book, dx, _, rfl, o7, T.cl_Book, T.nf_Book_watches, Nat.lt_of_le_of_lt l3 (by decide), ?_⟩
    rw [put_all]
    have wb : w0 ≠ bk := fun z => by rw [z, o6] at nw; cases nw
    have pw : p ≠ w0 := fun z => by rw [← z, p6] at nw; cases nw
    have fw : f ≠ w0 := fun z => by rw [← z, f6] at nw; cases nw
    have w8 : Same (wo H1 fun c => c = bk) (upd (upd H6 w0 (.lst [])) bk (.ins T.a_Book dx (bfl y p f w0))) := fun c o h => by
      have h' := wo_some h
      rw [upd_ne h'.1]
      exact sw _ _ (w6 _ _ h)
    have k8 : PK H (upd (upd H6 w0 (.lst [])) bk (.ins T.a_Book dx (bfl y p f w0))) := (k6.trans (PK.of sw)).trans (PK.upd o7 rfl)
    have bw : Same B (wo H1 fun c => c = bk) := fun c o h => by
      rw [wo_in (X := fun c => c = bk) (ne_of_none h nB)]
      exact s1 _ _ (hB _ _ h)
    refine q _ ⟨bw.trans w8, k8⟩ ⟨h8, .nil, (fun _ m => nomatch m), Nat.zero_le _⟩ ⟨dx, y, p, f, w0, [], [], upd_same, atw.same w8, (upd_ne pb).trans (sw _ _ p6), .nil, (upd_ne fb).trans (sw _ _ f6), .nil, (upd_ne wb).trans upd_same, pf, pw, fw, nB, new (bw.trans w2) np, new (bw.trans w4) nf, new (bw.trans w6) nw⟩
/-- == of books: that of the atlases as they stand -/
def spEqB (K : PySem.W.Frag) (CB CA : Addr) : Sp := fun vs H Q _ => ∃ (a : Addr) (v : V), vs = [.ref a, v] ∧ ((∃ (b dx n p f w dy m p' f' w' : Addr) (s s' : AS), v = .ref b ∧ H a = some (.ins CB dx (bfl n p f w)) ∧ H b = some (.ins CB dy (bfl m p' f' w')) ∧ AtlasAt K CA H n s.1 s.2 ∧ AtlasAt K CA H m s'.1 s'.2 ∧ ASok s ∧ ASok s' ∧ Q (.bl (eqA s.1 s.2 s'.1 s'.2)) H) ∨
  ∃ t, TyX K H v t ∧ PySem.W.kitOne K t (.ref CB) = some false ∧ Q (.bl false) H)
theorem ok_Book_eq (T : Top w K mg) : FnOk P w K mg base CX0 3 T.a_Book_eq T.fd_Book_eq ["self", "other"] (spEqB K T.a_Book T.a_Atlas) := by
  have G_Atlas_eq := ok_Atlas_eqA (P := P) (w := w) (base := base) T
  refine T.F_Book_eq.ok sc_Book_eq (fun vs H Q E h => ?_) (fun cdv A outer s H vs Q E hr h => ?_)
  · obtain ⟨a, v, rfl, _⟩ := h
    rfl
  · obtain ⟨a, v, rfl, h⟩ := h
    refine ⟨_, (pss_one (ps_ret (pe_and (pe_callB call_isi (by rfl) T.m_isinstance (by decide +kernel) (pa_cons (pv 1) (pa_cons (pe_glob (v := .ref T.a_Book) (by rfl) T.g_Book rfl) pa_nil))) (pe_one (pe_cmpR (OwnE.op_eqO G_Atlas_eq T.me_Atlas_eq.1 T.me_Atlas_eq.2 T.b_Atlas_eq pass0 (hr.mono (by decide))) (pe_fld (pv 0) rfl) (pe_fld (pv 1) rfl) (nomark _)))))), ?_⟩
    rcases h with ⟨b, dx, n, p, f, w1, dy, m, p', f', w1', s, s', rfl, ha, hb, hA, hB, hs, hs', q⟩ | ⟨t, ty, kt, q⟩
    · refine ⟨.ref b, rfl, _, _, _, _, true, rfl, .own _, .base (.ins hb T.cl_Book T.ty_Book.1 T.ty_Book.2.1 T.ty_Book.2.2.1 T.ty_Book.2.2.2), kit_same, _, rfl, iteT ?_⟩
      obtain ⟨dA, bA, nA, lA, lsA, onA, poA, iA, _⟩ := id hA
      obtain ⟨dM, bM, nM, lM, lsM, onM, poM, iM, _⟩ := id hB
      refine ⟨.ref a, rfl, a, T.a_Book, dx, _, _, rfl, ha, T.cl_Book, T.nf_Book_now, bf_now n p f w1, .ref b, rfl, b, T.a_Book, dy, _, _, rfl, hb, T.cl_Book, T.nf_Book_now, bf_now m p' f' w1', ?_⟩
      exact ⟨n, dA, _, .ref T.a_Atlas, rfl, iA, .base (.ins iM T.cl_Atlas T.ty_Atlas.1 T.ty_Atlas.2.1 T.ty_Atlas.2.2.1 T.ty_Atlas.2.2.2), nf_own, n, .ref m, rfl, .inl ⟨m, s.1, s'.1, s.2, s'.2, rfl, hA, hB, hs.ok, hs'.ok, _, rfl, q⟩⟩
    · exact ⟨v, rfl, _, _, _, _, false, rfl, .own _, ty, kt, _, rfl, iteF q⟩
--@@SPLIT
def SgnOk (z : Str) : Prop := z.length ≤ 12 ∧ PyData.strOk z = true ∧ Ent.sgS z = true
instance (z : Str) : Decidable (SgnOk z) := inferInstanceAs (Decidable (_ ∧ _ ∧ _))
theorem cap_ok {z : Str} {c : Nat} (h : nmL z.cps.toList = true) (h1 : 1 ≤ z.length) (h8 : z.length ≤ 8) (hc : atI z.cps.toList 0 = some c) : SgnOk (Txt.upper ⟨#[c]⟩ ++ cutS z (some 1) none) := by
  have zm : ∀ c ∈ z.cps.toList, c ∈ SMALLs.cps.toList := fun c hc => of_decide_eq_true (List.all_eq_true.mp (Bool.and_eq_true_iff.mp h).2 c hc)
  have cm := zm c (at_mem hc)
  obtain ⟨el, lo⟩ := lo_of (c := c) h1 h8 zm cm
  refine ⟨?_, ok_of_mem fun c2 h2 => ?_, by unfold Ent.sgS; rw [el, lo, Bool.or_true]⟩
  · rw [← len_toList, el, List.length_cons, List.length_drop, len_toList]
    omega
  · rw [el] at h2
    rcases List.mem_cons.mp h2 with h3 | h3
    · rw [h3]
      exact (up_gr c cm).2.2
    · exact small_ok c2 (zm c2 (List.mem_of_mem_drop h3))
theorem nm_len {z : Str} (h : nmL z.cps.toList = true) : 1 ≤ z.length ∧ z.length ≤ 8 := by
  have h1 := (Bool.and_eq_true_iff.mp h).1
  obtain ⟨h2, h3⟩ := Bool.and_eq_true_iff.mp (show (decide (1 ≤ (z.cps.toList.length : Int)) && decide ((z.cps.toList.length : Int) ≤ 8)) = true from h1)
  rw [len_toList] at h2 h3
  have := of_decide_eq_true h2
  have := of_decide_eq_true h3
  omega
theorem nesw_lt {r : Int} (h0 : 0 ≤ r) (h1 : r < 4) : ∃ l : Fin 4, atI (PySem.Str.ofString "nesw").cps.toList r = some (cd l) := by
  obtain rfl | rfl | rfl | rfl : r = 0 ∨ r = 1 ∨ r = 2 ∨ r = 3 := by omega
  · exact ⟨0, by decide +kernel⟩
  · exact ⟨1, by decide +kernel⟩
  · exact ⟨2, by decide +kernel⟩
  · exact ⟨3, by decide +kernel⟩
theorem box_set {box : List Nat} {j n : Nat} (h : box[j]? = some n) : (boxV box).set j (.int ((n : Int) + 1)) = boxV (box.set j (n + 1)) := by
  unfold boxV
  rw [List.map_set]
  congr 1
/-! ### a box, signs, an entry, a log drawn -/
def spSomeBox : Sp := fun vs H Q _ => ∃ (p : Addr) (m : Nat), vs = [.ref p, .int (m : Nat)] ∧ m ≤ 50 ∧ Pool H p ∧ ∀ H' t (box : List Nat), But p H H' → Pool H' p → H t = none → H' t = some (.tup (boxV box)) → box.length = 8 → Q (.ref t) H'
theorem ok_Lsome_box (T : Top w K mg) : FnOk P w K mg base CX0 2 T.a_Lsome_box T.fd_Lsome_box ["_law_pool_here", "_law_many"] spSomeBox := by
  have G_Ltake := ok_Ltake (P := P) (w := w) (base := base) T
  refine T.F_Lsome_box.ok sc_Lsome_box (fun vs H Q E h => ?_) (fun cdv A outer s H vs Q E hr h => ?_)
  · obtain ⟨p, m, rfl, _⟩ := h
    rfl
  · obtain ⟨p, m, rfl, hm, hp, q⟩ := h
    refine ⟨_, (pss_cons (ps_set (i := 2) sc_Lsome_box.nd rfl (.inl rfl) (pe_op op_rep (pe_lst (pa_cons pe_int pa_nil)) pe_int))
      (pss_cons (ps_set (i := 3) sc_Lsome_box.nd rfl (.inl rfl) (pe_op op_add pe_int (pe_call G_Ltake hr (by rfl) T.g_Ltake T.F_Ltake.kp T.b_Ltake .nil pass0 (pa_cons (pv 0) (pa_cons pe_int pa_nil)))))
      (pss_cons (ps_for PassesOwn.never rfl (pi_range1 (by rfl) T.m_range (pa_cons (pe_call G_Ltake hr (by rfl) T.g_Ltake T.F_Ltake.kp T.b_Ltake .nil pass0 (pa_cons (pv 0) (pa_cons (pe_op op_add (pv 1) pe_int) pa_nil))) pa_nil)) (pg_name (i := 4) sc_Lsome_box.nd rfl (.inl rfl)) (pss_one (ps_augS (pv 2) (pe_call G_Ltake hr (by rfl) T.g_Ltake T.F_Ltake.kp T.b_Ltake .nil pass0 (pa_cons (pv 0) (pa_cons (pv 3) pa_nil))) SeqW.get_list pe_int ip_add set_list)))
      (pss_one (ps_ret (pe_callTy call_tuple_of (by rfl) T.m_tuple (by decide +kernel) (pa_cons (pv 2) pa_nil))))))), ?_⟩
    refine ⟨by show 1 ≤ sizeLine; decide, fun l nl => ⟨l, 8, _, rfl, rfl, upd_same, by decide, by decide, by show 1 * 8 ≤ sizeLine; decide, fun L nL => ?_⟩⟩
    have sl := same_upd (o := .lst [.int 0]) nl
    have sL := same_upd (o := .lst (boxV [0, 0, 0, 0, 0, 0, 0, 0])) nL
    have hp2 := (hp.same sl).same sL
    have nLp : L ≠ p := (hp.same sl).ne_new nL
    have nL0 : H L = none := sl.free nL
    have b2 : But p H (upd (upd H l (.lst [.int 0])) L (.lst (boxV [0, 0, 0, 0, 0, 0, 0, 0]))) := But.of (sl.trans sL)
    refine ⟨.ref p, rfl, p, 8, rfl, by decide, by decide, hp2, fun H3 k b3 hp3 k0 k1 => ⟨_, _, rfl, rfl, ?_⟩⟩
    have eL3 := b3 _ _ nLp (upd_same (a := L) (o := .lst (boxV [0, 0, 0, 0, 0, 0, 0, 0])))
    refine ⟨.ref p, rfl, .int (m : Nat), rfl, _, _, rfl, rfl, p, _, rfl, by omega, by omega, hp3, fun H4 r b4 hp4 r0 r1 => ?_⟩
    refine ⟨r, rfl, by omega, by omega, for_range (n := r.toNat) (fun i σ H' => But p H H' ∧ Pool H' p ∧ ∃ y4 box, σ = [some (.ref p), some (.int (m : Nat)), some (.ref L), some (.int (1 + k)), y4] ∧ H' L = some (.lst (boxV box)) ∧ box.length = 8) ⟨(b2.trans b3).trans b4, hp4, _, _, rfl, b4 _ _ nLp eL3, rfl⟩ ?_ ?_⟩
    · rintro i σ H5 hi ⟨b5, hp5, y4, box, rfl, eL, lb⟩
      refine ⟨.ref L, rfl, .ref p, rfl, .int (1 + k), rfl, p, 1 + k, rfl, by omega, by omega, hp5, fun H6 j b6 hp6 j0 j1 => ?_⟩
      obtain ⟨j, rfl⟩ : ∃ jj : Nat, j = jj := ⟨j.toNat, by omega⟩
      have hj : j < box.length := by omega
      have eb : box[j]? = some box[j] := List.getElem?_eq_getElem hj
      have eL6 := b6 _ _ nLp eL
      have lbv : (boxV box).length = box.length := List.length_map _
      refine ⟨L, boxV box, j, .int (box[j] : Nat), rfl, rfl, .inl (.inl eL6), by unfold boxV; rw [List.getElem?_map, eb]; rfl, _, _, rfl, rfl, L, boxV box, j, j, rfl, rfl, eL6, Evl.ixN_nat (by omega), ?_⟩
      refine ⟨(b5.trans b6).mut nL0, hp6.upd nLp, _, box.set j (box[j] + 1), rfl, ?_, by rw [List.length_set]; exact lb⟩
      rw [upd_same, box_set eb]
    · rintro σ H5 ⟨b5, hp5, y4, box, rfl, eL, lb⟩
      refine ⟨.ref L, rfl, L, _, rfl, .inl ⟨.inl (.inl eL), fun t nt => ?_⟩⟩
      have st := same_upd (o := .tup (boxV box)) nt
      exact q _ t box (b5.trans (But.of st)) (hp5.same st) (b5.free (hp5.ne_new nt) nt) upd_same lb
def spSigns3 : Sp := fun vs H Q _ => ∃ (p : Addr), vs = [.ref p] ∧ Pool H p ∧ ∀ H' t s1 s2 s3, But p H H' → Pool H' p → H' t = some (.tup [.str s1, .str s2, .str s3]) → SgnOk s1 → SgnOk s2 → SgnOk s3 → Q (.ref t) H'
theorem nm_sgn {z : Str} (h : nmL z.cps.toList = true) : SgnOk z := by
  have l := nm_len h
  have zm : ∀ c ∈ z.cps.toList, c ∈ SMALLs.cps.toList := fun c hc => of_decide_eq_true (List.all_eq_true.mp (Bool.and_eq_true_iff.mp h).2 c hc)
  exact ⟨by omega, ok_of_mem fun c hc => small_ok c (zm c hc), by unfold Ent.sgS; rw [h, Bool.true_or]⟩
theorem ok_Lsigns3 (T : Top w K mg) : FnOk P w K mg base CX0 4 T.a_Lsigns T.fd_Lsigns ["_law_pool_here"] spSigns3 := by
  have G_Lnames := ok_Lnames (P := P) (w := w) (base := base) T
  refine T.F_Lsigns.ok sc_Lsigns (fun vs H Q E h => ?_) (fun cdv A outer s H vs Q E hr h => ?_)
  · obtain ⟨p, rfl, _⟩ := h
    rfl
  · obtain ⟨p, rfl, hp, q⟩ := h
    refine ⟨_, (pss_cons (ps_asg (pe_call G_Lnames hr (by rfl) T.g_Lnames T.F_Lnames.kp T.b_Lnames .nil pass0 (pa_cons (pv 0) (pa_cons pe_int pa_nil))) (pg_unl rfl (pgs_cons (pg_name (i := 1) sc_Lsigns.nd rfl (.inl rfl)) (pgs_cons (pg_name (i := 2) sc_Lsigns.nd rfl (.inl rfl)) (pgs_cons (pg_name (i := 3) sc_Lsigns.nd rfl (.inl rfl)) pgs_nil)))))
      (pss_one (ps_ret (pe_tup (pa_cons (pe_op op_add_str (pe_bm0 PySem.F.plainAttrs_str PySem.F.slot_str_upper PySem.F.type_str_upper mt_upper (pe_ix ix_str (pv 1) pe_int (fun _ _ => rfl))) (pe_slice sl_str (pv 1) (po_some pe_int) po_none)) (pa_cons (pe_op op_add_str (pe_bm0 PySem.F.plainAttrs_str PySem.F.slot_str_upper PySem.F.type_str_upper mt_upper (pe_ix ix_str (pv 2) pe_int (fun _ _ => rfl))) (pe_slice sl_str (pv 2) (po_some pe_int) po_none)) (pa_cons (pv 3) pa_nil))))))), ?_⟩
    refine ⟨.ref p, rfl, p, 3, rfl, by decide, hp, fun H1 L zs b1 hp1 nL eL lz nd nm => ?_⟩
    obtain ⟨z1, z2, z3, rfl⟩ : ∃ z1 z2 z3, zs = [z1, z2, z3] := by
      match zs, lz with
      | [z1, z2, z3], _ => exact ⟨z1, z2, z3, rfl⟩
    have h1 := nm z1 List.mem_cons_self
    have h2 := nm z2 (List.mem_cons_of_mem _ List.mem_cons_self)
    have h3 := nm z3 (List.mem_cons_of_mem _ (List.mem_cons_of_mem _ List.mem_cons_self))
    have l1 := nm_len h1
    have l2 := nm_len h2
    obtain ⟨c1, hc1⟩ := str_at (z := z1) (i := 0) (by decide) (by omega)
    obtain ⟨c2, hc2⟩ := str_at (z := z2) (i := 0) (by decide) (by omega)
    have u1 := PyProof.Rows.len_upper (⟨#[c1]⟩ : Str)
    have u2 := PyProof.Rows.len_upper (⟨#[c2]⟩ : Str)
    have w1 : (⟨#[c1]⟩ : Str).length = 1 := rfl
    have w2 : (⟨#[c2]⟩ : Str).length = 1 := rfl
    have k1 := cut_len z1 (some 1) none
    have k2 := cut_len z2 (some 1) none
    refine ⟨L, _, rfl, .inl (.inl eL), rfl, _, _, rfl, _, _, rfl, _, _, rfl, rfl, ?_⟩
    refine ⟨.str z1, rfl, z1, 0, c1, rfl, rfl, thou (by omega), hc1, rfl, _, rfl, rfl, (by rw [w1]; decide), .str z1, rfl, 1, rfl, z1, rfl, thou (by omega), _, _, rfl, rfl, thou (by omega), ?_⟩
    refine ⟨.str z2, rfl, z2, 0, c2, rfl, rfl, thou (by omega), hc2, rfl, _, rfl, rfl, (by rw [w2]; decide), .str z2, rfl, 1, rfl, z2, rfl, thou (by omega), _, _, rfl, rfl, thou (by omega), ?_⟩
    refine ⟨.str z3, rfl, by show 3 ≤ sizeLine; decide, fun t nt => ?_⟩
    have st := same_upd (o := .tup [.str (Txt.upper ⟨#[c1]⟩ ++ cutS z1 (some 1) none), .str (Txt.upper ⟨#[c2]⟩ ++ cutS z2 (some 1) none), .str z3]) nt
    exact q _ t _ _ _ (b1.trans (But.of st)) (hp1.same st) upd_same (cap_ok h1 l1.1 l1.2 hc1) (cap_ok h2 l2.1 l2.2 hc2) (nm_sgn h3)
def spShortE (K : PySem.W.Frag) : Sp := fun vs H Q _ => ∃ (p sg : Addr) (b : Bool) (s1 s2 s3 : Str), vs = [.ref p, .ref sg, .bl b] ∧ Pool H p ∧ SqT K H sg [.str s1, .str s2, .str s3] ∧ SgnOk s1 ∧ SgnOk s2 ∧ SgnOk s3 ∧ ∀ H' t e, But p H H' → Pool H' p → Dp K H' (.ref t) (Ent.tup e) → e.ok → (e.need = true → b = true) → e.isSwap = false → Q (.ref t) H'
theorem three_sg {s1 s2 s3 : Str} (h1 : SgnOk s1) (h2 : SgnOk s2) (h3 : SgnOk s3) {r : Int} (r0 : 0 ≤ r) (r1 : r < 3) : ∃ z, atI [V.str s1, .str s2, .str s3] r = some (.str z) ∧ SgnOk z := by
  obtain rfl | rfl | rfl : r = 0 ∨ r = 1 ∨ r = 2 := by omega
  · exact ⟨s1, rfl, h1⟩
  · exact ⟨s2, rfl, h2⟩
  · exact ⟨s3, rfl, h3⟩
theorem ok_Lshort_entry (T : Top w K mg) : FnOk P w K mg base CX0 2 T.a_Lshort_entry T.fd_Lshort_entry ["_law_pool_here", "_law_signs_here", "_law_looks"] (spShortE K) := by
  have G_Ltake := ok_Ltake (P := P) (w := w) (base := base) T
  refine T.F_Lshort_entry.ok sc_Lshort_entry (fun vs H Q E h => ?_) (fun cdv A outer s H vs Q E hr h => ?_)
  · obtain ⟨p, sg, b, s1, s2, s3, rfl, _⟩ := h
    rfl
  · obtain ⟨p, sg, b, s1, s2, s3, rfl, hp, hsg, o1, o2, o3, q⟩ := h
    refine ⟨_, (pss_cons (ps_set (i := 3) sc_Lshort_entry.nd rfl (.inl rfl) (pe_call G_Ltake hr (by rfl) T.g_Ltake T.F_Ltake.kp T.b_Ltake .nil pass0 (pa_cons (pv 0) (pa_cons pe_int pa_nil))))
      (pss_cons (ps_set (i := 4) sc_Lshort_entry.nd rfl (.inl rfl) (pe_ix ix_tup (pv 1) (pe_call G_Ltake hr (by rfl) T.g_Ltake T.F_Ltake.kp T.b_Ltake .nil pass0 (pa_cons (pv 0) (pa_cons pe_int pa_nil))) (fun _ _ => rfl)))
      (pss_cons (ps_set (i := 5) sc_Lshort_entry.nd rfl (.inl rfl) (pe_op op_add pe_int (pe_call G_Ltake hr (by rfl) T.g_Ltake T.F_Ltake.kp T.b_Ltake .nil pass0 (pa_cons (pv 0) (pa_cons pe_int pa_nil)))))
      (pss_cons (ps_set (i := 6) sc_Lshort_entry.nd rfl (.inl rfl) (pe_tup (pa_cons pe_str (pa_cons (pe_ix ix_str pe_str (pe_call G_Ltake hr (by rfl) T.g_Ltake T.F_Ltake.kp T.b_Ltake .nil pass0 (pa_cons (pv 0) (pa_cons pe_int pa_nil))) (fun _ _ => rfl)) pa_nil))))
      (pss_cons (ps_set (i := 7) sc_Lshort_entry.nd rfl (.inl rfl) (pe_ix ix_tup (pe_tup (pa_cons (pe_tup (pa_cons pe_str pa_nil)) (pa_cons (pe_tup (pa_cons pe_str pa_nil)) (pa_cons (pe_tup (pa_cons pe_str pa_nil)) pa_nil)))) (pe_call G_Ltake hr (by rfl) T.g_Ltake T.F_Ltake.kp T.b_Ltake .nil pass0 (pa_cons (pv 0) (pa_cons pe_int pa_nil))) (fun _ _ => rfl)))
      (Evl.pss_cut (ps_if (PW.pt (pw_and (pt_not (pt_val (pv 2))) (pw_and1 (pt_cmpR op_gt (pv 3) pe_int (nomark _))))) (pss_one (ps_ret (pv 6))) pss_nil)
      (pss_one (ps_ret (pe_ix ix_tup (pe_tup (pa_cons (pe_tup (pa_cons pe_str (pa_cons (pv 4) pa_nil))) (pa_cons (pe_tup (pa_cons pe_str pa_nil)) (pa_cons (pe_tup (pa_cons pe_str (pa_cons (pv 4) pa_nil))) (pa_cons (pe_tup (pa_cons pe_str (pa_cons (pv 5) pa_nil))) (pa_cons (pe_tup (pa_cons pe_str (pa_cons (pv 5) pa_nil))) (pa_cons (pe_tup (pa_cons pe_str (pa_cons (pv 5) pa_nil))) (pa_cons (pe_tup (pa_cons pe_str (pa_cons (pv 5) (pa_cons (pv 4) pa_nil)))) (pa_cons (pe_tup (pa_cons pe_str pa_nil)) (pa_cons (pv 7) (pa_cons (pv 6) (pa_cons (pv 6) pa_nil)))))))))))) (pv 3) (fun _ _ => rfl)))))))))), ?_⟩
    refine ⟨.ref p, rfl, p, 11, rfl, by decide, by decide, hp, fun H1 k b1 hp1 k0 k1 => ?_⟩
    have hsg1 := sqt_kp (Tp.but hp b1) hsg
    refine ⟨.ref sg, rfl, .ref p, rfl, p, 3, rfl, by decide, by decide, hp1, fun H2 j b2 hp2 j0 j1 => ?_⟩
    obtain ⟨z, hz, zok⟩ := three_sg o1 o2 o3 j0 j1
    refine ⟨sg, _, j, _, rfl, rfl, sqt_kp (Tp.but hp1 b2) hsg1, hz, ?_⟩
    refine ⟨.ref p, rfl, p, 2, rfl, by decide, by decide, hp2, fun H3 m b3 hp3 m0 m1 => ⟨_, _, rfl, rfl, ?_⟩⟩
    obtain ⟨nn, hnn⟩ : ∃ n : Fin 9, 1 + m = ((n.val : Nat) : Int) + 1 := ⟨⟨m.toNat, by omega⟩, by show 1 + m = ((m.toNat : Nat) : Int) + 1; omega⟩
    refine ⟨.ref p, rfl, p, 4, rfl, by decide, by decide, hp3, fun H4 u b4 hp4 u0 u1 => ?_⟩
    obtain ⟨l, hl⟩ := nesw_lt u0 u1
    refine ⟨_, _, _, rfl, rfl, by decide +kernel, hl, by show 2 ≤ sizeLine; decide, fun fa nfa => ?_⟩
    have sfa := same_upd (o := .tup [.str (PySem.Str.ofString "face"), .str ⟨#[cd l]⟩]) nfa
    have b14 := (((b1.trans b2).trans b3).trans b4).trans (But.of sfa)
    have hp5 := hp4.same sfa
    have efa : (upd H4 fa (.tup [.str (PySem.Str.ofString "face"), .str ⟨#[cd l]⟩])) fa = some (.tup [.str (PySem.Str.ofString "face"), .str ⟨#[cd l]⟩]) := upd_same
    generalize (upd H4 fa (.tup [.str (PySem.Str.ofString "face"), .str ⟨#[cd l]⟩])) = Ha at b14 hp5 efa ⊢
    refine ⟨by show 1 ≤ sizeLine; decide, fun a1 m1' => ⟨by show 1 ≤ sizeLine; decide, fun a2 m2' => ⟨by show 1 ≤ sizeLine; decide, fun a3 m3' => ⟨by show 3 ≤ sizeLine; decide, fun a4 m4' => ?_⟩⟩⟩⟩
    have t1 := same_upd (o := .tup [.str (PySem.Str.ofString "left")]) m1'
    have t2 := same_upd (o := .tup [.str (PySem.Str.ofString "right")]) m2'
    have t3 := same_upd (o := .tup [.str (PySem.Str.ofString "back")]) m3'
    have t4 := same_upd (o := .tup [.ref a1, .ref a2, .ref a3]) m4'
    have t34 := t3.trans t4
    have t24 := t2.trans t34
    have t14 := t1.trans t24
    have hp9 := hp5.same t14
    refine ⟨.ref p, rfl, p, 3, rfl, by decide, by decide, hp9, fun Hb v bb hpb v0 v1 => ?_⟩
    have tb : Tp _ Hb := Tp.but hp9 bb
    have e1 := tb _ _ rfl (t24 _ _ (upd_same (H := Ha) (a := a1) (o := .tup [.str (PySem.Str.ofString "left")])))
    have e2 := tb _ _ rfl (t34 _ _ (upd_same (a := a2) (o := .tup [.str (PySem.Str.ofString "right")])))
    have e3 := tb _ _ rfl (t4 _ _ (upd_same (a := a3) (o := .tup [.str (PySem.Str.ofString "back")])))
    have e4 := tb _ _ rfl (upd_same (a := a4) (o := .tup [.ref a1, .ref a2, .ref a3]))
    obtain ⟨qq, tq, htq, eq⟩ : ∃ (qq : Fin 3) (tq : Addr), atI [V.ref a1, .ref a2, .ref a3] v = some (.ref tq) ∧ Dp K Hb (.ref tq) (Ent.tup (.turn qq)) := by
      obtain rfl | rfl | rfl : v = 0 ∨ v = 1 ∨ v = 2 := by omega
      · exact ⟨0, a1, rfl, .tup (.inl (.inl e1)) (.cons (.str _) .nil)⟩
      · exact ⟨1, a2, rfl, .tup (.inl (.inl e2)) (.cons (.str _) .nil)⟩
      · exact ⟨2, a3, rfl, .tup (.inl (.inl e3)) (.cons (.str _) .nil)⟩
    have efb : Dp K Hb (.ref fa) (Ent.tup (.face l)) := .tup (.inl (.inl (tb _ _ rfl (t14 _ _ efa)))) (.cons (.str _) (.cons (.str _) .nil))
    have bH := (b14.trans (But.of t14)).trans bb
    refine ⟨a4, _, v, _, rfl, rfl, .inl (.inl e4), htq, ?_⟩
    refine ⟨fun σ H' => Hb = H' ∧ (2 < k → b = true) ∧ σ = [some (.ref p), some (.ref sg), some (.bl b), some (.int k), some (.str z), some (.int (1 + m)), some (.ref fa), some (.ref tq)], ?_, ?_⟩
    · refine ⟨.bl b, rfl, b, rfl, ?_⟩
      cases b with
      | true => exact ite2 (fun z => nomatch z) (fun _ => ⟨rfl, fun _ => rfl, rfl⟩)
      | false => exact iteT ⟨.int k, rfl, _, _, rfl, rfl, _, rfl, ite2 (fun _ => ⟨.ref fa, rfl, q Hb fa (.face l) bH hpb efb trivial (fun z => nomatch z) rfl⟩) (fun e => ⟨rfl, fun z => absurd (decide_eq_true z) e, rfl⟩)⟩
    rintro σ Hc ⟨rfl, kb, rfl⟩
    clear e1 e2 e3 e4 t14 t24 t34 t1 t2 t3 t4 tb efa
    refine ⟨.str z, rfl, by show 2 ≤ sizeLine; decide, fun c0 n0 => ⟨by show 1 ≤ sizeLine; decide, fun c1 n1 => ⟨.str z, rfl, by show 2 ≤ sizeLine; decide, fun c2 n2 => ⟨.int (1 + m), rfl, by show 2 ≤ sizeLine; decide, fun c3 n3 => ⟨.int (1 + m), rfl, by show 2 ≤ sizeLine; decide, fun c4 n4 => ⟨.int (1 + m), rfl, by show 2 ≤ sizeLine; decide, fun c5 n5 => ⟨.int (1 + m), rfl, .str z, rfl, by show 3 ≤ sizeLine; decide, fun c6 n6 => ⟨by show 1 ≤ sizeLine; decide, fun c7 n7 => ⟨.ref tq, rfl, .ref fa, rfl, .ref fa, rfl, by show 11 ≤ sizeLine; decide, fun c8 n8 => ⟨.int k, rfl, ?_⟩⟩⟩⟩⟩⟩⟩⟩⟩⟩
    have x0 := same_upd (o := .tup [.str (PySem.Str.ofString "sign"), .str z]) n0
    have x1 := same_upd (o := .tup [.str (PySem.Str.ofString "bare")]) n1
    have x2 := same_upd (o := .tup [.str (PySem.Str.ofString "sign"), .str z]) n2
    have x3 := same_upd (o := .tup [.str (PySem.Str.ofString "go"), .int (1 + m)]) n3
    have x4 := same_upd (o := .tup [.str (PySem.Str.ofString "go"), .int (1 + m)]) n4
    have x5 := same_upd (o := .tup [.str (PySem.Str.ofString "go"), .int (1 + m)]) n5
    have x6 := same_upd (o := .tup [.str (PySem.Str.ofString "spy"), .int (1 + m), .str z]) n6
    have x7 := same_upd (o := .tup [.str (PySem.Str.ofString "bump")]) n7
    have x8 := same_upd (o := .tup [.ref c0, .ref c1, .ref c2, .ref c3, .ref c4, .ref c5, .ref c6, .ref c7, .ref tq, .ref fa, .ref fa]) n8
    have y78 := x7.trans x8
    have y68 := x6.trans y78
    have y58 := x5.trans y68
    have y48 := x4.trans y58
    have y38 := x3.trans y48
    have y28 := x2.trans y38
    have y18 := x1.trans y28
    have y08 := x0.trans y18
    obtain ⟨te, en, hte, hen, eok, need, nsw⟩ : ∃ (te : Addr) (en : Ent), atI [V.ref c0, .ref c1, .ref c2, .ref c3, .ref c4, .ref c5, .ref c6, .ref c7, .ref tq, .ref fa, .ref fa] k = some (.ref te) ∧ Dp K (upd (upd (upd (upd (upd (upd (upd (upd (upd Hb c0 (.tup [.str (PySem.Str.ofString "sign"), .str z])) c1 (.tup [.str (PySem.Str.ofString "bare")])) c2 (.tup [.str (PySem.Str.ofString "sign"), .str z])) c3 (.tup [.str (PySem.Str.ofString "go"), .int (1 + m)])) c4 (.tup [.str (PySem.Str.ofString "go"), .int (1 + m)])) c5 (.tup [.str (PySem.Str.ofString "go"), .int (1 + m)])) c6 (.tup [.str (PySem.Str.ofString "spy"), .int (1 + m), .str z])) c7 (.tup [.str (PySem.Str.ofString "bump")])) c8 (.tup [.ref c0, .ref c1, .ref c2, .ref c3, .ref c4, .ref c5, .ref c6, .ref c7, .ref tq, .ref fa, .ref fa])) (.ref te) (Ent.tup en) ∧ en.ok ∧ (en.need = true → b = true) ∧ en.isSwap = false := by
      obtain rfl | rfl | rfl | rfl | rfl | rfl | rfl | rfl | rfl | rfl | rfl : k = 0 ∨ k = 1 ∨ k = 2 ∨ k = 3 ∨ k = 4 ∨ k = 5 ∨ k = 6 ∨ k = 7 ∨ k = 8 ∨ k = 9 ∨ k = 10 := by omega
      · exact ⟨c0, .sign z, rfl, .tup (.inl (.inl (y18 _ _ upd_same))) (.cons (.str _) (.cons (.str _) .nil)), zok, (fun z => nomatch z), rfl⟩
      · exact ⟨c1, .bare, rfl, .tup (.inl (.inl (y28 _ _ upd_same))) (.cons (.str _) .nil), trivial, (fun z => nomatch z), rfl⟩
      · exact ⟨c2, .sign z, rfl, .tup (.inl (.inl (y38 _ _ upd_same))) (.cons (.str _) (.cons (.str _) .nil)), zok, (fun z => nomatch z), rfl⟩
      · exact ⟨c3, .go nn, rfl, .tup (xs := [.str (PySem.Str.ofString "go"), .int (1 + m)]) (.inl (.inl (y48 _ _ upd_same))) (.cons (.str _) (.cons (by rw [hnn]; exact .int _) .nil)), trivial, (fun _ => kb (by decide)), rfl⟩
      · exact ⟨c4, .go nn, rfl, .tup (xs := [.str (PySem.Str.ofString "go"), .int (1 + m)]) (.inl (.inl (y58 _ _ upd_same))) (.cons (.str _) (.cons (by rw [hnn]; exact .int _) .nil)), trivial, (fun _ => kb (by decide)), rfl⟩
      · exact ⟨c5, .go nn, rfl, .tup (xs := [.str (PySem.Str.ofString "go"), .int (1 + m)]) (.inl (.inl (y68 _ _ upd_same))) (.cons (.str _) (.cons (by rw [hnn]; exact .int _) .nil)), trivial, (fun _ => kb (by decide)), rfl⟩
      · exact ⟨c6, .spy nn z, rfl, .tup (xs := [.str (PySem.Str.ofString "spy"), .int (1 + m), .str z]) (.inl (.inl (y78 _ _ upd_same))) (.cons (.str _) (.cons (by rw [hnn]; exact .int _) (.cons (.str _) .nil))), zok, (fun _ => kb (by decide)), rfl⟩
      · exact ⟨c7, .bump, rfl, .tup (.inl (.inl (x8 _ _ upd_same))) (.cons (.str _) .nil), trivial, (fun _ => kb (by decide)), rfl⟩
      · exact ⟨tq, .turn qq, rfl, dp_same y08 _ _ eq, trivial, (fun _ => kb (by decide)), rfl⟩
      · exact ⟨fa, .face l, rfl, dp_same y08 _ _ efb, trivial, (fun z => nomatch z), rfl⟩
      · exact ⟨fa, .face l, rfl, dp_same y08 _ _ efb, trivial, (fun z => nomatch z), rfl⟩
    exact ⟨c8, _, k, _, rfl, rfl, .inl (.inl upd_same), hte, q _ te en (bH.trans (But.of y08)) (hpb.same y08) hen eok need nsw⟩
--@@SPLIT
def spLegs (K : PySem.W.Frag) : Sp := fun vs H Q _ => ∃ (e : Addr) (xs : List V) (es : List Ent), vs = [.ref e] ∧ SqA K H e xs ∧ Rows K H xs es ∧ es.length ≤ 200 ∧ ∀ H', Same H H' → Q (.int (1 + (swaps es : Int))) H'
theorem swaps_at {es : List Ent} {i : Nat} {e : Ent} (h : es[i]? = some e) : swaps (es.take (i + 1)) = swaps (es.take i) + (if e.isSwap = true then 1 else 0) := by
  rw [List.take_add_one, h]
  exact swaps_snoc _ _
theorem isw (e : Ent) : decide (V.str (ws e.kind) = V.str (PySem.Str.ofString "swap")) = e.isSwap := (wsd e.kind 9).trans e.swap_iff.symm
theorem ok_Llegs (T : Top w K mg) : FnOk P w K mg base CX0 1 T.a_Llegs T.fd_Llegs ["_law_log"] (spLegs K) := by
  refine T.F_Llegs.ok sc_Llegs (fun vs H Q E h => ?_) (fun cdv A outer s H vs Q E hr h => ?_)
  · obtain ⟨e, xs, es, rfl, _⟩ := h
    rfl
  · obtain ⟨e, xs, es, rfl, hs, ha, hlen, q⟩ := h
    have lx := ha.len
    refine ⟨_, (pss_one (ps_ret (pe_op op_add pe_int (pe_callB call_len_seq (by rfl) T.m_len (by decide +kernel) (pa_cons (pe_lc (own := [("_law_entry", 1)]) (g := gName 1) (by rfl) sc_Llegs.nd (SeqW.pi_seq (pv 0)) (blkOk_by (own := [("_law_entry", 1)]) (N := ["_law_log", "_law_entry"]) (sc := defScope s_Llegs) (by decide +kernel)) (fun _ _ _ _ _ => (pg_name (i := 1) sc_Llegs.nd rfl (Or.inl rfl))) (fun _ _ _ _ _ => (pts_one (pt_cmpR op_eq (pe_ix (r := rIx K) (SeqW.ix_seqK rfl) (pv 1) pe_int (fun _ _ => rfl)) pe_str (nomark _)))) (fun _ _ _ _ _ => (pv 1))) pa_nil))))), ?_⟩
    refine ⟨.ref e, rfl, e, xs, rfl, (fun H' => Same H H'), kpA hs, Same.refl _, fun J G wk hG D hD => lc_it wk (fun i H' => Same H H' ∧ ∃ ys : List V, ys.length = swaps (es.take i) ∧ H' D = some (.lst ys)) ⟨same_upd hD, [], rfl, upd_same⟩ (fun i H' _ h => hG _ h.1) ?_ ?_⟩
    · rintro i v H1 H2 hi ⟨sm, ys, ly, eD⟩ ⟨rfl, hx⟩
      obtain ⟨en, fe, a, us, rfl, hq, _⟩ := (ha.same sm).at_ hx
      have lg := swaps_le (es.take i)
      rw [List.length_take] at lg
      refine ⟨rfl, .ref a, rfl, ixA (j := 0) hq rfl ⟨rfl, _, rfl, ?_⟩⟩
      rw [isw]
      refine ite2 (fun e1 => ⟨.ref a, rfl, ys, eD, small1000 (by omega), (fun b o h => ?_), _, ?_, upd_same⟩) (fun e1 => ⟨sm, ys, ?_, eD⟩)
      · rw [upd_ne (ne_of_none h hD)]
        exact sm _ _ h
      · rw [List.length_append, ly, swaps_at fe, if_pos e1]
        rfl
      · rw [ly, swaps_at fe, if_neg e1]
        rfl
    · rintro H1 ⟨sm, ys, ly, eD⟩
      rw [lx, List.take_length] at ly
      refine ⟨D, ys, rfl, .inl (.inl (.inl eD)), _, _, rfl, rfl, ?_⟩
      rw [ly]
      exact q _ sm
theorem any_face (es : List Ent) : inV (.str (PySem.Str.ofString "face")) ((es.map fun e => ws e.kind).map V.str) = es.any Ent.isFace := by
  rw [in_strs]
  induction es with
  | nil => rfl
  | cons e es ih =>
    rw [List.map_cons, List.any_cons, ← ih, Ent.face_iff]
    have w : (PySem.Str.ofString "face" = ws e.kind) ↔ e.kind = 0 := by
      have := wsd 0 e.kind
      constructor
      · intro h
        have h1 : decide (V.str (ws 0) = V.str (ws e.kind)) = true := decide_eq_true (congrArg V.str h)
        rw [this] at h1
        exact (of_decide_eq_true h1).symm
      · intro h
        rw [h]
        rfl
    by_cases h : e.kind = 0
    · rw [decide_eq_true h, Bool.true_or]
      exact decide_eq_true (List.mem_cons.mpr (.inl (w.mpr h)))
    · rw [decide_eq_false h, Bool.false_or]
      exact decide_eq_decide.mpr ⟨fun m => (List.mem_cons.mp m).resolve_left fun z => h (w.mp z), List.mem_cons_of_mem _⟩
def spShortLog (K : PySem.W.Frag) : Sp := fun vs H Q _ => ∃ (p sg : Addr) (m : Nat) (s1 s2 s3 : Str), vs = [.ref p, .ref sg, .int (m : Nat)] ∧ 1 ≤ m ∧ Pool H p ∧ SqT K H sg [.str s1, .str s2, .str s3] ∧ SgnOk s1 ∧ SgnOk s2 ∧ SgnOk s3 ∧ ∀ H' t es, But p H H' → Pool H' p → Dp K H' (.ref t) (.tuple (es.map Ent.tup)) → es.length ≤ 7 → (∀ e ∈ es, e.ok) → Right es → 1 + swaps es ≤ m → Q (.ref t) H'
/-- a log so far -/
structure SLog (K : PySem.W.Frag) (p F : Addr) (H H' : Hp) (ws : List V) (es : List Ent) (m : Nat) : Prop where
  but : But p H H'
  pool : Pool H' p
  list : H' F = some (.lst ws)
  ents : DpAll K H' ws (es.map Ent.tup)
  ok : ∀ e ∈ es, e.ok
  right : Right es
  legs : 1 + swaps es ≤ m
theorem SLog.next {K : PySem.W.Frag} {p F : Addr} {H H' H2 : Hp} {ws : List V} {es : List Ent} {m : Nat} (h : SLog K p F H H' ws es m) (Fp : F ≠ p) (b : But p H' H2) (hp : Pool H2 p) : SLog K p F H H2 ws es m :=
  ⟨h.but.trans b, hp, b _ _ Fp h.list, dpa_tp (n := 1) (Tp.but h.pool b) (tups_ok es) h.ents, h.ok, h.right, h.legs⟩
theorem SLog.add {K : PySem.W.Frag} {p F t : Addr} {H H' : Hp} {ws : List V} {es : List Ent} {e : Ent} {m : Nat} (h : SLog K p F H H' ws es m) (Fp : F ≠ p) (nF : H F = none) (he : Dp K H' (.ref t) (Ent.tup e)) (ok : e.ok) (need : e.need = true → es.any Ent.isFace = true) (l : 1 + swaps (es ++ [e]) ≤ m) :
    SLog K p F H (L2.upd H' F (.lst (ws ++ [.ref t]))) (ws ++ [.ref t]) (es ++ [e]) m :=
  ⟨h.but.mut nF, h.pool.upd Fp, upd_same, by
    rw [List.map_append]
    exact dpa_tp (n := 1) (Tp.lst h.list) (fun d hd => by
      rcases List.mem_append.mp hd with g | g
      · exact tups_ok _ d g
      · exact tups_ok [e] d g) (dpa_snoc he _ _ h.ents), mem_snoc h.ok ok, h.right.snoc need, l⟩
theorem ok_Lshort_log (T : Top w K mg) : FnOk P w K mg base CX0 3 T.a_Lshort_log T.fd_Lshort_log ["_law_pool_here", "_law_signs_here", "_law_legs_here"] (spShortLog K) := by
  have G_Ltake := ok_Ltake (P := P) (w := w) (base := base) T
  have G_Llegs := ok_Llegs (P := P) (w := w) (base := base) T
  have G_Lshort_entry := ok_Lshort_entry (P := P) (w := w) (base := base) T
  refine T.F_Lshort_log.ok sc_Lshort_log (fun vs H Q E h => ?_) (fun cdv A outer s H vs Q E hr h => ?_)
  · obtain ⟨p, sg, m, s1, s2, s3, rfl, _⟩ := h
    rfl
  · obtain ⟨p, sg, m, s1, s2, s3, rfl, m1, hp, hsg, o1, o2, o3, q⟩ := h
    refine ⟨_, (pss_cons (ps_set (i := 3) sc_Lshort_log.nd rfl (.inl rfl) (pe_lst pa_nil))
      (pss_cons (ps_for PassesOwn.never rfl (pi_range1 (by rfl) T.m_range (pa_cons (pe_call G_Ltake (hr.mono (by decide)) (by rfl) T.g_Ltake T.F_Ltake.kp T.b_Ltake .nil pass0 (pa_cons (pv 0) (pa_cons pe_int pa_nil))) pa_nil)) (pg_name (i := 4) sc_Lshort_log.nd rfl (.inl rfl)) (pss_one (ps_if (PW.pt (pw_and (pt_cmpR op_eq (pe_call G_Ltake (hr.mono (by decide)) (by rfl) T.g_Ltake T.F_Ltake.kp T.b_Ltake .nil pass0 (pa_cons (pv 0) (pa_cons pe_int pa_nil))) pe_int (nomark _)) (pw_and1 (pt_cmpR op_lt (pe_call G_Llegs (hr.mono (by decide)) (by rfl) T.g_Llegs T.F_Llegs.kp T.b_Llegs .nil pass0 (pa_cons (pv 3) pa_nil)) (pv 2) (nomark _))))) (pss_one (ps_expr (pe_bm PySem.F.plainAttrs_list PySem.F.slot_list_append PySem.F.type_list_append mt_append (pv 3) (pa_cons (pe_tup (pa_cons pe_str pa_nil)) pa_nil)))) (pss_one (ps_expr (pe_bm PySem.F.plainAttrs_list PySem.F.slot_list_append PySem.F.type_list_append mt_append (pv 3) (pa_cons (pe_call G_Lshort_entry hr (by rfl) T.g_Lshort_entry T.F_Lshort_entry.kp T.b_Lshort_entry .nil pass0 (pa_cons (pv 0) (pa_cons (pv 1) (pa_cons (pe_cmpR op_in_seq pe_str (pe_lc (own := [("_law_entry", 5)]) (g := gName 5) (by rfl) sc_Lshort_log.nd (pi_list (pv 3)) (blkOk_by (own := [("_law_entry", 5)]) (N := ["_law_pool_here", "_law_signs_here", "_law_legs_here", "_law_log", "_law_k", "_law_entry"]) (sc := defScope s_Lshort_log) (by decide +kernel)) (fun _ _ _ _ _ => (pg_name (i := 5) sc_Lshort_log.nd rfl (Or.inl rfl))) (fun _ _ _ _ _ => pts_nil) (fun _ _ _ _ _ => (pe_ix (r := rIx K) (SeqW.ix_seqK rfl) (pv 5) pe_int (fun _ _ => rfl)))) (by rfl)) pa_nil)))) pa_nil)))))))
      (pss_one (ps_ret (pe_callTy call_tuple_of (by rfl) T.m_tuple (by decide +kernel) (pa_cons (pv 3) pa_nil)))))), ?_⟩
    refine ⟨Nat.zero_le _, fun F nF => ?_⟩
    have sF := same_upd (o := .lst []) nF
    have Fp : F ≠ p := hp.ne_new nF
    have sl0 : SLog K p F H (upd H F (.lst [])) [] [] m := ⟨But.of sF, hp.same sF, upd_same, .nil, (fun _ h => nomatch h), Right.nil, m1⟩
    generalize (upd H F (.lst [])) = H1 at sl0 ⊢
    refine ⟨.ref p, rfl, p, 8, rfl, by decide, by decide, sl0.pool, fun H2 k b2 hp2 k0 k1 => ?_⟩
    obtain ⟨k, rfl⟩ : ∃ kk : Nat, k = kk := ⟨k.toNat, by omega⟩
    refine ⟨k, rfl, by omega, by omega, for_range (n := k) (fun i σ H' => ∃ ws es y4, SLog K p F H H' ws es m ∧ es.length = i ∧ σ = [some (.ref p), some (.ref sg), some (.int (m : Nat)), some (.ref F), y4, none]) ⟨[], [], none, sl0.next Fp b2 hp2, rfl, rfl⟩ ?_ ?_⟩
    · rintro i σ H3 hi ⟨ws, es, y4, sl, le, rfl⟩
      have lw := dpa_len _ _ sl.ents
      rw [List.length_map] at lw
      have i7 : es.length ≤ 6 := by omega
      have hsg3 := sqt_kp (Tp.but hp sl.but) hsg
      refine ⟨.ref p, rfl, p, 6, rfl, by decide, by decide, sl.pool, fun H4 r b4 hp4 r0 r1 => ?_⟩
      have sl4 := sl.next Fp b4 hp4
      refine ⟨rfl, _, rfl, ite2 (fun er => ?_) (fun er => ?_)⟩
      · refine ⟨.ref F, rfl, F, ws, es, rfl, .inl (.inl (.inl sl4.list)), rows_tup sl4.ents, by omega, fun H5 s5 => ⟨.int (m : Nat), rfl, _, _, rfl, rfl, _, rfl, ?_⟩⟩
        have sl5 := sl4.next Fp (But.of s5) (sl4.pool.same s5)
        refine ite2 (fun el => ?_) (fun el => ?_)
        · have el := of_decide_eq_true el
          refine ⟨.ref F, rfl, .inl ⟨rfl, _, .inl (.inl sl5.list)⟩, by show 1 ≤ sizeLine; decide, fun t nt => ?_⟩
          have st := same_upd (o := .tup [.str (PySem.Str.ofString "swap")]) nt
          have sl6 := sl5.next Fp (But.of st) (sl5.pool.same st)
          refine ⟨F, ws, _, rfl, rfl, sl6.list, small1000 (by omega), ws ++ [.ref t], es ++ [.swap], _, sl6.add (e := .swap) Fp nF (.tup (.inl (.inl upd_same)) (.cons (.str _) .nil)) trivial (fun z => nomatch z) (by rw [swaps_snoc]; show 1 + (swaps es + 1) ≤ m; omega), by rw [List.length_append, le]; rfl, rfl⟩
        · refine ⟨.ref F, rfl, .inl ⟨rfl, _, .inl (.inl sl5.list)⟩, .ref p, rfl, .ref sg, rfl, .ref F, rfl, F, rfl, ⟨ws, .inl (.inl sl5.list)⟩, fun D hD => lc_it (walk_list (xs := ws)) (fun j H' => Same H5 H' ∧ H' D = some (.lst (((es.take j).map fun e => M.ws e.kind).map V.str))) ⟨same_upd hD, upd_same⟩ (fun j H' _ h => .inl (.inl (h.1 _ _ sl5.list))) ?_ ?_⟩
          · rintro j v H6 H7 hj ⟨s7, eD⟩ ⟨rfl, hx⟩
            obtain ⟨en, fe, a, us, rfl, hq, _⟩ := ((rows_tup sl5.ents).same s7).at_ hx
            have hj7 : j < 7 := by have : j < ws.length := hj; omega
            refine ⟨rfl, .ref a, rfl, ixA (j := 0) hq rfl ⟨_, eD, small1000 (by rw [List.length_map, List.length_map, List.length_take]; omega), fun c o h => ?_, ?_⟩⟩
            · rw [upd_ne (ne_of_none h hD)]
              exact s7 _ _ h
            · rw [upd_same, List.take_add_one, fe, List.map_append, List.map_append]
              rfl
          rintro H6 ⟨s6, eD⟩
          rw [lw, List.take_length] at eD
          have sl6 := sl5.next Fp (But.of s6) (sl5.pool.same s6)
          refine ⟨D, _, rfl, .inl (.inl (.inl eD)), rfl, flat_strs _, ?_⟩
          rw [any_face]
          refine ⟨p, sg, _, s1, s2, s3, rfl, sl6.pool, sqt_kp (Tp.but hp sl6.but) hsg, o1, o2, o3, fun H8 t e b8 hp8 he eok need nsw => ?_⟩
          have sl8 := sl6.next Fp b8 hp8
          refine ⟨F, ws, _, rfl, rfl, sl8.list, small1000 (by omega), ws ++ [.ref t], es ++ [e], _, sl8.add Fp nF he eok need (by rw [swaps_snoc, nsw]; exact sl.legs), by rw [List.length_append, le]; rfl, rfl⟩
      · refine ⟨.ref F, rfl, .inl ⟨rfl, _, .inl (.inl sl4.list)⟩, .ref p, rfl, .ref sg, rfl, .ref F, rfl, F, rfl, ⟨ws, .inl (.inl sl4.list)⟩, fun D hD => lc_it (walk_list (xs := ws)) (fun j H' => Same H4 H' ∧ H' D = some (.lst (((es.take j).map fun e => M.ws e.kind).map V.str))) ⟨same_upd hD, upd_same⟩ (fun j H' _ h => .inl (.inl (h.1 _ _ sl4.list))) ?_ ?_⟩
        · rintro j v H6 H7 hj ⟨s7, eD⟩ ⟨rfl, hx⟩
          obtain ⟨en, fe, a, us, rfl, hq, _⟩ := ((rows_tup sl4.ents).same s7).at_ hx
          have hj7 : j < 7 := by have : j < ws.length := hj; omega
          refine ⟨rfl, .ref a, rfl, ixA (j := 0) hq rfl ⟨_, eD, small1000 (by rw [List.length_map, List.length_map, List.length_take]; omega), fun c o h => ?_, ?_⟩⟩
          · rw [upd_ne (ne_of_none h hD)]
            exact s7 _ _ h
          · rw [upd_same, List.take_add_one, fe, List.map_append, List.map_append]
            rfl
        rintro H6 ⟨s6, eD⟩
        rw [lw, List.take_length] at eD
        have sl6 := sl4.next Fp (But.of s6) (sl4.pool.same s6)
        refine ⟨D, _, rfl, .inl (.inl (.inl eD)), rfl, flat_strs _, ?_⟩
        rw [any_face]
        refine ⟨p, sg, _, s1, s2, s3, rfl, sl6.pool, sqt_kp (Tp.but hp sl6.but) hsg, o1, o2, o3, fun H8 t e b8 hp8 he eok need nsw => ?_⟩
        have sl8 := sl6.next Fp b8 hp8
        refine ⟨F, ws, _, rfl, rfl, sl8.list, small1000 (by omega), ws ++ [.ref t], es ++ [e], _, sl8.add Fp nF he eok need (by rw [swaps_snoc, nsw]; exact sl.legs), by rw [List.length_append, le]; rfl, rfl⟩
    · rintro σ H3 ⟨ws, es, y4, sl, le, rfl⟩
      refine ⟨.ref F, rfl, F, ws, rfl, .inl ⟨.inl (.inl sl.list), fun t nt => ?_⟩⟩
      have st := same_upd (o := .tup ws) nt
      exact q _ t es (sl.but.trans (But.of st)) (sl.pool.same st) (.tup (.inl (.inl upd_same)) (dpa_same st _ _ sl.ents)) (by omega) sl.ok sl.right sl.legs
--@@SPLIT
def spMixP (K : PySem.W.Frag) : Sp := fun vs H Q _ => ∃ (p t : Addr) (xs : List V), vs = [.ref p, .ref t] ∧ Pool H p ∧ t ≠ p ∧ SqL K H t xs ∧ xs.length ≤ 900 ∧
  ∀ H' f ys, But p H H' → H f = none → H' f = some (.lst ys) → ys.Perm xs → Pool H' p → Q (.ref f) H'
theorem ok_LmixP (T : Top w K mg) : FnOk P w K mg base CX0 2 T.a_Lmix T.fd_Lmix ["_law_pool_here", "_law_things"] (spMixP K) := by
  have G_Ltake := ok_Ltake (P := P) (w := w) (base := base) T
  refine T.F_Lmix.ok sc_Lmix (fun vs H Q E h => ?_) (fun cdv A outer s H vs Q E hr h => ?_)
  · obtain ⟨p, t, xs, rfl, _⟩ := h
    rfl
  · obtain ⟨p, t, xs, rfl, hp, ht, hS, hl, q⟩ := h
    refine ⟨_, (pss_cons (ps_set (i := 2) sc_Lmix.nd rfl (.inl rfl) (pe_lst pa_nil))
      (pss_cons (ps_for PassesOwn.never rfl (pi_list (pv 1)) (pg_name (i := 3) sc_Lmix.nd rfl (.inl rfl)) (pss_one (ps_expr (pe_bm PySem.F.plainAttrs_list PySem.F.slot_list_insert PySem.F.type_list_insert mt_insert (pv 2) (pa_cons (pe_call G_Ltake hr (by rfl) T.g_Ltake T.F_Ltake.kp T.b_Ltake .nil pass0 (pa_cons (pv 0) (pa_cons (pe_op op_add (pe_callB call_len_seq (by rfl) T.m_len (by decide +kernel) (pa_cons (pv 2) pa_nil)) pe_int) pa_nil))) (pa_cons (pv 3) pa_nil))))))
      (pss_one (ps_ret (pv 2))))), ?_⟩
    refine ⟨Nat.zero_le _, fun f nf => ?_⟩
    have nfp : f ≠ p := hp.ne_new nf
    have b0 : But p H (upd H f (.lst [])) := But.of (same_upd nf)
    refine ⟨.ref t, rfl, t, rfl, ⟨xs, seq_but b0 ht hS⟩, for_it (walk_list (xs := xs)) (fun i σ H' => ∃ y ys, σ = [some (.ref p), some (.ref t), some (.ref f), y] ∧ ys.Perm (xs.take i) ∧ H' f = some (.lst ys) ∧ Pool H' p ∧ But p H H')
      ⟨none, [], rfl, .nil, upd_same, hp.upd nfp, b0⟩ (fun i σ H' _ h => ?_) ?_ ?_⟩
    · obtain ⟨y, ys, _, _, _, _, bt⟩ := h
      exact seq_but bt ht hS
    · rintro i x σ H1 H2 hi ⟨y, ys, rfl, hpm, ef, hp1, bt⟩ ⟨rfl, hx⟩
      have hy : ys.length = i := by
        rw [hpm.length_eq, List.length_take]
        omega
      refine ⟨.ref f, rfl, .inl ⟨rfl, _, .inl (.inl ef)⟩, .ref p, rfl, .ref f, rfl, f, ys, rfl, .inl (.inl (.inl ef)), _, _, rfl, rfl, p, _, rfl, by omega, by omega, hp1, fun H3 r b3 hp3 h0 h1 => ?_⟩
      have ef3 : H3 f = some (.lst ys) := b3 _ _ nfp ef
      refine ⟨x, rfl, f, ys, r, x, rfl, rfl, ef3, small1000 (by omega), h0, by omega, ?_⟩
      refine ⟨_, _, rfl, ?_, upd_same, hp3.upd nfp, fun b o hb h => ?_⟩
      · rw [List.take_add_one, hx, List.append_assoc]
        have h1 : (ys.take r.toNat ++ ([x] ++ ys.drop r.toNat)).Perm (x :: (ys.take r.toNat ++ ys.drop r.toNat)) := List.perm_middle
        rw [List.take_append_drop] at h1
        exact h1.trans ((hpm.cons x).trans (List.perm_append_singleton x (xs.take i)).symm)
      · rw [upd_ne (ne_of_none h nf)]
        exact b3 _ _ hb (bt _ _ hb h)
    · rintro σ H1 ⟨y, ys, rfl, hpm, ef, hp1, bt⟩
      rw [List.take_length] at hpm
      exact ⟨.ref f, rfl, q H1 f ys bt nf ef hpm hp1⟩
theorem BookOn.under {K : PySem.W.Frag} {CB CA : Addr} {B B1 H : Hp} {bk : Addr} {now : AS} {past fut : List AS} (h : BookOn K CB CA B1 H bk now past fut) (s : Same B B1) : BookOn K CB CA B H bk now past fut := by
  obtain ⟨dx, n, p, f, w, ps, fs, h⟩ := h
  have no : ∀ {c : Addr}, B1 c = none → B c = none := fun {c} e => by
    cases e2 : B c with
    | none => rfl
    | some o => rw [s _ _ e2] at e; cases e
  exact ⟨dx, n, p, f, w, ps, fs, h.obj, h.atlas, h.hpast, h.pasts, h.hfut, h.futs, h.watch, h.pf, h.pw, h.fw, no h.new, no h.newp, no h.newf, no h.neww⟩
/-- the rows but for the last one -/
theorem with_last {now done : List Row} {z : Str} {es : List Ent} (p : now.Perm (done ++ [(z, es)])) (out : z ∉ nms done) : (withQ now (.str z)).Perm done := by
  refine (p.filter _).trans (List.Perm.of_eq ?_)
  rw [List.filter_append, List.filter_cons, List.filter_nil, if_neg (by rw [eqS_str, decide_eq_true rfl]; exact Bool.false_ne_true), List.append_nil]
  exact with_new out
/-- where the laying stands -/
structure LSt (K : PySem.W.Frag) (CB CA : Addr) (B : Hp) (p bk : Addr) (H : Hp) (box : List Nat) (done : List Row) (n : Nat) : Prop where
  same : Same B H
  pool : Pool H p
  ex : ∃ rs past fut, BookOn K CB CA B H bk (box, rs) past fut ∧ Hist (box, rs) past fut ∧ rs.Perm done ∧ past.length ≤ n
section
variable {K : PySem.W.Frag} {CB CA : Addr} {B : Hp} {p bk : Addr} {H H' : Hp} {box : List Nat} {done : List Row} {n : Nat}
theorem LSt.to (h : LSt K CB CA B p bk H box done n) (s : Same H H') : LSt K CB CA B p bk H' box done n := by
  obtain ⟨rs, past, fut, h1, h2⟩ := h.ex
  exact ⟨h.same.trans s, h.pool.same s, rs, past, fut, h1.same s, h2⟩
theorem LSt.more (h : LSt K CB CA B p bk H box done n) {m : Nat} (l : n ≤ m) : LSt K CB CA B p bk H box done m := by
  obtain ⟨rs, past, fut, h1, h2, h3, h4⟩ := h.ex
  exact ⟨h.same, h.pool, rs, past, fut, h1, h2, h3, Nat.le_trans h4 l⟩
theorem LSt.deed {now : AS} {past fut : List AS} {box2 : List Nat} {rs done2 : List Row} (hp : Pool H p) (hi : Hist now past fut) (l : past.length ≤ n) (ln : n < 1000) (d : Deed B H H') (prm : rs.Perm done2) (ok : ASok (box2, rs)) (hb : BookOn K CB CA B H' bk (box2, rs) (past ++ [now]) []) : LSt K CB CA B p bk H' box2 done2 (n + 1) :=
  ⟨d.1, d.2 p hp, rs, past ++ [now], [], hb, hi.add ok (by omega), prm, by rw [List.length_append]; exact Nat.succ_le_succ l⟩
/-- a pool goes on -/
theorem BookIs.draw {dx m pl f w : Addr} {ps fs : List V} {now : AS} {past fut : List AS} (g : BookIs K CB CA B H bk dx m pl f w ps fs now past fut) (h2 : Hist now past fut) (hp : Pool H p) (b : But p H H') : BookIs K CB CA B H' bk dx m pl f w ps fs now past fut := by
  have k : Kp H H' := Kp.but hp b
  have nl : ∀ {c : Addr} {xs : List V}, H c = some (.lst xs) → npl (.lst xs) = true → c ≠ p := fun {c xs} e q z => by
    obtain ⟨l, x, y, r, _, h1⟩ := hp
    rw [z, h1] at e
    cases e
    cases q
  have al : ∀ {ps : List V} {ss : List AS}, All2 (AtA K CA H) ps ss → (∀ s ∈ ss, ASok s) → All2 (AtA K CA H') ps ss := fun {ps ss} q => by
    induction q with
    | nil => exact fun _ => .nil
    | @cons v s vs ss h1 _ ih =>
      intro ok
      obtain ⟨x, e, hx⟩ := h1
      exact .cons ⟨x, e, hx.kp (fun r hr => Nat.le_trans ((ok s List.mem_cons_self).ok r hr).len (by decide)) k⟩ (ih fun y m => ok y (List.mem_cons_of_mem _ m))
  exact ⟨k _ _ rfl g.obj, g.atlas.kp (fun r hr => Nat.le_trans (h2.now.ok r hr).len (by decide)) k, b _ _ (nl g.hpast (npl_refs g.pasts)) g.hpast, al g.pasts h2.hpast, b _ _ (nl g.hfut (npl_refs g.futs)) g.hfut, al g.futs h2.hfut, b _ _ (nl g.watch rfl) g.watch, g.pf, g.pw, g.fw, g.new, g.newp, g.newf, g.neww⟩
theorem LSt.draw (h : LSt K CB CA B p bk H box done n) (nB : B p = none) (b : But p H H') (hp : Pool H' p) : LSt K CB CA B p bk H' box done n := by
  obtain ⟨rs, past, fut, ⟨dx, m, pl, f, w, ps, fs, g⟩, h2⟩ := h.ex
  exact ⟨fun c o e => b _ _ (ne_of_none e nB) (h.same _ _ e), hp, rs, past, fut, ⟨dx, m, pl, f, w, ps, fs, g.draw h2.1 h.pool b⟩, h2⟩
end
theorem wo_out {H : Hp} {X : Addr → Prop} {c : Addr} (x : X c) : wo H X c = none := by
  cases e : wo H X c with
  | none => rfl
  | some o => exact absurd x (wo_some e).1
theorem out_take {rs : List Row} (nd : (nms rs).Nodup) {i : Nat} {r : Row} (h : rs[i]? = some r) : r.1 ∉ nms (rs.take i) := fun m => by
  obtain ⟨q, hq, e⟩ := List.mem_map.mp m
  obtain ⟨j, ej⟩ := List.mem_iff_getElem?.mp hq
  rw [List.getElem?_take] at ej
  by_cases hj : j < i
  · rw [if_pos hj] at ej
    have f1 : (nms rs)[j]? = some q.1 := by unfold nms; rw [List.getElem?_map, ej]; rfl
    have f2 : (nms rs)[i]? = some r.1 := by unfold nms; rw [List.getElem?_map, h]; rfl
    obtain ⟨l1, e1⟩ := List.getElem?_eq_some_iff.mp f1
    obtain ⟨l2, e2⟩ := List.getElem?_eq_some_iff.mp f2
    exact (List.pairwise_iff_getElem.mp nd) j i l1 l2 hj (e1.trans (e.trans e2.symm))
  · rw [if_neg hj] at ej
    cases ej
theorem bare_row {z : Str} (h : nmL z.cps.toList = true) : RowOk (z, [.bare]) where
  nm := h
  ok := fun e m => by rw [List.mem_singleton.mp m]; trivial
  right := fun i e m n => by
    cases i with
    | zero => cases m; cases n
    | succ i => cases m
  len := by show 1 ≤ 100; decide
theorem take_row {z : Str} {es : List Ent} (h : RowOk (z, es)) (n : Nat) : RowOk (z, es.take n) where
  nm := h.nm
  ok := fun e m => h.ok e (List.mem_of_mem_take m)
  right := fun i e he hn => by
    have he : (es.take n)[i]? = some e := he
    rw [List.getElem?_take] at he
    by_cases l : i < n
    · rw [if_pos l] at he
      show ((es.take n).take i).any Ent.isFace = true
      rw [List.take_take, Nat.min_eq_left (Nat.le_of_lt l)]
      exact h.right i e he hn
    · rw [if_neg l] at he
      cases he
  len := Nat.le_trans (by show (es.take n).length ≤ es.length; rw [List.length_take]; exact Nat.min_le_right _ _) h.len
theorem bare_more {z : Str} {es : List Ent} (h : RowOk (z, es)) (l : es.length < 100) : RowOk (z, es ++ [.bare]) where
  nm := h.nm
  ok := fun e m => by
    rcases List.mem_append.mp m with m | m
    · exact h.ok e m
    · rw [List.mem_singleton.mp m]; trivial
  right := h.right.snoc fun z => nomatch z
  len := by show (es ++ [Ent.bare]).length ≤ 100; rw [List.length_append]; exact l
/-! ### a book with box and logs, come to by a drawn way -/
def spLaid (K : PySem.W.Frag) (CB CA : Addr) : Sp := fun vs H Q _ => ∃ (p b R : Addr) (z : Str) (B : Hp) (box : List Nat) (us : List V) (rs : List Row), vs = [.ref p, .ref b, .ref R, .str z] ∧ Pool H p ∧ B p = none ∧ Same B H ∧ SqT K B b (boxV box) ∧ box.length = 8 ∧ B R = some (.lst us) ∧ RowsAt K B us rs ∧ (∀ r ∈ rs, RowOk r) ∧ (∀ r ∈ rs, r.2.length ≤ 20) ∧ (nms rs).Nodup ∧ rs.length ≤ 6 ∧ nmL z.cps.toList = true ∧ z ∉ nms rs ∧
  ∀ H' bk rs' past fut, Pool H' p → Same B H' → BookOn K CB CA B H' bk (box, rs') past fut → rs'.Perm rs → Hist (box, rs') past fut → Q (.ref bk) H'
theorem ok_Llaid (T : Top w K mg) : FnOk P w K mg base CX0 12 T.a_Llaid T.fd_Llaid ["_law_pool_here", "_law_box", "_law_rows", "_law_spare"] (spLaid K T.a_Book T.a_Atlas) := by
  have G_Ltake := ok_Ltake (P := P) (w := w) (base := base) T
  have G_Lmix := ok_LmixP (P := P) (w := w) (base := base) T
  have G_Book_init := ok_Book_init (P := P) (w := w) (base := base) T
  have G_Book_put := ok_put (P := P) (w := w) (base := base) T
  have G_Book_drop := ok_drop (P := P) (w := w) (base := base) T
  have G_Book_note := ok_note (P := P) (w := w) (base := base) T
  have G_Book_rename := ok_rename (P := P) (w := w) (base := base) T
  have G_Book_refill := ok_refill (P := P) (w := w) (base := base) T
  have G_Book_undo := ok_undo (P := P) (w := w) (base := base) T
  refine T.F_Llaid.ok sc_Llaid (fun vs H Q E h => ?_) (fun cdv A outer s H vs Q E hr h => ?_)
  · obtain ⟨p, b, R, z, B, box, us, rs, rfl, _⟩ := h
    rfl
  · obtain ⟨p, b, R, z, B, box, us, rs, rfl, hp, pB, hB, hb, h8, hR, hus, rok, r20, nd, lrs, znm, zout, q⟩ := h
    refine ⟨_, (pss_cons (ps_set (i := 4) sc_Llaid.nd rfl (.inl rfl) (pe_cmpR op_eq (pe_call G_Ltake (hr.mono (by decide)) (by rfl) T.g_Ltake T.F_Ltake.kp T.b_Ltake .nil pass0 (pa_cons (pv 0) (pa_cons pe_int pa_nil))) pe_int (nomark _)))
      (Evl.pss_cut (ps_set (i := 5) sc_Llaid.nd rfl (.inl rfl) (pe_make T.mk_Book G_Book_init hr (by rfl) T.g_Book T.b_Book_init .nil pass0 (pa_cons (pe_ifExp (pt_val (pv 4)) (pe_op RepN.op_repN (pe_tup (pa_cons pe_int pa_nil)) pe_int) (pv 1)) pa_nil)))
      (pss_cons (ps_for PassesOwn.never rfl (pi_list (pe_call G_Lmix (hr.mono (by decide)) (by rfl) T.g_Lmix T.F_Lmix.kp T.b_Lmix .nil pass0 (pa_cons (pv 0) (pa_cons (pv 2) pa_nil)))) (pg_tup rfl (pgs_cons (pg_name (i := 6) sc_Llaid.nd rfl (.inl rfl)) (pgs_cons (pg_name (i := 7) sc_Llaid.nd rfl (.inl rfl)) pgs_nil))) (pss_cons (ps_set (i := 8) sc_Llaid.nd rfl (.inl rfl) (pe_call G_Ltake (hr.mono (by decide)) (by rfl) T.g_Ltake T.F_Ltake.kp T.b_Ltake .nil pass0 (pa_cons (pv 0) (pa_cons pe_int pa_nil))))
      (Evl.pss_cut (ps_if (pt_cmpR op_eq (pv 8) pe_int (nomark _)) (pss_cons (ps_expr (pe_meth (pv 5) T.cl_Book T.me_Book_put G_Book_put (hr.mono (by decide)) T.b_Book_put .nil pass0 (pa_cons (pv 3) (pa_cons (pe_tup (pa_cons (pe_tup (pa_cons pe_str pa_nil)) pa_nil)) pa_nil))))
      (pss_one (ps_expr (pe_meth (pv 5) T.cl_Book T.me_Book_drop G_Book_drop hr T.b_Book_drop .nil pass0 (pa_cons (pv 3) pa_nil))))) pss_nil)
      (Evl.pss_cut (ps_if (pt_cmpR op_eq (pv 8) pe_int (nomark _)) (pss_cons (ps_expr (pe_meth (pv 5) T.cl_Book T.me_Book_put G_Book_put (hr.mono (by decide)) T.b_Book_put .nil pass0 (pa_cons (pv 3) (pa_cons (pv 7) pa_nil))))
      (pss_one (ps_expr (pe_meth (pv 5) T.cl_Book T.me_Book_rename G_Book_rename hr T.b_Book_rename .nil pass0 (pa_cons (pv 3) (pa_cons (pv 6) pa_nil)))))) (pss_one (ps_if (pt_cmpR op_eq (pv 8) pe_int (nomark _)) (pss_cons (ps_expr (pe_meth (pv 5) T.cl_Book T.me_Book_put G_Book_put (hr.mono (by decide)) T.b_Book_put .nil pass0 (pa_cons (pv 6) (pa_cons (pe_tup pa_nil) pa_nil))))
      (pss_one (ps_for PassesOwn.never rfl (pi_tup (pv 7)) (pg_name (i := 9) sc_Llaid.nd rfl (.inl rfl)) (pss_one (ps_expr (pe_meth (pv 5) T.cl_Book T.me_Book_note G_Book_note hr T.b_Book_note .nil pass0 (pa_cons (pv 6) (pa_cons (pe_callTy call_list_of (by rfl) T.m_list (by decide +kernel) (pa_cons (pv 9) pa_nil)) pa_nil)))))))) (pss_one (ps_expr (pe_meth (pv 5) T.cl_Book T.me_Book_put G_Book_put (hr.mono (by decide)) T.b_Book_put .nil pass0 (pa_cons (pv 6) (pa_cons (pe_callTy call_list_of (by rfl) T.m_list (by decide +kernel) (pa_cons (pv 7) pa_nil)) pa_nil))))))))
      (pss_one (ps_if (pt_cmpR op_eq (pv 8) pe_int (nomark _)) (pss_cons (ps_expr (pe_meth (pv 5) T.cl_Book T.me_Book_note G_Book_note hr T.b_Book_note .nil pass0 (pa_cons (pv 6) (pa_cons (pe_tup (pa_cons pe_str pa_nil)) pa_nil))))
      (pss_one (ps_expr (pe_meth0 (pv 5) T.cl_Book T.me_Book_undo G_Book_undo (hr.mono (by decide)) T.b_Book_undo .nil pass0)))) pss_nil))))))
      (Evl.pss_cut (ps_if (pt_val (pv 4)) (pss_one (ps_expr (pe_meth (pv 5) T.cl_Book T.me_Book_refill G_Book_refill (hr.mono (by decide)) T.b_Book_refill .nil pass0 (pa_cons (pe_callTy call_list_of (by rfl) T.m_list (by decide +kernel) (pa_cons (pv 1) pa_nil)) pa_nil)))) pss_nil)
      (pss_one (ps_ret (pv 5))))))), ?_⟩
    refine ⟨.ref p, rfl, p, 2, rfl, by decide, by decide, hp, fun H1 k b1 hp1 k0 k1 => ⟨rfl, ?_⟩⟩
    generalize decide (V.int k = V.int 0) = lt
    refine ⟨fun σ' H' => ∃ (bk : Addr) (box0 : List Nat), LSt K T.a_Book T.a_Atlas B p bk H' box0 [] 0 ∧ box0.length = 8 ∧ (lt = false → box0 = box) ∧ σ' = [some (.ref p), some (.ref b), some (.ref R), some (.str z), some (.bl lt), some (.ref bk), none, none, none, none], ?_, ?_⟩
    · have sB1 : Same B H1 := fun c o h => b1 _ _ (ne_of_none h pB) (hB _ _ h)
      have made : ∀ {H2 : Hp} {b0 bk dx : Addr} {box0 : List Nat} {Qv : VK}, Same H1 H2 → SqA K H2 b0 (boxV box0) → box0.length = 8 → (∀ H3, LSt K T.a_Book T.a_Atlas B p bk H3 box0 [] 0 → Qv .non H3) → H2 bk = none → H2 dx = none → dx ≠ bk → spBookInit K T.a_Book T.a_Atlas [.ref bk, .ref b0] (upd (upd H2 dx (.own bk)) bk (.ins T.a_Book dx [])) Qv E0 := fun {H2 b0 bk dx box0 Qv} s2 hb0 l8 kk nbk ndx ne => by
        have s3 : Same H2 (upd (upd H2 dx (.own bk)) bk (.ins T.a_Book dx [])) := fun c o h => by
          rw [upd_ne (ne_of_none h nbk)]
          exact same_upd ndx _ _ h
        have sB2 := sB1.trans s2
        have nB : B bk = none := by
          cases e : B bk with
          | none => rfl
          | some o => rw [sB2 _ _ e] at nbk; cases nbk
        refine ⟨bk, dx, b0, B, box0, rfl, upd_same, sB2.trans s3, nB, hb0.same s3, l8, fun H3 d3 sok hb3 => kk H3 ⟨d3.1, d3.2 p ((hp1.same s2).same s3), [], [], [], hb3, ⟨sok, (fun _ m => nomatch m), (fun _ m => nomatch m), Nat.zero_le _, Nat.zero_le _⟩, .refl _, Nat.le_refl 0⟩⟩
      refine ⟨.bl lt, rfl, lt, rfl, ?_⟩
      cases lt with
      | true => exact iteT ⟨by show 1 ≤ sizeLine; decide, fun o no => ⟨o, .int 1, 8, rfl, rfl, .inl (.inl upd_same), by decide, fun b8 H2 s2 hb8 bk dx nbk ndx ne => made (box0 := [1, 1, 1, 1, 1, 1, 1, 1]) ((same_upd no).trans s2) (.inr hb8) rfl (fun H3 st => ⟨rfl, bk, [1, 1, 1, 1, 1, 1, 1, 1], st, rfl, (fun h => nomatch h), rfl⟩) nbk ndx ne⟩⟩
      | false => exact iteF ⟨.ref b, rfl, fun bk dx nbk ndx ne => made (Same.refl _) (.inr (sqt_same sB1 hb)) h8 (fun H3 st => ⟨rfl, bk, box, st, h8, (fun _ => rfl), rfl⟩) nbk ndx ne⟩
    rintro σ H3 ⟨bk, box0, st3, l80, le0, rfl⟩
    have hR3 := st3.same _ _ hR
    have Rp : R ≠ p := fun e => by rw [e, pB] at hR; cases hR
    have lus := hus.len
    refine ⟨.ref p, rfl, .ref R, rfl, p, R, us, rfl, st3.pool, Rp, .inl (.inl hR3), by omega, fun H5 M ms b5 nM eM pmm hp5 => ?_⟩
    have st5 := st3.draw pB b5 hp5
    obtain ⟨rs0, past0, fut0, ⟨dx0, n0, pl0, f0, w0, ps0, fs0, g0⟩, hi0, pm0, lp0⟩ := st3.ex
    have g5 := g0.draw hi0 st3.pool b5
    have Mn : ∀ {c : Addr} {o : HO}, H3 c = some o → M ≠ c := fun e z => by rw [← z, nM] at e; cases e
    obtain ⟨X, hX⟩ : ∃ X : Addr → Prop, X = fun c => c = p ∨ c = bk ∨ B c = none ∧ c ≠ M := ⟨_, rfl⟩
    have MX : ¬ X M := by
      rw [hX]
      rintro (h | h | h)
      · obtain ⟨_, _, _, _, _, e⟩ := st3.pool
        exact Mn e h
      · exact Mn g0.obj h
      · exact h.2 rfl
    have B1M : wo H5 X M = some (.lst ms) := (wo_in MX).trans eM
    have BB1 : Same B (wo H5 X) := fun c o e => by
      rw [wo_in (X := X) (fun h => by
        rw [hX] at h
        rcases h with h | h | h
        · rw [h, pB] at e; cases e
        · rw [h, g0.new] at e; cases e
        · rw [h.1] at e; cases e)]
      exact st5.same _ _ e
    have out1 : ∀ {c : Addr}, B c = none → c ≠ M → wo H5 X c = none := fun {c} e n => wo_out (by rw [hX]; exact .inr (.inr ⟨e, n⟩))
    have pB1 : wo H5 X p = none := wo_out (by rw [hX]; exact .inl rfl)
    have st : LSt K T.a_Book T.a_Atlas (wo H5 X) p bk H5 box0 [] 0 := ⟨wo_same, hp5, rs0, past0, fut0, ⟨dx0, n0, pl0, f0, w0, ps0, fs0, g5.obj, g5.atlas, g5.hpast, g5.pasts, g5.hfut, g5.futs, g5.watch, g5.pf, g5.pw, g5.fw, out1 g0.new (Ne.symm (Mn g0.obj)), out1 g0.newp (Ne.symm (Mn g0.hpast)), out1 g0.newf (Ne.symm (Mn g0.hfut)), out1 g0.neww (Ne.symm (Mn g0.watch))⟩, hi0, pm0, lp0⟩
    obtain ⟨rsM, hrsM, pmM⟩ := (hus.same BB1).perm pmm
    generalize wo H5 X = B1 at B1M BB1 pB1 st hrsM
    clear out1 MX hX X g5 g0 hi0 pm0 lp0
    have ndM : (nms rsM).Nodup := (show (nms rsM).Perm (nms rs) from pmM.map _).nodup_iff.mpr nd
    have lM : rsM.length ≤ 6 := by rw [pmM.length_eq]; exact lrs
    have zM : z ∉ nms rsM := fun h => zout ((show (nms rsM).Perm (nms rs) from pmM.map _).mem_iff.mp h)
    have lms := hrsM.len
    refine ⟨M, rfl, ⟨ms, .inl (.inl eM)⟩, for_it (walk_list (xs := ms)) (fun i σ H' => LSt K T.a_Book T.a_Atlas B1 p bk H' box0 (rsM.take i) (30 * i) ∧ ∃ y6 y7 y8 y9, σ = [some (.ref p), some (.ref b), some (.ref R), some (.str z), some (.bl lt), some (.ref bk), y6, y7, y8, y9]) ⟨st, none, none, none, none, rfl⟩ (fun i σ H' _ h => .inl (.inl (h.1.same _ _ B1M))) ?_ ?_⟩
    · rintro i v σ H6 H7 hi ⟨st7, y6, y7, y8, y9, rfl⟩ ⟨rfl, hv⟩
      obtain ⟨r, fr, t, l, rfl, ht, hl⟩ := hrsM.at_ hv
      obtain ⟨_, xs, e0, hsx, hrw⟩ := log_rows hl
      cases e0
      have rin : r ∈ rs := pmM.mem_iff.mp (List.mem_of_getElem? fr)
      have ro := rok r rin
      have rl := r20 r rin
      have i6 : i < 6 := by omega
      have rout := out_take ndM fr
      have zo : z ∉ nms (rsM.take i) := fun h => zM ((List.take_sublist i rsM).map _ |>.subset h)
      have lti : (rsM.take i).length ≤ 6 := by rw [List.length_take]; omega
      refine ⟨t, _, rfl, .inl (.inl (st7.same _ _ ht)), rfl, _, _, rfl, _, _, rfl, rfl, ?_⟩
      refine ⟨.ref p, rfl, p, 4, rfl, by decide, by decide, st7.pool, fun H8 way b8 hp8 w0 w1 => ?_⟩
      have st8 := st7.draw pB1 b8 hp8
      have few : ∀ {rs0 : List Row}, rs0.Perm (rsM.take i) → rs0.length ≤ 6 := fun q => by rw [q.length_eq]; exact lti
      have memq : ∀ {rs0 : List Row} {y : Str}, rs0.Perm (rsM.take i) → y ∉ nms (rsM.take i) → y ∉ nms rs0 := fun q o m => o ((show (nms _).Perm (nms _) from q.map _).mem_iff.mp m)
      have tk : rsM.take (i + 1) = rsM.take i ++ [r] := by rw [List.take_add_one, fr]; rfl
      refine ⟨fun σ' H' => LSt K T.a_Book T.a_Atlas B1 p bk H' box0 (rsM.take i) (30 * i + 2) ∧ σ' = [some (.ref p), some (.ref b), some (.ref R), some (.str z), some (.bl lt), some (.ref bk), some (.str r.1), some (.ref l), some (.int way), y9], ?_, ?_⟩
      · refine ⟨.int way, rfl, rfl, _, rfl, ite2 (fun _ => ?_) (fun _ => ⟨st8.more (by omega), rfl⟩)⟩
        obtain ⟨rs0, past, fut, hbk, hi, pm, lp⟩ := st8.ex
        obtain ⟨dx, n, pl, f, w', ps, fs, g⟩ := id hbk
        have f0 := few pm
        refine ⟨.ref bk, rfl, bk, _, _, rfl, g.obj, bf_no n pl f w' (by decide +kernel) (by decide +kernel) (by decide +kernel) (by decide +kernel), .str z, rfl, by show 1 ≤ sizeLine; decide, fun t1 n1 => ⟨by show 1 ≤ sizeLine; decide, fun t2 n2 => ?_⟩⟩
        have s1 := same_upd (o := .tup [.str (PySem.Str.ofString "bare")]) n1
        have s2 := same_upd (o := .tup [.ref t1]) n2
        have s12 := s1.trans s2
        refine ⟨bk, t2, z, B1, [.ref t1], [.bare], (box0, rs0), past, fut, rfl, st8.same.trans s12, hbk.same s12, hi, by omega, by show rs0.length < 40; omega, .inr (.inl (.inl upd_same)), rows_tup (.cons (.tup (.inl (.inl (s2 _ _ upd_same))) (.cons (.str _) .nil)) .nil), bare_row znm, memq pm zo, fun H9 rs9 d9 pm9 ok9 hb9 => ?_⟩
        obtain ⟨dx9, n9, pl9, f9, w9, ps9, fs9, g9⟩ := id hb9
        have hi9 := hi.add ok9 (by omega)
        have l9 : (past ++ [(box0, rs0)]).length ≤ 30 * i + 1 := by rw [List.length_append]; exact Nat.succ_le_succ lp
        have pm9' : rs9.Perm (rsM.take i ++ [(z, [.bare])]) := pm9.trans (pm.append_right _)
        refine ⟨.ref bk, rfl, bk, _, _, rfl, g9.obj, bf_no n9 pl9 f9 w9 (by decide +kernel) (by decide +kernel) (by decide +kernel) (by decide +kernel), .str z, rfl, ?_⟩
        refine ⟨bk, z, B1, (box0, rs9), past ++ [(box0, rs0)], [], rfl, d9.1, hb9, hi9, by omega, List.mem_map.mpr ⟨_, pm9'.mem_iff.mpr (List.mem_append_right _ List.mem_cons_self), rfl⟩, fun Ha rsa da pma oka hba => ?_⟩
        exact ⟨LSt.deed (d9.2 p (st8.pool.same s12)) hi9 l9 (by omega) da (pma.trans (with_last pm9' zo)) oka hba, rfl⟩
      rintro σ' Hb ⟨stb, rfl⟩
      refine ⟨fun σ' H' => LSt K T.a_Book T.a_Atlas B1 p bk H' box0 (rsM.take i ++ [r]) (30 * i + 25) ∧ ∃ y9, σ' = [some (.ref p), some (.ref b), some (.ref R), some (.str z), some (.bl lt), some (.ref bk), some (.str r.1), some (.ref l), some (.int way), y9], ?_, ?_⟩
      · obtain ⟨rs0, past, fut, hbk, hi, pm, lp⟩ := stb.ex
        obtain ⟨dx, n, pl, f, w', ps, fs, g⟩ := id hbk
        have f0 := few pm
        have hlb := sqt_same stb.same hsx
        have hrb := hrw.same stb.same
        refine ⟨.int way, rfl, rfl, _, rfl, ite2 (fun _ => ?_) (fun _ => ⟨.int way, rfl, rfl, _, rfl, ite2 (fun _ => ?_) (fun _ => ?_)⟩)⟩
        · refine ⟨.ref bk, rfl, bk, _, _, rfl, g.obj, bf_no n pl f w' (by decide +kernel) (by decide +kernel) (by decide +kernel) (by decide +kernel), .str z, rfl, .ref l, rfl, ?_⟩
          refine ⟨bk, l, z, B1, xs, r.2, (box0, rs0), past, fut, rfl, stb.same, hbk, hi, by omega, by show rs0.length < 40; omega, .inr hlb, hrb, ⟨znm, ro.ok, ro.right, ro.len⟩, memq pm zo, fun H9 rs9 d9 pm9 ok9 hb9 => ?_⟩
          obtain ⟨dx9, n9, pl9, f9, w9, ps9, fs9, g9⟩ := id hb9
          have hi9 := hi.add ok9 (by omega)
          have l9 : (past ++ [(box0, rs0)]).length ≤ 30 * i + 3 := by rw [List.length_append]; exact Nat.succ_le_succ lp
          have pm9' : rs9.Perm (rsM.take i ++ [(z, r.2)]) := pm9.trans (pm.append_right _)
          have rz : r.1 ∉ nms rs9 := fun h => by
            have h := (show (nms rs9).Perm (nms (rsM.take i ++ [(z, r.2)])) from pm9'.map _).mem_iff.mp h
            rw [show nms (rsM.take i ++ [(z, r.2)]) = nms (rsM.take i) ++ [z] from List.map_append] at h
            rcases List.mem_append.mp h with h | h
            · exact rout h
            · exact zM (List.mem_map.mpr ⟨r, List.mem_of_getElem? fr, List.mem_singleton.mp h⟩)
          refine ⟨.ref bk, rfl, bk, _, _, rfl, g9.obj, bf_no n9 pl9 f9 w9 (by decide +kernel) (by decide +kernel) (by decide +kernel) (by decide +kernel), .str z, rfl, .str r.1, rfl, ?_⟩
          refine ⟨bk, z, r.1, B1, r.2, (box0, rs9), past ++ [(box0, rs0)], [], rfl, d9.1, hb9, hi9, by omega, pm9'.mem_iff.mpr (List.mem_append_right _ List.mem_cons_self), ro, rz, fun Ha rsa da pma oka hba => ?_⟩
          exact ⟨(LSt.deed (d9.2 p stb.pool) hi9 l9 (by omega) da (pma.trans ((with_last pm9' zo).append_right _)) oka hba).more (by omega), _, rfl⟩
        · have lxs : xs.length = r.2.length := hrw.len
          refine ⟨.ref bk, rfl, bk, _, _, rfl, g.obj, bf_no n pl f w' (by decide +kernel) (by decide +kernel) (by decide +kernel) (by decide +kernel), .str r.1, rfl, Nat.zero_le _, fun t0 n0 => ?_⟩
          have s0 := same_upd (o := .tup []) n0
          refine ⟨bk, t0, r.1, B1, [], [], (box0, rs0), past, fut, rfl, stb.same.trans s0, hbk.same s0, hi, by omega, by show rs0.length < 40; omega, .inr (.inl (.inl upd_same)), ⟨[], .nil, rfl⟩, take_row ro 0, memq pm rout, fun H9 rs9 d9 pm9 ok9 hb9 => ?_⟩
          have st9 : LSt K T.a_Book T.a_Atlas B1 p bk H9 box0 (rsM.take i ++ [(r.1, r.2.take 0)]) (30 * i + 3 + 0) := LSt.deed (stb.pool.same s0) hi lp (by omega) d9 (pm9.trans (pm.append_right _)) ok9 hb9
          refine ⟨.ref l, rfl, l, rfl, ⟨xs, sqt_same st9.same hsx⟩, for_it (walk_tup (xs := xs)) (fun j σ H' => LSt K T.a_Book T.a_Atlas B1 p bk H' box0 (rsM.take i ++ [(r.1, r.2.take j)]) (30 * i + 3 + j) ∧ ∃ y9, σ = [some (.ref p), some (.ref b), some (.ref R), some (.str z), some (.bl lt), some (.ref bk), some (.str r.1), some (.ref l), some (.int way), y9]) ⟨st9, _, rfl⟩ (fun j σ H' _ h => sqt_same h.1.same hsx) ?_ ?_⟩
          · rintro j v σ Hd He hj ⟨ste, y9', rfl⟩ ⟨rfl, hx⟩
            obtain ⟨en, fe, a, us', rfl, hq, hu⟩ := (hrw.same ste.same).at_ hx
            obtain ⟨rsj, pastj, futj, hbj, hij, pmj, lpj⟩ := ste.ex
            obtain ⟨dxj, nj, plj, fj, wj, psj, fsj, gj⟩ := id hbj
            have tkj : r.2.take (j + 1) = r.2.take j ++ [en] := by rw [List.take_add_one, fe]; rfl
            have j20 : j < 20 := by omega
            refine ⟨.ref bk, rfl, bk, _, _, rfl, gj.obj, bf_no nj plj fj wj (by decide +kernel) (by decide +kernel) (by decide +kernel) (by decide +kernel), .str r.1, rfl, .ref a, rfl, a, _, rfl, hq, fun l2 nl2 => ?_⟩
            have s2 := same_upd (o := .lst (.str (ws en.kind) :: us')) nl2
            refine ⟨bk, r.1, B1, .ref l2, r.2.take j, en, (box0, rsj), pastj, futj, rfl, ste.same.trans s2, hbj.same s2, hij, by omega, pmj.mem_iff.mpr (List.mem_append_right _ List.mem_cons_self), by rw [← tkj]; exact take_row ro (j + 1), ⟨[.list en.parts], .cons (.lst (.inl (.inl upd_same)) (.cons (.str _) (dpa_same s2 _ _ hu))) .nil, rfl⟩, fun Hf rsf df pmf okf hbf => ?_⟩
            refine ⟨(LSt.deed (ste.pool.same s2) hij lpj (by omega) df (pmf.trans ((with_last pmj rout).append_right _)) okf hbf : LSt K T.a_Book T.a_Atlas B1 p bk Hf box0 (rsM.take i ++ [(r.1, r.2.take j ++ [en])]) (30 * i + 3 + j + 1)) |> fun h => ?_, _, rfl⟩
            rw [tkj]
            exact h
          · rintro σ Hd ⟨std, y9', rfl⟩
            rw [lxs, List.take_length] at std
            exact ⟨std.more (by omega), _, rfl⟩
        · refine ⟨.ref bk, rfl, bk, _, _, rfl, g.obj, bf_no n pl f w' (by decide +kernel) (by decide +kernel) (by decide +kernel) (by decide +kernel), .str r.1, rfl, .ref l, rfl, l, xs, rfl, .inr hlb, fun l2 nl2 => ?_⟩
          have s2 := same_upd (o := .lst xs) nl2
          refine ⟨bk, l2, r.1, B1, xs, r.2, (box0, rs0), past, fut, rfl, stb.same.trans s2, hbk.same s2, hi, by omega, by show rs0.length < 40; omega, .inl (.inl (.inl upd_same)), hrb.same s2, ro, memq pm rout, fun H9 rs9 d9 pm9 ok9 hb9 => ?_⟩
          exact ⟨(LSt.deed (stb.pool.same s2) hi lp (by omega) d9 (pm9.trans (pm.append_right _)) ok9 hb9).more (by omega), _, rfl⟩
      rintro σ' Hc ⟨stc, y9, rfl⟩
      refine ⟨.int way, rfl, rfl, _, rfl, ite2 (fun _ => ?_) (fun _ => ⟨by rw [tk]; exact stc.more (by omega), _, _, _, _, rfl⟩)⟩
      obtain ⟨rs0, past, fut, hbk, hi, pm, lp⟩ := stc.ex
      obtain ⟨dx, n, pl, f, w', ps, fs, g⟩ := id hbk
      refine ⟨.ref bk, rfl, bk, _, _, rfl, g.obj, bf_no n pl f w' (by decide +kernel) (by decide +kernel) (by decide +kernel) (by decide +kernel), .str r.1, rfl, by show 1 ≤ sizeLine; decide, fun t1 n1 => ?_⟩
      have s1 := same_upd (o := .tup [.str (PySem.Str.ofString "bare")]) n1
      refine ⟨bk, r.1, B1, .ref t1, r.2, .bare, (box0, rs0), past, fut, rfl, stc.same.trans s1, hbk.same s1, hi, by omega, pm.mem_iff.mpr (List.mem_append_right _ List.mem_cons_self), bare_more ro (by omega), rows_tup (.cons (.tup (.inl (.inl upd_same)) (.cons (.str _) .nil)) .nil), fun H9 rs9 d9 pm9 ok9 hb9 => ?_⟩
      obtain ⟨dx9, n9, pl9, f9, w9, ps9, fs9, g9⟩ := id hb9
      refine ⟨.ref bk, rfl, bk, _, _, rfl, g9.obj, bf_no n9 pl9 f9 w9 (by decide +kernel) (by decide +kernel) (by decide +kernel) (by decide +kernel), ?_⟩
      refine ⟨bk, B1, (box0, rs0), (box0, rs9), past, [], rfl, d9.1, hb9, hi.add ok9 (by omega), by decide, fun Ha da hba => ⟨?_, _, _, _, _, rfl⟩⟩
      rw [tk]
      exact (⟨da.1, da.2 p (d9.2 p (stc.pool.same s1)), rs0, past, _, hba, ⟨hi.now, hi.hpast, (fun y m => by rw [List.mem_singleton.mp m]; exact ok9), hi.few, by show 1 ≤ 1000; decide⟩, pm, lp⟩ : LSt K T.a_Book T.a_Atlas B1 p bk Ha box0 (rsM.take i ++ [r]) (30 * i + 25)).more (by omega)
    · rintro σ H6 ⟨st6, y6, y7, y8, y9, rfl⟩
      rw [lms, List.take_length] at st6
      refine ⟨fun σ' H' => LSt K T.a_Book T.a_Atlas B1 p bk H' box rsM 300 ∧ σ' = [some (.ref p), some (.ref b), some (.ref R), some (.str z), some (.bl lt), some (.ref bk), y6, y7, y8, y9], ?_, ?_⟩
      · refine ⟨.bl lt, rfl, lt, rfl, ?_⟩
        cases lt with
        | false =>
          cases le0 rfl
          exact iteF ⟨st6.more (by omega), rfl⟩
        | true =>
          refine iteT ?_
          obtain ⟨rs0, past, fut, hbk, hi, pm, lp⟩ := st6.ex
          obtain ⟨dx, n, pl, f, w', ps, fs, g⟩ := id hbk
          refine ⟨.ref bk, rfl, bk, _, _, rfl, g.obj, bf_no n pl f w' (by decide +kernel) (by decide +kernel) (by decide +kernel) (by decide +kernel), .ref b, rfl, b, _, rfl, .inr (sqt_same st6.same (sqt_same BB1 hb)), fun l2 nl2 => ?_⟩
          have s2 := same_upd (o := .lst (boxV box)) nl2
          refine ⟨bk, l2, B1, box, (box0, rs0), past, fut, rfl, st6.same.trans s2, hbk.same s2, hi, by omega, .inl (.inl (.inl upd_same)), h8, fun H9 d9 ok9 hb9 => ?_⟩
          exact ⟨(LSt.deed (st6.pool.same s2) hi lp (by omega) d9 pm ok9 hb9).more (by omega), rfl⟩
      rintro σ' H9 ⟨st9, rfl⟩
      obtain ⟨rs0, past, fut, hbk, hi, pm, lp⟩ := st9.ex
      exact ⟨.ref bk, rfl, q H9 bk rs0 past fut st9.pool (BB1.trans st9.same) (hbk.under BB1) (pm.trans pmM) hi⟩
--@@SPLIT
theorem op_mulT {X : Cx} : OpR X (binaryOp .Mult) (fun x y H Q => ∃ (z : Str) (n : Int), x = .str z ∧ y = .int n ∧ z.length ≤ 16 ∧ 0 ≤ n ∧ n ≤ 1048576 ∧ Q (.str (Txt.mul z n)) H) := by
  intro pins s σ H x y v u Q I rx ry h
  obtain ⟨z, n, rfl, rfl, hz, h0, h1, q⟩ := h
  obtain ⟨t, rfl⟩ := rx
  obtain ⟨t', rfl⟩ := ry
  exact PySem.W.KXi.mul rfl hz (by omega) (by omega) fun t' k _ _ => ⟨.str _, H, I.tok _, ⟨_, rfl⟩, q⟩
theorem RowsAt.set {K : PySem.W.Frag} {H : Hp} {vs : List V} {rs : List Row} {v : V} {r : Row} (h : RowsAt K H vs rs) (hv : RowAt K H v r) : ∀ j : Nat, RowsAt K H (vs.set j v) (rs.set j r) := by
  induction h with
  | nil => exact fun j => .nil
  | cons h1 h2 ih =>
    intro j
    cases j with
    | zero => exact .cons hv h2
    | succ j => exact .cons h1 (ih j)
theorem RowsAt.erase {K : PySem.W.Frag} {H : Hp} {vs : List V} {rs : List Row} (h : RowsAt K H vs rs) : ∀ j : Nat, RowsAt K H (vs.eraseIdx j) (rs.eraseIdx j) := by
  induction h with
  | nil => exact fun j => .nil
  | cons h1 h2 ih =>
    intro j
    cases j with
    | zero => exact h2
    | succ j => exact .cons h1 (ih j)
theorem nd_set {α : Type} {z : α} : ∀ (l : List α) (j : Nat), l.Nodup → z ∉ l → (l.set j z).Nodup
  | [], _, h, _ => h
  | x :: l, 0, h, hz => List.nodup_cons.mpr ⟨fun m => hz (List.mem_cons_of_mem _ m), (List.nodup_cons.mp h).2⟩
  | x :: l, j + 1, h, hz => List.nodup_cons.mpr ⟨fun m => by
      rcases List.mem_or_eq_of_mem_set m with h1 | h1
      · exact (List.nodup_cons.mp h).1 h1
      · exact hz (h1 ▸ List.mem_cons_self), nd_set l j (List.nodup_cons.mp h).2 (fun m => hz (List.mem_cons_of_mem _ m))⟩
/-! ### box and logs otherwise -/
def six6 : List Str := ["zzzzzzzz", "yyyyyyyy", "xxxxxxxx", "wwwwwwww", "vvvvvvvv", "uuuuuuuu"]
theorem six6_nd : six6.Nodup := by decide +kernel
theorem six6_nm : ∀ z ∈ six6, nmL z.cps.toList = true := by decide +kernel
def freeOf (ns l : List Str) : List Str := l.filter fun z => !decide (z ∈ ns)
theorem few_inB : ∀ {a b : List Str}, a.Nodup → (∀ x ∈ a, x ∈ b) → a.length ≤ b.length := fun {a b} h1 h2 => pigeon a b h1 h2
theorem six6_free {ns : List Str} (h : ns.length ≤ 5) : ∃ z r, freeOf ns six6 = z :: r ∧ z ∈ six6 ∧ z ∉ ns := by
  cases e : freeOf ns six6 with
  | nil =>
    have := few_inB six6_nd fun x m => by
      have := List.filter_eq_nil_iff.mp e x m
      simpa using this
    have l : six6.length = 6 := rfl
    omega
  | cons z r =>
    have m : z ∈ freeOf ns six6 := by rw [e]; exact List.mem_cons_self
    obtain ⟨m1, m2⟩ := List.mem_filter.mp m
    exact ⟨z, r, rfl, m1, by simpa using m2⟩
theorem six6_at {i c : Nat} (h : (PySem.Str.ofString "zyxwvu").cps.toList[i]? = some c) : six6[i]? = some (Txt.mul ⟨#[c]⟩ 8) := by
  match i, h with
  | 0, h => cases h; decide +kernel
  | 1, h => cases h; decide +kernel
  | 2, h => cases h; decide +kernel
  | 3, h => cases h; decide +kernel
  | 4, h => cases h; decide +kernel
  | 5, h => cases h; decide +kernel
/-- rows that are fit to be laid -/
structure Fit (rs : List Row) (z : Str) : Prop where
  ok : ∀ r ∈ rs, RowOk r
  len : ∀ r ∈ rs, r.2.length ≤ 20
  nd : (nms rs).Nodup
  out : z ∉ nms rs
theorem seqIx_nat {j n : Nat} (h : j < n) : seqIndex? (j : Int) n = some j := by
  unfold seqIndex?
  rw [if_neg (by omega : ¬ ((j : Int) < 0))]
  show (if (decide (0 ≤ (j : Int)) && decide ((j : Int) < (n : Int))) = true then some (j : Int).toNat else none) = some j
  rw [decide_eq_true (by omega : (0 : Int) ≤ (j : Int)), decide_eq_true (by omega : (j : Int) < (n : Int))]
  rfl
theorem nms_setR (rs : List Row) (j : Nat) (r : Row) : nms (rs.set j r) = (nms rs).set j r.1 := by
  unfold nms
  rw [List.map_set]
theorem Fit.erase {rs : List Row} {z : Str} (h : Fit rs z) (j : Nat) : Fit (rs.eraseIdx j) z where
  ok := fun r m => h.ok r (List.mem_of_mem_eraseIdx m)
  len := fun r m => h.len r (List.mem_of_mem_eraseIdx m)
  nd := h.nd.sublist ((List.eraseIdx_sublist rs j).map _)
  out := fun m => h.out (((List.eraseIdx_sublist rs j).map _).subset m)
theorem Fit.put {rs : List Row} {z y : Str} {es : List Ent} (h : Fit rs z) (j : Nat) (ok : RowOk (y, es)) (l : es.length ≤ 20) (nd : ((nms rs).set j y).Nodup) (out : z ∉ (nms rs).set j y) : Fit (rs.set j (y, es)) z where
  ok := fun r m => by
    rcases List.mem_or_eq_of_mem_set m with m | m
    · exact h.ok r m
    · rw [m]; exact ok
  len := fun r m => by
    rcases List.mem_or_eq_of_mem_set m with m | m
    · exact h.len r m
    · rw [m]; exact l
  nd := by rw [nms_setR]; exact nd
  out := by rw [nms_setR]; exact out
theorem nms_selfR {rs : List Row} {j : Nat} {r : Row} (h : rs[j]? = some r) : (nms rs).set j r.1 = nms rs := by
  obtain ⟨l, rfl⟩ := List.getElem?_eq_some_iff.mp h
  rw [← nms_setR rs j rs[j]]
  exact congrArg nms (List.set_getElem_self l)
def spOther (K : PySem.W.Frag) : Sp := fun vs H Q _ => ∃ (p b R N : Addr) (box : List Nat) (us : List V) (rs : List Row) (ns : List Str) (z : Str), vs = [.ref p, .ref b, .ref R, .ref N] ∧ Pool H p ∧ SqT K H b (boxV box) ∧ box.length = 8 ∧ H R = some (.lst us) ∧ RowsAt K H us rs ∧ Fit rs z ∧ (∀ r ∈ rs, r.2.length ≤ 10) ∧ rs.length ≤ 5 ∧ H N = some (.lst (ns.map V.str)) ∧ ns.length ≤ 5 ∧ z ∈ ns ∧ (∀ y ∈ nms rs, y ∈ ns) ∧
  ∀ H' t b' R' box' us' rs', But p H H' → Pool H' p → H' t = some (.tup [.ref b', .ref R']) → SqT K H' b' (boxV box') → box'.length = 8 → H R' = none → H' R' = some (.lst us') → RowsAt K H' us' rs' → Fit rs' z → rs'.length ≤ 5 → Q (.ref t) H'
theorem ok_Lotherwise (T : Top w K mg) : FnOk P w K mg base CX0 2 T.a_Lotherwise T.fd_Lotherwise ["_law_pool_here", "_law_box", "_law_rows", "_law_taken"] (spOther K) := by
  have G_Ltake := ok_Ltake (P := P) (w := w) (base := base) T
  refine T.F_Lotherwise.ok sc_Lotherwise (fun vs H Q E h => ?_) (fun cdv A outer s H vs Q E hr h => ?_)
  · obtain ⟨p, b, R, N, box, us, rs, ns, z, rfl, _⟩ := h
    rfl
  · obtain ⟨p, b, R, N, box, us, rs, ns, z, rfl, hp, hb, h8, hR, hus, fit, l10, lrs, hN, lns, zin, sub, q⟩ := h
    refine ⟨_, (pss_cons (ps_set (i := 4) sc_Lotherwise.nd rfl (.inl rfl) (pe_call G_Ltake hr (by rfl) T.g_Ltake T.F_Ltake.kp T.b_Ltake .nil pass0 (pa_cons (pv 0) (pa_cons pe_int pa_nil))))
      (pss_cons (ps_set (i := 2) sc_Lotherwise.nd rfl (.inl rfl) (pe_callTy call_list_of (by rfl) T.m_list (by decide +kernel) (pa_cons (pv 2) pa_nil)))
      (pss_cons (ps_set (i := 5) sc_Lotherwise.nd rfl (.inl rfl) (pe_ix ix_list (pe_lc (own := [("_law_letter", 9)]) (g := gName 9) (by rfl) sc_Lotherwise.nd (pi_str pe_str) (blkOk_by (own := [("_law_letter", 9)]) (N := ["_law_pool_here", "_law_box", "_law_rows", "_law_taken", "_law_way", "_law_fresh", "_law_at", "_law_name_here", "_law_log", "_law_letter"]) (sc := defScope s_Lotherwise) (by decide +kernel)) (fun _ _ _ _ _ => (pg_name (i := 9) sc_Lotherwise.nd rfl (Or.inl rfl))) (fun _ _ _ _ _ => (pts_one (pt_cmpR (r := rIn K true) (SeqW.notIn_K rfl) (pe_op op_mulT (pv 9) pe_int) (pv 3) (by rfl)))) (fun _ _ _ _ _ => (pe_op op_mulT (pv 9) pe_int))) pe_int (fun _ _ => rfl)))
      (pss_cons (ps_if (pt_cmpR op_eq (pv 4) pe_int (nomark _)) (pss_one (ps_ret (pe_tup (pa_cons (pe_op op_catA (pe_slice sl_tup (pv 1) po_none (po_some pe_int)) (pe_tup (pa_cons (pe_op op_add (pe_ix ix_tup (pv 1) pe_int (fun _ _ => rfl)) pe_int) pa_nil))) (pa_cons (pv 2) pa_nil))))) pss_nil)
      (pss_cons (ps_if (PW.pt (pw_or (pt_cmpR op_eq (pe_callB call_len_seq (by rfl) T.m_len (by decide +kernel) (pa_cons (pv 2) pa_nil)) pe_int (nomark _)) (pw_or1 (pt_cmpR op_gt (pv 4) pe_int (nomark _))))) (pss_one (ps_ret (pe_tup (pa_cons (pv 1) (pa_cons (pv 2) pa_nil))))) pss_nil)
      (pss_cons (ps_set (i := 6) sc_Lotherwise.nd rfl (.inl rfl) (pe_call G_Ltake hr (by rfl) T.g_Ltake T.F_Ltake.kp T.b_Ltake .nil pass0 (pa_cons (pv 0) (pa_cons (pe_callB call_len_seq (by rfl) T.m_len (by decide +kernel) (pa_cons (pv 2) pa_nil)) pa_nil))))
      (pss_cons (ps_asg (pe_ix ix_list (pv 2) (pv 6) (fun _ _ => rfl)) (pg_tup rfl (pgs_cons (pg_name (i := 7) sc_Lotherwise.nd rfl (.inl rfl)) (pgs_cons (pg_name (i := 8) sc_Lotherwise.nd rfl (.inl rfl)) pgs_nil))))
      (pss_cons (ps_if (pt_cmpR op_eq (pv 4) pe_int (nomark _)) (pss_one (ps_expr (pe_bm PySem.F.plainAttrs_list PySem.F.slot_list_pop PySem.F.type_list_pop mt_popAt (pv 2) (pa_cons (pv 6) pa_nil)))) (pss_one (ps_if (pt_cmpR op_eq (pv 4) pe_int (nomark _)) (pss_one (ps_asg (pe_tup (pa_cons (pv 7) (pa_cons (pe_op op_catA (pv 8) (pe_tup (pa_cons (pe_tup (pa_cons pe_str pa_nil)) pa_nil))) pa_nil))) (pg_sub (pv 2) (pv 6) set_list))) (pss_one (ps_asg (pe_tup (pa_cons (pv 5) (pa_cons (pv 8) pa_nil))) (pg_sub (pv 2) (pv 6) set_list))))))
      (pss_one (ps_ret (pe_tup (pa_cons (pv 1) (pa_cons (pv 2) pa_nil))))))))))))), ?_⟩
    refine ⟨.ref p, rfl, p, 8, rfl, by decide, by decide, hp, fun H1 way b1 hp1 w0 w1 => ?_⟩
    have r1000 : ∀ r ∈ rs, r.2.length ≤ 1000 := fun r hr => Nat.le_trans (l10 r hr) (by decide)
    have lstp : ∀ {c : Addr} {xs : List V}, npl (.lst xs) = true → H c = some (.lst xs) → c ≠ p := fun {c xs} n e z => by
      obtain ⟨_, _, _, _, _, h1⟩ := hp
      rw [z, h1] at e
      cases e
      cases n
    have Rp : R ≠ p := lstp (by
      cases hus with
      | nil => rfl
      | cons h1 _ => obtain ⟨_, _, e, _⟩ := h1; rw [e]; rfl) hR
    have Np : N ≠ p := lstp (by cases ns <;> rfl) hN
    have hR1 := b1 _ _ Rp hR
    have hN1 := b1 _ _ Np hN
    have hb1 := sqt_kp (Tp.but hp b1) hb
    have hus1 := hus.tp r1000 (Tp.but hp b1)
    have lus := hus.len
    refine ⟨.ref R, rfl, R, us, rfl, .inl (.inl (.inl hR1)), fun L nL => ?_⟩
    have sL := same_upd (o := .lst us) nL
    have nL0 : H L = none := b1.free (hp1.ne_new nL) nL
    have Lp : L ≠ p := hp1.ne_new nL
    have eL : upd H1 L (.lst us) L = some (.lst us) := upd_same
    have hb2 := sqt_same sL hb1
    have hN2 := sL _ _ hN1
    have hus2 := hus1.same sL
    have b2 : But p H (upd H1 L (.lst us)) := b1.trans (But.of sL)
    have hp2 := hp1.same sL
    generalize upd H1 L (.lst us) = H2 at eL hb2 hN2 hus2 b2 hp2 ⊢
    clear sL hus1 hb1 hN1 hR1 b1 hp1 nL
    refine ⟨_, rfl, fun D hD => lc_it walk_str (fun i H' => Same H2 H' ∧ H' D = some (.lst ((freeOf ns (six6.take i)).map V.str))) ⟨same_upd hD, upd_same⟩ (fun _ _ _ _ => trivial) ?_ ?_⟩
    · rintro j v H4 H5 hj ⟨sm, eD⟩ ⟨rfl, c, hc, rfl⟩
      have ht := six6_at (by rw [Array.getElem?_toList]; exact hc)
      have tk : six6.take (j + 1) = six6.take j ++ [Txt.mul ⟨#[c]⟩ 8] := by rw [List.take_add_one, ht]; rfl
      refine ⟨rfl, _, rfl, _, 8, rfl, rfl, by show 1 ≤ 16; decide, by decide, by decide, .ref N, rfl, N, _, rfl, .inl (.inl (.inl (sm _ _ hN2))), rfl, flat_strsM ns, _, rfl, ite2 (fun e2 => ?_) (fun e2 => ?_)⟩
      · have e2 : (!(inV (.str (Txt.mul ⟨#[c]⟩ 8)) (ns.map V.str))) = true := e2
        rw [in_strs] at e2
        refine ⟨_, rfl, _, 8, rfl, rfl, by show 1 ≤ 16; decide, by decide, by decide, _, eD, ?_, ?_, ?_⟩
        · rw [List.length_map]
          have h1 := List.length_filter_le (fun z => !decide (z ∈ ns)) (six6.take j)
          have h2 : (six6.take j).length ≤ 6 := by
            rw [List.length_take]
            exact Nat.min_le_right _ _
          exact small1000 (Nat.le_trans h1 (Nat.le_trans h2 (by decide)))
        · exact fun b' o e => by
            rw [upd_ne (ne_of_none e hD)]
            exact sm _ _ e
        · rw [upd_same, tk]
          unfold freeOf
          rw [List.filter_append, List.map_append, List.filter_cons, if_pos e2]
          rfl
      · have e2 : ¬ (!(inV (.str (Txt.mul ⟨#[c]⟩ 8)) (ns.map V.str))) = true := e2
        rw [in_strs] at e2
        refine ⟨sm, ?_⟩
        rw [tk]
        unfold freeOf
        rw [List.filter_append, List.filter_cons, if_neg e2, List.filter_nil, List.append_nil]
        exact eD
    rintro H4 ⟨sm, eD⟩
    have l6 : (PySem.Str.ofString "zyxwvu").cps.size = 6 := by decide +kernel
    rw [l6, show six6.take 6 = six6 from rfl] at eD
    obtain ⟨y, yr, ef, y6, yn⟩ := six6_free lns
    rw [ef] at eD
    have eL4 := sm _ _ eL
    have hb4 := sqt_same sm hb2
    have hus4 := hus2.same sm
    have b4 := b2.trans (But.of sm)
    have hp4 := hp2.same sm
    refine ⟨D, _, 0, _, rfl, rfl, .inl (.inl eD), atI_nat (j := 0) rfl, ?_⟩
    clear eD ef sm hus2 hb2 hN2 b2 hp2 hD
    refine ⟨.int way, rfl, rfl, _, rfl, ite2 (fun _ => ?_) (fun _ => ?_)⟩
    · match box, h8 with
      | [a0, a1, a2, a3, a4, a5, a6, a7], _ =>
        refine ⟨.ref b, rfl, 7, rfl, b, _, rfl, hb4, (by show ¬ (HT.sIx 8 0 none = 0 ∧ HT.sIx 8 8 (some 7) = 8); decide), fun s1 ns1 => ?_⟩
        have m1 := same_upd (o := .tup (cutV (boxV [a0, a1, a2, a3, a4, a5, a6, a7]) none (some 7))) ns1
        refine ⟨.ref b, rfl, b, _, 7, .int (a7 : Nat), rfl, rfl, sqt_same m1 hb4, rfl, (a7 : Nat), 1, rfl, rfl, by show 1 ≤ sizeLine; decide, fun t1 nt1 => ?_⟩
        have m2 := same_upd (o := .tup [.int ((a7 : Nat) + 1)]) nt1
        refine ⟨s1, t1, _, _, rfl, rfl, .inl (.inl (m2 _ _ upd_same)), .inl (.inl upd_same), by show 8 ≤ sizeLine; decide, (fun e => nomatch e), (fun _ e => nomatch e), fun _ _ c nc => ?_⟩
        have m3 := same_upd (o := .tup (cutV (boxV [a0, a1, a2, a3, a4, a5, a6, a7]) none (some 7) ++ [.int ((a7 : Nat) + 1)])) nc
        refine ⟨.ref L, rfl, by show 2 ≤ sizeLine; decide, fun t nt => ?_⟩
        have m4 := same_upd (o := .tup [.ref c, .ref L]) nt
        have m := ((m1.trans m2).trans m3).trans m4
        exact q _ t c L [a0, a1, a2, a3, a4, a5, a6, a7 + 1] us rs (b4.trans (But.of m)) (hp4.same m) upd_same (.inl (.inl (m4 _ _ upd_same))) rfl nL0 (m _ _ eL4) (hus4.same m) fit lrs
    have fin : ∀ {H' : Hp} {us' : List V} {rs' : List Row} {t : Addr}, But p H H' → Pool H' p → H' L = some (.lst us') → RowsAt K H' us' rs' → Fit rs' z → rs'.length ≤ 5 → SqT K H' b (boxV box) → H' t = none → Q (.ref t) (upd H' t (.tup [.ref b, .ref L])) := fun {H' us' rs' t} c1 c2 c3 c4 c5 c6 c7 nt => by
      have m := same_upd (o := .tup [.ref b, .ref L]) nt
      exact q _ t b L box us' rs' (c1.trans (But.of m)) (c2.same m) upd_same (sqt_same m c7) h8 nL0 (m _ _ c3) (c4.same m) c5 c6
    have l2 : 2 ≤ sizeLine := by decide
    refine ⟨.ref L, rfl, L, us, rfl, .inl (.inl (.inl eL4)), rfl, _, rfl, ite2 (fun _ => ?_) (fun z0 => ?_)⟩
    · exact ⟨.ref b, rfl, .ref L, rfl, l2, fun t nt => fin b4 hp4 eL4 hus4 fit lrs hb4 nt⟩
    have pos : 0 < us.length := Nat.pos_of_ne_zero fun e => z0 (decide_eq_true (by rw [e]; rfl))
    refine ⟨.int way, rfl, way, 3, rfl, rfl, _, rfl, ite2 (fun _ => ?_) (fun _ => ?_)⟩
    · exact ⟨.ref b, rfl, .ref L, rfl, l2, fun t nt => fin b4 hp4 eL4 hus4 fit lrs hb4 nt⟩
    refine ⟨.ref p, rfl, .ref L, rfl, L, us, rfl, .inl (.inl (.inl eL4)), p, (us.length : Nat), rfl, by omega, by omega, hp4, fun H5 k b5 hp5 k0 k1 => ?_⟩
    obtain ⟨j, rfl⟩ : ∃ j : Nat, k = j := ⟨k.toNat, by omega⟩
    have hj : j < us.length := by omega
    obtain ⟨v, hv⟩ : ∃ v, us[j]? = some v := ⟨_, List.getElem?_eq_getElem hj⟩
    have eL5 := b5 _ _ Lp eL4
    have k5 := Kp.but hp4 b5
    have hb5 := sqt_kp k5.tp hb4
    have hus5 := hus4.tp r1000 k5.tp
    have b5 := b4.trans b5
    obtain ⟨r, fr, t, l, rfl, ht, hl⟩ := hus5.at_ hv
    have rin : r ∈ rs := List.mem_of_getElem? fr
    have ro := fit.ok r rin
    refine ⟨.ref L, rfl, .int (j : Nat), rfl, L, us, (j : Nat), .ref t, rfl, rfl, .inl (.inl eL5), atI_nat hv, t, _, rfl, .inl (.inl ht), rfl, _, _, rfl, _, _, rfl, rfl, ?_⟩
    have lset : ∀ {r' : Row}, (rs.set j r').length ≤ 5 := fun {r'} => by rw [List.length_set]; exact lrs
    refine ⟨.int way, rfl, rfl, _, rfl, ite2 (fun _ => ?_) (fun _ => ⟨.int way, rfl, rfl, _, rfl, ite2 (fun _ => ?_) (fun _ => ?_)⟩)⟩
    · refine ⟨.ref L, rfl, .inl ⟨rfl, _, .inl (.inl eL5)⟩, .int (j : Nat), rfl, L, us, (j : Nat), j, .ref t, rfl, rfl, eL5, by omega, by omega, seqIx_nat hj, hv, ?_⟩
      exact ⟨.ref b, rfl, .ref L, rfl, l2, fun t2 nt => fin (b5.mut nL0) (hp5.upd Lp) upd_same ((hus5.tp r1000 (Tp.lst eL5)).erase j) (fit.erase j) (Nat.le_trans (List.length_eraseIdx_le _ _) lrs) (sqt_kp (Tp.lst eL5) hb5) nt⟩
    · cases hl with
      | @tup _ xs _ hl1 hl2 =>
        refine ⟨.str r.1, rfl, .ref l, rfl, by show 1 ≤ sizeLine; decide, fun t1 n1 => ⟨by show 1 ≤ sizeLine; decide, fun t2 n2 => ?_⟩⟩
        have s1 := same_upd (o := .tup [.str (PySem.Str.ofString "bare")]) n1
        have s2 := same_upd (o := .tup [.ref t1]) n2
        have s12 := s1.trans s2
        generalize eH : upd (upd H5 t1 (.tup [.str (PySem.Str.ofString "bare")])) t2 (.tup [.ref t1]) = H7 at s12 s2
        have e1 : H7 t1 = some (.tup [.str (PySem.Str.ofString "bare")]) := s2 _ _ upd_same
        have e2 : H7 t2 = some (.tup [.ref t1]) := by rw [← eH]; exact upd_same
        have lx : xs.length = (r.2.map Ent.tup).length := dpa_len _ _ hl2
        rw [List.length_map] at lx
        have lr := l10 r rin
        have hbare : Dp K H7 (.ref t1) Ent.bare.tup := .tup (.inl (.inl e1)) (.cons (.str _) .nil)
        have es1 : RowOk (r.1, r.2 ++ [.bare]) := bare_more ro (by omega)
        have les : (r.2 ++ [Ent.bare]).length ≤ 20 := by rw [List.length_append]; show r.2.length + 1 ≤ 20; omega
        have self : (nms rs).set j r.1 = nms rs := nms_selfR fr
        have fit' := fit.put j es1 les (by rw [self]; exact fit.nd) (by rw [self]; exact fit.out)
        have go : ∀ {H8 : Hp} {c : Addr}, Same H5 H8 → Dp K H8 (.ref c) (logD (r.1, r.2 ++ [.bare])) → ∀ t3, H8 t3 = none → rSetL (.ref L) (.int (j : Nat)) (.ref t3) (upd H8 t3 (.tup [.str r.1, .ref c])) fun H9 => tRet (tTup (tCons (tVar 1) (tCons (tVar 2) tNil))) { nx := fun x H' => Q V.non H', rt := Q } [some (.ref p), some (.ref b), some (.ref L), some (.ref N), some (.int way), some (.str y), some (.int (j : Nat)), some (.str r.1), some (.ref l), none] H9 := fun {H8 c} m8 hd t3 n3 => by
          have m := same_upd (o := .tup [.str r.1, .ref c]) n3
          have m59 := m8.trans m
          have eL6 := m59 _ _ eL5
          refine ⟨L, us, (j : Nat), j, rfl, rfl, eL6, Evl.ixN_nat hj, ?_⟩
          have row6 : RowAt K (upd H8 t3 (.tup [.str r.1, .ref c])) (.ref t3) (r.1, r.2 ++ [.bare]) := ⟨t3, c, rfl, upd_same, dp_same m _ _ hd⟩
          exact ⟨.ref b, rfl, .ref L, rfl, l2, fun t4 nt4 => fin ((b5.trans (But.of m59)).mut nL0) ((hp5.same m59).upd Lp) upd_same (((hus5.same m59).tp r1000 (Tp.lst eL6)).set (row6.tp (Nat.le_trans les (by decide)) (Tp.lst eL6)) j) fit' lset (sqt_kp (Tp.lst eL6) (sqt_same m59 hb5)) nt4⟩
        refine ⟨l, t2, xs, [.ref t1], rfl, rfl, sqt_same s12 hl1, .inl (.inl e2), Nat.le_trans (by rw [lx]; show r.2.length + 1 ≤ 1000; omega) (by decide), (fun z => ?_), (fun _ z => nomatch z), fun _ _ c nc => ?_⟩
        · have r0 : r.2 = [] := List.eq_nil_of_length_eq_zero (by rw [← lx, z]; rfl)
          refine ⟨by show 2 ≤ sizeLine; exact l2, fun t3 n3 => ?_⟩
          exact ⟨.ref L, rfl, .int (j : Nat), rfl, go s12 (by unfold logD; rw [r0]; exact .tup (.inl (.inl e2)) (.cons hbare .nil)) t3 n3⟩
        · have m := same_upd (o := .tup (xs ++ [.ref t1])) nc
          refine ⟨by show 2 ≤ sizeLine; exact l2, fun t3 n3 => ?_⟩
          exact ⟨.ref L, rfl, .int (j : Nat), rfl, go (s12.trans m) (by
            unfold logD
            rw [List.map_append]
            exact .tup (.inl (.inl upd_same)) (dpa_snoc (dp_same m _ _ hbare) _ _ (dpa_same (s12.trans m) _ _ hl2))) t3 n3⟩
    · refine ⟨.str y, rfl, .ref l, rfl, l2, fun t2 nt => ?_⟩
      have m := same_upd (o := .tup [.str y, .ref l]) nt
      have eL6 := m _ _ eL5
      have y1 : y ∉ nms rs := fun h => yn (sub y h)
      have yz : z ≠ y := fun e => yn (e ▸ zin)
      refine ⟨.ref L, rfl, .int (j : Nat), rfl, L, us, (j : Nat), j, rfl, rfl, eL6, Evl.ixN_nat hj, ?_⟩
      have row6 : RowAt K (upd H5 t2 (.tup [.str y, .ref l])) (.ref t2) (y, r.2) := ⟨t2, l, rfl, upd_same, dp_same m _ _ hl⟩
      exact ⟨.ref b, rfl, .ref L, rfl, l2, fun t3 nt3 => fin ((b5.trans (But.of m)).mut nL0) ((hp5.same m).upd Lp) upd_same (((hus5.same m).tp r1000 (Tp.lst eL6)).set (row6.tp (r1000 r rin) (Tp.lst eL6)) j) (fit.put j ⟨six6_nm y y6, ro.ok, ro.right, ro.len⟩ (Nat.le_trans (l10 r rin) (by decide)) (nd_set _ j fit.nd y1) (fun h => by
        rcases List.mem_or_eq_of_mem_set h with h | h
        · exact fit.out h
        · exact yz h)) lset (sqt_kp (Tp.lst eL6) (sqt_same m hb5)) nt3⟩
--@@SPLIT
theorem ok_Lwhole (T : Top w K mg) : FnOk P w K mg base CX0 1 T.a_Lwhole T.fd_Lwhole ["_law_thing"] spWhole := by
  refine T.F_Lwhole.ok sc_Lwhole (fun vs H Q E h => ?_) (fun cdv A outer s H vs Q E hr h => ?_)
  · obtain ⟨i, rfl, _⟩ := h
    rfl
  · obtain ⟨i, rfl, q⟩ := h
    refine ⟨_, (pss_one (ps_ret (pe_and (pe_callB call_isi (by rfl) T.m_isinstance (by decide +kernel) (pa_cons (pv 0) (pa_cons (pe_bltn (v := .ty "int") (by rfl) T.m_int (by decide +kernel) rfl) pa_nil))) (pe_one (pe_not (pe_callB call_isi (by rfl) T.m_isinstance (by decide +kernel) (pa_cons (pv 0) (pa_cons (pe_bltn (v := .ty "bool") (by rfl) T.m_bool (by decide +kernel) rfl) pa_nil)))))))), ?_⟩
    refine ⟨.int i, rfl, _, _, _, _, true, rfl, .ty _, .base (.int i), kit_ty (by decide +kernel), _, rfl, iteT ?_⟩
    exact ⟨.int i, rfl, _, _, _, _, false, rfl, .ty _, .base (.int i), kit_ty (by decide +kernel), _, rfl, q⟩
def spSame (K : PySem.W.Frag) (n : Nat) : Sp := fun vs H Q _ => ∃ (x y : V) (d : PyData), vs = [x, y] ∧ Dp K H x d ∧ Dp K H y d ∧ okD n d = true ∧ ∀ H', Same H H' → Q (.bl true) H'
theorem ok_Lsame0 (T : Top w K mg) : FnOk P w K mg base CX0 2 T.a_Lsame T.fd_Lsame ["_law_found", "_law_due"] (spSame K 0) := by
  have G_Lwhole := ok_Lwhole (P := P) (w := w) (base := base) T
  refine T.F_Lsame.ok sc_Lsame (fun vs H Q E h => ?_) (fun cdv A outer s H vs Q E hr h => ?_)
  · obtain ⟨x, y, d, rfl, _⟩ := h
    rfl
  · obtain ⟨x, y, d, rfl, hx, hy, ok, q⟩ := h
    refine ⟨_, (pss_cons (ps_if (pt_val (pe_callB call_isi (by rfl) T.m_isinstance (by decide +kernel) (pa_cons (pv 1) (pa_cons (pe_bltn (v := .ty "tuple") (by rfl) T.m_tuple (by decide +kernel) rfl) pa_nil)))) pss_never pss_nil)
      (pss_cons (ps_if (pt_cmpR op_isN (pv 1) pe_non (nomark _)) (pss_one (ps_ret (pe_cmpR op_isN (pv 0) pe_non (nomark _)))) pss_nil)
      (pss_cons (ps_if (pt_val (pe_callB call_isi (by rfl) T.m_isinstance (by decide +kernel) (pa_cons (pv 1) (pa_cons (pe_bltn (v := .ty "bool") (by rfl) T.m_bool (by decide +kernel) rfl) pa_nil)))) (pss_one (ps_ret (pe_and (pe_callB call_isi (by rfl) T.m_isinstance (by decide +kernel) (pa_cons (pv 0) (pa_cons (pe_bltn (v := .ty "bool") (by rfl) T.m_bool (by decide +kernel) rfl) pa_nil))) (pe_one (pe_cmpR op_eq (pv 0) (pv 1) (nomark _)))))) pss_nil)
      (pss_cons (ps_if (pt_val (pe_callB call_isi (by rfl) T.m_isinstance (by decide +kernel) (pa_cons (pv 1) (pa_cons (pe_bltn (v := .ty "str") (by rfl) T.m_str (by decide +kernel) rfl) pa_nil)))) (pss_one (ps_ret (pe_and (pe_callB call_isi (by rfl) T.m_isinstance (by decide +kernel) (pa_cons (pv 0) (pa_cons (pe_bltn (v := .ty "str") (by rfl) T.m_str (by decide +kernel) rfl) pa_nil))) (pe_one (pe_cmpR op_eq (pv 0) (pv 1) (nomark _)))))) pss_nil)
      (pss_one (ps_ret (pe_and (pe_call G_Lwhole (hr.mono (by omega)) (by rfl) T.g_Lwhole T.F_Lwhole.kp T.b_Lwhole .nil pass0 (pa_cons (pv 0) pa_nil)) (pe_one (pe_cmpR op_eq (pv 0) (pv 1) (nomark _)))))))))), ?_⟩
    have Q0 := q H (Same.refl H)
    cases d with
    | none =>
      cases hx
      cases hy
      exact ⟨.non, rfl, _, _, _, _, false, rfl, .ty _, .base .non, kit_ty (by decide +kernel), _, rfl, iteF ⟨.non, rfl, rfl, _, rfl, iteT ⟨.non, rfl, rfl, Q0⟩⟩⟩
    | bool b =>
      cases hx
      cases hy
      refine ⟨.bl b, rfl, _, _, _, _, false, rfl, .ty _, .base (.bl b), kit_ty (by decide +kernel), _, rfl, iteF ⟨.bl b, rfl, rfl, _, rfl, iteF ?_⟩⟩
      refine ⟨.bl b, rfl, _, _, _, _, true, rfl, .ty _, .base (.bl b), kit_ty (by decide +kernel), _, rfl, iteT ?_⟩
      refine ⟨.bl b, rfl, _, _, _, _, true, rfl, .ty _, .base (.bl b), kit_ty (by decide +kernel), _, rfl, iteT ⟨.bl b, rfl, .bl b, rfl, rfl, ?_⟩⟩
      rw [decide_eq_true rfl]
      exact Q0
    | int i =>
      cases hx
      cases hy
      refine ⟨.int i, rfl, _, _, _, _, false, rfl, .ty _, .base (.int i), kit_ty (by decide +kernel), _, rfl, iteF ⟨.int i, rfl, rfl, _, rfl, iteF ?_⟩⟩
      refine ⟨.int i, rfl, _, _, _, _, false, rfl, .ty _, .base (.int i), kit_ty (by decide +kernel), _, rfl, iteF ?_⟩
      refine ⟨.int i, rfl, _, _, _, _, false, rfl, .ty _, .base (.int i), kit_ty (by decide +kernel), _, rfl, iteF ?_⟩
      refine ⟨.int i, rfl, i, rfl, _, rfl, iteT ⟨.int i, rfl, .int i, rfl, rfl, ?_⟩⟩
      rw [decide_eq_true rfl]
      exact Q0
    | str z =>
      cases hx
      cases hy
      refine ⟨.str z, rfl, _, _, _, _, false, rfl, .ty _, .base (.str z), kit_ty (by decide +kernel), _, rfl, iteF ⟨.str z, rfl, rfl, _, rfl, iteF ?_⟩⟩
      refine ⟨.str z, rfl, _, _, _, _, false, rfl, .ty _, .base (.str z), kit_ty (by decide +kernel), _, rfl, iteF ?_⟩
      refine ⟨.str z, rfl, _, _, _, _, true, rfl, .ty _, .base (.str z), kit_ty (by decide +kernel), _, rfl, iteT ?_⟩
      refine ⟨.str z, rfl, _, _, _, _, true, rfl, .ty _, .base (.str z), kit_ty (by decide +kernel), _, rfl, iteT ⟨.str z, rfl, .str z, rfl, rfl, ?_⟩⟩
      rw [decide_eq_true rfl]
      exact Q0
    | list ds => cases ok
    | tuple ds => cases ok
    | dict ds => cases ok
theorem ok_LsameS (T : Top w K mg) {n : Nat} (G_Lsame : FnOk P w K mg base CX0 (n + 2) T.a_Lsame T.fd_Lsame ["_law_found", "_law_due"] (spSame K n)) : FnOk P w K mg base CX0 (n + 3) T.a_Lsame T.fd_Lsame ["_law_found", "_law_due"] (spSame K (n + 1)) := by
  have G_Lwhole := ok_Lwhole (P := P) (w := w) (base := base) T
  refine T.F_Lsame.ok sc_Lsame (fun vs H Q E h => ?_) (fun cdv A outer s H vs Q E hr h => ?_)
  · obtain ⟨x, y, d, rfl, _⟩ := h
    rfl
  · obtain ⟨x, y, d, rfl, hx, hy, ok, q⟩ := h
    refine ⟨_, (pss_cons (ps_if (pt_val (pe_callB call_isi (by rfl) T.m_isinstance (by decide +kernel) (pa_cons (pv 1) (pa_cons (pe_bltn (v := .ty "tuple") (by rfl) T.m_tuple (by decide +kernel) rfl) pa_nil)))) (pss_cons (ps_if (PW.pt (pw_or (pt_not (pt_val (pe_callB call_isi (by rfl) T.m_isinstance (by decide +kernel) (pa_cons (pv 0) (pa_cons (pe_bltn (v := .ty "tuple") (by rfl) T.m_tuple (by decide +kernel) rfl) pa_nil))))) (pw_or1 (pt_cmpR op_ne (pe_callB call_len_seq (by rfl) T.m_len (by decide +kernel) (pa_cons (pv 0) pa_nil)) (pe_callB call_len_seq (by rfl) T.m_len (by decide +kernel) (pa_cons (pv 1) pa_nil)) (nomark _))))) (pss_one (ps_ret pe_bl)) pss_nil)
      (pss_one (ps_ret (pe_callB (cr_all rfl) (by rfl) T.m_all (by decide +kernel) (pa_cons (pe_lc (own := [("_law_one", 2), ("_law_other", 3)]) (g := gTup K 2 (gCons (gName 2) (gCons (gName 3) gNil))) (by rfl) sc_Lsame.nd (RZ.pi_zipA (by rfl) T.m_zip (pa_cons (pv 0) (pa_cons (pv 1) pa_nil))) (blkOk_by (own := [("_law_one", 2), ("_law_other", 3)]) (N := ["_law_found", "_law_due", "_law_one", "_law_other"]) (sc := defScope s_Lsame) (by decide +kernel)) (fun _ _ _ _ _ => (pg_tup rfl (pgs_cons (pg_name (i := 2) sc_Lsame.nd rfl (Or.inl rfl)) (pgs_cons (pg_name (i := 3) sc_Lsame.nd rfl (Or.inl rfl)) pgs_nil)))) (fun _ _ _ _ _ => pts_nil) (fun _ _ _ _ _ => (pe_call G_Lsame hr (by rfl) T.g_Lsame T.F_Lsame.kp T.b_Lsame .nil pass0 (pa_cons (pv 2) (pa_cons (pv 3) pa_nil))))) pa_nil))))) pss_nil)
      (pss_cons (ps_if (pt_cmpR op_isN (pv 1) pe_non (nomark _)) (pss_one (ps_ret (pe_cmpR op_isN (pv 0) pe_non (nomark _)))) pss_nil)
      (pss_cons (ps_if (pt_val (pe_callB call_isi (by rfl) T.m_isinstance (by decide +kernel) (pa_cons (pv 1) (pa_cons (pe_bltn (v := .ty "bool") (by rfl) T.m_bool (by decide +kernel) rfl) pa_nil)))) (pss_one (ps_ret (pe_and (pe_callB call_isi (by rfl) T.m_isinstance (by decide +kernel) (pa_cons (pv 0) (pa_cons (pe_bltn (v := .ty "bool") (by rfl) T.m_bool (by decide +kernel) rfl) pa_nil))) (pe_one (pe_cmpR op_eq (pv 0) (pv 1) (nomark _)))))) pss_nil)
      (pss_cons (ps_if (pt_val (pe_callB call_isi (by rfl) T.m_isinstance (by decide +kernel) (pa_cons (pv 1) (pa_cons (pe_bltn (v := .ty "str") (by rfl) T.m_str (by decide +kernel) rfl) pa_nil)))) (pss_one (ps_ret (pe_and (pe_callB call_isi (by rfl) T.m_isinstance (by decide +kernel) (pa_cons (pv 0) (pa_cons (pe_bltn (v := .ty "str") (by rfl) T.m_str (by decide +kernel) rfl) pa_nil))) (pe_one (pe_cmpR op_eq (pv 0) (pv 1) (nomark _)))))) pss_nil)
      (pss_one (ps_ret (pe_and (pe_call G_Lwhole (hr.mono (by omega)) (by rfl) T.g_Lwhole T.F_Lwhole.kp T.b_Lwhole .nil pass0 (pa_cons (pv 0) pa_nil)) (pe_one (pe_cmpR op_eq (pv 0) (pv 1) (nomark _)))))))))), ?_⟩
    have Q0 := q H (Same.refl H)
    cases d with
    | none =>
      cases hx
      cases hy
      exact ⟨.non, rfl, _, _, _, _, false, rfl, .ty _, .base .non, kit_ty (by decide +kernel), _, rfl, iteF ⟨.non, rfl, rfl, _, rfl, iteT ⟨.non, rfl, rfl, Q0⟩⟩⟩
    | bool b =>
      cases hx
      cases hy
      refine ⟨.bl b, rfl, _, _, _, _, false, rfl, .ty _, .base (.bl b), kit_ty (by decide +kernel), _, rfl, iteF ⟨.bl b, rfl, rfl, _, rfl, iteF ?_⟩⟩
      refine ⟨.bl b, rfl, _, _, _, _, true, rfl, .ty _, .base (.bl b), kit_ty (by decide +kernel), _, rfl, iteT ?_⟩
      refine ⟨.bl b, rfl, _, _, _, _, true, rfl, .ty _, .base (.bl b), kit_ty (by decide +kernel), _, rfl, iteT ⟨.bl b, rfl, .bl b, rfl, rfl, ?_⟩⟩
      rw [decide_eq_true rfl]
      exact Q0
    | int i =>
      cases hx
      cases hy
      refine ⟨.int i, rfl, _, _, _, _, false, rfl, .ty _, .base (.int i), kit_ty (by decide +kernel), _, rfl, iteF ⟨.int i, rfl, rfl, _, rfl, iteF ?_⟩⟩
      refine ⟨.int i, rfl, _, _, _, _, false, rfl, .ty _, .base (.int i), kit_ty (by decide +kernel), _, rfl, iteF ?_⟩
      refine ⟨.int i, rfl, _, _, _, _, false, rfl, .ty _, .base (.int i), kit_ty (by decide +kernel), _, rfl, iteF ?_⟩
      refine ⟨.int i, rfl, i, rfl, _, rfl, iteT ⟨.int i, rfl, .int i, rfl, rfl, ?_⟩⟩
      rw [decide_eq_true rfl]
      exact Q0
    | str z =>
      cases hx
      cases hy
      refine ⟨.str z, rfl, _, _, _, _, false, rfl, .ty _, .base (.str z), kit_ty (by decide +kernel), _, rfl, iteF ⟨.str z, rfl, rfl, _, rfl, iteF ?_⟩⟩
      refine ⟨.str z, rfl, _, _, _, _, false, rfl, .ty _, .base (.str z), kit_ty (by decide +kernel), _, rfl, iteF ?_⟩
      refine ⟨.str z, rfl, _, _, _, _, true, rfl, .ty _, .base (.str z), kit_ty (by decide +kernel), _, rfl, iteT ?_⟩
      refine ⟨.str z, rfl, _, _, _, _, true, rfl, .ty _, .base (.str z), kit_ty (by decide +kernel), _, rfl, iteT ⟨.str z, rfl, .str z, rfl, rfl, ?_⟩⟩
      rw [decide_eq_true rfl]
      exact Q0
    | list ds => cases ok
    | dict ds => cases ok
    | tuple ds =>
      cases hx with
      | @tup a xs _ sx ax =>
        cases hy with
        | @tup b ys _ sy ay =>
          have lx := dpa_len ds xs ax
          have ly := dpa_len ds ys ay
          obtain ⟨okL, okA⟩ := Bool.and_eq_true_iff.mp (show (decide (ds.length ≤ 1000) && ds.all fun d => okD n d) = true from ok)
          have okl : ds.length ≤ 1000 := of_decide_eq_true okL
          refine ⟨.ref b, rfl, _, _, _, _, true, rfl, .ty _, ty_tup sy, kit_ty (by decide +kernel), _, rfl, iteT ?_⟩
          refine ⟨.ref a, rfl, _, _, _, _, true, rfl, .ty _, ty_tup sx, kit_ty (by decide +kernel), _, rfl, iteF ?_⟩
          refine ⟨.ref a, rfl, a, xs, rfl, .inr sx, .ref b, rfl, b, ys, rfl, .inr sy, rfl, _, rfl, iteN (by rw [lx, ly]) ?_⟩
          refine ⟨.ref a, rfl, .ref b, rfl, a, b, xs, ys, rfl, .inr ⟨sx, sy, fun D hD => lc_it (walk_zipT (xs := xs) (ys := ys) (n := ds.length) (by omega)) (fun i H' => Same H H' ∧ H' D = some (.lst ((List.replicate i true).map V.bl))) ⟨same_upd hD, upd_same⟩ (fun i H' _ h => ⟨sqt_same h.1 sx, sqt_same h.1 sy⟩) ?_ ?_⟩⟩
          · rintro i v H1 H2 hi ⟨sm, eD⟩ ⟨t, u1, u2, rfl, nt, rfl, e1, e2⟩
            have st : Same H1 (upd H1 t (.tup [u1, u2])) := same_upd nt
            obtain ⟨d1, f1, g1⟩ := dpa_at ds xs ax i u1 e1
            obtain ⟨d2, f2, g2⟩ := dpa_at ds ys ay i u2 e2
            have ed : d2 = d1 := Option.some.inj (f2.symm.trans f1)
            subst ed
            have okd : okD n d2 = true := List.all_eq_true.mp okA d2 (List.mem_of_getElem? f1)
            refine ⟨t, [u1, u2], rfl, .inl (.inl upd_same), rfl, u1, [u2], rfl, u2, [], rfl, rfl, rfl, ?_⟩
            refine ⟨u1, rfl, u2, rfl, u1, u2, d2, rfl, dp_same (sm.trans st) d2 u1 g1, dp_same (sm.trans st) d2 u2 g2, okd, fun H3 s3 => ?_⟩
            refine ⟨_, s3 _ _ (st _ _ eD), ?_, ?_, ?_⟩
            · rw [List.length_map, List.length_replicate]
              exact small1000 (by omega)
            · exact fun b' o e => by
                rw [upd_ne (ne_of_none e hD)]
                exact s3 _ _ (st _ _ (sm _ _ e))
            · rw [upd_same, List.replicate_succ', List.map_append]
              rfl
          · rintro H1 ⟨sm, eD⟩
            refine ⟨_, List.replicate ds.length true, rfl, .inl (.inl eD), ?_⟩
            rw [all_true]
            exact q _ sm
theorem ok_Lsame (T : Top w K mg) : ∀ n : Nat, FnOk P w K mg base CX0 (n + 2) T.a_Lsame T.fd_Lsame ["_law_found", "_law_due"] (spSame K n)
  | 0 => ok_Lsame0 T
  | n + 1 => ok_LsameS T (ok_Lsame T n)
/-- == of own objects within a comprehension -/
theorem op_eqOK {X : Cx} {P : Program} {w : World} {K : PySem.W.Frag} {mg : Str → Option Value} {base : Heap} {A : Around} {n : Nat} {C f : Addr} {fd : FuncData} {ps : List Str} {sp : Sp} (F : FnOk P w K mg base CX0 n f fd ps sp)
    (hs : PySem.W.findIn K (.ref C) "__eq__" = some (some (.ref f))) (hf : PySem.W.isFn K (.ref f) = true) (hb : Binds K fd ps []) (hr : Room n A) (e : X.prog = P ∧ X.w = w ∧ X.K = K ∧ X.mg = mg ∧ X.base = base ∧ X.A = A) : OpR X (compareOp .Eq) (OwnE.rEqO K C sp E0) := by
  obtain ⟨rfl, rfl, rfl, rfl, rfl, rfl⟩ := e
  exact OwnE.op_eqO F hs hf hb pass0 hr
/-- an own class that is another's stranger -/
theorem kit_tyR {K : PySem.W.Frag} {A C : Addr} (h1 : PySem.W.isClsIn K C = true) (h2 : PySem.W.typeIn K (.ref C) = some (.type "type")) (h3 : PySem.W.subIn K (.ref A) (.ref C) = some false) (h4 : PySem.W.subIn K (.ref C) (.ref C) = some true) : PySem.W.kitOne K (.ref A) (.ref C) = some false := by
  have ne : A ≠ C := fun e => by
    rw [e, h4] at h3
    cases h3
  have nb : (Value.ref A == Value.ref C) = false := by simp [ne]
  unfold PySem.W.kitOne
  rw [nb, if_neg Bool.false_ne_true]
  show (if ((PySem.W.clsIn K C).isSome && PySem.W.typeIn K (.ref C) == some (.type "type")) = true then PySem.W.subIn K (.ref A) (.ref C) else none) = some false
  rw [if_pos (by rw [show (PySem.W.clsIn K C).isSome = true from h1, h2]; rfl)]
  exact h3
theorem cut_to (xs : List V) (n : Nat) (h : n ≤ xs.length) : cutV xs none (some (n : Int)) = xs.take n := by
  unfold cutV
  have e1 : HT.sIx xs.length 0 none = 0 := rfl
  have e2 : HT.sIx xs.length xs.length (some (n : Int)) = n := by
    unfold HT.sIx
    simp only []
    split <;> omega
  rw [e1, e2]
  rfl
theorem nms_succ {rs : List Row} {i : Nat} {r : Row} (h : rs[i]? = some r) : (nms (rs.take (i + 1))).map V.str = (nms (rs.take i)).map V.str ++ [.str r.1] := by
  rw [List.take_add_one, h]
  unfold nms
  rw [List.map_append, List.map_append]
  rfl
/-! ### the law -/
/-- one thing that is no book -/
def OddB (K : PySem.W.Frag) (C : Addr) (H : Hp) (v : V) : Prop := ∃ t, TyX K H v t ∧ PySem.W.notFirst K C t = true ∧ PySem.W.kitOne K t (.ref C) = some false
theorem nf_sub {K : PySem.W.Frag} {C : Addr} {t : Value} (h : PySem.W.subIn K t (.ref C) = some false) : PySem.W.notFirst K C t = true := by
  unfold PySem.W.notFirst
  rw [h]
  simp
def spLaw (K : PySem.W.Frag) : Sp := fun vs H Q _ => ∃ (a : Addr) (ns : List Int), vs = [.ref a] ∧ SqL K H a (ns.map V.int) ∧ ns.length ≤ 63 ∧ ∀ H', Q (.bl true) H'
theorem ok_law (T : Top w K mg) : FnOk P w K mg base CX0 13 T.a_law T.fd_law ["_law_script"] (spLaw K) := by
  have G_Lpool := ok_Lpool (P := P) (w := w) (base := base) T
  have G_Ltake := ok_Ltake (P := P) (w := w) (base := base) T
  have G_Lnames := ok_Lnames (P := P) (w := w) (base := base) T
  have G_Lsigns := ok_Lsigns3 (P := P) (w := w) (base := base) T
  have G_Lsome_box := ok_Lsome_box (P := P) (w := w) (base := base) T
  have G_Lshort_log := ok_Lshort_log (P := P) (w := w) (base := base) T
  have G_Llaid := ok_Llaid (P := P) (w := w) (base := base) T
  have G_Lotherwise := ok_Lotherwise (P := P) (w := w) (base := base) T
  have G_Atlas_init := ok_Atlas_init (P := P) (w := w) (base := base) T
  have G_Atlas_eq := ok_Atlas_eqA (P := P) (w := w) (base := base) T
  have G_Book_eq := ok_Book_eq (P := P) (w := w) (base := base) T
  have G_Book_atlas := ok_Book_atlas (P := P) (w := w) (base := base) T
  have G_Lsame := ok_Lsame (P := P) (w := w) (base := base) T 1
  refine T.F_law.ok sc_law (fun vs H Q E h => ?_) (fun cdv A outer s H vs Q E hr h => ?_)
  · obtain ⟨a, ns, rfl, _⟩ := h
    rfl
  · obtain ⟨a, ns, rfl, hS, hlen, q⟩ := h
    refine ⟨_, (pss_cons (ps_set (i := 1) sc_law.nd rfl (.inr rfl) (pe_call G_Lpool (hr.mono (by decide)) (by rfl) T.g_Lpool T.F_Lpool.kp T.b_Lpool .nil pass0 (pa_cons (pv 0) (pa_cons pe_int pa_nil))))
      (pss_cons (ps_set (i := 2) sc_law.nd rfl (.inl rfl) (pe_call G_Lnames (hr.mono (by decide)) (by rfl) T.g_Lnames T.F_Lnames.kp T.b_Lnames .nil pass0 (pa_cons (pv 1) (pa_cons pe_int pa_nil))))
      (pss_cons (ps_set (i := 3) sc_law.nd rfl (.inr rfl) (pe_call G_Lsigns (hr.mono (by decide)) (by rfl) T.g_Lsigns T.F_Lsigns.kp T.b_Lsigns .nil pass0 (pa_cons (pv 1) pa_nil)))
      (pss_cons (ps_set (i := 4) sc_law.nd rfl (.inl rfl) (pe_call G_Lsome_box (hr.mono (by decide)) (by rfl) T.g_Lsome_box T.F_Lsome_box.kp T.b_Lsome_box .nil pass0 (pa_cons (pv 1) (pa_cons pe_int pa_nil))))
      (pss_cons (ps_set (i := 5) sc_law.nd rfl (.inl rfl) (pe_bm0 PySem.F.plainAttrs_list PySem.F.slot_list_pop PySem.F.type_list_pop mt_pop (pv 2)))
      (pss_cons (ps_setLc (i := 6) (own := [("_law_name_here", 13)]) (g := gName 13) (by rfl) sc_law.nd rfl rfl (sw_true rfl rfl rfl (by decide +kernel)) (pi_list (pe_slice sl_list (pv 2) po_none (po_some (pe_call G_Ltake (hr.mono (by decide)) (by rfl) T.g_Ltake T.F_Ltake.kp T.b_Ltake .nil pass0 (pa_cons (pv 1) (pa_cons pe_int pa_nil)))))) (blkOk_by (own := [("_law_name_here", 13)]) (N := ["_law_script", "_law_pool_here", "_law_names_here", "_law_signs_here", "_law_box", "_law_spare", "_law_rows", "_law_one", "_law_there", "_law_others", "_law_two", "_law_due", "_law_said", "_law_name_here", "_law_thing", "_law_row"]) (sc := defScope s_law) (by decide +kernel)) (fun _ _ _ _ _ => (pg_name (i := 13) sc_law.nd rfl (Or.inl rfl))) (fun _ _ _ _ _ => pts_nil) (fun _ _ _ _ _ => (pe_tup (pa_cons (pv 13) (pa_cons (pe_call G_Lshort_log (hr.mono (by decide)) (by rfl) T.g_Lshort_log T.F_Lshort_log.kp T.b_Lshort_log .nil pass0 (pa_cons (pv 1) (pa_cons (pv 3) (pa_cons pe_int pa_nil)))) pa_nil)))))
      (pss_cons (ps_set (i := 7) sc_law.nd rfl (.inr rfl) (pe_call G_Llaid hr (by rfl) T.g_Llaid T.F_Llaid.kp T.b_Llaid .nil pass0 (pa_cons (pe_call G_Lpool (hr.mono (by decide)) (by rfl) T.g_Lpool T.F_Lpool.kp T.b_Lpool .nil pass0 (pa_cons (pv 0) (pa_cons pe_int pa_nil))) (pa_cons (pv 4) (pa_cons (pv 6) (pa_cons (pv 5) pa_nil))))))
      (pss_cons (ps_asg (pe_call G_Lotherwise (hr.mono (by decide)) (by rfl) T.g_Lotherwise T.F_Lotherwise.kp T.b_Lotherwise .nil pass0 (pa_cons (pv 1) (pa_cons (pv 4) (pa_cons (pv 6) (pa_cons (pe_op op_cat (pv 2) (pe_lst (pa_cons (pv 5) pa_nil))) pa_nil))))) (pg_tup rfl (pgs_cons (pg_name (i := 8) sc_law.nd rfl (.inl rfl)) (pgs_cons (pg_name (i := 9) sc_law.nd rfl (.inl rfl)) pgs_nil))))
      (pss_cons (ps_set (i := 10) sc_law.nd rfl (.inl rfl) (pe_call G_Llaid hr (by rfl) T.g_Llaid T.F_Llaid.kp T.b_Llaid .nil pass0 (pa_cons (pe_call G_Lpool (hr.mono (by decide)) (by rfl) T.g_Lpool T.F_Lpool.kp T.b_Lpool .nil pass0 (pa_cons (pv 0) (pa_cons pe_int pa_nil))) (pa_cons (pv 8) (pa_cons (pv 9) (pa_cons (pv 5) pa_nil))))))
      (Evl.pss_cut (ps_set (i := 11) sc_law.nd rfl (.inl rfl) (pe_and (pe_cmpR (op_eqD hr.units) (pv 8) (pv 4) (nomark _)) (pe_one (pe_cmpR (op_eqD hr.units) (pe_callB cr_sortedSP (by rfl) T.m_sorted (by decide +kernel) (pa_cons (pv 9) pa_nil)) (pe_callB cr_sortedSP (by rfl) T.m_sorted (by decide +kernel) (pa_cons (pv 6) pa_nil)) (nomark _)))))
      (pss_cons (ps_if (PW.pt (pw_or (pt_not (pt_val (pe_call G_Lsame (hr.mono (by decide)) (by rfl) T.g_Lsame T.F_Lsame.kp T.b_Lsame .nil pass0 (pa_cons (pe_cmpR (OwnE.op_eqO G_Book_eq T.me_Book_eq.1 T.me_Book_eq.2 T.b_Book_eq pass0 (hr.mono (by decide))) (pv 7) (pv 10) (nomark _)) (pa_cons (pv 11) pa_nil))))) (pw_or (pt_not (pt_val (pe_call G_Lsame (hr.mono (by decide)) (by rfl) T.g_Lsame T.F_Lsame.kp T.b_Lsame .nil pass0 (pa_cons (pe_cmpR (OwnE.op_neO G_Book_eq T.ne_Book.1 T.ne_Book.2 T.me_Book_eq.1 T.me_Book_eq.2 T.b_Book_eq pass0 (hr.mono (by decide))) (pv 7) (pv 10) (nomark _)) (pa_cons (pe_not (pv 11)) pa_nil))))) (pw_or1 (pt_not (pt_val (pe_call G_Lsame (hr.mono (by decide)) (by rfl) T.g_Lsame T.F_Lsame.kp T.b_Lsame .nil pass0 (pa_cons (pe_cmpR (OwnE.op_eqO G_Book_eq T.me_Book_eq.1 T.me_Book_eq.2 T.b_Book_eq pass0 (hr.mono (by decide))) (pv 10) (pv 7) (nomark _)) (pa_cons (pv 11) pa_nil))))))))) (pss_one (ps_ret pe_bl)) pss_nil)
      (pss_cons (ps_if (pt_val (pe_callB (cr_any rfl) (by rfl) T.m_any (by decide +kernel) (pa_cons (pe_lc (own := [("_law_thing", 14)]) (g := gName 14) (by rfl) sc_law.nd (pi_tup (pe_tup (pa_cons pe_non (pa_cons pe_int (pa_cons pe_str (pa_cons (pe_tup pa_nil) (pa_cons (pe_meth0 (pv 7) T.cl_Book T.me_Book_atlas G_Book_atlas (hr.mono (by decide)) T.b_Book_atlas .nil pass0) (pa_cons (pe_lst (pa_cons (pv 7) pa_nil)) (pa_cons (pv 4) pa_nil))))))))) (blkOk_by (own := [("_law_thing", 14)]) (N := ["_law_script", "_law_pool_here", "_law_names_here", "_law_signs_here", "_law_box", "_law_spare", "_law_rows", "_law_one", "_law_there", "_law_others", "_law_two", "_law_due", "_law_said", "_law_name_here", "_law_thing", "_law_row"]) (sc := defScope s_law) (by decide +kernel)) (fun _ _ _ _ _ => (pg_name (i := 14) sc_law.nd rfl (Or.inl rfl))) (fun _ _ _ _ _ => pts_nil) (fun _ _ _ _ _ => (pe_cmpR (op_eqOK G_Book_eq T.me_Book_eq.1 T.me_Book_eq.2 T.b_Book_eq (hr.mono (by decide)) ⟨rfl, rfl, rfl, rfl, rfl, rfl⟩) (pv 7) (pv 14) (nomark _)))) pa_nil))) (pss_one (ps_ret pe_bl)) pss_nil)
      (pss_cons (ps_set (i := 12) sc_law.nd rfl (.inl rfl) (pe_meth0 (pv 7) T.cl_Book T.me_Book_atlas G_Book_atlas (hr.mono (by decide)) T.b_Book_atlas .nil pass0))
      (pss_cons (ps_if (PW.pt (pw_or (pt_not (pt_cmpR (OwnE.op_eqO G_Atlas_eq T.me_Atlas_eq.1 T.me_Atlas_eq.2 T.b_Atlas_eq pass0 (hr.mono (by decide))) (pv 12) (pe_make T.mk_Atlas G_Atlas_init (hr.mono (by decide)) (by rfl) T.g_Atlas T.b_Atlas_init .nil pass0 (pa_cons (pv 4) (pa_cons (pv 6) pa_nil))) (nomark _))) (pw_or1 (pt_not (pt_val (pe_call G_Lsame (hr.mono (by decide)) (by rfl) T.g_Lsame T.F_Lsame.kp T.b_Lsame .nil pass0 (pa_cons (pe_cmpR (OwnE.op_eqO G_Atlas_eq T.me_Atlas_eq.1 T.me_Atlas_eq.2 T.b_Atlas_eq pass0 (hr.mono (by decide))) (pv 12) (pe_meth0 (pv 10) T.cl_Book T.me_Book_atlas G_Book_atlas (hr.mono (by decide)) T.b_Book_atlas .nil pass0) (nomark _)) (pa_cons (pv 11) pa_nil)))))))) (pss_one (ps_ret pe_bl)) pss_nil)
      (pss_one (ps_ret (pe_call G_Lsame (hr.mono (by decide)) (by rfl) T.g_Lsame T.F_Lsame.kp T.b_Lsame .nil pass0 (pa_cons (pe_fld (pv 12) rfl) (pa_cons (pe_callTy OwnI.call_tuple_frz (by rfl) T.m_tuple (by decide +kernel) (pa_cons (pe_callB cr_sortedS (by rfl) T.m_sorted (by decide +kernel) (pa_cons (pe_lc (own := [("_law_row", 15)]) (g := gName 15) (by rfl) sc_law.nd (pi_list (pv 6)) (blkOk_by (own := [("_law_row", 15)]) (N := ["_law_script", "_law_pool_here", "_law_names_here", "_law_signs_here", "_law_box", "_law_spare", "_law_rows", "_law_one", "_law_there", "_law_others", "_law_two", "_law_due", "_law_said", "_law_name_here", "_law_thing", "_law_row"]) (sc := defScope s_law) (by decide +kernel)) (fun _ _ _ _ _ => (pg_name (i := 15) sc_law.nd rfl (Or.inl rfl))) (fun _ _ _ _ _ => pts_nil) (fun _ _ _ _ _ => (pe_ix (r := rIx K) (SeqW.ix_seqK rfl) (pv 15) pe_int (fun _ _ => rfl)))) pa_nil)) pa_nil)) pa_nil))))))))))))))))))), ?_⟩
    rw [show L2.start [PySem.Str.ofString "_law_script", PySem.Str.ofString "_law_pool_here", PySem.Str.ofString "_law_names_here", PySem.Str.ofString "_law_signs_here", PySem.Str.ofString "_law_box", PySem.Str.ofString "_law_spare", PySem.Str.ofString "_law_rows", PySem.Str.ofString "_law_one", PySem.Str.ofString "_law_there", PySem.Str.ofString "_law_others", PySem.Str.ofString "_law_two", PySem.Str.ofString "_law_due", PySem.Str.ofString "_law_said", PySem.Str.ofString "_law_name_here", PySem.Str.ofString "_law_thing", PySem.Str.ofString "_law_row"] [V.ref a] = [some (V.ref a), none, none, none, none, none, none, none, none, none, none, none, none, none, none, none] from rfl]
    refine ⟨.ref a, rfl, a, ns, 0, rfl, hS, hlen, by decide, fun H1 p sm np hp => ?_⟩
    try dsimp only [List.set_cons_succ, List.set_cons_zero, wipe, List.map]
    refine ⟨.ref p, rfl, p, 5, rfl, by decide, hp, fun H2 N zs b2 hp2 nN eN lz nd znm => ?_⟩
    have Np : N ≠ p := hp.ne_new nN
    try dsimp only [List.set_cons_succ, List.set_cons_zero, wipe, List.map]
    refine ⟨.ref p, rfl, p, rfl, hp2, fun H3 sg s1 s2 s3 b3 hp3 esg g1 g2 g3 => ?_⟩
    try dsimp only [List.set_cons_succ, List.set_cons_zero, wipe, List.map]
    refine ⟨.ref p, rfl, p, 6, rfl, by decide, hp3, fun H4 bx box b4 hp4 nbx ebx h8 => ?_⟩
    try dsimp only [List.set_cons_succ, List.set_cons_zero, wipe, List.map]
    have eN4 := b4 _ _ Np (b3 _ _ Np eN)
    have esg4 := (Kp.but hp3 b4) _ _ rfl esg
    obtain ⟨ms, z, rfl, lms⟩ : ∃ (ms : List Str) (z : Str), zs = ms ++ [z] ∧ ms.length = 4 := by
      match zs, lz with
      | [z1, z2, z3, z4, z5], _ => exact ⟨[z1, z2, z3, z4], z5, rfl, rfl⟩
    obtain ⟨ndm, _, ndz⟩ := List.nodup_append.mp nd
    have zo : z ∉ ms := fun m => ndz z m z List.mem_cons_self rfl
    have zn := znm z (List.mem_append_right _ List.mem_cons_self)
    have mnm : ∀ y ∈ ms, nmL y.cps.toList = true := fun y m => znm y (List.mem_append_left _ m)
    refine ⟨.ref N, rfl, .inl ⟨rfl, _, .inl (.inl eN4)⟩, N, _, .str z, rfl, rfl, eN4, by rw [List.map_append, List.length_append, List.map_cons, List.map_nil, List.length_singleton, Nat.add_sub_cancel, List.getElem?_append_right (Nat.le_refl _), Nat.sub_self]; rfl, ?_⟩
    rw [show ((ms ++ [z]).map V.str).dropLast = ms.map V.str by rw [List.map_append]; exact List.dropLast_concat]
    try dsimp only [List.set_cons_succ, List.set_cons_zero, wipe, List.map]
    have b5 : But p H1 (upd H4 N (.lst (ms.map V.str))) := ((b2.trans b3).trans b4).mut nN
    have hp5 := hp4.upd (o := .lst (ms.map V.str)) Np
    have eN5 : upd H4 N (.lst (ms.map V.str)) N = some (.lst (ms.map V.str)) := upd_same
    have k45 : Kp H4 (upd H4 N (.lst (ms.map V.str))) := Kp.upd eN4 rfl
    have ebx5 := k45 _ _ rfl ebx
    have esg5 := k45 _ _ rfl esg4
    generalize upd H4 N (.lst (ms.map V.str)) = H5 at b5 hp5 eN5 ebx5 esg5 ⊢
    clear k45 eN4 esg4 ebx b2 b3 b4 hp2 hp3 hp4 eN esg nbx
    refine ⟨.ref N, rfl, .ref p, rfl, p, 5, rfl, by decide, by decide, hp5, fun H6 kk b6 hp6 k0 k1 => ⟨kk, rfl, N, ms.map V.str, rfl, .inl (.inl (b6 _ _ Np eN5)), fun M nM => ?_⟩⟩
    obtain ⟨k, rfl⟩ : ∃ k : Nat, kk = k := ⟨kk.toNat, by omega⟩
    rw [cut_to _ k (by rw [List.length_map]; omega), ← List.map_take]
    have m6 := same_upd (o := .lst ((ms.take k).map V.str)) nM
    have eM : upd H6 M (.lst ((ms.take k).map V.str)) M = some (.lst ((ms.take k).map V.str)) := upd_same
    have Mp : M ≠ p := hp6.ne_new nM
    have b7 : But p H1 (upd H6 M (.lst ((ms.take k).map V.str))) := (b5.trans b6).trans (But.of m6)
    have hp7 := hp6.same m6
    have eN7 := m6 _ _ (b6 _ _ Np eN5)
    have ebx7 := m6 _ _ ((Kp.but hp5 b6) _ _ rfl ebx5)
    have esg7 := m6 _ _ ((Kp.but hp5 b6) _ _ rfl esg5)
    generalize upd H6 M (.lst ((ms.take k).map V.str)) = H7 at eM b7 hp7 eN7 ebx7 esg7 ⊢
    clear m6 nM b6 hp6 b5 hp5 eN5 ebx5 esg5
    obtain ⟨ys, hys⟩ : ∃ ys, ys = ms.take k := ⟨_, rfl⟩
    rw [← hys] at eM
    have ysub : ∀ y ∈ ys, y ∈ ms := fun y m => List.mem_of_mem_take (by rw [← hys]; exact m)
    have lys : ys.length ≤ 4 := by rw [hys, List.length_take]; omega
    have ndy : ys.Nodup := by rw [hys]; exact ndm.sublist (List.take_sublist k ms)
    have lys2 : (ys.map V.str).length = ys.length := List.length_map _
    refine ⟨M, rfl, ⟨_, .inl (.inl eM)⟩, fun R nR => lc_it (walk_list (xs := ys.map V.str)) (fun i H' => But p H7 H' ∧ Pool H' p ∧ ∃ us rs, H' R = some (.lst us) ∧ RowsAt K H' us rs ∧ nms rs = ys.take i ∧ (∀ r ∈ rs, RowOk r) ∧ (∀ r ∈ rs, r.2.length ≤ 7)) ⟨But.of (same_upd nR), hp7.same (same_upd nR), [], [], upd_same, .nil, rfl, (fun _ m => nomatch m), (fun _ m => nomatch m)⟩ (fun i H' _ h => .inl (.inl (h.1 _ _ Mp eM))) ?_ ?_⟩
    · have Rp : R ≠ p := hp7.ne_new nR
      rintro i v H8 H9 hi ⟨c8, hp8, us, rs, eR, hus, en, rok, rl⟩ ⟨rfl, hv⟩
      rw [lys2] at hi
      have fy : ys[i]? = some ys[i] := List.getElem?_eq_getElem hi
      rw [List.getElem?_map, fy] at hv
      cases hv
      have esg8 := (Kp.but hp7 c8) _ _ rfl esg7
      have lrs : rs.length = i := by
        have : (nms rs).length = rs.length := List.length_map _
        rw [← this, en, List.length_take]
        omega
      have r1000 : ∀ r ∈ rs, r.2.length ≤ 1000 := fun r m => Nat.le_trans (rl r m) (by decide)
      refine ⟨rfl, .str ys[i], rfl, .ref p, rfl, .ref sg, rfl, p, sg, 1, s1, s2, s3, rfl, Nat.le_refl _, hp8, .inl (.inl esg8), g1, g2, g3, fun Ha l es ca hpa hl les eok er esw => ⟨by show 2 ≤ sizeLine; decide, fun t nt => ?_⟩⟩
      have eRa := ca _ _ Rp eR
      have husa := hus.tp r1000 (Tp.but hp8 ca)
      have m := same_upd (o := .tup [.str ys[i], .ref l]) nt
      have row : RowAt K (upd Ha t (.tup [.str ys[i], .ref l])) (.ref t) (ys[i], es) := ⟨t, l, rfl, upd_same, dp_same m _ _ hl⟩
      have les2 : es.length ≤ 1000 := Nat.le_trans les (by decide)
      refine ⟨us, m _ _ eRa, small1000 (by rw [hus.len]; omega), ((c8.trans ca).trans (But.of m)).mut nR, (hpa.same m).upd Rp, us ++ [.ref t], rs ++ [(ys[i], es)], upd_same, ((husa.same m).tp r1000 (Tp.lst (m _ _ eRa))).snoc (row.tp les2 (Tp.lst (m _ _ eRa))), ?_, ?_, ?_⟩
      · rw [show nms (rs ++ [(ys[i], es)]) = nms rs ++ [ys[i]] from List.map_append, en, List.take_add_one, fy]
        rfl
      · intro r m
        rcases List.mem_append.mp m with m | m
        · exact rok r m
        · rw [List.mem_singleton.mp m]
          exact ⟨mnm _ (ysub _ (List.getElem_mem hi)), eok, er, Nat.le_trans les (by decide)⟩
      · intro r m
        rcases List.mem_append.mp m with m | m
        · exact rl r m
        · rw [List.mem_singleton.mp m]
          exact les
    rintro H8 ⟨c8, hp8, us, rs, eR, hus, en, rok, rl⟩
    rw [lys2, List.take_length] at en
    have Rp : R ≠ p := hp7.ne_new nR
    have eN8 := c8 _ _ Np eN7
    have ebx8 := (Kp.but hp7 c8) _ _ rfl ebx7
    have sH8 : Same H H8 := But.same np sm (b7.trans c8)
    clear eN7 ebx7 esg7 eM c8 b7 hp7 Mp nR sm hp g1 g2 g3
    have lrs : rs.length ≤ 4 := by
      have : (nms rs).length = rs.length := List.length_map _
      rw [← this, en]
      exact lys
    have ndr : (nms rs).Nodup := by rw [en]; exact ndy
    have zr : z ∉ nms rs := by rw [en]; exact fun m => zo (ysub _ m)
    have nsub : ∀ y ∈ nms rs, y ∈ ms := by rw [en]; exact ysub
    clear ysub lys ndy hys en lys2
    try dsimp only [List.set_cons_succ, List.set_cons_zero, wipe, List.map]
    refine ⟨.ref a, rfl, a, ns, 1, rfl, Evl.ex_l (show Evl.Ex H H8 from sH8) hS, hlen, by decide, fun H9 p1 s9 np1 hp1 => ?_⟩
    refine ⟨.ref bx, rfl, .ref R, rfl, .str z, rfl, p1, bx, R, z, H8, box, us, rs, rfl, hp1, np1, s9, .inl (.inl ebx8), h8, eR, hus, rok, fun r m => Nat.le_trans (rl r m) (by decide), ndr, by omega, zn, zr, fun HA bk1 rs1 past fut _ sA hb1 prm1 hi1 => ?_⟩
    obtain ⟨dx1, n1, pl1, f1, w1, ps1, fs1, g1⟩ := hb1
    try dsimp only [List.set_cons_succ, List.set_cons_zero, wipe, List.map]
    refine ⟨.ref p, rfl, .ref bx, rfl, .ref R, rfl, .ref N, rfl, .str z, rfl, by show 1 ≤ sizeLine; decide, fun l nl => ?_⟩
    have s1' := same_upd (o := .lst [.str z]) nl
    refine ⟨N, l, _, _, rfl, rfl, s1' _ _ (sA _ _ eN8), upd_same, by rw [List.length_map, lms]; show 5 ≤ sizeLine; decide, fun c nc => ?_⟩
    have s2' := same_upd (o := .lst (ms.map V.str ++ [.str z])) nc
    have eC : upd (upd HA l (.lst [.str z])) c (.lst (ms.map V.str ++ [.str z])) c = some (.lst ((ms ++ [z]).map V.str)) := by rw [upd_same, List.map_append]; rfl
    have s8B := (sA.trans s1').trans s2'
    have gB := g1.same (s1'.trans s2')
    generalize upd (upd HA l (.lst [.str z])) c (.lst (ms.map V.str ++ [.str z])) = HB at eC s8B gB ⊢
    clear s1' s2' g1 nl nc sA
    refine ⟨p, bx, R, c, box, us, rs, ms ++ [z], z, rfl, hp8.same s8B, .inl (.inl (s8B _ _ ebx8)), h8, s8B _ _ eR, hus.same s8B, ⟨rok, fun r m => Nat.le_trans (rl r m) (by decide), ndr, zr⟩, fun r m => Nat.le_trans (rl r m) (by decide), by omega, eC, by rw [List.length_append, lms]; show 4 + 1 ≤ 5; decide, List.mem_append_right _ List.mem_cons_self, fun y m => List.mem_append_left _ (nsub y m), fun HC t b2 R2 box2 us2 rs2 cC hpC et hb2 h82 nR2 eR2 hus2 fit2 lrs2 => ?_⟩
    refine ⟨t, _, rfl, .inl (.inl et), rfl, _, _, rfl, _, _, rfl, rfl, ?_⟩
    have gC := gB.draw hi1 (hp8.same s8B) cC
    have sHC : Same H HC := But.same np (sH8.trans s8B) cC
    have r1000 : ∀ r ∈ rs, r.2.length ≤ 1000 := fun r m => Nat.le_trans (rl r m) (by decide)
    have eRC := cC _ _ Rp (s8B _ _ eR)
    have husC := (hus.same s8B).tp r1000 (Tp.but (hp8.same s8B) cC)
    have ebxC := (Kp.but (hp8.same s8B) cC) _ _ rfl (s8B _ _ ebx8)
    clear gB cC eC s8B hp8 ebx8 eR hus eN8 sH8 s9 np1 hp1 et
    try dsimp only [List.set_cons_succ, List.set_cons_zero, wipe, List.map]
    refine ⟨.ref a, rfl, a, ns, 2, rfl, Evl.ex_l (show Evl.Ex H HC from sHC) hS, hlen, by decide, fun HD p2 sD np2 hp2 => ?_⟩
    refine ⟨.ref b2, rfl, .ref R2, rfl, .str z, rfl, p2, b2, R2, z, HC, box2, us2, rs2, rfl, hp2, np2, sD, hb2, h82, eR2, hus2, fit2.ok, fit2.len, fit2.nd, by omega, zn, fit2.out, fun HE bk2 rs3 past2 fut2 _ sE hb2' prm2 hi2 => ?_⟩
    obtain ⟨dx2, n2, pl2, f2, w2, ps2, fs2, g2⟩ := hb2'
    have g1 := gC.same sE
    have eR := sE _ _ eRC
    have hus := husC.same sE
    have ebx := sE _ _ ebxC
    have hb2 := sqt_same sE hb2
    have eR2 := sE _ _ eR2
    have hus2 := hus2.same sE
    clear gC eRC husC ebxC sD np2 hp2 sE sHC
    try dsimp only [List.set_cons_succ, List.set_cons_zero, wipe, List.map]
    have rok1 : ∀ r ∈ rs1, RowOk r := hi1.now.ok
    have rok3 : ∀ r ∈ rs3, RowOk r := hi2.now.ok
    obtain ⟨due, hdue⟩ : ∃ due, due = eqA box2 rs3 box rs1 := ⟨_, rfl⟩
    refine ⟨fun σ' H' => Same HE H' ∧ σ' = [some (.ref a), some (.ref p), some (.ref N), some (.ref sg), some (.ref bx), some (.str z), some (.ref R), some (.ref bk1), some (.ref b2), some (.ref R2), some (.ref bk2), some (.bl due), none, none, none, none], ?_, ?_⟩
    · have ed := eqA_due box2 rs3 box rs1
      rw [← hdue] at ed
      refine ⟨.ref b2, rfl, .ref bx, rfl, boxD box2, boxD box, .tup hb2 (box_dpa box2), .tup (.inl (.inl ebx)) (box_dpa box), box_shaped box2, box_shaped box, _, rfl, ?_⟩
      generalize PyData.eqv (boxD box2) (boxD box) = e1 at ed ⊢
      cases e1 with
      | false => exact iteF ⟨Same.refl _, by rw [ed]; rfl⟩
      | true =>
        refine iteT ⟨.ref R2, rfl, R2, us2, nmAt HE, lgAt HE, rfl, .inl (.inl eR2), hus2.keyed, hus2.apart fit2.nd, fun ys S1 srt prm nS1 => ?_⟩
        obtain ⟨rs4, hrs4', prm4, srt4⟩ := hus2.sorted fit2.nd srt prm
        have e4 : rs4 = rs3 := srt_uniq (prm4.trans prm2.symm) srt4 hi2.now.srt
        subst e4
        have sS1 := same_upd (o := .lst ys) nS1
        have hrs9 := hus.same sS1
        refine ⟨.ref R, rfl, R, us, nmAt _, lgAt _, rfl, .inl (.inl (sS1 _ _ eR)), hrs9.keyed, hrs9.apart ndr, fun zs S2 srt' prm' nS2 => ?_⟩
        obtain ⟨rs5, hrs5', prm5, srt5⟩ := hrs9.sorted ndr srt' prm'
        have e5 : rs5 = rs1 := srt_uniq (prm5.trans prm1.symm) srt5 hi1.now.srt
        subst e5
        have sS2 := same_upd (o := .lst zs) nS2
        refine ⟨_, _, .lst (.inl (.inl (sS2 _ _ upd_same))) (rows_dpa ((hrs4'.same sS1).same sS2)), .lst (.inl (.inl upd_same)) (rows_dpa (hrs5'.same sS2)), rows_shaped rok3, rows_shaped rok1, sS1.trans sS2, ?_⟩
        rw [ed]
        rfl
    rintro σ' HF ⟨sF, rfl⟩
    have g1 := g1.same sF
    have g2 := g2.same sF
    have eR := sF _ _ eR
    have hus := hus.same sF
    have ebx := sF _ _ ebx
    have e12 : eqA box rs1 box2 rs3 = due := (eqA_comm _ _ _ _).trans hdue.symm
    clear sF hb2 eR2 hus2 hdue
    have ty1 : ∀ {H' : Hp}, Same HF H' → TyX K H' (.ref bk1) (.ref T.a_Book) := fun s => .base (.ins (s _ _ g1.obj) T.cl_Book T.ty_Book.1 T.ty_Book.2.1 T.ty_Book.2.2.1 T.ty_Book.2.2.2)
    have ty2 : ∀ {H' : Hp}, Same HF H' → TyX K H' (.ref bk2) (.ref T.a_Book) := fun s => .base (.ins (s _ _ g2.obj) T.cl_Book T.ty_Book.1 T.ty_Book.2.1 T.ty_Book.2.2.1 T.ty_Book.2.2.2)
    have eq12 : ∀ {H' : Hp} {Qv : VK}, Same HF H' → Qv (.bl due) H' → spEqB K T.a_Book T.a_Atlas [.ref bk1, .ref bk2] H' Qv E0 := fun {H' Qv} s h => ⟨bk1, .ref bk2, rfl, .inl ⟨bk2, _, _, _, _, _, _, _, _, _, _, (box, rs1), (box2, rs3), rfl, s _ _ g1.obj, s _ _ g2.obj, g1.atlas.same s, g2.atlas.same s, hi1.now, hi2.now, by show Qv (V.bl (eqA box rs1 box2 rs3)) _; rw [e12]; exact h⟩⟩
    have eq21 : ∀ {H' : Hp} {Qv : VK}, Same HF H' → Qv (.bl due) H' → spEqB K T.a_Book T.a_Atlas [.ref bk2, .ref bk1] H' Qv E0 := fun {H' Qv} s h => ⟨bk2, .ref bk1, rfl, .inl ⟨bk1, _, _, _, _, _, _, _, _, _, _, (box2, rs3), (box, rs1), rfl, s _ _ g2.obj, s _ _ g1.obj, g2.atlas.same s, g1.atlas.same s, hi2.now, hi1.now, by show Qv (V.bl (eqA box2 rs3 box rs1)) _; rw [eqA_comm, e12]; exact h⟩⟩
    refine ⟨.ref bk1, rfl, .ref bk2, rfl, bk1, dx1, _, .ref T.a_Book, rfl, g1.obj, ty2 (Same.refl _), nf_own, eq12 (Same.refl _) ⟨_, rfl, .bl due, rfl, .bl due, .bl due, .bool due, rfl, .bl _, .bl _, rfl, fun HG sG => ⟨_, rfl, ?_⟩⟩⟩
    refine iteF ?_
    refine ⟨.ref bk1, rfl, .ref bk2, rfl, bk1, bk2, dx1, dx2, _, _, rfl, rfl, sG _ _ g1.obj, sG _ _ g2.obj, eq12 sG ⟨_, rfl, .bl due, rfl, due, rfl, .bl (!due), .bl (!due), .bool (!due), rfl, .bl _, .bl _, rfl, fun HI sI => ⟨_, rfl, ?_⟩⟩⟩
    refine iteF ?_
    have sI := sG.trans sI
    refine ⟨.ref bk2, rfl, .ref bk1, rfl, bk2, dx2, _, .ref T.a_Book, rfl, sI _ _ g2.obj, ty1 sI, nf_own, eq21 sI ⟨_, rfl, .bl due, rfl, .bl due, .bl due, .bool due, rfl, .bl _, .bl _, rfl, fun HJ sJ => ⟨_, rfl, ?_⟩⟩⟩
    refine iteF ?_
    have sJ := sI.trans sJ
    have g1 := g1.same sJ
    have g2 := g2.same sJ
    have eR := sJ _ _ eR
    have hus := hus.same sJ
    have ebx := sJ _ _ ebx
    clear sI sG ty1 ty2 eq12 eq21 sJ
    have no1 : (bfl n1 pl1 f1 w1).lookup (PySem.Str.ofString "atlas") = none := bf_no n1 pl1 f1 w1 (by decide +kernel) (by decide +kernel) (by decide +kernel) (by decide +kernel)
    refine ⟨Nat.zero_le _, fun e0 ne0 => ?_⟩
    have q1 := same_upd (o := .tup []) ne0
    have ob1 := q1 _ _ g1.obj
    refine ⟨.ref bk1, rfl, bk1, dx1, _, rfl, ob1, no1, bk1, dx1, n1, pl1, f1, w1, rfl, ob1, .ref bk1, rfl, by show 1 ≤ sizeLine; decide, fun l1 nl1 => ⟨.ref bx, rfl, by show 7 ≤ sizeLine; decide, fun t2 nt2 => ?_⟩⟩
    have q2 := same_upd (o := .lst [.ref bk1]) nl1
    have q3 := same_upd (o := .tup [.non, .int 0, .str (PySem.Str.ofString ""), .ref e0, .ref n1, .ref l1, .ref bx]) nt2
    have q13 := (q1.trans q2).trans q3
    have o1 := q3 _ _ (q2 _ _ (upd_same (H := HJ) (a := e0) (o := .tup [])))
    have o2 := q3 _ _ (upd_same (H := upd HJ e0 (.tup [])) (a := l1) (o := .lst [.ref bk1]))
    have o3 := upd_same (H := upd (upd HJ e0 (.tup [])) l1 (.lst [.ref bk1])) (a := t2) (o := .tup [.non, .int 0, .str (PySem.Str.ofString ""), .ref e0, .ref n1, .ref l1, .ref bx])
    generalize upd (upd (upd HJ e0 (.tup [])) l1 (.lst [.ref bk1])) t2 (.tup [.non, .int 0, .str (PySem.Str.ofString ""), .ref e0, .ref n1, .ref l1, .ref bx]) = HT at o1 o2 o3 q13
    refine ⟨t2, rfl, ⟨_, .inl (.inl o3)⟩, fun D nD => lc_it (walk_tup (xs := [.non, .int 0, .str (PySem.Str.ofString ""), .ref e0, .ref n1, .ref l1, .ref bx])) (fun i H' => Same HT H' ∧ H' D = some (.lst ((List.replicate i false).map V.bl))) ⟨same_upd nD, upd_same⟩ (fun i H' _ h => .inl (.inl (h.1 _ _ o3))) ?_ ?_⟩
    · rintro i v H10 H11 hi ⟨s11, eD⟩ ⟨rfl, hv⟩
      have s11' := q13.trans s11
      have odd : OddB K T.a_Book H11 v := by
        match i, hv with
        | 0, hv => cases hv; exact ⟨_, .base .non, nf_ty T.no_Book_NoneType.2.1, T.no_Book_NoneType.2.2⟩
        | 1, hv => cases hv; exact ⟨_, .base (.int _), nf_ty T.no_Book_int.2.1, T.no_Book_int.2.2⟩
        | 2, hv => cases hv; exact ⟨_, .base (.str _), nf_ty T.no_Book_str.2.1, T.no_Book_str.2.2⟩
        | 3, hv => cases hv; exact ⟨_, .base (.tup (s11 _ _ o1)), nf_ty T.no_Book_tuple.2.1, T.no_Book_tuple.2.2⟩
        | 4, hv =>
          cases hv
          obtain ⟨dA, bA, nA, lA, lsA, onA, poA, iA, _⟩ := g1.atlas.same s11'
          exact ⟨_, .base (.ins iA T.cl_Atlas T.ty_Atlas.1 T.ty_Atlas.2.1 T.ty_Atlas.2.2.1 T.ty_Atlas.2.2.2), nf_sub T.kt_AB.1, T.kt_AB.2⟩
        | 5, hv => cases hv; exact ⟨_, .base (.lst (s11 _ _ o2)), nf_ty T.no_Book_list.2.1, T.no_Book_list.2.2⟩
        | 6, hv => cases hv; exact ⟨_, .base (.tup (s11' _ _ ebx)), nf_ty T.no_Book_tuple.2.1, T.no_Book_tuple.2.2⟩
        | n + 7, hv => cases hv
      obtain ⟨tt, ty, nf, kt⟩ := odd
      have hi7 : i < 7 := hi
      refine ⟨rfl, .ref bk1, rfl, v, rfl, bk1, dx1, _, tt, rfl, s11' _ _ g1.obj, ty, nf, bk1, v, rfl, .inr ⟨tt, ty, kt, false, rfl, _, eD, small1000 (by rw [List.length_map, List.length_replicate]; omega), ?_, ?_⟩⟩
      · exact fun b' o e => by
          rw [upd_ne (ne_of_none e nD)]
          exact s11 _ _ e
      · rw [upd_same, List.replicate_succ', List.map_append]
        rfl
    rintro H10 ⟨s10, eD⟩
    refine ⟨D, List.replicate 7 false, rfl, .inl (.inl eD), _, rfl, ?_⟩
    refine iteF ?_
    have s10 := q13.trans s10
    have g1 := g1.same s10
    have g2 := g2.same s10
    have eR := s10 _ _ eR
    have hus := hus.same s10
    have ebx := s10 _ _ ebx
    clear eD s10 q13 o1 o2 o3 q1 q2 q3 ob1
    refine ⟨.ref bk1, rfl, bk1, dx1, _, rfl, g1.obj, no1, bk1, dx1, n1, pl1, f1, w1, rfl, g1.obj, ?_⟩
    obtain ⟨dA, bA, nA, lA, lsA, onA, poA, iA, hbA, hnA, hlA, hdA⟩ := id g1.atlas
    refine ⟨.ref n1, rfl, .ref bx, rfl, .ref R, rfl, fun x dx nx ndx nedx => ?_⟩
    have sz : Same H10 (upd (upd H10 dx (.own x)) x (.ins T.a_Atlas dx [])) := fun b o h => by
      rw [upd_ne (ne_of_none h nx)]
      exact same_upd ndx _ _ h
    refine ⟨x, dx, bx, R, box, us, rs, rfl, upd_same, .inr (.inl (.inl (sz _ _ ebx))), h8, .inl (.inl (.inl (sz _ _ eR))), (hus.same sz).pairs, rok, ndr, by omega, fun HK rs7 bK prm7 srt7 hZ => ⟨rfl, ?_⟩⟩
    obtain rfl : rs7 = rs1 := srt_uniq (prm7.trans prm1.symm) srt7 hi1.now.srt
    have sK : Same H10 HK := fun c o h => bK _ _ (ne_of_none h nx) (sz _ _ h)
    have tyA : ∀ {H' : Hp} {v : Addr} {b : List Nat} {r : List Row}, AtlasAt K T.a_Atlas H' v b r → TyX K H' (.ref v) (.ref T.a_Atlas) := fun h => by
      obtain ⟨_, _, _, _, _, _, _, i, _⟩ := h
      exact .base (.ins i T.cl_Atlas T.ty_Atlas.1 T.ty_Atlas.2.1 T.ty_Atlas.2.2.1 T.ty_Atlas.2.2.2)
    refine ⟨n1, dA, _, .ref T.a_Atlas, rfl, sK _ _ iA, tyA hZ, nf_own, n1, .ref x, rfl, .inl ⟨x, box, box, _, _, rfl, g1.atlas.same sK, hZ, rok1, rok1, ?_⟩⟩
    rw [eqA_refl rok1]
    refine ⟨_, rfl, _, rfl, ?_⟩
    refine iteF ?_
    have no2 : (bfl n2 pl2 f2 w2).lookup (PySem.Str.ofString "atlas") = none := bf_no n2 pl2 f2 w2 (by decide +kernel) (by decide +kernel) (by decide +kernel) (by decide +kernel)
    have ob2 := sK _ _ g2.obj
    have at2 := g2.atlas.same sK
    refine ⟨.ref n1, rfl, .ref bk2, rfl, bk2, dx2, _, rfl, ob2, no2, bk2, dx2, n2, pl2, f2, w2, rfl, ob2, n1, dA, _, .ref T.a_Atlas, rfl, sK _ _ iA, tyA at2, nf_own, n1, .ref n2, rfl, .inl ⟨n2, box, box2, _, _, rfl, g1.atlas.same sK, at2, rok1, rok3, ?_⟩⟩
    rw [e12]
    refine ⟨_, rfl, .bl due, rfl, .bl due, .bl due, .bool due, rfl, .bl _, .bl _, rfl, fun HL sL => ⟨_, rfl, ?_⟩⟩
    refine iteF ?_
    have sL := sK.trans sL
    have iA := sL _ _ iA
    have hnA := sL _ _ hnA
    have eR := sL _ _ eR
    have hus := hus.same sL
    have lu := hus.len
    refine ⟨.ref n1, rfl, n1, T.a_Atlas, dA, _, _, rfl, iA, T.cl_Atlas, T.nf_Atlas_names, fl_names bA nA lA, ?_⟩
    refine ⟨.ref R, rfl, R, rfl, ⟨us, .inl (.inl eR)⟩, fun D nD => lc_it (walk_list (xs := us)) (fun i H' => Same HL H' ∧ H' D = some (.lst ((nms (rs.take i)).map V.str))) ⟨same_upd nD, upd_same⟩ (fun i H' _ h => .inl (.inl (h.1 _ _ eR))) ?_ ?_⟩
    · rintro i v H12 H13 hi ⟨s12, eD⟩ ⟨rfl, hv⟩
      obtain ⟨r, fr, t1, l1, rfl, ht, hl⟩ := (hus.same s12).at_ hv
      refine ⟨rfl, .ref t1, rfl, .inr (.inl ⟨t1, _, 0, .str r.1, rfl, rfl, .inl (.inl ht), rfl, _, eD, small1000 (by unfold nms; rw [List.length_map, List.length_map, List.length_take]; omega), fun c o h => ?_, ?_⟩)⟩
      · rw [upd_ne (ne_of_none h nD)]
        exact s12 _ _ h
      · rw [upd_same, nms_succ fr]
    rintro H12 ⟨s12, eD⟩
    rw [lu, List.take_length] at eD
    have lnm : (nms rs).length = rs.length := List.length_map _
    refine ⟨D, nms rs, rfl, .inl (.inl eD), by omega, fun ys S prm srt nS => ?_⟩
    have e5 : ys = nms rs7 := by
      obtain ⟨rs5, pm5, ey⟩ := perm_lift (f := fun r : Row => r.1) prm
      have nd5 : (nms rs5).Nodup := (show (nms rs5).Perm (nms rs) from pm5.map _).nodup_iff.mpr ndr
      have srt5 : Srt rs5 := srt_of nd5 (by rw [show nms rs5 = ys from ey]; exact sortedS_pw ys srt)
      rw [← srt_uniq (pm5.trans prm1.symm) srt5 hi1.now.srt]
      exact ey.symm
    subst e5
    have sS := same_upd (o := .lst ((nms rs7).map V.str)) nS
    refine ⟨S, _, rfl, .inl (.inl upd_same), fun F oF po nF => ?_⟩
    have sF := same_upd (o := .frz oF (.tup ((nms rs7).map V.str))) nF
    have ln7 : (nms rs7).length ≤ 1000 := by
      have := prm.length_eq
      omega
    refine ⟨.ref nA, .ref F, .tuple ((nms rs7).map PyData.str), rfl, .tup (.inl (.inr ⟨onA, sF _ _ (sS _ _ (s12 _ _ hnA))⟩)) (dpa_strs _), .tup (.inl (.inr ⟨oF, upd_same⟩)) (dpa_strs _), ?_, fun H' _ => q H'⟩
    refine Bool.and_eq_true_iff.mpr ⟨decide_eq_true (by rw [List.length_map]; exact ln7), List.all_eq_true.mpr fun d m => ?_⟩
    obtain ⟨y, _, rfl⟩ := List.mem_map.mp m
    rfl
--@@SPLIT
end
theorem all_mk {l : PySem.W.OpenLaw} {w : World} {K : PySem.W.Frag} {h : Heap} {mg : Str → Option Value} {fa : Addr} (X : K.In h) (G : h.Ns mainGlobals mg) (hfa : mg "law" = some (.ref fa))
    {f_Atlas : Addr}
    {f_Watch : Addr}
    {f_Book : Addr}
    {f_is_whole : Addr} {od_is_whole an_is_whole : Option Addr} {sl_is_whole : Array (Option Value)} {oc_is_whole kV_is_whole dc_is_whole pm_is_whole cd_is_whole ct_is_whole : Value}
    {f_is_letter : Addr} {od_is_letter an_is_letter : Option Addr} {sl_is_letter : Array (Option Value)} {oc_is_letter kV_is_letter dc_is_letter pm_is_letter cd_is_letter ct_is_letter : Value}
    {f_is_short_text : Addr} {od_is_short_text an_is_short_text : Option Addr} {sl_is_short_text : Array (Option Value)} {oc_is_short_text kV_is_short_text dc_is_short_text pm_is_short_text cd_is_short_text ct_is_short_text : Value}
    {f_are_small : Addr} {od_are_small an_are_small : Option Addr} {sl_are_small : Array (Option Value)} {oc_are_small kV_are_small dc_are_small pm_are_small cd_are_small ct_are_small : Value}
    {f_is_name : Addr} {od_is_name an_is_name : Option Addr} {sl_is_name : Array (Option Value)} {oc_is_name kV_is_name dc_is_name pm_is_name cd_is_name ct_is_name : Value}
    {f_is_lone : Addr} {od_is_lone an_is_lone : Option Addr} {sl_is_lone : Array (Option Value)} {oc_is_lone kV_is_lone dc_is_lone pm_is_lone cd_is_lone ct_is_lone : Value}
    {f_is_sign : Addr} {od_is_sign an_is_sign : Option Addr} {sl_is_sign : Array (Option Value)} {oc_is_sign kV_is_sign dc_is_sign pm_is_sign cd_is_sign ct_is_sign : Value}
    {f_is_many : Addr} {od_is_many an_is_many : Option Addr} {sl_is_many : Array (Option Value)} {oc_is_many kV_is_many dc_is_many pm_is_many cd_is_many ct_is_many : Value}
    {f_is_pair_entry : Addr} {od_is_pair_entry an_is_pair_entry : Option Addr} {sl_is_pair_entry : Array (Option Value)} {oc_is_pair_entry kV_is_pair_entry dc_is_pair_entry pm_is_pair_entry cd_is_pair_entry ct_is_pair_entry : Value}
    {f_is_entry : Addr} {od_is_entry an_is_entry : Option Addr} {sl_is_entry : Array (Option Value)} {oc_is_entry kV_is_entry dc_is_entry pm_is_entry cd_is_entry ct_is_entry : Value}
    {f_held_log : Addr} {od_held_log an_held_log : Option Addr} {sl_held_log : Array (Option Value)} {oc_held_log kV_held_log dc_held_log pm_held_log cd_held_log ct_held_log : Value}
    {f_held_box : Addr} {od_held_box an_held_box : Option Addr} {sl_held_box : Array (Option Value)} {oc_held_box kV_held_box dc_held_box pm_held_box cd_held_box ct_held_box : Value}
    {f_held_log_of : Addr} {od_held_log_of an_held_log_of : Option Addr} {sl_held_log_of : Array (Option Value)} {oc_held_log_of kV_held_log_of dc_held_log_of pm_held_log_of cd_held_log_of ct_held_log_of : Value}
    {f_all_that_fit : Addr} {od_all_that_fit an_all_that_fit : Option Addr} {sl_all_that_fit : Array (Option Value)} {oc_all_that_fit kV_all_that_fit dc_all_that_fit pm_all_that_fit cd_all_that_fit ct_all_that_fit : Value}
    {q_all_that_fit : Addr} {dd_all_that_fit : Option Addr} {sq_all_that_fit : Array (Option Value)} {nq_all_that_fit : Nat} 
    {f_pairs_of : Addr} {od_pairs_of an_pairs_of : Option Addr} {sl_pairs_of : Array (Option Value)} {oc_pairs_of kV_pairs_of dc_pairs_of pm_pairs_of cd_pairs_of ct_pairs_of : Value}
    {f_listen : Addr} {od_listen an_listen : Option Addr} {sl_listen : Array (Option Value)} {oc_listen kV_listen dc_listen pm_listen cd_listen ct_listen : Value}
    {f_Lsome_box : Addr} {od_Lsome_box an_Lsome_box : Option Addr} {sl_Lsome_box : Array (Option Value)} {oc_Lsome_box kV_Lsome_box dc_Lsome_box pm_Lsome_box cd_Lsome_box ct_Lsome_box : Value}
    {f_Lsigns : Addr} {od_Lsigns an_Lsigns : Option Addr} {sl_Lsigns : Array (Option Value)} {oc_Lsigns kV_Lsigns dc_Lsigns pm_Lsigns cd_Lsigns ct_Lsigns : Value}
    {f_Lshort_entry : Addr} {od_Lshort_entry an_Lshort_entry : Option Addr} {sl_Lshort_entry : Array (Option Value)} {oc_Lshort_entry kV_Lshort_entry dc_Lshort_entry pm_Lshort_entry cd_Lshort_entry ct_Lshort_entry : Value}
    {f_Lshort_log : Addr} {od_Lshort_log an_Lshort_log : Option Addr} {sl_Lshort_log : Array (Option Value)} {oc_Lshort_log kV_Lshort_log dc_Lshort_log pm_Lshort_log cd_Lshort_log ct_Lshort_log : Value}
    {f_Lpool : Addr} {od_Lpool an_Lpool : Option Addr} {sl_Lpool : Array (Option Value)} {oc_Lpool kV_Lpool dc_Lpool pm_Lpool cd_Lpool ct_Lpool : Value}
    {f_Ltake : Addr} {od_Ltake an_Ltake : Option Addr} {sl_Ltake : Array (Option Value)} {oc_Ltake kV_Ltake dc_Ltake pm_Ltake cd_Ltake ct_Ltake : Value}
    {f_Lmix : Addr} {od_Lmix an_Lmix : Option Addr} {sl_Lmix : Array (Option Value)} {oc_Lmix kV_Lmix dc_Lmix pm_Lmix cd_Lmix ct_Lmix : Value}
    {f_Lwhole : Addr} {od_Lwhole an_Lwhole : Option Addr} {sl_Lwhole : Array (Option Value)} {oc_Lwhole kV_Lwhole dc_Lwhole pm_Lwhole cd_Lwhole ct_Lwhole : Value}
    {f_Lsame : Addr} {od_Lsame an_Lsame : Option Addr} {sl_Lsame : Array (Option Value)} {oc_Lsame kV_Lsame dc_Lsame pm_Lsame cd_Lsame ct_Lsame : Value}
    {f_Lname : Addr} {od_Lname an_Lname : Option Addr} {sl_Lname : Array (Option Value)} {oc_Lname kV_Lname dc_Lname pm_Lname cd_Lname ct_Lname : Value}
    {f_Lnames : Addr} {od_Lnames an_Lnames : Option Addr} {sl_Lnames : Array (Option Value)} {oc_Lnames kV_Lnames dc_Lnames pm_Lnames cd_Lnames ct_Lnames : Value}
    {f_Llegs : Addr} {od_Llegs an_Llegs : Option Addr} {sl_Llegs : Array (Option Value)} {oc_Llegs kV_Llegs dc_Llegs pm_Llegs cd_Llegs ct_Llegs : Value}
    {f_Llaid : Addr} {od_Llaid an_Llaid : Option Addr} {sl_Llaid : Array (Option Value)} {oc_Llaid kV_Llaid dc_Llaid pm_Llaid cd_Llaid ct_Llaid : Value}
    {f_Lotherwise : Addr} {od_Lotherwise an_Lotherwise : Option Addr} {sl_Lotherwise : Array (Option Value)} {oc_Lotherwise kV_Lotherwise dc_Lotherwise pm_Lotherwise cd_Lotherwise ct_Lotherwise : Value}
    {f_law : Addr} {od_law an_law : Option Addr} {sl_law : Array (Option Value)} {oc_law kV_law dc_law pm_law cd_law ct_law : Value}
    {f_Atlas_init : Addr} {od_Atlas_init an_Atlas_init : Option Addr} {sl_Atlas_init : Array (Option Value)} {oc_Atlas_init kV_Atlas_init dc_Atlas_init pm_Atlas_init cd_Atlas_init ct_Atlas_init : Value}
    {q_Atlas_init e_Atlas_init : Addr} {dd_Atlas_init de_Atlas_init : Option Addr} {sq_Atlas_init se_Atlas_init : Array (Option Value)} {nq_Atlas_init ne_Atlas_init : Nat}
    {f_Atlas_log : Addr} {od_Atlas_log an_Atlas_log : Option Addr} {sl_Atlas_log : Array (Option Value)} {oc_Atlas_log kV_Atlas_log dc_Atlas_log pm_Atlas_log cd_Atlas_log ct_Atlas_log : Value}
    {f_Atlas_with_log : Addr} {od_Atlas_with_log an_Atlas_with_log : Option Addr} {sl_Atlas_with_log : Array (Option Value)} {oc_Atlas_with_log kV_Atlas_with_log dc_Atlas_with_log pm_Atlas_with_log cd_Atlas_with_log ct_Atlas_with_log : Value}
    {f_Atlas_without : Addr} {od_Atlas_without an_Atlas_without : Option Addr} {sl_Atlas_without : Array (Option Value)} {oc_Atlas_without kV_Atlas_without dc_Atlas_without pm_Atlas_without cd_Atlas_without ct_Atlas_without : Value}
    {f_Atlas_eq : Addr} {od_Atlas_eq an_Atlas_eq : Option Addr} {sl_Atlas_eq : Array (Option Value)} {oc_Atlas_eq kV_Atlas_eq dc_Atlas_eq pm_Atlas_eq cd_Atlas_eq ct_Atlas_eq : Value}
    {f_Watch_are_told : Addr} {od_Watch_are_told an_Watch_are_told : Option Addr} {sl_Watch_are_told : Array (Option Value)} {oc_Watch_are_told kV_Watch_are_told dc_Watch_are_told pm_Watch_are_told cd_Watch_are_told ct_Watch_are_told : Value}
    {f_Watch_hear : Addr} {od_Watch_hear an_Watch_hear : Option Addr} {sl_Watch_hear : Array (Option Value)} {oc_Watch_hear kV_Watch_hear dc_Watch_hear pm_Watch_hear cd_Watch_hear ct_Watch_hear : Value}
    {f_Book_init : Addr} {od_Book_init an_Book_init : Option Addr} {sl_Book_init : Array (Option Value)} {oc_Book_init kV_Book_init dc_Book_init pm_Book_init cd_Book_init ct_Book_init : Value}
    {f_Book_turn_to : Addr} {od_Book_turn_to an_Book_turn_to : Option Addr} {sl_Book_turn_to : Array (Option Value)} {oc_Book_turn_to kV_Book_turn_to dc_Book_turn_to pm_Book_turn_to cd_Book_turn_to ct_Book_turn_to : Value}
    {f_Book_do : Addr} {od_Book_do an_Book_do : Option Addr} {sl_Book_do : Array (Option Value)} {oc_Book_do kV_Book_do dc_Book_do pm_Book_do cd_Book_do ct_Book_do : Value}
    {f_Book_put : Addr} {od_Book_put an_Book_put : Option Addr} {sl_Book_put : Array (Option Value)} {oc_Book_put kV_Book_put dc_Book_put pm_Book_put cd_Book_put ct_Book_put : Value}
    {f_Book_drop : Addr} {od_Book_drop an_Book_drop : Option Addr} {sl_Book_drop : Array (Option Value)} {oc_Book_drop kV_Book_drop dc_Book_drop pm_Book_drop cd_Book_drop ct_Book_drop : Value}
    {f_Book_note : Addr} {od_Book_note an_Book_note : Option Addr} {sl_Book_note : Array (Option Value)} {oc_Book_note kV_Book_note dc_Book_note pm_Book_note cd_Book_note ct_Book_note : Value}
    {f_Book_rename : Addr} {od_Book_rename an_Book_rename : Option Addr} {sl_Book_rename : Array (Option Value)} {oc_Book_rename kV_Book_rename dc_Book_rename pm_Book_rename cd_Book_rename ct_Book_rename : Value}
    {f_Book_refill : Addr} {od_Book_refill an_Book_refill : Option Addr} {sl_Book_refill : Array (Option Value)} {oc_Book_refill kV_Book_refill dc_Book_refill pm_Book_refill cd_Book_refill ct_Book_refill : Value}
    {f_Book_undo : Addr} {od_Book_undo an_Book_undo : Option Addr} {sl_Book_undo : Array (Option Value)} {oc_Book_undo kV_Book_undo dc_Book_undo pm_Book_undo cd_Book_undo ct_Book_undo : Value}
    {f_Book_atlas : Addr} {od_Book_atlas an_Book_atlas : Option Addr} {sl_Book_atlas : Array (Option Value)} {oc_Book_atlas kV_Book_atlas dc_Book_atlas pm_Book_atlas cd_Book_atlas ct_Book_atlas : Value}
    {f_Book_eq : Addr} {od_Book_eq an_Book_eq : Option Addr} {sl_Book_eq : Array (Option Value)} {oc_Book_eq kV_Book_eq dc_Book_eq pm_Book_eq cd_Book_eq ct_Book_eq : Value}
    {f_STEPS : Addr}
    {es_STEPS : Array DictEntry} {n_STEPS : Nat}
    
    
    
    {q_STEPS_0 : Addr}
    {dd_STEPS_0 : Option Addr} {sl_STEPS_0 : Array (Option Value)} {nn_STEPS_0 : Nat} {tk_STEPS_0_0 : Tok} {tk_STEPS_0_1 : Tok}
    {q_STEPS_1 : Addr}
    {dd_STEPS_1 : Option Addr} {sl_STEPS_1 : Array (Option Value)} {nn_STEPS_1 : Nat} {tk_STEPS_1_0 : Tok} {tk_STEPS_1_1 : Tok}
    {q_STEPS_2 : Addr}
    {dd_STEPS_2 : Option Addr} {sl_STEPS_2 : Array (Option Value)} {nn_STEPS_2 : Nat} {tk_STEPS_2_0 : Tok} {tk_STEPS_2_1 : Tok}
    {q_STEPS_3 : Addr}
    {dd_STEPS_3 : Option Addr} {sl_STEPS_3 : Array (Option Value)} {nn_STEPS_3 : Nat} {tk_STEPS_3_0 : Tok} {tk_STEPS_3_1 : Tok}
    {t_SMALL : Tok}
    {t_GREAT : Tok}
    {t_LONGEST : Tok}
    {f_WORDS_ALONE : Addr}
    {dd_WORDS_ALONE : Option Addr} {sl_WORDS_ALONE : Array (Option Value)} {nn_WORDS_ALONE : Nat} {tk_WORDS_ALONE_0 : Tok} {tk_WORDS_ALONE_1 : Tok} {tk_WORDS_ALONE_2 : Tok} {tk_WORDS_ALONE_3 : Tok} {tk_WORDS_ALONE_4 : Tok} {tk_WORDS_ALONE_5 : Tok}
    {f_WORDS_BEHIND_A_FACE : Addr}
    {dd_WORDS_BEHIND_A_FACE : Option Addr} {sl_WORDS_BEHIND_A_FACE : Array (Option Value)} {nn_WORDS_BEHIND_A_FACE : Nat} {tk_WORDS_BEHIND_A_FACE_0 : Tok} {tk_WORDS_BEHIND_A_FACE_1 : Tok} {tk_WORDS_BEHIND_A_FACE_2 : Tok} {tk_WORDS_BEHIND_A_FACE_3 : Tok} {tk_WORDS_BEHIND_A_FACE_4 : Tok} {tk_WORDS_BEHIND_A_FACE_5 : Tok}
    {t_HOW_MANY_LOTS : Tok}
    
    
    
    
    
    
    
    
    
    
    
    
    
    
    
    
    
    (A_Atlas : PySem.W.nsIn K mainGlobals "Atlas" = some (some (.ref f_Atlas))) (pg_Atlas : PySem.W.plainGet K f_Atlas Str.empty = true) (hd_Atlas : PySem.W.hasDictIn K f_Atlas = true) (po_Atlas : PySem.W.plainOver K f_Atlas = true) (sa_Atlas : PySem.W.findIn K (.ref f_Atlas) "__setattr__" = some (some (.builtin "object.__setattr__"))) (mk_Atlas : PySem.W.makesIn K f_Atlas = true) (kc_Atlas : PySem.W.keepIn K (.ref f_Atlas) = true)
    (nf_Atlas_box : PySem.W.findIn K (.ref f_Atlas) "box" = some none)
    (nf_Atlas_names : PySem.W.findIn K (.ref f_Atlas) "names" = some none)
    (nf_Atlas_logs : PySem.W.findIn K (.ref f_Atlas) "logs" = some none)
    (A_Watch : PySem.W.nsIn K mainGlobals "Watch" = some (some (.ref f_Watch))) (pg_Watch : PySem.W.plainGet K f_Watch Str.empty = true) (hd_Watch : PySem.W.hasDictIn K f_Watch = true) (po_Watch : PySem.W.plainOver K f_Watch = true) (sa_Watch : PySem.W.findIn K (.ref f_Watch) "__setattr__" = some (some (.builtin "object.__setattr__"))) (mk_Watch : PySem.W.makesIn K f_Watch = true) (kc_Watch : PySem.W.keepIn K (.ref f_Watch) = true)
    (nf_Watch_one : PySem.W.findIn K (.ref f_Watch) "one" = some none)
    (nf_Watch_other : PySem.W.findIn K (.ref f_Watch) "other" = some none)
    (nf_Watch_words : PySem.W.findIn K (.ref f_Watch) "words" = some none)
    (nf_Watch_going : PySem.W.findIn K (.ref f_Watch) "going" = some none)
    (A_Book : PySem.W.nsIn K mainGlobals "Book" = some (some (.ref f_Book))) (pg_Book : PySem.W.plainGet K f_Book Str.empty = true) (hd_Book : PySem.W.hasDictIn K f_Book = true) (po_Book : PySem.W.plainOver K f_Book = true) (sa_Book : PySem.W.findIn K (.ref f_Book) "__setattr__" = some (some (.builtin "object.__setattr__"))) (mk_Book : PySem.W.makesIn K f_Book = true) (kc_Book : PySem.W.keepIn K (.ref f_Book) = true)
    (nf_Book_now : PySem.W.findIn K (.ref f_Book) "now" = some none)
    (nf_Book_past : PySem.W.findIn K (.ref f_Book) "past" = some none)
    (nf_Book_future : PySem.W.findIn K (.ref f_Book) "future" = some none)
    (nf_Book_watches : PySem.W.findIn K (.ref f_Book) "watches" = some none)
    (A_is_whole : PySem.W.nsIn K mainGlobals "is_whole" = some (some (.ref f_is_whole))) (L_is_whole : K.lookup f_is_whole = some ⟨oc_is_whole, od_is_whole, .func (PySem.W.fnOf "is_whole" "is_whole" (defArgs s_is_whole) (defBody s_is_whole) (defScope s_is_whole) .none kV_is_whole dc_is_whole pm_is_whole an_is_whole cd_is_whole ct_is_whole), sl_is_whole⟩) (C_is_whole : PySem.W.codeIn K cd_is_whole "is_whole" = true) (K_is_whole : PySem.W.keepIn K (.ref f_is_whole) = true)
    (A_is_letter : PySem.W.nsIn K mainGlobals "is_letter" = some (some (.ref f_is_letter))) (L_is_letter : K.lookup f_is_letter = some ⟨oc_is_letter, od_is_letter, .func (PySem.W.fnOf "is_letter" "is_letter" (defArgs s_is_letter) (defBody s_is_letter) (defScope s_is_letter) .none kV_is_letter dc_is_letter pm_is_letter an_is_letter cd_is_letter ct_is_letter), sl_is_letter⟩) (C_is_letter : PySem.W.codeIn K cd_is_letter "is_letter" = true) (K_is_letter : PySem.W.keepIn K (.ref f_is_letter) = true)
    (A_is_short_text : PySem.W.nsIn K mainGlobals "is_short_text" = some (some (.ref f_is_short_text))) (L_is_short_text : K.lookup f_is_short_text = some ⟨oc_is_short_text, od_is_short_text, .func (PySem.W.fnOf "is_short_text" "is_short_text" (defArgs s_is_short_text) (defBody s_is_short_text) (defScope s_is_short_text) .none kV_is_short_text dc_is_short_text pm_is_short_text an_is_short_text cd_is_short_text ct_is_short_text), sl_is_short_text⟩) (C_is_short_text : PySem.W.codeIn K cd_is_short_text "is_short_text" = true) (K_is_short_text : PySem.W.keepIn K (.ref f_is_short_text) = true)
    (A_are_small : PySem.W.nsIn K mainGlobals "are_small" = some (some (.ref f_are_small))) (L_are_small : K.lookup f_are_small = some ⟨oc_are_small, od_are_small, .func (PySem.W.fnOf "are_small" "are_small" (defArgs s_are_small) (defBody s_are_small) (defScope s_are_small) .none kV_are_small dc_are_small pm_are_small an_are_small cd_are_small ct_are_small), sl_are_small⟩) (C_are_small : PySem.W.codeIn K cd_are_small "are_small" = true) (K_are_small : PySem.W.keepIn K (.ref f_are_small) = true)
    (A_is_name : PySem.W.nsIn K mainGlobals "is_name" = some (some (.ref f_is_name))) (L_is_name : K.lookup f_is_name = some ⟨oc_is_name, od_is_name, .func (PySem.W.fnOf "is_name" "is_name" (defArgs s_is_name) (defBody s_is_name) (defScope s_is_name) .none kV_is_name dc_is_name pm_is_name an_is_name cd_is_name ct_is_name), sl_is_name⟩) (C_is_name : PySem.W.codeIn K cd_is_name "is_name" = true) (K_is_name : PySem.W.keepIn K (.ref f_is_name) = true)
    (A_is_lone : PySem.W.nsIn K mainGlobals "is_lone" = some (some (.ref f_is_lone))) (L_is_lone : K.lookup f_is_lone = some ⟨oc_is_lone, od_is_lone, .func (PySem.W.fnOf "is_lone" "is_lone" (defArgs s_is_lone) (defBody s_is_lone) (defScope s_is_lone) .none kV_is_lone dc_is_lone pm_is_lone an_is_lone cd_is_lone ct_is_lone), sl_is_lone⟩) (C_is_lone : PySem.W.codeIn K cd_is_lone "is_lone" = true) (K_is_lone : PySem.W.keepIn K (.ref f_is_lone) = true)
    (A_is_sign : PySem.W.nsIn K mainGlobals "is_sign" = some (some (.ref f_is_sign))) (L_is_sign : K.lookup f_is_sign = some ⟨oc_is_sign, od_is_sign, .func (PySem.W.fnOf "is_sign" "is_sign" (defArgs s_is_sign) (defBody s_is_sign) (defScope s_is_sign) .none kV_is_sign dc_is_sign pm_is_sign an_is_sign cd_is_sign ct_is_sign), sl_is_sign⟩) (C_is_sign : PySem.W.codeIn K cd_is_sign "is_sign" = true) (K_is_sign : PySem.W.keepIn K (.ref f_is_sign) = true)
    (A_is_many : PySem.W.nsIn K mainGlobals "is_many" = some (some (.ref f_is_many))) (L_is_many : K.lookup f_is_many = some ⟨oc_is_many, od_is_many, .func (PySem.W.fnOf "is_many" "is_many" (defArgs s_is_many) (defBody s_is_many) (defScope s_is_many) .none kV_is_many dc_is_many pm_is_many an_is_many cd_is_many ct_is_many), sl_is_many⟩) (C_is_many : PySem.W.codeIn K cd_is_many "is_many" = true) (K_is_many : PySem.W.keepIn K (.ref f_is_many) = true)
    (A_is_pair_entry : PySem.W.nsIn K mainGlobals "is_pair_entry" = some (some (.ref f_is_pair_entry))) (L_is_pair_entry : K.lookup f_is_pair_entry = some ⟨oc_is_pair_entry, od_is_pair_entry, .func (PySem.W.fnOf "is_pair_entry" "is_pair_entry" (defArgs s_is_pair_entry) (defBody s_is_pair_entry) (defScope s_is_pair_entry) .none kV_is_pair_entry dc_is_pair_entry pm_is_pair_entry an_is_pair_entry cd_is_pair_entry ct_is_pair_entry), sl_is_pair_entry⟩) (C_is_pair_entry : PySem.W.codeIn K cd_is_pair_entry "is_pair_entry" = true) (K_is_pair_entry : PySem.W.keepIn K (.ref f_is_pair_entry) = true)
    (A_is_entry : PySem.W.nsIn K mainGlobals "is_entry" = some (some (.ref f_is_entry))) (L_is_entry : K.lookup f_is_entry = some ⟨oc_is_entry, od_is_entry, .func (PySem.W.fnOf "is_entry" "is_entry" (defArgs s_is_entry) (defBody s_is_entry) (defScope s_is_entry) .none kV_is_entry dc_is_entry pm_is_entry an_is_entry cd_is_entry ct_is_entry), sl_is_entry⟩) (C_is_entry : PySem.W.codeIn K cd_is_entry "is_entry" = true) (K_is_entry : PySem.W.keepIn K (.ref f_is_entry) = true)
    (A_held_log : PySem.W.nsIn K mainGlobals "held_log" = some (some (.ref f_held_log))) (L_held_log : K.lookup f_held_log = some ⟨oc_held_log, od_held_log, .func (PySem.W.fnOf "held_log" "held_log" (defArgs s_held_log) (defBody s_held_log) (defScope s_held_log) .none kV_held_log dc_held_log pm_held_log an_held_log cd_held_log ct_held_log), sl_held_log⟩) (C_held_log : PySem.W.codeIn K cd_held_log "held_log" = true) (K_held_log : PySem.W.keepIn K (.ref f_held_log) = true)
    (A_held_box : PySem.W.nsIn K mainGlobals "held_box" = some (some (.ref f_held_box))) (L_held_box : K.lookup f_held_box = some ⟨oc_held_box, od_held_box, .func (PySem.W.fnOf "held_box" "held_box" (defArgs s_held_box) (defBody s_held_box) (defScope s_held_box) .none kV_held_box dc_held_box pm_held_box an_held_box cd_held_box ct_held_box), sl_held_box⟩) (C_held_box : PySem.W.codeIn K cd_held_box "held_box" = true) (K_held_box : PySem.W.keepIn K (.ref f_held_box) = true)
    (A_held_log_of : PySem.W.nsIn K mainGlobals "held_log_of" = some (some (.ref f_held_log_of))) (L_held_log_of : K.lookup f_held_log_of = some ⟨oc_held_log_of, od_held_log_of, .func (PySem.W.fnOf "held_log_of" "held_log_of" (defArgs s_held_log_of) (defBody s_held_log_of) (defScope s_held_log_of) .none kV_held_log_of dc_held_log_of pm_held_log_of an_held_log_of cd_held_log_of ct_held_log_of), sl_held_log_of⟩) (C_held_log_of : PySem.W.codeIn K cd_held_log_of "held_log_of" = true) (K_held_log_of : PySem.W.keepIn K (.ref f_held_log_of) = true)
    (A_all_that_fit : PySem.W.nsIn K mainGlobals "all_that_fit" = some (some (.ref f_all_that_fit))) (L_all_that_fit : K.lookup f_all_that_fit = some ⟨oc_all_that_fit, od_all_that_fit, .func (PySem.W.fnOf "all_that_fit" "all_that_fit" (defArgs s_all_that_fit) (defBody s_all_that_fit) (defScope s_all_that_fit) (.ref q_all_that_fit) kV_all_that_fit dc_all_that_fit pm_all_that_fit an_all_that_fit cd_all_that_fit ct_all_that_fit), sl_all_that_fit⟩) (C_all_that_fit : PySem.W.codeIn K cd_all_that_fit "all_that_fit" = true) (K_all_that_fit : PySem.W.keepIn K (.ref f_all_that_fit) = true) (V_all_that_fit : K.lookup q_all_that_fit = some ⟨.type "tuple", dd_all_that_fit, .seq #[.none] nq_all_that_fit, sq_all_that_fit⟩)
    (A_pairs_of : PySem.W.nsIn K mainGlobals "pairs_of" = some (some (.ref f_pairs_of))) (L_pairs_of : K.lookup f_pairs_of = some ⟨oc_pairs_of, od_pairs_of, .func (PySem.W.fnOf "pairs_of" "pairs_of" (defArgs s_pairs_of) (defBody s_pairs_of) (defScope s_pairs_of) .none kV_pairs_of dc_pairs_of pm_pairs_of an_pairs_of cd_pairs_of ct_pairs_of), sl_pairs_of⟩) (C_pairs_of : PySem.W.codeIn K cd_pairs_of "pairs_of" = true) (K_pairs_of : PySem.W.keepIn K (.ref f_pairs_of) = true)
    (A_listen : PySem.W.nsIn K mainGlobals "listen" = some (some (.ref f_listen))) (L_listen : K.lookup f_listen = some ⟨oc_listen, od_listen, .func (PySem.W.fnOf "listen" "listen" (defArgs s_listen) (defBody s_listen) (defScope s_listen) .none kV_listen dc_listen pm_listen an_listen cd_listen ct_listen), sl_listen⟩) (C_listen : PySem.W.codeIn K cd_listen "listen" = true) (K_listen : PySem.W.keepIn K (.ref f_listen) = true)
    (A_Lsome_box : PySem.W.nsIn K mainGlobals "_law_some_box" = some (some (.ref f_Lsome_box))) (L_Lsome_box : K.lookup f_Lsome_box = some ⟨oc_Lsome_box, od_Lsome_box, .func (PySem.W.fnOf "_law_some_box" "_law_some_box" (defArgs s_Lsome_box) (defBody s_Lsome_box) (defScope s_Lsome_box) .none kV_Lsome_box dc_Lsome_box pm_Lsome_box an_Lsome_box cd_Lsome_box ct_Lsome_box), sl_Lsome_box⟩) (C_Lsome_box : PySem.W.codeIn K cd_Lsome_box "_law_some_box" = true) (K_Lsome_box : PySem.W.keepIn K (.ref f_Lsome_box) = true)
    (A_Lsigns : PySem.W.nsIn K mainGlobals "_law_signs" = some (some (.ref f_Lsigns))) (L_Lsigns : K.lookup f_Lsigns = some ⟨oc_Lsigns, od_Lsigns, .func (PySem.W.fnOf "_law_signs" "_law_signs" (defArgs s_Lsigns) (defBody s_Lsigns) (defScope s_Lsigns) .none kV_Lsigns dc_Lsigns pm_Lsigns an_Lsigns cd_Lsigns ct_Lsigns), sl_Lsigns⟩) (C_Lsigns : PySem.W.codeIn K cd_Lsigns "_law_signs" = true) (K_Lsigns : PySem.W.keepIn K (.ref f_Lsigns) = true)
    (A_Lshort_entry : PySem.W.nsIn K mainGlobals "_law_short_entry" = some (some (.ref f_Lshort_entry))) (L_Lshort_entry : K.lookup f_Lshort_entry = some ⟨oc_Lshort_entry, od_Lshort_entry, .func (PySem.W.fnOf "_law_short_entry" "_law_short_entry" (defArgs s_Lshort_entry) (defBody s_Lshort_entry) (defScope s_Lshort_entry) .none kV_Lshort_entry dc_Lshort_entry pm_Lshort_entry an_Lshort_entry cd_Lshort_entry ct_Lshort_entry), sl_Lshort_entry⟩) (C_Lshort_entry : PySem.W.codeIn K cd_Lshort_entry "_law_short_entry" = true) (K_Lshort_entry : PySem.W.keepIn K (.ref f_Lshort_entry) = true)
    (A_Lshort_log : PySem.W.nsIn K mainGlobals "_law_short_log" = some (some (.ref f_Lshort_log))) (L_Lshort_log : K.lookup f_Lshort_log = some ⟨oc_Lshort_log, od_Lshort_log, .func (PySem.W.fnOf "_law_short_log" "_law_short_log" (defArgs s_Lshort_log) (defBody s_Lshort_log) (defScope s_Lshort_log) .none kV_Lshort_log dc_Lshort_log pm_Lshort_log an_Lshort_log cd_Lshort_log ct_Lshort_log), sl_Lshort_log⟩) (C_Lshort_log : PySem.W.codeIn K cd_Lshort_log "_law_short_log" = true) (K_Lshort_log : PySem.W.keepIn K (.ref f_Lshort_log) = true)
    (A_Lpool : PySem.W.nsIn K mainGlobals "_law_pool" = some (some (.ref f_Lpool))) (L_Lpool : K.lookup f_Lpool = some ⟨oc_Lpool, od_Lpool, .func (PySem.W.fnOf "_law_pool" "_law_pool" (defArgs s_Lpool) (defBody s_Lpool) (defScope s_Lpool) .none kV_Lpool dc_Lpool pm_Lpool an_Lpool cd_Lpool ct_Lpool), sl_Lpool⟩) (C_Lpool : PySem.W.codeIn K cd_Lpool "_law_pool" = true) (K_Lpool : PySem.W.keepIn K (.ref f_Lpool) = true)
    (A_Ltake : PySem.W.nsIn K mainGlobals "_law_take" = some (some (.ref f_Ltake))) (L_Ltake : K.lookup f_Ltake = some ⟨oc_Ltake, od_Ltake, .func (PySem.W.fnOf "_law_take" "_law_take" (defArgs s_Ltake) (defBody s_Ltake) (defScope s_Ltake) .none kV_Ltake dc_Ltake pm_Ltake an_Ltake cd_Ltake ct_Ltake), sl_Ltake⟩) (C_Ltake : PySem.W.codeIn K cd_Ltake "_law_take" = true) (K_Ltake : PySem.W.keepIn K (.ref f_Ltake) = true)
    (A_Lmix : PySem.W.nsIn K mainGlobals "_law_mix" = some (some (.ref f_Lmix))) (L_Lmix : K.lookup f_Lmix = some ⟨oc_Lmix, od_Lmix, .func (PySem.W.fnOf "_law_mix" "_law_mix" (defArgs s_Lmix) (defBody s_Lmix) (defScope s_Lmix) .none kV_Lmix dc_Lmix pm_Lmix an_Lmix cd_Lmix ct_Lmix), sl_Lmix⟩) (C_Lmix : PySem.W.codeIn K cd_Lmix "_law_mix" = true) (K_Lmix : PySem.W.keepIn K (.ref f_Lmix) = true)
    (A_Lwhole : PySem.W.nsIn K mainGlobals "_law_whole" = some (some (.ref f_Lwhole))) (L_Lwhole : K.lookup f_Lwhole = some ⟨oc_Lwhole, od_Lwhole, .func (PySem.W.fnOf "_law_whole" "_law_whole" (defArgs s_Lwhole) (defBody s_Lwhole) (defScope s_Lwhole) .none kV_Lwhole dc_Lwhole pm_Lwhole an_Lwhole cd_Lwhole ct_Lwhole), sl_Lwhole⟩) (C_Lwhole : PySem.W.codeIn K cd_Lwhole "_law_whole" = true) (K_Lwhole : PySem.W.keepIn K (.ref f_Lwhole) = true)
    (A_Lsame : PySem.W.nsIn K mainGlobals "_law_same" = some (some (.ref f_Lsame))) (L_Lsame : K.lookup f_Lsame = some ⟨oc_Lsame, od_Lsame, .func (PySem.W.fnOf "_law_same" "_law_same" (defArgs s_Lsame) (defBody s_Lsame) (defScope s_Lsame) .none kV_Lsame dc_Lsame pm_Lsame an_Lsame cd_Lsame ct_Lsame), sl_Lsame⟩) (C_Lsame : PySem.W.codeIn K cd_Lsame "_law_same" = true) (K_Lsame : PySem.W.keepIn K (.ref f_Lsame) = true)
    (A_Lname : PySem.W.nsIn K mainGlobals "_law_name" = some (some (.ref f_Lname))) (L_Lname : K.lookup f_Lname = some ⟨oc_Lname, od_Lname, .func (PySem.W.fnOf "_law_name" "_law_name" (defArgs s_Lname) (defBody s_Lname) (defScope s_Lname) .none kV_Lname dc_Lname pm_Lname an_Lname cd_Lname ct_Lname), sl_Lname⟩) (C_Lname : PySem.W.codeIn K cd_Lname "_law_name" = true) (K_Lname : PySem.W.keepIn K (.ref f_Lname) = true)
    (A_Lnames : PySem.W.nsIn K mainGlobals "_law_names" = some (some (.ref f_Lnames))) (L_Lnames : K.lookup f_Lnames = some ⟨oc_Lnames, od_Lnames, .func (PySem.W.fnOf "_law_names" "_law_names" (defArgs s_Lnames) (defBody s_Lnames) (defScope s_Lnames) .none kV_Lnames dc_Lnames pm_Lnames an_Lnames cd_Lnames ct_Lnames), sl_Lnames⟩) (C_Lnames : PySem.W.codeIn K cd_Lnames "_law_names" = true) (K_Lnames : PySem.W.keepIn K (.ref f_Lnames) = true)
    (A_Llegs : PySem.W.nsIn K mainGlobals "_law_legs" = some (some (.ref f_Llegs))) (L_Llegs : K.lookup f_Llegs = some ⟨oc_Llegs, od_Llegs, .func (PySem.W.fnOf "_law_legs" "_law_legs" (defArgs s_Llegs) (defBody s_Llegs) (defScope s_Llegs) .none kV_Llegs dc_Llegs pm_Llegs an_Llegs cd_Llegs ct_Llegs), sl_Llegs⟩) (C_Llegs : PySem.W.codeIn K cd_Llegs "_law_legs" = true) (K_Llegs : PySem.W.keepIn K (.ref f_Llegs) = true)
    (A_Llaid : PySem.W.nsIn K mainGlobals "_law_laid" = some (some (.ref f_Llaid))) (L_Llaid : K.lookup f_Llaid = some ⟨oc_Llaid, od_Llaid, .func (PySem.W.fnOf "_law_laid" "_law_laid" (defArgs s_Llaid) (defBody s_Llaid) (defScope s_Llaid) .none kV_Llaid dc_Llaid pm_Llaid an_Llaid cd_Llaid ct_Llaid), sl_Llaid⟩) (C_Llaid : PySem.W.codeIn K cd_Llaid "_law_laid" = true) (K_Llaid : PySem.W.keepIn K (.ref f_Llaid) = true)
    (A_Lotherwise : PySem.W.nsIn K mainGlobals "_law_otherwise" = some (some (.ref f_Lotherwise))) (L_Lotherwise : K.lookup f_Lotherwise = some ⟨oc_Lotherwise, od_Lotherwise, .func (PySem.W.fnOf "_law_otherwise" "_law_otherwise" (defArgs s_Lotherwise) (defBody s_Lotherwise) (defScope s_Lotherwise) .none kV_Lotherwise dc_Lotherwise pm_Lotherwise an_Lotherwise cd_Lotherwise ct_Lotherwise), sl_Lotherwise⟩) (C_Lotherwise : PySem.W.codeIn K cd_Lotherwise "_law_otherwise" = true) (K_Lotherwise : PySem.W.keepIn K (.ref f_Lotherwise) = true)
    (A_law : PySem.W.nsIn K mainGlobals "law" = some (some (.ref f_law))) (L_law : K.lookup f_law = some ⟨oc_law, od_law, .func (PySem.W.fnOf "law" "law" (defArgs s_law) (defBody s_law) (defScope s_law) .none kV_law dc_law pm_law an_law cd_law ct_law), sl_law⟩) (C_law : PySem.W.codeIn K cd_law "law" = true) (K_law : PySem.W.keepIn K (.ref f_law) = true)
    (A_Atlas_init : PySem.W.findIn K (.ref f_Atlas) "__init__" = some (some (.ref f_Atlas_init))) (i_Atlas_init : PySem.W.isFn K (.ref f_Atlas_init) = true) (L_Atlas_init : K.lookup f_Atlas_init = some ⟨oc_Atlas_init, od_Atlas_init, .func (PySem.W.fnOf "__init__" "Atlas.__init__" (defArgs s_Atlas_init) (defBody s_Atlas_init) (defScope s_Atlas_init) (.ref q_Atlas_init) kV_Atlas_init dc_Atlas_init pm_Atlas_init an_Atlas_init cd_Atlas_init ct_Atlas_init), sl_Atlas_init⟩) (C_Atlas_init : PySem.W.codeIn K cd_Atlas_init "Atlas.__init__" = true) (K_Atlas_init : PySem.W.keepIn K (.ref f_Atlas_init) = true)
    (V_Atlas_init : K.lookup q_Atlas_init = some ⟨.type "tuple", dd_Atlas_init, .seq #[.ref e_Atlas_init] nq_Atlas_init, sq_Atlas_init⟩) (W_Atlas_init : K.lookup e_Atlas_init = some ⟨.type "tuple", de_Atlas_init, .seq #[] ne_Atlas_init, se_Atlas_init⟩)
    (A_Atlas_log : PySem.W.findIn K (.ref f_Atlas) "log" = some (some (.ref f_Atlas_log))) (i_Atlas_log : PySem.W.isFn K (.ref f_Atlas_log) = true) (L_Atlas_log : K.lookup f_Atlas_log = some ⟨oc_Atlas_log, od_Atlas_log, .func (PySem.W.fnOf "log" "Atlas.log" (defArgs s_Atlas_log) (defBody s_Atlas_log) (defScope s_Atlas_log) .none kV_Atlas_log dc_Atlas_log pm_Atlas_log an_Atlas_log cd_Atlas_log ct_Atlas_log), sl_Atlas_log⟩) (C_Atlas_log : PySem.W.codeIn K cd_Atlas_log "Atlas.log" = true) (K_Atlas_log : PySem.W.keepIn K (.ref f_Atlas_log) = true)
    (A_Atlas_with_log : PySem.W.findIn K (.ref f_Atlas) "with_log" = some (some (.ref f_Atlas_with_log))) (i_Atlas_with_log : PySem.W.isFn K (.ref f_Atlas_with_log) = true) (L_Atlas_with_log : K.lookup f_Atlas_with_log = some ⟨oc_Atlas_with_log, od_Atlas_with_log, .func (PySem.W.fnOf "with_log" "Atlas.with_log" (defArgs s_Atlas_with_log) (defBody s_Atlas_with_log) (defScope s_Atlas_with_log) .none kV_Atlas_with_log dc_Atlas_with_log pm_Atlas_with_log an_Atlas_with_log cd_Atlas_with_log ct_Atlas_with_log), sl_Atlas_with_log⟩) (C_Atlas_with_log : PySem.W.codeIn K cd_Atlas_with_log "Atlas.with_log" = true) (K_Atlas_with_log : PySem.W.keepIn K (.ref f_Atlas_with_log) = true)
    (A_Atlas_without : PySem.W.findIn K (.ref f_Atlas) "without" = some (some (.ref f_Atlas_without))) (i_Atlas_without : PySem.W.isFn K (.ref f_Atlas_without) = true) (L_Atlas_without : K.lookup f_Atlas_without = some ⟨oc_Atlas_without, od_Atlas_without, .func (PySem.W.fnOf "without" "Atlas.without" (defArgs s_Atlas_without) (defBody s_Atlas_without) (defScope s_Atlas_without) .none kV_Atlas_without dc_Atlas_without pm_Atlas_without an_Atlas_without cd_Atlas_without ct_Atlas_without), sl_Atlas_without⟩) (C_Atlas_without : PySem.W.codeIn K cd_Atlas_without "Atlas.without" = true) (K_Atlas_without : PySem.W.keepIn K (.ref f_Atlas_without) = true)
    (A_Atlas_eq : PySem.W.findIn K (.ref f_Atlas) "__eq__" = some (some (.ref f_Atlas_eq))) (i_Atlas_eq : PySem.W.isFn K (.ref f_Atlas_eq) = true) (L_Atlas_eq : K.lookup f_Atlas_eq = some ⟨oc_Atlas_eq, od_Atlas_eq, .func (PySem.W.fnOf "__eq__" "Atlas.__eq__" (defArgs s_Atlas_eq) (defBody s_Atlas_eq) (defScope s_Atlas_eq) .none kV_Atlas_eq dc_Atlas_eq pm_Atlas_eq an_Atlas_eq cd_Atlas_eq ct_Atlas_eq), sl_Atlas_eq⟩) (C_Atlas_eq : PySem.W.codeIn K cd_Atlas_eq "Atlas.__eq__" = true) (K_Atlas_eq : PySem.W.keepIn K (.ref f_Atlas_eq) = true)
    (A_Watch_are_told : PySem.W.findIn K (.ref f_Watch) "are_told" = some (some (.ref f_Watch_are_told))) (i_Watch_are_told : PySem.W.isFn K (.ref f_Watch_are_told) = true) (L_Watch_are_told : K.lookup f_Watch_are_told = some ⟨oc_Watch_are_told, od_Watch_are_told, .func (PySem.W.fnOf "are_told" "Watch.are_told" (defArgs s_Watch_are_told) (defBody s_Watch_are_told) (defScope s_Watch_are_told) .none kV_Watch_are_told dc_Watch_are_told pm_Watch_are_told an_Watch_are_told cd_Watch_are_told ct_Watch_are_told), sl_Watch_are_told⟩) (C_Watch_are_told : PySem.W.codeIn K cd_Watch_are_told "Watch.are_told" = true) (K_Watch_are_told : PySem.W.keepIn K (.ref f_Watch_are_told) = true)
    (A_Watch_hear : PySem.W.findIn K (.ref f_Watch) "hear" = some (some (.ref f_Watch_hear))) (i_Watch_hear : PySem.W.isFn K (.ref f_Watch_hear) = true) (L_Watch_hear : K.lookup f_Watch_hear = some ⟨oc_Watch_hear, od_Watch_hear, .func (PySem.W.fnOf "hear" "Watch.hear" (defArgs s_Watch_hear) (defBody s_Watch_hear) (defScope s_Watch_hear) .none kV_Watch_hear dc_Watch_hear pm_Watch_hear an_Watch_hear cd_Watch_hear ct_Watch_hear), sl_Watch_hear⟩) (C_Watch_hear : PySem.W.codeIn K cd_Watch_hear "Watch.hear" = true) (K_Watch_hear : PySem.W.keepIn K (.ref f_Watch_hear) = true)
    (A_Book_init : PySem.W.findIn K (.ref f_Book) "__init__" = some (some (.ref f_Book_init))) (i_Book_init : PySem.W.isFn K (.ref f_Book_init) = true) (L_Book_init : K.lookup f_Book_init = some ⟨oc_Book_init, od_Book_init, .func (PySem.W.fnOf "__init__" "Book.__init__" (defArgs s_Book_init) (defBody s_Book_init) (defScope s_Book_init) .none kV_Book_init dc_Book_init pm_Book_init an_Book_init cd_Book_init ct_Book_init), sl_Book_init⟩) (C_Book_init : PySem.W.codeIn K cd_Book_init "Book.__init__" = true) (K_Book_init : PySem.W.keepIn K (.ref f_Book_init) = true)
    (A_Book_turn_to : PySem.W.findIn K (.ref f_Book) "turn_to" = some (some (.ref f_Book_turn_to))) (i_Book_turn_to : PySem.W.isFn K (.ref f_Book_turn_to) = true) (L_Book_turn_to : K.lookup f_Book_turn_to = some ⟨oc_Book_turn_to, od_Book_turn_to, .func (PySem.W.fnOf "turn_to" "Book.turn_to" (defArgs s_Book_turn_to) (defBody s_Book_turn_to) (defScope s_Book_turn_to) .none kV_Book_turn_to dc_Book_turn_to pm_Book_turn_to an_Book_turn_to cd_Book_turn_to ct_Book_turn_to), sl_Book_turn_to⟩) (C_Book_turn_to : PySem.W.codeIn K cd_Book_turn_to "Book.turn_to" = true) (K_Book_turn_to : PySem.W.keepIn K (.ref f_Book_turn_to) = true)
    (A_Book_do : PySem.W.findIn K (.ref f_Book) "do" = some (some (.ref f_Book_do))) (i_Book_do : PySem.W.isFn K (.ref f_Book_do) = true) (L_Book_do : K.lookup f_Book_do = some ⟨oc_Book_do, od_Book_do, .func (PySem.W.fnOf "do" "Book.do" (defArgs s_Book_do) (defBody s_Book_do) (defScope s_Book_do) .none kV_Book_do dc_Book_do pm_Book_do an_Book_do cd_Book_do ct_Book_do), sl_Book_do⟩) (C_Book_do : PySem.W.codeIn K cd_Book_do "Book.do" = true) (K_Book_do : PySem.W.keepIn K (.ref f_Book_do) = true)
    (A_Book_put : PySem.W.findIn K (.ref f_Book) "put" = some (some (.ref f_Book_put))) (i_Book_put : PySem.W.isFn K (.ref f_Book_put) = true) (L_Book_put : K.lookup f_Book_put = some ⟨oc_Book_put, od_Book_put, .func (PySem.W.fnOf "put" "Book.put" (defArgs s_Book_put) (defBody s_Book_put) (defScope s_Book_put) .none kV_Book_put dc_Book_put pm_Book_put an_Book_put cd_Book_put ct_Book_put), sl_Book_put⟩) (C_Book_put : PySem.W.codeIn K cd_Book_put "Book.put" = true) (K_Book_put : PySem.W.keepIn K (.ref f_Book_put) = true)
    (A_Book_drop : PySem.W.findIn K (.ref f_Book) "drop" = some (some (.ref f_Book_drop))) (i_Book_drop : PySem.W.isFn K (.ref f_Book_drop) = true) (L_Book_drop : K.lookup f_Book_drop = some ⟨oc_Book_drop, od_Book_drop, .func (PySem.W.fnOf "drop" "Book.drop" (defArgs s_Book_drop) (defBody s_Book_drop) (defScope s_Book_drop) .none kV_Book_drop dc_Book_drop pm_Book_drop an_Book_drop cd_Book_drop ct_Book_drop), sl_Book_drop⟩) (C_Book_drop : PySem.W.codeIn K cd_Book_drop "Book.drop" = true) (K_Book_drop : PySem.W.keepIn K (.ref f_Book_drop) = true)
    (A_Book_note : PySem.W.findIn K (.ref f_Book) "note" = some (some (.ref f_Book_note))) (i_Book_note : PySem.W.isFn K (.ref f_Book_note) = true) (L_Book_note : K.lookup f_Book_note = some ⟨oc_Book_note, od_Book_note, .func (PySem.W.fnOf "note" "Book.note" (defArgs s_Book_note) (defBody s_Book_note) (defScope s_Book_note) .none kV_Book_note dc_Book_note pm_Book_note an_Book_note cd_Book_note ct_Book_note), sl_Book_note⟩) (C_Book_note : PySem.W.codeIn K cd_Book_note "Book.note" = true) (K_Book_note : PySem.W.keepIn K (.ref f_Book_note) = true)
    (A_Book_rename : PySem.W.findIn K (.ref f_Book) "rename" = some (some (.ref f_Book_rename))) (i_Book_rename : PySem.W.isFn K (.ref f_Book_rename) = true) (L_Book_rename : K.lookup f_Book_rename = some ⟨oc_Book_rename, od_Book_rename, .func (PySem.W.fnOf "rename" "Book.rename" (defArgs s_Book_rename) (defBody s_Book_rename) (defScope s_Book_rename) .none kV_Book_rename dc_Book_rename pm_Book_rename an_Book_rename cd_Book_rename ct_Book_rename), sl_Book_rename⟩) (C_Book_rename : PySem.W.codeIn K cd_Book_rename "Book.rename" = true) (K_Book_rename : PySem.W.keepIn K (.ref f_Book_rename) = true)
    (A_Book_refill : PySem.W.findIn K (.ref f_Book) "refill" = some (some (.ref f_Book_refill))) (i_Book_refill : PySem.W.isFn K (.ref f_Book_refill) = true) (L_Book_refill : K.lookup f_Book_refill = some ⟨oc_Book_refill, od_Book_refill, .func (PySem.W.fnOf "refill" "Book.refill" (defArgs s_Book_refill) (defBody s_Book_refill) (defScope s_Book_refill) .none kV_Book_refill dc_Book_refill pm_Book_refill an_Book_refill cd_Book_refill ct_Book_refill), sl_Book_refill⟩) (C_Book_refill : PySem.W.codeIn K cd_Book_refill "Book.refill" = true) (K_Book_refill : PySem.W.keepIn K (.ref f_Book_refill) = true)
    (A_Book_undo : PySem.W.findIn K (.ref f_Book) "undo" = some (some (.ref f_Book_undo))) (i_Book_undo : PySem.W.isFn K (.ref f_Book_undo) = true) (L_Book_undo : K.lookup f_Book_undo = some ⟨oc_Book_undo, od_Book_undo, .func (PySem.W.fnOf "undo" "Book.undo" (defArgs s_Book_undo) (defBody s_Book_undo) (defScope s_Book_undo) .none kV_Book_undo dc_Book_undo pm_Book_undo an_Book_undo cd_Book_undo ct_Book_undo), sl_Book_undo⟩) (C_Book_undo : PySem.W.codeIn K cd_Book_undo "Book.undo" = true) (K_Book_undo : PySem.W.keepIn K (.ref f_Book_undo) = true)
    (A_Book_atlas : PySem.W.findIn K (.ref f_Book) "atlas" = some (some (.ref f_Book_atlas))) (i_Book_atlas : PySem.W.isFn K (.ref f_Book_atlas) = true) (L_Book_atlas : K.lookup f_Book_atlas = some ⟨oc_Book_atlas, od_Book_atlas, .func (PySem.W.fnOf "atlas" "Book.atlas" (defArgs s_Book_atlas) (defBody s_Book_atlas) (defScope s_Book_atlas) .none kV_Book_atlas dc_Book_atlas pm_Book_atlas an_Book_atlas cd_Book_atlas ct_Book_atlas), sl_Book_atlas⟩) (C_Book_atlas : PySem.W.codeIn K cd_Book_atlas "Book.atlas" = true) (K_Book_atlas : PySem.W.keepIn K (.ref f_Book_atlas) = true)
    (A_Book_eq : PySem.W.findIn K (.ref f_Book) "__eq__" = some (some (.ref f_Book_eq))) (i_Book_eq : PySem.W.isFn K (.ref f_Book_eq) = true) (L_Book_eq : K.lookup f_Book_eq = some ⟨oc_Book_eq, od_Book_eq, .func (PySem.W.fnOf "__eq__" "Book.__eq__" (defArgs s_Book_eq) (defBody s_Book_eq) (defScope s_Book_eq) .none kV_Book_eq dc_Book_eq pm_Book_eq an_Book_eq cd_Book_eq ct_Book_eq), sl_Book_eq⟩) (C_Book_eq : PySem.W.codeIn K cd_Book_eq "Book.__eq__" = true) (K_Book_eq : PySem.W.keepIn K (.ref f_Book_eq) = true)
    (A_STEPS : PySem.W.nsIn K mainGlobals "STEPS" = some (some (.ref f_STEPS)))
    (D_STEPS : K.lookup f_STEPS = some ⟨.type "dict", none, .dict es_STEPS n_STEPS, #[]⟩)
    (Y_STEPS : PySem.W.KeysLit w.params es_STEPS.toList)
    (lo_STEPS : (f_STEPS == sysModules) = false)
    (ke_STEPS : Keys es_STEPS.toList ["n", "e", "s", "w"])
    (N_STEPS_0 : PySem.W.nsIn K f_STEPS "n" = some (some (.ref q_STEPS_0)))
    (V_STEPS_0 : K.lookup q_STEPS_0 = some ⟨.type "tuple", dd_STEPS_0, .seq #[.int (0) tk_STEPS_0_0, .int (1) tk_STEPS_0_1] nn_STEPS_0, sl_STEPS_0⟩)
    (N_STEPS_1 : PySem.W.nsIn K f_STEPS "e" = some (some (.ref q_STEPS_1)))
    (V_STEPS_1 : K.lookup q_STEPS_1 = some ⟨.type "tuple", dd_STEPS_1, .seq #[.int (1) tk_STEPS_1_0, .int (0) tk_STEPS_1_1] nn_STEPS_1, sl_STEPS_1⟩)
    (N_STEPS_2 : PySem.W.nsIn K f_STEPS "s" = some (some (.ref q_STEPS_2)))
    (V_STEPS_2 : K.lookup q_STEPS_2 = some ⟨.type "tuple", dd_STEPS_2, .seq #[.int (0) tk_STEPS_2_0, .int (-1) tk_STEPS_2_1] nn_STEPS_2, sl_STEPS_2⟩)
    (N_STEPS_3 : PySem.W.nsIn K f_STEPS "w" = some (some (.ref q_STEPS_3)))
    (V_STEPS_3 : K.lookup q_STEPS_3 = some ⟨.type "tuple", dd_STEPS_3, .seq #[.int (-1) tk_STEPS_3_0, .int (0) tk_STEPS_3_1] nn_STEPS_3, sl_STEPS_3⟩)
    (A_SMALL : PySem.W.nsIn K mainGlobals "SMALL" = some (some (.str "abcdefghijklmnopqrstuvwxyz" t_SMALL)))
    (A_GREAT : PySem.W.nsIn K mainGlobals "GREAT" = some (some (.str "ABCDEFGHIJKLMNOPQRSTUVWXYZ" t_GREAT)))
    (A_LONGEST : PySem.W.nsIn K mainGlobals "LONGEST" = some (some (.int 8 t_LONGEST)))
    (A_WORDS_ALONE : PySem.W.nsIn K mainGlobals "WORDS_ALONE" = some (some (.ref f_WORDS_ALONE)))
    (V_WORDS_ALONE : K.lookup f_WORDS_ALONE = some ⟨.type "tuple", dd_WORDS_ALONE, .seq #[.str "left" tk_WORDS_ALONE_0, .str "right" tk_WORDS_ALONE_1, .str "back" tk_WORDS_ALONE_2, .str "bump" tk_WORDS_ALONE_3, .str "bare" tk_WORDS_ALONE_4, .str "swap" tk_WORDS_ALONE_5] nn_WORDS_ALONE, sl_WORDS_ALONE⟩)
    (A_WORDS_BEHIND_A_FACE : PySem.W.nsIn K mainGlobals "WORDS_BEHIND_A_FACE" = some (some (.ref f_WORDS_BEHIND_A_FACE)))
    (V_WORDS_BEHIND_A_FACE : K.lookup f_WORDS_BEHIND_A_FACE = some ⟨.type "tuple", dd_WORDS_BEHIND_A_FACE, .seq #[.str "left" tk_WORDS_BEHIND_A_FACE_0, .str "right" tk_WORDS_BEHIND_A_FACE_1, .str "back" tk_WORDS_BEHIND_A_FACE_2, .str "go" tk_WORDS_BEHIND_A_FACE_3, .str "bump" tk_WORDS_BEHIND_A_FACE_4, .str "spy" tk_WORDS_BEHIND_A_FACE_5] nn_WORDS_BEHIND_A_FACE, sl_WORDS_BEHIND_A_FACE⟩)
    (A_HOW_MANY_LOTS : PySem.W.nsIn K mainGlobals "HOW_MANY_LOTS" = some (some (.int 8 t_HOW_MANY_LOTS)))
    (Z_abs : PySem.W.nsIn K mainGlobals "abs" = some none)
    (Z_all : PySem.W.nsIn K mainGlobals "all" = some none)
    (Z_any : PySem.W.nsIn K mainGlobals "any" = some none)
    (Z_bool : PySem.W.nsIn K mainGlobals "bool" = some none)
    (Z_enumerate : PySem.W.nsIn K mainGlobals "enumerate" = some none)
    (Z_int : PySem.W.nsIn K mainGlobals "int" = some none)
    (Z_isinstance : PySem.W.nsIn K mainGlobals "isinstance" = some none)
    (Z_len : PySem.W.nsIn K mainGlobals "len" = some none)
    (Z_list : PySem.W.nsIn K mainGlobals "list" = some none)
    (Z_range : PySem.W.nsIn K mainGlobals "range" = some none)
    (Z_sorted : PySem.W.nsIn K mainGlobals "sorted" = some none)
    (Z_str : PySem.W.nsIn K mainGlobals "str" = some none)
    (Z_tuple : PySem.W.nsIn K mainGlobals "tuple" = some none)
    (Z_zip : PySem.W.nsIn K mainGlobals "zip" = some none)
    (tc1_Atlas : PySem.W.findIn K (.ref f_Atlas) (PySem.Str.ofString "__class__") = some (some (.builtin "object.__class__"))) (tc2_Atlas : PySem.W.specialIn K (.builtin "object.__class__") (PySem.Str.ofString "__get__") = some (some (.builtin "getset_descriptor.__get__"))) (tc3_Atlas : PySem.W.takesIn K (.builtin "object.__class__") = some true) (tc4_Atlas : PySem.W.mroIn K f_Atlas (.type "object") = some true)
    (tn1_Atlas : PySem.W.findIn K (.ref f_Atlas) (PySem.Str.ofString "__ne__") = some (some (.builtin "object.__ne__"))) (tn2_Atlas : PySem.W.subIn K (.ref f_Atlas) (.type "object") = some true) (ic_Atlas : PySem.W.isClsIn K f_Atlas = true) (tt_Atlas : PySem.W.typeIn K (.ref f_Atlas) = some (.type "type"))
    (ns_NoneType : PySem.W.subIn K (.ref f_Atlas) (.type "NoneType") = some false) (nf_NoneType : PySem.W.subIn K (.type "NoneType") (.ref f_Atlas) = some false)
    (ns_bool : PySem.W.subIn K (.ref f_Atlas) (.type "bool") = some false) (nf_bool : PySem.W.subIn K (.type "bool") (.ref f_Atlas) = some false)
    (ns_int : PySem.W.subIn K (.ref f_Atlas) (.type "int") = some false) (nf_int : PySem.W.subIn K (.type "int") (.ref f_Atlas) = some false)
    (ns_str : PySem.W.subIn K (.ref f_Atlas) (.type "str") = some false) (nf_str : PySem.W.subIn K (.type "str") (.ref f_Atlas) = some false)
    (ns_list : PySem.W.subIn K (.ref f_Atlas) (.type "list") = some false) (nf_list : PySem.W.subIn K (.type "list") (.ref f_Atlas) = some false)
    (ns_tuple : PySem.W.subIn K (.ref f_Atlas) (.type "tuple") = some false) (nf_tuple : PySem.W.subIn K (.type "tuple") (.ref f_Atlas) = some false)
    (tc1_Book : PySem.W.findIn K (.ref f_Book) (PySem.Str.ofString "__class__") = some (some (.builtin "object.__class__"))) (tc2_Book : PySem.W.specialIn K (.builtin "object.__class__") (PySem.Str.ofString "__get__") = some (some (.builtin "getset_descriptor.__get__"))) (tc3_Book : PySem.W.takesIn K (.builtin "object.__class__") = some true) (tc4_Book : PySem.W.mroIn K f_Book (.type "object") = some true)
    (tn1_Book : PySem.W.findIn K (.ref f_Book) (PySem.Str.ofString "__ne__") = some (some (.builtin "object.__ne__"))) (tn2_Book : PySem.W.subIn K (.ref f_Book) (.type "object") = some true) (ic_Book : PySem.W.isClsIn K f_Book = true) (tt_Book : PySem.W.typeIn K (.ref f_Book) = some (.type "type"))
    (ns_BNoneType : PySem.W.subIn K (.ref f_Book) (.type "NoneType") = some false) (nf_BNoneType : PySem.W.subIn K (.type "NoneType") (.ref f_Book) = some false)
    (ns_Bbool : PySem.W.subIn K (.ref f_Book) (.type "bool") = some false) (nf_Bbool : PySem.W.subIn K (.type "bool") (.ref f_Book) = some false)
    (ns_Bint : PySem.W.subIn K (.ref f_Book) (.type "int") = some false) (nf_Bint : PySem.W.subIn K (.type "int") (.ref f_Book) = some false)
    (ns_Bstr : PySem.W.subIn K (.ref f_Book) (.type "str") = some false) (nf_Bstr : PySem.W.subIn K (.type "str") (.ref f_Book) = some false)
    (ns_Blist : PySem.W.subIn K (.ref f_Book) (.type "list") = some false) (nf_Blist : PySem.W.subIn K (.type "list") (.ref f_Book) = some false)
    (ns_Btuple : PySem.W.subIn K (.ref f_Book) (.type "tuple") = some false) (nf_Btuple : PySem.W.subIn K (.type "tuple") (.ref f_Book) = some false)
    (sb_AB : PySem.W.subIn K (.ref f_Atlas) (.ref f_Book) = some false) (sb_BB : PySem.W.subIn K (.ref f_Book) (.ref f_Book) = some true) :
    ∃ fd : FuncData, (∀ (s : Shared) (v : Value), BindsTo s fd ⟨[v], []⟩ [("_law_script", v)]) ∧ ∀ base : Heap, K.In base → base.Ns mainGlobals mg → FnOk l.prog w K mg base CX0 13 fa fd ["_law_script"] (spLaw K) := by
  have e := hfa.symm.trans (PySem.W.mg_of X G A_law)
  cases e
  let T : Top w K mg := {
    a_Atlas := f_Atlas, g_Atlas := PySem.W.mg_of X G A_Atlas, cl_Atlas := ⟨pg_Atlas, hd_Atlas, po_Atlas, sa_Atlas⟩,
    nf_Atlas_box := nf_Atlas_box,
    nf_Atlas_names := nf_Atlas_names,
    nf_Atlas_logs := nf_Atlas_logs,
    a_Watch := f_Watch, g_Watch := PySem.W.mg_of X G A_Watch, cl_Watch := ⟨pg_Watch, hd_Watch, po_Watch, sa_Watch⟩,
    nf_Watch_one := nf_Watch_one,
    nf_Watch_other := nf_Watch_other,
    nf_Watch_words := nf_Watch_words,
    nf_Watch_going := nf_Watch_going,
    a_Book := f_Book, g_Book := PySem.W.mg_of X G A_Book, cl_Book := ⟨pg_Book, hd_Book, po_Book, sa_Book⟩,
    nf_Book_now := nf_Book_now,
    nf_Book_past := nf_Book_past,
    nf_Book_future := nf_Book_future,
    nf_Book_watches := nf_Book_watches,
    a_is_whole := f_is_whole, fd_is_whole := _, F_is_whole := fun_mk (st := s_is_whole) L_is_whole C_is_whole K_is_whole,
    b_is_whole := (fun_mk (st := s_is_whole) L_is_whole C_is_whole K_is_whole).binds (ps := ["thing"]) fun _ _ _ _ _ _ us hl => match us, hl with | [_], _ => rfl,
    g_is_whole := PySem.W.mg_of X G A_is_whole,
    a_is_letter := f_is_letter, fd_is_letter := _, F_is_letter := fun_mk (st := s_is_letter) L_is_letter C_is_letter K_is_letter,
    b_is_letter := (fun_mk (st := s_is_letter) L_is_letter C_is_letter K_is_letter).binds (ps := ["thing"]) fun _ _ _ _ _ _ us hl => match us, hl with | [_], _ => rfl,
    g_is_letter := PySem.W.mg_of X G A_is_letter,
    a_is_short_text := f_is_short_text, fd_is_short_text := _, F_is_short_text := fun_mk (st := s_is_short_text) L_is_short_text C_is_short_text K_is_short_text,
    b_is_short_text := (fun_mk (st := s_is_short_text) L_is_short_text C_is_short_text K_is_short_text).binds (ps := ["thing"]) fun _ _ _ _ _ _ us hl => match us, hl with | [_], _ => rfl,
    g_is_short_text := PySem.W.mg_of X G A_is_short_text,
    a_are_small := f_are_small, fd_are_small := _, F_are_small := fun_mk (st := s_are_small) L_are_small C_are_small K_are_small,
    b_are_small := (fun_mk (st := s_are_small) L_are_small C_are_small K_are_small).binds (ps := ["text"]) fun _ _ _ _ _ _ us hl => match us, hl with | [_], _ => rfl,
    g_are_small := PySem.W.mg_of X G A_are_small,
    a_is_name := f_is_name, fd_is_name := _, F_is_name := fun_mk (st := s_is_name) L_is_name C_is_name K_is_name,
    b_is_name := (fun_mk (st := s_is_name) L_is_name C_is_name K_is_name).binds (ps := ["thing"]) fun _ _ _ _ _ _ us hl => match us, hl with | [_], _ => rfl,
    g_is_name := PySem.W.mg_of X G A_is_name,
    a_is_lone := f_is_lone, fd_is_lone := _, F_is_lone := fun_mk (st := s_is_lone) L_is_lone C_is_lone K_is_lone,
    b_is_lone := (fun_mk (st := s_is_lone) L_is_lone C_is_lone K_is_lone).binds (ps := ["thing"]) fun _ _ _ _ _ _ us hl => match us, hl with | [_], _ => rfl,
    g_is_lone := PySem.W.mg_of X G A_is_lone,
    a_is_sign := f_is_sign, fd_is_sign := _, F_is_sign := fun_mk (st := s_is_sign) L_is_sign C_is_sign K_is_sign,
    b_is_sign := (fun_mk (st := s_is_sign) L_is_sign C_is_sign K_is_sign).binds (ps := ["thing"]) fun _ _ _ _ _ _ us hl => match us, hl with | [_], _ => rfl,
    g_is_sign := PySem.W.mg_of X G A_is_sign,
    a_is_many := f_is_many, fd_is_many := _, F_is_many := fun_mk (st := s_is_many) L_is_many C_is_many K_is_many,
    b_is_many := (fun_mk (st := s_is_many) L_is_many C_is_many K_is_many).binds (ps := ["thing"]) fun _ _ _ _ _ _ us hl => match us, hl with | [_], _ => rfl,
    g_is_many := PySem.W.mg_of X G A_is_many,
    a_is_pair_entry := f_is_pair_entry, fd_is_pair_entry := _, F_is_pair_entry := fun_mk (st := s_is_pair_entry) L_is_pair_entry C_is_pair_entry K_is_pair_entry,
    b_is_pair_entry := (fun_mk (st := s_is_pair_entry) L_is_pair_entry C_is_pair_entry K_is_pair_entry).binds (ps := ["word", "part"]) fun _ _ _ _ _ _ us hl => match us, hl with | [_, _], _ => rfl,
    g_is_pair_entry := PySem.W.mg_of X G A_is_pair_entry,
    a_is_entry := f_is_entry, fd_is_entry := _, F_is_entry := fun_mk (st := s_is_entry) L_is_entry C_is_entry K_is_entry,
    b_is_entry := (fun_mk (st := s_is_entry) L_is_entry C_is_entry K_is_entry).binds (ps := ["thing"]) fun _ _ _ _ _ _ us hl => match us, hl with | [_], _ => rfl,
    g_is_entry := PySem.W.mg_of X G A_is_entry,
    a_held_log := f_held_log, fd_held_log := _, F_held_log := fun_mk (st := s_held_log) L_held_log C_held_log K_held_log,
    b_held_log := (fun_mk (st := s_held_log) L_held_log C_held_log K_held_log).binds (ps := ["entries"]) fun _ _ _ _ _ _ us hl => match us, hl with | [_], _ => rfl,
    g_held_log := PySem.W.mg_of X G A_held_log,
    a_held_box := f_held_box, fd_held_box := _, F_held_box := fun_mk (st := s_held_box) L_held_box C_held_box K_held_box,
    b_held_box := (fun_mk (st := s_held_box) L_held_box C_held_box K_held_box).binds (ps := ["box"]) fun _ _ _ _ _ _ us hl => match us, hl with | [_], _ => rfl,
    g_held_box := PySem.W.mg_of X G A_held_box,
    a_held_log_of := f_held_log_of, fd_held_log_of := _, F_held_log_of := fun_mk (st := s_held_log_of) L_held_log_of C_held_log_of K_held_log_of,
    b_held_log_of := (fun_mk (st := s_held_log_of) L_held_log_of C_held_log_of K_held_log_of).binds (ps := ["name", "log"]) fun _ _ _ _ _ _ us hl => match us, hl with | [_, _], _ => rfl,
    g_held_log_of := PySem.W.mg_of X G A_held_log_of,
    a_all_that_fit := f_all_that_fit, fd_all_that_fit := _, F_all_that_fit := (FunD.mk ⟨_, _, _, _, _, _, _, _, _, _, rfl, L_all_that_fit, C_all_that_fit, .inr ⟨(by intro z; cases z), _, _, _, _, rfl, V_all_that_fit, rfl, (.cons rfl .nil)⟩, .inl rfl⟩ K_all_that_fit : FunD K "all_that_fit" "all_that_fit" (defArgs s_all_that_fit) (defBody s_all_that_fit) (defScope s_all_that_fit) [.non] [] f_all_that_fit _),
    b1_all_that_fit := (FunD.mk ⟨_, _, _, _, _, _, _, _, _, _, rfl, L_all_that_fit, C_all_that_fit, .inr ⟨(by intro z; cases z), _, _, _, _, rfl, V_all_that_fit, rfl, (.cons rfl .nil)⟩, .inl rfl⟩ K_all_that_fit : FunD K "all_that_fit" "all_that_fit" (defArgs s_all_that_fit) (defBody s_all_that_fit) (defScope s_all_that_fit) [.non] [] f_all_that_fit _).binds1 (ps := ["atlas", "most"]) 1 0 (by intro z; cases z) rfl (fun _ _ _ _ _ _ _ us its hu hi => match us, its, hu, hi with | [_], [_], _, _ => ⟨_, rfl, rfl⟩),
    b_all_that_fit := by
      obtain ⟨ds, hv, hb⟩ := (FunD.mk ⟨_, _, _, _, _, _, _, _, _, _, rfl, L_all_that_fit, C_all_that_fit, .inr ⟨(by intro z; cases z), _, _, _, _, rfl, V_all_that_fit, rfl, (.cons rfl .nil)⟩, .inl rfl⟩ K_all_that_fit : FunD K "all_that_fit" "all_that_fit" (defArgs s_all_that_fit) (defBody s_all_that_fit) (defScope s_all_that_fit) [.non] [] f_all_that_fit _).binds1 (ps := ["atlas", "most"]) 2 1 (by intro z; cases z) rfl (fun _ _ _ _ _ _ _ us its hu hi => match us, its, hu, hi with | [_, _], [_], _, _ => ⟨_, rfl, rfl⟩)
      cases hv
      exact hb,
    g_all_that_fit := PySem.W.mg_of X G A_all_that_fit,
    a_pairs_of := f_pairs_of, fd_pairs_of := _, F_pairs_of := fun_mk (st := s_pairs_of) L_pairs_of C_pairs_of K_pairs_of,
    b_pairs_of := (fun_mk (st := s_pairs_of) L_pairs_of C_pairs_of K_pairs_of).binds (ps := ["atlas"]) fun _ _ _ _ _ _ us hl => match us, hl with | [_], _ => rfl,
    g_pairs_of := PySem.W.mg_of X G A_pairs_of,
    a_listen := f_listen, fd_listen := _, F_listen := fun_mk (st := s_listen) L_listen C_listen K_listen,
    b_listen := (fun_mk (st := s_listen) L_listen C_listen K_listen).binds (ps := ["atlas", "watches"]) fun _ _ _ _ _ _ us hl => match us, hl with | [_, _], _ => rfl,
    g_listen := PySem.W.mg_of X G A_listen,
    a_Lsome_box := f_Lsome_box, fd_Lsome_box := _, F_Lsome_box := fun_mk (st := s_Lsome_box) L_Lsome_box C_Lsome_box K_Lsome_box,
    b_Lsome_box := (fun_mk (st := s_Lsome_box) L_Lsome_box C_Lsome_box K_Lsome_box).binds (ps := ["_law_pool_here", "_law_many"]) fun _ _ _ _ _ _ us hl => match us, hl with | [_, _], _ => rfl,
    g_Lsome_box := PySem.W.mg_of X G A_Lsome_box,
    a_Lsigns := f_Lsigns, fd_Lsigns := _, F_Lsigns := fun_mk (st := s_Lsigns) L_Lsigns C_Lsigns K_Lsigns,
    b_Lsigns := (fun_mk (st := s_Lsigns) L_Lsigns C_Lsigns K_Lsigns).binds (ps := ["_law_pool_here"]) fun _ _ _ _ _ _ us hl => match us, hl with | [_], _ => rfl,
    g_Lsigns := PySem.W.mg_of X G A_Lsigns,
    a_Lshort_entry := f_Lshort_entry, fd_Lshort_entry := _, F_Lshort_entry := fun_mk (st := s_Lshort_entry) L_Lshort_entry C_Lshort_entry K_Lshort_entry,
    b_Lshort_entry := (fun_mk (st := s_Lshort_entry) L_Lshort_entry C_Lshort_entry K_Lshort_entry).binds (ps := ["_law_pool_here", "_law_signs_here", "_law_looks"]) fun _ _ _ _ _ _ us hl => match us, hl with | [_, _, _], _ => rfl,
    g_Lshort_entry := PySem.W.mg_of X G A_Lshort_entry,
    a_Lshort_log := f_Lshort_log, fd_Lshort_log := _, F_Lshort_log := fun_mk (st := s_Lshort_log) L_Lshort_log C_Lshort_log K_Lshort_log,
    b_Lshort_log := (fun_mk (st := s_Lshort_log) L_Lshort_log C_Lshort_log K_Lshort_log).binds (ps := ["_law_pool_here", "_law_signs_here", "_law_legs_here"]) fun _ _ _ _ _ _ us hl => match us, hl with | [_, _, _], _ => rfl,
    g_Lshort_log := PySem.W.mg_of X G A_Lshort_log,
    a_Lpool := f_Lpool, fd_Lpool := _, F_Lpool := fun_mk (st := s_Lpool) L_Lpool C_Lpool K_Lpool,
    b_Lpool := (fun_mk (st := s_Lpool) L_Lpool C_Lpool K_Lpool).binds (ps := ["_law_script", "_law_k"]) fun _ _ _ _ _ _ us hl => match us, hl with | [_, _], _ => rfl,
    g_Lpool := PySem.W.mg_of X G A_Lpool,
    a_Ltake := f_Ltake, fd_Ltake := _, F_Ltake := fun_mk (st := s_Ltake) L_Ltake C_Ltake K_Ltake,
    b_Ltake := (fun_mk (st := s_Ltake) L_Ltake C_Ltake K_Ltake).binds (ps := ["_law_pool_here", "_law_wide"]) fun _ _ _ _ _ _ us hl => match us, hl with | [_, _], _ => rfl,
    g_Ltake := PySem.W.mg_of X G A_Ltake,
    a_Lmix := f_Lmix, fd_Lmix := _, F_Lmix := fun_mk (st := s_Lmix) L_Lmix C_Lmix K_Lmix,
    b_Lmix := (fun_mk (st := s_Lmix) L_Lmix C_Lmix K_Lmix).binds (ps := ["_law_pool_here", "_law_things"]) fun _ _ _ _ _ _ us hl => match us, hl with | [_, _], _ => rfl,
    g_Lmix := PySem.W.mg_of X G A_Lmix,
    a_Lwhole := f_Lwhole, fd_Lwhole := _, F_Lwhole := fun_mk (st := s_Lwhole) L_Lwhole C_Lwhole K_Lwhole,
    b_Lwhole := (fun_mk (st := s_Lwhole) L_Lwhole C_Lwhole K_Lwhole).binds (ps := ["_law_thing"]) fun _ _ _ _ _ _ us hl => match us, hl with | [_], _ => rfl,
    g_Lwhole := PySem.W.mg_of X G A_Lwhole,
    a_Lsame := f_Lsame, fd_Lsame := _, F_Lsame := fun_mk (st := s_Lsame) L_Lsame C_Lsame K_Lsame,
    b_Lsame := (fun_mk (st := s_Lsame) L_Lsame C_Lsame K_Lsame).binds (ps := ["_law_found", "_law_due"]) fun _ _ _ _ _ _ us hl => match us, hl with | [_, _], _ => rfl,
    g_Lsame := PySem.W.mg_of X G A_Lsame,
    a_Lname := f_Lname, fd_Lname := _, F_Lname := fun_mk (st := s_Lname) L_Lname C_Lname K_Lname,
    b_Lname := (fun_mk (st := s_Lname) L_Lname C_Lname K_Lname).binds (ps := ["_law_pool_here"]) fun _ _ _ _ _ _ us hl => match us, hl with | [_], _ => rfl,
    g_Lname := PySem.W.mg_of X G A_Lname,
    a_Lnames := f_Lnames, fd_Lnames := _, F_Lnames := fun_mk (st := s_Lnames) L_Lnames C_Lnames K_Lnames,
    b_Lnames := (fun_mk (st := s_Lnames) L_Lnames C_Lnames K_Lnames).binds (ps := ["_law_pool_here", "_law_many"]) fun _ _ _ _ _ _ us hl => match us, hl with | [_, _], _ => rfl,
    g_Lnames := PySem.W.mg_of X G A_Lnames,
    a_Llegs := f_Llegs, fd_Llegs := _, F_Llegs := fun_mk (st := s_Llegs) L_Llegs C_Llegs K_Llegs,
    b_Llegs := (fun_mk (st := s_Llegs) L_Llegs C_Llegs K_Llegs).binds (ps := ["_law_log"]) fun _ _ _ _ _ _ us hl => match us, hl with | [_], _ => rfl,
    g_Llegs := PySem.W.mg_of X G A_Llegs,
    a_Llaid := f_Llaid, fd_Llaid := _, F_Llaid := fun_mk (st := s_Llaid) L_Llaid C_Llaid K_Llaid,
    b_Llaid := (fun_mk (st := s_Llaid) L_Llaid C_Llaid K_Llaid).binds (ps := ["_law_pool_here", "_law_box", "_law_rows", "_law_spare"]) fun _ _ _ _ _ _ us hl => match us, hl with | [_, _, _, _], _ => rfl,
    g_Llaid := PySem.W.mg_of X G A_Llaid,
    a_Lotherwise := f_Lotherwise, fd_Lotherwise := _, F_Lotherwise := fun_mk (st := s_Lotherwise) L_Lotherwise C_Lotherwise K_Lotherwise,
    b_Lotherwise := (fun_mk (st := s_Lotherwise) L_Lotherwise C_Lotherwise K_Lotherwise).binds (ps := ["_law_pool_here", "_law_box", "_law_rows", "_law_taken"]) fun _ _ _ _ _ _ us hl => match us, hl with | [_, _, _, _], _ => rfl,
    g_Lotherwise := PySem.W.mg_of X G A_Lotherwise,
    a_law := fa, fd_law := _, F_law := fun_mk (st := s_law) L_law C_law K_law,
    b_law := (fun_mk (st := s_law) L_law C_law K_law).binds (ps := ["_law_script"]) fun _ _ _ _ _ _ us hl => match us, hl with | [_], _ => rfl,
    g_law := PySem.W.mg_of X G A_law,
    a_Atlas_init := f_Atlas_init, fd_Atlas_init := _, e_Atlas_init := e_Atlas_init, ee_Atlas_init := fun H => .inr ⟨_, _, _, W_Atlas_init, rfl, rfl, Nat.zero_le _, .nil⟩, F_Atlas_init := (FunD.mk ⟨_, _, _, _, _, _, _, _, _, _, rfl, L_Atlas_init, C_Atlas_init, .inr ⟨(by intro z; cases z), _, _, _, _, rfl, V_Atlas_init, rfl, (.cons rfl .nil)⟩, .inl rfl⟩ K_Atlas_init : FunD K "__init__" "Atlas.__init__" (defArgs s_Atlas_init) (defBody s_Atlas_init) (defScope s_Atlas_init) [.ref e_Atlas_init] [] f_Atlas_init _),
    b1_Atlas_init := (FunD.mk ⟨_, _, _, _, _, _, _, _, _, _, rfl, L_Atlas_init, C_Atlas_init, .inr ⟨(by intro z; cases z), _, _, _, _, rfl, V_Atlas_init, rfl, (.cons rfl .nil)⟩, .inl rfl⟩ K_Atlas_init : FunD K "__init__" "Atlas.__init__" (defArgs s_Atlas_init) (defBody s_Atlas_init) (defScope s_Atlas_init) [.ref e_Atlas_init] [] f_Atlas_init _).binds1 (ps := ["self", "box", "logs"]) 2 0 (by intro z; cases z) rfl (fun _ _ _ _ _ _ _ us its hu hi => match us, its, hu, hi with | [_, _], [_], _, _ => ⟨_, rfl, rfl⟩),
    b_Atlas_init := by
      obtain ⟨ds, hv, hb⟩ := (FunD.mk ⟨_, _, _, _, _, _, _, _, _, _, rfl, L_Atlas_init, C_Atlas_init, .inr ⟨(by intro z; cases z), _, _, _, _, rfl, V_Atlas_init, rfl, (.cons rfl .nil)⟩, .inl rfl⟩ K_Atlas_init : FunD K "__init__" "Atlas.__init__" (defArgs s_Atlas_init) (defBody s_Atlas_init) (defScope s_Atlas_init) [.ref e_Atlas_init] [] f_Atlas_init _).binds1 (ps := ["self", "box", "logs"]) 3 1 (by intro z; cases z) rfl (fun _ _ _ _ _ _ _ us its hu hi => match us, its, hu, hi with | [_, _, _], [_], _, _ => ⟨_, rfl, rfl⟩)
      cases hv
      exact hb,
    mk_Atlas := ⟨mk_Atlas, A_Atlas_init, i_Atlas_init, kc_Atlas⟩,
    a_Atlas_log := f_Atlas_log, fd_Atlas_log := _, F_Atlas_log := fun_mk (st := s_Atlas_log) L_Atlas_log C_Atlas_log K_Atlas_log,
    b_Atlas_log := (fun_mk (st := s_Atlas_log) L_Atlas_log C_Atlas_log K_Atlas_log).binds (ps := ["self", "name"]) fun _ _ _ _ _ _ us hl => match us, hl with | [_, _], _ => rfl,
    me_Atlas_log := ⟨A_Atlas_log, i_Atlas_log, K_Atlas_log⟩,
    a_Atlas_with_log := f_Atlas_with_log, fd_Atlas_with_log := _, F_Atlas_with_log := fun_mk (st := s_Atlas_with_log) L_Atlas_with_log C_Atlas_with_log K_Atlas_with_log,
    b_Atlas_with_log := (fun_mk (st := s_Atlas_with_log) L_Atlas_with_log C_Atlas_with_log K_Atlas_with_log).binds (ps := ["self", "name", "log"]) fun _ _ _ _ _ _ us hl => match us, hl with | [_, _, _], _ => rfl,
    me_Atlas_with_log := ⟨A_Atlas_with_log, i_Atlas_with_log, K_Atlas_with_log⟩,
    a_Atlas_without := f_Atlas_without, fd_Atlas_without := _, F_Atlas_without := fun_mk (st := s_Atlas_without) L_Atlas_without C_Atlas_without K_Atlas_without,
    b_Atlas_without := (fun_mk (st := s_Atlas_without) L_Atlas_without C_Atlas_without K_Atlas_without).binds (ps := ["self", "name"]) fun _ _ _ _ _ _ us hl => match us, hl with | [_, _], _ => rfl,
    me_Atlas_without := ⟨A_Atlas_without, i_Atlas_without, K_Atlas_without⟩,
    a_Atlas_eq := f_Atlas_eq, fd_Atlas_eq := _, F_Atlas_eq := fun_mk (st := s_Atlas_eq) L_Atlas_eq C_Atlas_eq K_Atlas_eq,
    b_Atlas_eq := (fun_mk (st := s_Atlas_eq) L_Atlas_eq C_Atlas_eq K_Atlas_eq).binds (ps := ["self", "other"]) fun _ _ _ _ _ _ us hl => match us, hl with | [_, _], _ => rfl,
    me_Atlas_eq := ⟨A_Atlas_eq, i_Atlas_eq, K_Atlas_eq⟩,
    a_Watch_are_told := f_Watch_are_told, fd_Watch_are_told := _, F_Watch_are_told := fun_mk (st := s_Watch_are_told) L_Watch_are_told C_Watch_are_told K_Watch_are_told,
    b_Watch_are_told := (fun_mk (st := s_Watch_are_told) L_Watch_are_told C_Watch_are_told K_Watch_are_told).binds (ps := ["self", "atlas"]) fun _ _ _ _ _ _ us hl => match us, hl with | [_, _], _ => rfl,
    me_Watch_are_told := ⟨A_Watch_are_told, i_Watch_are_told, K_Watch_are_told⟩,
    a_Watch_hear := f_Watch_hear, fd_Watch_hear := _, F_Watch_hear := fun_mk (st := s_Watch_hear) L_Watch_hear C_Watch_hear K_Watch_hear,
    b_Watch_hear := (fun_mk (st := s_Watch_hear) L_Watch_hear C_Watch_hear K_Watch_hear).binds (ps := ["self", "atlas", "found"]) fun _ _ _ _ _ _ us hl => match us, hl with | [_, _, _], _ => rfl,
    me_Watch_hear := ⟨A_Watch_hear, i_Watch_hear, K_Watch_hear⟩,
    a_Book_init := f_Book_init, fd_Book_init := _, F_Book_init := fun_mk (st := s_Book_init) L_Book_init C_Book_init K_Book_init,
    b_Book_init := (fun_mk (st := s_Book_init) L_Book_init C_Book_init K_Book_init).binds (ps := ["self", "box"]) fun _ _ _ _ _ _ us hl => match us, hl with | [_, _], _ => rfl,
    mk_Book := ⟨mk_Book, A_Book_init, i_Book_init, kc_Book⟩,
    a_Book_turn_to := f_Book_turn_to, fd_Book_turn_to := _, F_Book_turn_to := fun_mk (st := s_Book_turn_to) L_Book_turn_to C_Book_turn_to K_Book_turn_to,
    b_Book_turn_to := (fun_mk (st := s_Book_turn_to) L_Book_turn_to C_Book_turn_to K_Book_turn_to).binds (ps := ["self", "atlas"]) fun _ _ _ _ _ _ us hl => match us, hl with | [_, _], _ => rfl,
    me_Book_turn_to := ⟨A_Book_turn_to, i_Book_turn_to, K_Book_turn_to⟩,
    a_Book_do := f_Book_do, fd_Book_do := _, F_Book_do := fun_mk (st := s_Book_do) L_Book_do C_Book_do K_Book_do,
    b_Book_do := (fun_mk (st := s_Book_do) L_Book_do C_Book_do K_Book_do).binds (ps := ["self", "atlas"]) fun _ _ _ _ _ _ us hl => match us, hl with | [_, _], _ => rfl,
    me_Book_do := ⟨A_Book_do, i_Book_do, K_Book_do⟩,
    a_Book_put := f_Book_put, fd_Book_put := _, F_Book_put := fun_mk (st := s_Book_put) L_Book_put C_Book_put K_Book_put,
    b_Book_put := (fun_mk (st := s_Book_put) L_Book_put C_Book_put K_Book_put).binds (ps := ["self", "name", "log"]) fun _ _ _ _ _ _ us hl => match us, hl with | [_, _, _], _ => rfl,
    me_Book_put := ⟨A_Book_put, i_Book_put, K_Book_put⟩,
    a_Book_drop := f_Book_drop, fd_Book_drop := _, F_Book_drop := fun_mk (st := s_Book_drop) L_Book_drop C_Book_drop K_Book_drop,
    b_Book_drop := (fun_mk (st := s_Book_drop) L_Book_drop C_Book_drop K_Book_drop).binds (ps := ["self", "name"]) fun _ _ _ _ _ _ us hl => match us, hl with | [_, _], _ => rfl,
    me_Book_drop := ⟨A_Book_drop, i_Book_drop, K_Book_drop⟩,
    a_Book_note := f_Book_note, fd_Book_note := _, F_Book_note := fun_mk (st := s_Book_note) L_Book_note C_Book_note K_Book_note,
    b_Book_note := (fun_mk (st := s_Book_note) L_Book_note C_Book_note K_Book_note).binds (ps := ["self", "name", "entry"]) fun _ _ _ _ _ _ us hl => match us, hl with | [_, _, _], _ => rfl,
    me_Book_note := ⟨A_Book_note, i_Book_note, K_Book_note⟩,
    a_Book_rename := f_Book_rename, fd_Book_rename := _, F_Book_rename := fun_mk (st := s_Book_rename) L_Book_rename C_Book_rename K_Book_rename,
    b_Book_rename := (fun_mk (st := s_Book_rename) L_Book_rename C_Book_rename K_Book_rename).binds (ps := ["self", "name", "other"]) fun _ _ _ _ _ _ us hl => match us, hl with | [_, _, _], _ => rfl,
    me_Book_rename := ⟨A_Book_rename, i_Book_rename, K_Book_rename⟩,
    a_Book_refill := f_Book_refill, fd_Book_refill := _, F_Book_refill := fun_mk (st := s_Book_refill) L_Book_refill C_Book_refill K_Book_refill,
    b_Book_refill := (fun_mk (st := s_Book_refill) L_Book_refill C_Book_refill K_Book_refill).binds (ps := ["self", "box"]) fun _ _ _ _ _ _ us hl => match us, hl with | [_, _], _ => rfl,
    me_Book_refill := ⟨A_Book_refill, i_Book_refill, K_Book_refill⟩,
    a_Book_undo := f_Book_undo, fd_Book_undo := _, F_Book_undo := fun_mk (st := s_Book_undo) L_Book_undo C_Book_undo K_Book_undo,
    b_Book_undo := (fun_mk (st := s_Book_undo) L_Book_undo C_Book_undo K_Book_undo).binds (ps := ["self"]) fun _ _ _ _ _ _ us hl => match us, hl with | [_], _ => rfl,
    me_Book_undo := ⟨A_Book_undo, i_Book_undo, K_Book_undo⟩,
    a_Book_atlas := f_Book_atlas, fd_Book_atlas := _, F_Book_atlas := fun_mk (st := s_Book_atlas) L_Book_atlas C_Book_atlas K_Book_atlas,
    b_Book_atlas := (fun_mk (st := s_Book_atlas) L_Book_atlas C_Book_atlas K_Book_atlas).binds (ps := ["self"]) fun _ _ _ _ _ _ us hl => match us, hl with | [_], _ => rfl,
    me_Book_atlas := ⟨A_Book_atlas, i_Book_atlas, K_Book_atlas⟩,
    a_Book_eq := f_Book_eq, fd_Book_eq := _, F_Book_eq := fun_mk (st := s_Book_eq) L_Book_eq C_Book_eq K_Book_eq,
    b_Book_eq := (fun_mk (st := s_Book_eq) L_Book_eq C_Book_eq K_Book_eq).binds (ps := ["self", "other"]) fun _ _ _ _ _ _ us hl => match us, hl with | [_, _], _ => rfl,
    me_Book_eq := ⟨A_Book_eq, i_Book_eq, K_Book_eq⟩,
    a_STEPS := f_STEPS, g_STEPS := PySem.W.mg_of X G A_STEPS,
    es_STEPS := _, n_STEPS := _, kd_STEPS := ⟨D_STEPS, Y_STEPS, lo_STEPS⟩,
    ns_STEPS := ns_keys D_STEPS ke_STEPS,
    v_STEPS_0 := ⟨_, ⟨_, _, _, D_STEPS, Y_STEPS, N_STEPS_0, rfl⟩, fun H => .inr ⟨_, _, _, V_STEPS_0, rfl, rfl, by show 2 ≤ sizeLine; decide, (.cons ⟨_, rfl⟩ (.cons ⟨_, rfl⟩ .nil))⟩⟩,
    v_STEPS_1 := ⟨_, ⟨_, _, _, D_STEPS, Y_STEPS, N_STEPS_1, rfl⟩, fun H => .inr ⟨_, _, _, V_STEPS_1, rfl, rfl, by show 2 ≤ sizeLine; decide, (.cons ⟨_, rfl⟩ (.cons ⟨_, rfl⟩ .nil))⟩⟩,
    v_STEPS_2 := ⟨_, ⟨_, _, _, D_STEPS, Y_STEPS, N_STEPS_2, rfl⟩, fun H => .inr ⟨_, _, _, V_STEPS_2, rfl, rfl, by show 2 ≤ sizeLine; decide, (.cons ⟨_, rfl⟩ (.cons ⟨_, rfl⟩ .nil))⟩⟩,
    v_STEPS_3 := ⟨_, ⟨_, _, _, D_STEPS, Y_STEPS, N_STEPS_3, rfl⟩, fun H => .inr ⟨_, _, _, V_STEPS_3, rfl, rfl, by show 2 ≤ sizeLine; decide, (.cons ⟨_, rfl⟩ (.cons ⟨_, rfl⟩ .nil))⟩⟩,
    g_SMALL := ⟨_, PySem.W.mg_of X G A_SMALL⟩,
    g_GREAT := ⟨_, PySem.W.mg_of X G A_GREAT⟩,
    g_LONGEST := ⟨_, PySem.W.mg_of X G A_LONGEST⟩,
    a_WORDS_ALONE := f_WORDS_ALONE, g_WORDS_ALONE := PySem.W.mg_of X G A_WORDS_ALONE,
    v_WORDS_ALONE := fun H => .inr ⟨_, _, _, V_WORDS_ALONE, rfl, rfl, by show 6 ≤ sizeLine; decide, (.cons ⟨_, rfl⟩ (.cons ⟨_, rfl⟩ (.cons ⟨_, rfl⟩ (.cons ⟨_, rfl⟩ (.cons ⟨_, rfl⟩ (.cons ⟨_, rfl⟩ .nil))))))⟩,
    a_WORDS_BEHIND_A_FACE := f_WORDS_BEHIND_A_FACE, g_WORDS_BEHIND_A_FACE := PySem.W.mg_of X G A_WORDS_BEHIND_A_FACE,
    v_WORDS_BEHIND_A_FACE := fun H => .inr ⟨_, _, _, V_WORDS_BEHIND_A_FACE, rfl, rfl, by show 6 ≤ sizeLine; decide, (.cons ⟨_, rfl⟩ (.cons ⟨_, rfl⟩ (.cons ⟨_, rfl⟩ (.cons ⟨_, rfl⟩ (.cons ⟨_, rfl⟩ (.cons ⟨_, rfl⟩ .nil))))))⟩,
    g_HOW_MANY_LOTS := ⟨_, PySem.W.mg_of X G A_HOW_MANY_LOTS⟩,
    ty_Atlas := ⟨tc1_Atlas, tc2_Atlas, tc3_Atlas, tc4_Atlas⟩,
    ne_Atlas := ⟨tn1_Atlas, tn2_Atlas⟩,
    no_Atlas_NoneType := ⟨ns_NoneType, nf_NoneType, kit_tyC ic_Atlas tt_Atlas nf_NoneType⟩,
    no_Atlas_bool := ⟨ns_bool, nf_bool, kit_tyC ic_Atlas tt_Atlas nf_bool⟩,
    no_Atlas_int := ⟨ns_int, nf_int, kit_tyC ic_Atlas tt_Atlas nf_int⟩,
    no_Atlas_str := ⟨ns_str, nf_str, kit_tyC ic_Atlas tt_Atlas nf_str⟩,
    no_Atlas_list := ⟨ns_list, nf_list, kit_tyC ic_Atlas tt_Atlas nf_list⟩,
    no_Atlas_tuple := ⟨ns_tuple, nf_tuple, kit_tyC ic_Atlas tt_Atlas nf_tuple⟩,
    ty_Book := ⟨tc1_Book, tc2_Book, tc3_Book, tc4_Book⟩,
    ne_Book := ⟨tn1_Book, tn2_Book⟩,
    no_Book_NoneType := ⟨ns_BNoneType, nf_BNoneType, kit_tyC ic_Book tt_Book nf_BNoneType⟩,
    no_Book_bool := ⟨ns_Bbool, nf_Bbool, kit_tyC ic_Book tt_Book nf_Bbool⟩,
    no_Book_int := ⟨ns_Bint, nf_Bint, kit_tyC ic_Book tt_Book nf_Bint⟩,
    no_Book_str := ⟨ns_Bstr, nf_Bstr, kit_tyC ic_Book tt_Book nf_Bstr⟩,
    no_Book_list := ⟨ns_Blist, nf_Blist, kit_tyC ic_Book tt_Book nf_Blist⟩,
    no_Book_tuple := ⟨ns_Btuple, nf_Btuple, kit_tyC ic_Book tt_Book nf_Btuple⟩,
    kt_AB := ⟨sb_AB, kit_tyR ic_Book tt_Book sb_AB sb_BB⟩,
    m_abs := PySem.W.mg_none_of X G Z_abs, m_all := PySem.W.mg_none_of X G Z_all, m_any := PySem.W.mg_none_of X G Z_any, m_bool := PySem.W.mg_none_of X G Z_bool, m_enumerate := PySem.W.mg_none_of X G Z_enumerate, m_int := PySem.W.mg_none_of X G Z_int, m_isinstance := PySem.W.mg_none_of X G Z_isinstance, m_len := PySem.W.mg_none_of X G Z_len, m_list := PySem.W.mg_none_of X G Z_list, m_range := PySem.W.mg_none_of X G Z_range, m_sorted := PySem.W.mg_none_of X G Z_sorted, m_str := PySem.W.mg_none_of X G Z_str, m_tuple := PySem.W.mg_none_of X G Z_tuple, m_zip := PySem.W.mg_none_of X G Z_zip }
  exact ⟨T.fd_law, fun s v => .of_eq rfl, fun base _ _ => ok_law T⟩
end M
/-! the names of the twins that the head would make of its trees: taken, so that it makes none (they are large, and the head does without them) -/
namespace PySem.W.Fast
def tw10644657814259394929 : Nat := 0
def tw10722062746870794924 : Nat := 0
def tw10994560038796384813 : Nat := 0
def tw11005346786995313613 : Nat := 0
def tw11253481118447089499 : Nat := 0
def tw11274179849447972177 : Nat := 0
def tw11375903184025498464 : Nat := 0
def tw11819511180525077820 : Nat := 0
def tw12392078046374088105 : Nat := 0
def tw13938303431946611787 : Nat := 0
def tw14880979694031353031 : Nat := 0
def tw14978189200948644449 : Nat := 0
def tw15339786523569899462 : Nat := 0
def tw15746767117069440028 : Nat := 0
def tw16473954262927069401 : Nat := 0
def tw2013961651009037640 : Nat := 0
def tw3349948631298347676 : Nat := 0
def tw4329083049736152020 : Nat := 0
def tw5553425509373164772 : Nat := 0
def tw5562307448045514058 : Nat := 0
def tw6695809617116102748 : Nat := 0
def tw7696311166848205696 : Nat := 0
def tw8719864007132852997 : Nat := 0
def tw8846277541718973497 : Nat := 0
def tw9157143875044922751 : Nat := 0
def tw9318925016388974736 : Nat := 0
def tw9772891297816070757 : Nat := 0
end PySem.W.Fast
open PySem PySem.W PyProof.Rows
set_option maxHeartbeats 0 in
theorem PySem.Challenge.cw_wayneedle_k76_books_equal_holds : PySem.Challenge.rw_wayneedle_k76_books_equal.Holds := by
  w_on; o_law; k_head; (case hw => w_witness2)
  k_fill
  refine L2.walk_of (l := PySem.Challenge.rw_wayneedle_k76_books_equal) (n := 63) (k := 13) (x := "_law_script") (CX := fun _ => L2.CX0) (sp := fun w => M.spLaw _) rfl (by decide) rfl ⟨rfl, by decide, by decide⟩ (fun w h Y => PySem.W.kIn_of Y) ?F (fun _ _ a ns hl _ hS => ⟨a, ns, rfl, hS, hl, fun _ => rfl⟩) (fun _ _ _ _ _ h => h)
  case F =>
    intro w mg fa h KX G hmg
    refine' M.all_mk KX G hmg ?A_Atlas ?pg_Atlas ?hd_Atlas ?po_Atlas ?sa_Atlas ?mk_Atlas ?kc_Atlas ?nf_Atlas_box ?nf_Atlas_names ?nf_Atlas_logs ?A_Watch ?pg_Watch ?hd_Watch ?po_Watch ?sa_Watch ?mk_Watch ?kc_Watch ?nf_Watch_one ?nf_Watch_other ?nf_Watch_words ?nf_Watch_going ?A_Book ?pg_Book ?hd_Book ?po_Book ?sa_Book ?mk_Book ?kc_Book ?nf_Book_now ?nf_Book_past ?nf_Book_future ?nf_Book_watches ?A_is_whole ?L_is_whole ?C_is_whole ?K_is_whole ?A_is_letter ?L_is_letter ?C_is_letter ?K_is_letter ?A_is_short_text ?L_is_short_text ?C_is_short_text ?K_is_short_text ?A_are_small ?L_are_small ?C_are_small ?K_are_small ?A_is_name ?L_is_name ?C_is_name ?K_is_name ?A_is_lone ?L_is_lone ?C_is_lone ?K_is_lone ?A_is_sign ?L_is_sign ?C_is_sign ?K_is_sign ?A_is_many ?L_is_many ?C_is_many ?K_is_many ?A_is_pair_entry ?L_is_pair_entry ?C_is_pair_entry ?K_is_pair_entry ?A_is_entry ?L_is_entry ?C_is_entry ?K_is_entry ?A_held_log ?L_held_log ?C_held_log ?K_held_log ?A_held_box ?L_held_box ?C_held_box ?K_held_box ?A_held_log_of ?L_held_log_of ?C_held_log_of ?K_held_log_of ?A_all_that_fit ?L_all_that_fit ?C_all_that_fit ?K_all_that_fit ?V_all_that_fit ?A_pairs_of ?L_pairs_of ?C_pairs_of ?K_pairs_of ?A_listen ?L_listen ?C_listen ?K_listen ?A_Lsome_box ?L_Lsome_box ?C_Lsome_box ?K_Lsome_box ?A_Lsigns ?L_Lsigns ?C_Lsigns ?K_Lsigns ?A_Lshort_entry ?L_Lshort_entry ?C_Lshort_entry ?K_Lshort_entry ?A_Lshort_log ?L_Lshort_log ?C_Lshort_log ?K_Lshort_log ?A_Lpool ?L_Lpool ?C_Lpool ?K_Lpool ?A_Ltake ?L_Ltake ?C_Ltake ?K_Ltake ?A_Lmix ?L_Lmix ?C_Lmix ?K_Lmix ?A_Lwhole ?L_Lwhole ?C_Lwhole ?K_Lwhole ?A_Lsame ?L_Lsame ?C_Lsame ?K_Lsame ?A_Lname ?L_Lname ?C_Lname ?K_Lname ?A_Lnames ?L_Lnames ?C_Lnames ?K_Lnames ?A_Llegs ?L_Llegs ?C_Llegs ?K_Llegs ?A_Llaid ?L_Llaid ?C_Llaid ?K_Llaid ?A_Lotherwise ?L_Lotherwise ?C_Lotherwise ?K_Lotherwise ?A_law ?L_law ?C_law ?K_law ?A_Atlas_init ?i_Atlas_init ?L_Atlas_init ?C_Atlas_init ?K_Atlas_init ?V_Atlas_init ?W_Atlas_init ?A_Atlas_log ?i_Atlas_log ?L_Atlas_log ?C_Atlas_log ?K_Atlas_log ?A_Atlas_with_log ?i_Atlas_with_log ?L_Atlas_with_log ?C_Atlas_with_log ?K_Atlas_with_log ?A_Atlas_without ?i_Atlas_without ?L_Atlas_without ?C_Atlas_without ?K_Atlas_without ?A_Atlas_eq ?i_Atlas_eq ?L_Atlas_eq ?C_Atlas_eq ?K_Atlas_eq ?A_Watch_are_told ?i_Watch_are_told ?L_Watch_are_told ?C_Watch_are_told ?K_Watch_are_told ?A_Watch_hear ?i_Watch_hear ?L_Watch_hear ?C_Watch_hear ?K_Watch_hear ?A_Book_init ?i_Book_init ?L_Book_init ?C_Book_init ?K_Book_init ?A_Book_turn_to ?i_Book_turn_to ?L_Book_turn_to ?C_Book_turn_to ?K_Book_turn_to ?A_Book_do ?i_Book_do ?L_Book_do ?C_Book_do ?K_Book_do ?A_Book_put ?i_Book_put ?L_Book_put ?C_Book_put ?K_Book_put ?A_Book_drop ?i_Book_drop ?L_Book_drop ?C_Book_drop ?K_Book_drop ?A_Book_note ?i_Book_note ?L_Book_note ?C_Book_note ?K_Book_note ?A_Book_rename ?i_Book_rename ?L_Book_rename ?C_Book_rename ?K_Book_rename ?A_Book_refill ?i_Book_refill ?L_Book_refill ?C_Book_refill ?K_Book_refill ?A_Book_undo ?i_Book_undo ?L_Book_undo ?C_Book_undo ?K_Book_undo ?A_Book_atlas ?i_Book_atlas ?L_Book_atlas ?C_Book_atlas ?K_Book_atlas ?A_Book_eq ?i_Book_eq ?L_Book_eq ?C_Book_eq ?K_Book_eq ?A_STEPS ?D_STEPS ?Y_STEPS ?lo_STEPS ?ke_STEPS ?N_STEPS_0 ?V_STEPS_0 ?N_STEPS_1 ?V_STEPS_1 ?N_STEPS_2 ?V_STEPS_2 ?N_STEPS_3 ?V_STEPS_3 ?A_SMALL ?A_GREAT ?A_LONGEST ?A_WORDS_ALONE ?V_WORDS_ALONE ?A_WORDS_BEHIND_A_FACE ?V_WORDS_BEHIND_A_FACE ?A_HOW_MANY_LOTS ?Z_abs ?Z_all ?Z_any ?Z_bool ?Z_enumerate ?Z_int ?Z_isinstance ?Z_len ?Z_list ?Z_range ?Z_sorted ?Z_str ?Z_tuple ?Z_zip ?tc1_Atlas ?tc2_Atlas ?tc3_Atlas ?tc4_Atlas ?tn1_Atlas ?tn2_Atlas ?ic_Atlas ?tt_Atlas ?ns_NoneType ?nf_NoneType ?ns_bool ?nf_bool ?ns_int ?nf_int ?ns_str ?nf_str ?ns_list ?nf_list ?ns_tuple ?nf_tuple ?tc1_Book ?tc2_Book ?tc3_Book ?tc4_Book ?tn1_Book ?tn2_Book ?ic_Book ?tt_Book ?ns_BNoneType ?nf_BNoneType ?ns_Bbool ?nf_Bbool ?ns_Bint ?nf_Bint ?ns_Bstr ?nf_Bstr ?ns_Blist ?nf_Blist ?ns_Btuple ?nf_Btuple ?sb_AB ?sb_BB
    (case A_Atlas => k_is); (case pg_Atlas => k_is); (case hd_Atlas => k_is); (case po_Atlas => k_is); (case sa_Atlas => k_is); (case mk_Atlas => k_is); (case kc_Atlas => k_is); (case nf_Atlas_box => k_is); (case nf_Atlas_names => k_is); (case nf_Atlas_logs => k_is); (case A_Watch => k_is); (case pg_Watch => k_is); (case hd_Watch => k_is); (case po_Watch => k_is); (case sa_Watch => k_is); (case mk_Watch => k_is); (case kc_Watch => k_is); (case nf_Watch_one => k_is); (case nf_Watch_other => k_is); (case nf_Watch_words => k_is); (case nf_Watch_going => k_is); (case A_Book => k_is); (case pg_Book => k_is); (case hd_Book => k_is); (case po_Book => k_is); (case sa_Book => k_is); (case mk_Book => k_is); (case kc_Book => k_is); (case nf_Book_now => k_is); (case nf_Book_past => k_is); (case nf_Book_future => k_is); (case nf_Book_watches => k_is); (case A_is_whole => k_is); (case L_is_whole => k_is); (case C_is_whole => k_is); (case K_is_whole => k_is); (case A_is_letter => k_is); (case L_is_letter => k_is); (case C_is_letter => k_is); (case K_is_letter => k_is); (case A_is_short_text => k_is); (case L_is_short_text => k_is); (case C_is_short_text => k_is); (case K_is_short_text => k_is); (case A_are_small => k_is); (case L_are_small => k_is); (case C_are_small => k_is); (case K_are_small => k_is); (case A_is_name => k_is); (case L_is_name => k_is); (case C_is_name => k_is); (case K_is_name => k_is); (case A_is_lone => k_is); (case L_is_lone => k_is); (case C_is_lone => k_is); (case K_is_lone => k_is); (case A_is_sign => k_is); (case L_is_sign => k_is); (case C_is_sign => k_is); (case K_is_sign => k_is); (case A_is_many => k_is); (case L_is_many => k_is); (case C_is_many => k_is); (case K_is_many => k_is); (case A_is_pair_entry => k_is); (case L_is_pair_entry => k_is); (case C_is_pair_entry => k_is); (case K_is_pair_entry => k_is); (case A_is_entry => k_is); (case L_is_entry => k_is); (case C_is_entry => k_is); (case K_is_entry => k_is); (case A_held_log => k_is); (case L_held_log => k_is); (case C_held_log => k_is); (case K_held_log => k_is); (case A_held_box => k_is); (case L_held_box => k_is); (case C_held_box => k_is); (case K_held_box => k_is); (case A_held_log_of => k_is); (case L_held_log_of => k_is); (case C_held_log_of => k_is); (case K_held_log_of => k_is); (case A_all_that_fit => k_is); (case L_all_that_fit => k_is); (case C_all_that_fit => k_is); (case K_all_that_fit => k_is); (case V_all_that_fit => k_is); (case A_pairs_of => k_is); (case L_pairs_of => k_is); (case C_pairs_of => k_is); (case K_pairs_of => k_is); (case A_listen => k_is); (case L_listen => k_is); (case C_listen => k_is); (case K_listen => k_is); (case A_Lsome_box => k_is); (case L_Lsome_box => k_is); (case C_Lsome_box => k_is); (case K_Lsome_box => k_is); (case A_Lsigns => k_is); (case L_Lsigns => k_is); (case C_Lsigns => k_is); (case K_Lsigns => k_is); (case A_Lshort_entry => k_is); (case L_Lshort_entry => k_is); (case C_Lshort_entry => k_is); (case K_Lshort_entry => k_is); (case A_Lshort_log => k_is); (case L_Lshort_log => k_is); (case C_Lshort_log => k_is); (case K_Lshort_log => k_is); (case A_Lpool => k_is); (case L_Lpool => k_is); (case C_Lpool => k_is); (case K_Lpool => k_is); (case A_Ltake => k_is); (case L_Ltake => k_is); (case C_Ltake => k_is); (case K_Ltake => k_is); (case A_Lmix => k_is); (case L_Lmix => k_is); (case C_Lmix => k_is); (case K_Lmix => k_is); (case A_Lwhole => k_is); (case L_Lwhole => k_is); (case C_Lwhole => k_is); (case K_Lwhole => k_is); (case A_Lsame => k_is); (case L_Lsame => k_is); (case C_Lsame => k_is); (case K_Lsame => k_is); (case A_Lname => k_is); (case L_Lname => k_is); (case C_Lname => k_is); (case K_Lname => k_is); (case A_Lnames => k_is); (case L_Lnames => k_is); (case C_Lnames => k_is); (case K_Lnames => k_is); (case A_Llegs => k_is); (case L_Llegs => k_is); (case C_Llegs => k_is); (case K_Llegs => k_is); (case A_Llaid => k_is); (case L_Llaid => k_is); (case C_Llaid => k_is); (case K_Llaid => k_is); (case A_Lotherwise => k_is); (case L_Lotherwise => k_is); (case C_Lotherwise => k_is); (case K_Lotherwise => k_is); (case A_law => k_is); (case L_law => k_is); (case C_law => k_is); (case K_law => k_is); (case A_Atlas_init => k_is); (case i_Atlas_init => k_is); (case L_Atlas_init => k_is); (case C_Atlas_init => k_is); (case K_Atlas_init => k_is); (case V_Atlas_init => k_is); (case W_Atlas_init => k_is); (case A_Atlas_log => k_is); (case i_Atlas_log => k_is); (case L_Atlas_log => k_is); (case C_Atlas_log => k_is); (case K_Atlas_log => k_is); (case A_Atlas_with_log => k_is); (case i_Atlas_with_log => k_is); (case L_Atlas_with_log => k_is); (case C_Atlas_with_log => k_is); (case K_Atlas_with_log => k_is); (case A_Atlas_without => k_is); (case i_Atlas_without => k_is); (case L_Atlas_without => k_is); (case C_Atlas_without => k_is); (case K_Atlas_without => k_is); (case A_Atlas_eq => k_is); (case i_Atlas_eq => k_is); (case L_Atlas_eq => k_is); (case C_Atlas_eq => k_is); (case K_Atlas_eq => k_is); (case A_Watch_are_told => k_is); (case i_Watch_are_told => k_is); (case L_Watch_are_told => k_is); (case C_Watch_are_told => k_is); (case K_Watch_are_told => k_is); (case A_Watch_hear => k_is); (case i_Watch_hear => k_is); (case L_Watch_hear => k_is); (case C_Watch_hear => k_is); (case K_Watch_hear => k_is); (case A_Book_init => k_is); (case i_Book_init => k_is); (case L_Book_init => k_is); (case C_Book_init => k_is); (case K_Book_init => k_is); (case A_Book_turn_to => k_is); (case i_Book_turn_to => k_is); (case L_Book_turn_to => k_is); (case C_Book_turn_to => k_is); (case K_Book_turn_to => k_is); (case A_Book_do => k_is); (case i_Book_do => k_is); (case L_Book_do => k_is); (case C_Book_do => k_is); (case K_Book_do => k_is); (case A_Book_put => k_is); (case i_Book_put => k_is); (case L_Book_put => k_is); (case C_Book_put => k_is); (case K_Book_put => k_is); (case A_Book_drop => k_is); (case i_Book_drop => k_is); (case L_Book_drop => k_is); (case C_Book_drop => k_is); (case K_Book_drop => k_is); (case A_Book_note => k_is); (case i_Book_note => k_is); (case L_Book_note => k_is); (case C_Book_note => k_is); (case K_Book_note => k_is); (case A_Book_rename => k_is); (case i_Book_rename => k_is); (case L_Book_rename => k_is); (case C_Book_rename => k_is); (case K_Book_rename => k_is); (case A_Book_refill => k_is); (case i_Book_refill => k_is); (case L_Book_refill => k_is); (case C_Book_refill => k_is); (case K_Book_refill => k_is); (case A_Book_undo => k_is); (case i_Book_undo => k_is); (case L_Book_undo => k_is); (case C_Book_undo => k_is); (case K_Book_undo => k_is); (case A_Book_atlas => k_is); (case i_Book_atlas => k_is); (case L_Book_atlas => k_is); (case C_Book_atlas => k_is); (case K_Book_atlas => k_is); (case A_Book_eq => k_is); (case i_Book_eq => k_is); (case L_Book_eq => k_is); (case C_Book_eq => k_is); (case K_Book_eq => k_is); (case A_STEPS => k_is); (case D_STEPS => k_is); (case Y_STEPS => k_keys); (case lo_STEPS => first | rfl | decide +kernel); (case ke_STEPS => exact ⟨⟨_, rfl⟩, ⟨_, rfl⟩, ⟨_, rfl⟩, ⟨_, rfl⟩, True.intro⟩); (case N_STEPS_0 => k_is); (case V_STEPS_0 => k_is); (case N_STEPS_1 => k_is); (case V_STEPS_1 => k_is); (case N_STEPS_2 => k_is); (case V_STEPS_2 => k_is); (case N_STEPS_3 => k_is); (case V_STEPS_3 => k_is); (case A_SMALL => k_is); (case A_GREAT => k_is); (case A_LONGEST => k_is); (case A_WORDS_ALONE => k_is); (case V_WORDS_ALONE => k_is); (case A_WORDS_BEHIND_A_FACE => k_is); (case V_WORDS_BEHIND_A_FACE => k_is); (case A_HOW_MANY_LOTS => k_is); (case Z_abs => k_is); (case Z_all => k_is); (case Z_any => k_is); (case Z_bool => k_is); (case Z_enumerate => k_is); (case Z_int => k_is); (case Z_isinstance => k_is); (case Z_len => k_is); (case Z_list => k_is); (case Z_range => k_is); (case Z_sorted => k_is); (case Z_str => k_is); (case Z_tuple => k_is); (case Z_zip => k_is); (case tc1_Atlas => k_is); (case tc2_Atlas => k_is); (case tc3_Atlas => k_is); (case tc4_Atlas => k_is); (case tn1_Atlas => k_is); (case tn2_Atlas => k_is); (case ic_Atlas => k_is); (case tt_Atlas => k_is); (case ns_NoneType => k_is); (case nf_NoneType => k_is); (case ns_bool => k_is); (case nf_bool => k_is); (case ns_int => k_is); (case nf_int => k_is); (case ns_str => k_is); (case nf_str => k_is); (case ns_list => k_is); (case nf_list => k_is); (case ns_tuple => k_is); (case nf_tuple => k_is); (case tc1_Book => k_is); (case tc2_Book => k_is); (case tc3_Book => k_is); (case tc4_Book => k_is); (case tn1_Book => k_is); (case tn2_Book => k_is); (case ic_Book => k_is); (case tt_Book => k_is); (case ns_BNoneType => k_is); (case nf_BNoneType => k_is); (case ns_Bbool => k_is); (case nf_Bbool => k_is); (case ns_Bint => k_is); (case nf_Bint => k_is); (case ns_Bstr => k_is); (case nf_Bstr => k_is); (case ns_Blist => k_is); (case nf_Blist => k_is); (case ns_Btuple => k_is); (case nf_Btuple => k_is); (case sb_AB => k_is); (case sb_BB => k_is)
