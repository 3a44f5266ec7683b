import PyProof.Rows.All
import Wide.All
import OpenK.AllK
import Wide.FinOn
import HandS.ForMost
import HandS.ForExc
import HandS.HotCalls
import HandS.ExcIs
import HandS.ExcInit
import HandS.ExcField
import HandS.Defaults
import HandS.CallSlots
import HandS.Deep
import KE.GoesEnum
import KE.GoesNew
import HandS.IsInst
import HandS.Replace
import HandS.Wide
import HandS.NoneIn
import HandS.Walk
import HandS.Evl
import HandS.More
import HandS.Zip
import HandS.Conv
import KE.KxIndex
import PySem.Challenge.RW_wayneedle_k81_logs_written
import HandS.TupMul
import HandS.Star
import HandS.TupAny
import HandS.Flow
import HandS.RaiseMore
import HandS.SortRule
import HandS.Strs
set_option Elab.async false
set_option linter.all false
set_option maxRecDepth 100000
set_option maxHeartbeats 4000000

/-! ### iterators that hand out pairs (enumerate, zip), over what is a list or a tuple: one turn for all of them, by GoesN -/
namespace PairW
open PySem PySem.Spec PyProof.Rows L2
/-- a sequence and an iterator over it: a tuple (true) or a list (false) -/
def SqB (t : Bool) (h : Heap) (l : Addr) (xs : Array Value) : Prop := match t with
  | true => h.IsTuple l xs
  | false => h.IsList l xs
def ItB (t : Bool) (h : Heap) (it l : Addr) (k : Nat) : Prop := match t with
  | true => h.IsTupleIter it l k
  | false => h.IsListIter it l k
def SqV (t : Bool) (K : PySem.W.Frag) (H : Hp) (a : Addr) (xs : List V) : Prop := match t with
  | true => SqT K H a xs
  | false => SqL K H a xs
def itO (t : Bool) (l : Addr) : Obj := match t with
  | true => { cls := .type "tuple_iterator", data := .fields #[.ref l, .int 0 0] }
  | false => { cls := .type "list_iterator", data := .fields #[.ref l, .int 0 0] }
theorem SqB.lt {t : Bool} {h : Heap} {a : Addr} {xs : Array Value} (q : SqB t h a xs) : a < h.objs.size := by
  cases t <;> (obtain ⟨o, e, _⟩ := q; exact Heap.lt_size e)
theorem ItB.at {t : Bool} {h h' : Heap} {a l : Addr} {k : Nat} (x : ItB t h a l k) (e : ∀ o, h.get? a = some o → h'.get? a = some o) : ItB t h' a l k := by
  cases t
  · exact Heap.IsListIter.at x e
  · exact Heap.IsTupleIter.at x e
theorem ItB.obj {t : Bool} {h : Heap} {a l : Addr} {k : Nat} (x : ItB t h a l k) : ∃ o, h.get? a = some o ∧ ∀ v, o.data ≠ .cell v := by
  cases t <;> (obtain ⟨o, e, _, d⟩ := x; exact ⟨o, e, fun v q => by rw [d] at q; cases q⟩)
theorem itO_is {t : Bool} {h : Heap} {a l : Addr} (e : h.get? a = some (itO t l)) : ItB t h a l 0 := by
  cases t <;> exact ⟨_, e, rfl, rfl⟩
theorem sqv_get {X : Cx} {pins : List (Addr × Obj)} {σ : L2.St} {H : Hp} {s : Shared} {t : Bool} {a : Addr} {xs : List V} (I : Inv X pins σ H s) (h : SqV t X.K H a xs) : ∃ its, Vals xs its ∧ SqB t s.heap a its.toArray := by
  cases t
  · obtain ⟨its, rv, there, _⟩ := I.list h
    exact ⟨its, rv, there.isList⟩
  · obtain ⟨its, rv, there, _⟩ := I.tuple h
    exact ⟨its, rv, there⟩
theorem sqv_inj {X : Cx} {pins : List (Addr × Obj)} {σ : L2.St} {H : Hp} {s : Shared} {t : Bool} {a : Addr} {xs ys : List V} (I : Inv X pins σ H s) (h : SqV t X.K H a xs) (h' : SqV t X.K H a ys) : xs = ys := by
  cases t
  · exact I.list_inj h h'
  · exact I.tuple_inj h h'
theorem draws {prog : Program} {w : World} {A : Around} (hh : A.handled = none) (t : Bool) {it l : Addr} (ne : l ≠ it) (items : Array Value) :
    Draws prog w A it [it, l] items.size (fun i v => items[i]? = some v) (fun i h => ItB t h it l i ∧ SqB t h l items) := by
  cases t
  · exact Draws.list hh it l ne items
  · exact Draws.tuple hh it l ne items
theorem begins (t : Bool) (l : Addr) (items : Array Value) : Begins (.ref l) (itO t l) (fun h => SqB t h l items) := by
  cases t
  · exact begins_list l items
  · exact begins_tuple l items
/-- an iterator stands, made of new cells alone -/
theorem begun {X : Cx} {pins : List (Addr × Obj)} {σ : L2.St} {H : Hp} {s : Shared} {tg : Expr} {J : It} {fp : List Addr} {it : Addr} {tn : Nat → Heap → Prop} {R : It → Hp → Prop} {h' : Heap} (I : Inv X pins σ H s)
    (old : ∀ b o, s.heap.get? b = some o → h'.get? b = some o) (T : Turn X.prog X.w X.K tg J fp it tn) (st : tn 0 h') (new : ∀ b ∈ fp, s.heap.objs.size ≤ b) (q : R J H) : PIE X pins σ tg R (.ref it) { s with heap := h' } :=
  ⟨it, fp, tn, J, H, rfl, I.kept (t' := s.toks) old, T, st, fun b m => I.fpOk (new b m) (I.hok.fresh (new b m)), q⟩
/-- pairs: when there is one, of what it is, when there is none any more -/
structure Prs where
  go : Nat → Hp → Prop
  are : Nat → Hp → V → V → Prop
  stop : Nat → Hp → Prop
def Prs.it (p : Prs) : It where
  go := p.go
  yld := fun i H v H' => ∃ T x y, v = .ref T ∧ H T = none ∧ H' = upd H T (.tup [x, y]) ∧ p.are i H x y
  stop := p.stop
/-- what the iterator that stands at i over the sequences as they are now does: the library's GoesN, with what its pairs are -/
def Does (P : Program) (w : World) (X : Cx) (tg : Expr) (p : Prs) (it : Addr) (wr : List Addr) (tn : Nat → Heap → Prop) (i : Nat) (H : Hp) (s : Shared) : Prop :=
  ∃ (n : Nat) (fp : List Addr) (Y : Nat → Heap → Value → Heap → Prop) (St : Nat → Heap → Prop), GoesN P w X.A tg it fp wr n Y St ∧ St i s.heap ∧ (∀ h, St (i + 1) h → tn (i + 1) h) ∧ (p.stop i H → i = n) ∧
    (p.go i H → i < n ∧ ∀ h0 v h, Y i h0 v h → ∃ T a b x y, v = .ref T ∧ h0.objs.size ≤ T ∧ h.IsTuple T #[a, b] ∧ RelV x a ∧ RelV y b ∧ p.are i H x y)
theorem turn_prs {P : Program} {w : World} {K : PySem.W.Frag} {tg : Expr} {it : Addr} {fp wr : List Addr} {tn : Nat → Heap → Prop} (p : Prs) (mine : it ∈ fp) (hwr : ∀ b ∈ wr, b ∈ fp)
    (obj : ∀ i h, tn i h → ∀ b ∈ fp, ∃ o, h.get? b = some o ∧ ∀ v, o.data ≠ .cell v) (keep : ∀ i h h', tn i h → (∀ b ∈ fp, ∀ o, h.get? b = some o → h'.get? b = some o) → tn i h')
    (self : ∀ (A : Around) (i : Nat) (s : Shared) (Q : Value → Shared → Prop) (E : Value → Shared → Prop), tn i s.heap → Q (.ref it) s → wpAny (model P w) A (pyIter (.ref it)) Q E s)
    (does : ∀ (X : Cx), X.prog = P → X.w = w → X.K = K → X.calm = true → ∀ i pins s σ H, Inv X pins σ H s → tn i s.heap → (p.go i H ∨ p.stop i H) → Does P w X tg p it wr tn i H s) : Turn P w K tg p.it fp it tn where
  mem := mine
  obj := obj
  keep := keep
  self := self
  item := fun X e1 e2 e3 calm i pins s σ H E I free st more => by
    obtain ⟨n, fp', Y, St, W, here, next, _, far⟩ := does X e1 e2 e3 calm i pins s σ H I st (.inl more)
    obtain ⟨lt, pair⟩ := far more
    refine W.goes i s (fun u s2 => ∃ x H', Inv X pins σ H' s2 ∧ RelV x u ∧ p.it.yld i H x H' ∧ tn (i + 1) s2.heap ∧ ∀ b ∈ fp, H' b = none) E lt here fun v h' tk told st' old _ => ?_
    obtain ⟨T, a, b, x, y, rfl, new, tup, ra, rb, are⟩ := pair _ _ _ told
    refine ⟨.ref T, upd H T (.tup [x, y]), I.turnedNew (ch := wr) old (fun c m => free c (hwr c m)) new ⟨by show 2 ≤ sizeLine; decide, [a, b], .cons ra (.cons rb .nil), tup⟩, rfl, ⟨T, x, y, rfl, I.hok.fresh new, rfl, are⟩, next _ st', fun c m => ?_⟩
    obtain ⟨o, ho, _⟩ := obj i _ st c m
    exact (upd_ne (Nat.ne_of_lt (Nat.lt_of_lt_of_le (Heap.lt_size ho) new))).trans (free c m).1
  done := fun X e1 e2 e3 calm i pins s σ H E I free st none => by
    obtain ⟨n, fp', Y, St, W, here, _, last, _⟩ := does X e1 e2 e3 calm i pins s σ H I st (.inr none)
    rw [last none] at here
    exact W.stops s (fun s1 => Inv X pins σ H s1) E here fun h' tk old _ => I.turnedL (ch := wr) old fun c m => free c (hwr c m)
/-! enumerate, from k0 on -/
def PrE (t : Bool) (k0 : Int) (K : PySem.W.Frag) (a : Addr) : Prs where
  go := fun i H => ∃ xs : List V, SqV t K H a xs ∧ i < xs.length
  are := fun i H x y => x = .int (k0 + (i : Nat)) ∧ ∀ xs, SqV t K H a xs → xs[i]? = some y
  stop := fun i H => ∃ xs : List V, SqV t K H a xs ∧ i = xs.length
def TnE (t : Bool) (k0 : Int) (a e it : Addr) (i : Nat) (h : Heap) : Prop := (∃ old, IsEnum h e it (k0 + (i : Int)) old) ∧ ItB t h it a i
theorem turn_e {P : Program} {w : World} {K : PySem.W.Frag} {elts : List Expr} {kk : Nat} {tpos : Pos} {t : Bool} {k0 : Int} {a e it : Addr} (hai : a ≠ it) (hae : a ≠ e) (hei : e ≠ it) :
    Turn P w K (.Tuple elts kk tpos) (PrE t k0 K a).it [e, it] e (TnE t k0 a e it) := by
  refine turn_prs (wr := [e, it]) _ (by simp) (fun _ m => m) (fun i h st b m => ?_) (fun i h h' st k => ?_) (fun A i s Q E st q => ?_) fun X e1 e2 e3 calm i pins s σ H I st told => ?_
  · obtain ⟨⟨_, he⟩, hi⟩ := st
    rcases List.mem_cons.mp m with z | m
    · exact z ▸ ⟨_, he, fun _ q => nomatch q⟩
    · exact List.mem_singleton.mp m ▸ hi.obj
  · obtain ⟨⟨old, he⟩, hi⟩ := st
    exact ⟨⟨old, k e (by simp) _ he⟩, hi.at fun o => k it (by simp) o⟩
  · exact wpAny_pyIter_enum st.1.choose_spec q
  · subst e1 e2 e3
    obtain ⟨xs, hq⟩ : ∃ xs : List V, SqV t X.K H a xs := told.elim (fun ⟨xs, q, _⟩ => ⟨xs, q⟩) fun ⟨xs, q, _⟩ => ⟨xs, q⟩
    obtain ⟨its, rv, there⟩ := sqv_get I hq
    have many : xs.length = its.toArray.size := by rw [List.size_toArray]; exact rv.length
    have D := draws (prog := X.prog) (w := X.w) (A := X.A.in1) (I.ok.hd calm) t hai its.toArray
    refine ⟨_, _, _, _, GoesN.enumFrom k0 D e hei (by simp; exact ⟨hei, Ne.symm hae⟩) (by simp), ⟨st.1, st.2, there⟩, fun h q => ⟨q.1, q.2.1⟩, fun ⟨ys, q, n⟩ => by rw [n, sqv_inj I q hq, many], fun ⟨ys, q, n⟩ => ⟨?_, ?_⟩⟩
    · rw [sqv_inj I q hq, many] at n; exact n
    · rintro h0 v h ⟨T, tk, u, rfl, new, hu, tup⟩
      have ix : i < xs.length := by rw [← sqv_inj I q hq]; exact n
      obtain ⟨u', hu', ru⟩ := rv.get (List.getElem?_eq_getElem ix)
      have same : u' = u := Option.some.inj (hu'.symm.trans (by simpa using hu))
      exact ⟨T, _, u, .int (k0 + (i : Nat)), xs[i], rfl, new, tup, ⟨tk, rfl⟩, same ▸ ru, rfl, fun zs hz => by rw [sqv_inj I hz hq]; exact List.getElem?_eq_getElem ix⟩
theorem walk_e {t : Bool} {k0 : Int} {K : PySem.W.Frag} {a : Addr} {xs : List V} : Walk (PrE t k0 K a).it xs.length (fun H => SqV t K H a xs) (YPair (fun i => some (.int (k0 + (i : Nat)))) (fun i => xs[i]?)) where
  goes := fun i H lt q => ⟨xs, q, lt⟩
  stops := fun H q => ⟨xs, q, rfl⟩
  yields := fun i H v H' _ q ⟨T, x, y, e1, e2, e3, e4, e5⟩ => ⟨T, x, y, e1, e2, e3, by rw [e4], e5 xs q⟩
/-- the two cells of an enumerate that was made just now -/
theorem pie_e {X : Cx} {pins : List (Addr × Obj)} {σ : L2.St} {H : Hp} {s : Shared} {elts : List Expr} {kk : Nat} {tpos : Pos} {t : Bool} {k0 : Int} {a : Addr} {xs : List V} {R : It → Hp → Prop} {h' : Heap} (I : Inv X pins σ H s) (hq : SqV t X.K H a xs)
    (he : IsEnum h' (s.heap.objs.size + 1) s.heap.objs.size k0 .none) (hi : h'.get? s.heap.objs.size = some (itO t a)) (old : ∀ b o, s.heap.get? b = some o → h'.get? b = some o) (q : R (PrE t k0 X.K a).it H) :
    wpAny (model X.prog X.w) X.A (pyIter (.ref (s.heap.objs.size + 1))) (PIE X pins σ (.Tuple elts kk tpos) R) X.xe { s with heap := h' } := by
  obtain ⟨its, _, there⟩ := sqv_get I hq
  have lt := there.lt
  refine wpAny_pyIter_enum he (begun I old (turn_e (t := t) (k0 := k0) (Nat.ne_of_lt lt) (Nat.ne_of_lt (Nat.lt_succ_of_lt lt)) (Nat.succ_ne_self _)) ⟨⟨.none, ?_⟩, itO_is hi⟩ (fun b m => ?_) q)
  · show IsEnum h' _ _ (k0 + 0) _
    rw [Int.add_zero]; exact he
  · rcases List.mem_cons.mp m with z | m
    · exact z ▸ Nat.le_succ _
    · exact Nat.le_of_eq (List.mem_singleton.mp m).symm
/-- enumerate of one thing, whatever its iterator is -/
theorem made_one {v : Value} {o : Obj} {G : Heap → Prop} (B : Begins v o G) : Meets (Builtin.«enumerate.__new__» ⟨[.type "enumerate", v], []⟩) (fun _ R s => G s.heap ∧
    R (.ok (.ret (.ref (s.heap.push o).objs.size))) { s with heap := (s.heap.push o).push { cls := .type "enumerate", data := .fields #[.none, .bool false, .ref s.heap.objs.size, rawInt 0, .none, .none] } }) := .of_wp fun prog w A R ⟨hp, g, dr, tk, os⟩ ⟨stands, ends⟩ => by
  have known := sub_enumerate
  have first : ∀ {A' : Around} {E Q : Value → Shared → Prop}, Q (.ref hp.objs.size) ⟨hp.push o, g, dr, tk, os⟩ → wpAny (model prog w) A' (pyIter v) Q E ⟨hp, g, dr, tk, os⟩ := fun q => B.iter prog w _ _ ⟨hp, g, dr, tk, os⟩ _ stands q
  wp_walk using first
  refine wpAny_stack_any (fun _ => wpAny_pure ?_)
  split
  next c _ _ _ _ _ => cases (c == Value.type "enumerate") <;> (wp_walk using first; exact ⟨_, rfl, ends⟩)
  next => wp_walk using first; exact ⟨_, rfl, ends⟩
theorem call_one {prog : Program} {w : World} {A : Around} {E : Value → Shared → Prop} {s : Shared} {v : Value} {o : Obj} {G : Heap → Prop} {Q : Value → Shared → Prop} (B : Begins v o G) (stands : G s.heap)
    (then_ : ∀ h', IsEnum h' (s.heap.objs.size + 1) s.heap.objs.size 0 .none → h'.get? s.heap.objs.size = some o → (∀ b o, s.heap.get? b = some o → h'.get? b = some o) → Q (.ref (s.heap.objs.size + 1)) { s with heap := h' }) :
    wpAny (model prog w) A (call (.type "enumerate") [v]) Q E s := by
  refine callType_new F.called_enumerate (by decide) (F.typeCall_enumerate_1 _) (F.newCall_enumerate_1 _) (fun obj => F.args_object_init_2 obj _) F.entry_enumerate_new (made_one B) ⟨stands, ?_⟩
  have n1 := Heap.size_push s.heap o
  have last : IsEnum ((s.heap.push o).push { cls := .type "enumerate", data := .fields #[.none, .bool false, .ref s.heap.objs.size, rawInt 0, .none, .none] }) (s.heap.objs.size + 1) s.heap.objs.size 0 .none := n1 ▸ Heap.get?_push_size (s.heap.push o) rfl
  refine n1.symm ▸ ⟨⟨_, last, rfl⟩, then_ _ last ?_ fun b u z => ?_⟩
  · exact Heap.get?_push_of_some _ (Heap.get?_push_size _ B.free)
  · exact Heap.get?_push_of_some _ (Heap.get?_push_of_some _ z)
end PairW
namespace EnumT
open PySem PySem.Spec PyProof.Rows L2 PairW
theorem walk_enumT {K : PySem.W.Frag} {a : Addr} {xs : List V} : Walk (PrE true 0 K a).it xs.length (fun H => SqT K H a xs) (YPair (fun i => some (.int (i : Nat))) (fun i => xs[i]?)) := by
  have w := walk_e (t := true) (k0 := 0) (K := K) (a := a) (xs := xs)
  simp only [Int.zero_add] at w
  exact w
def iEnumT (K : PySem.W.Frag) (ta : TA) : TI := fun σ H R => ta σ H fun vs H1 => ∃ a xs, vs = [.ref a] ∧ SqT K H1 a xs ∧ R (PrE true 0 K a).it H1
theorem pi_enumT {X : Cx} {e : Expr} {ta : TA} {p pos tpos : Pos} {elts : List Expr} {kk : Nat} (hg : Gl X "enumerate") (hm : X.mg "enumerate" = none) (ha : PA X [e] ta)
    (hs : starEach [e] X.env = [(false, eval e X.env)] := by rfl) : PI X (.Tuple elts kk tpos) (.Call (.Name "enumerate" p) [e] [] pos) (iEnumT X.K ta) where
  run := fun pins s σ H R I h => Call_ (ld_blt I hg hm boot_enumerate (PyProof.Rows.callWith_type1 (thn (ha.run pos pins s σ H _ I h) fun us s1 ⟨vs, H1, I1, rv, a, xs, e, hq, q⟩ => by
    subst e
    obtain ⟨_, rfl, rfl⟩ := vals1 rv
    obtain ⟨its, _, there⟩ := sqv_get (t := true) I1 hq
    exact call_one (begins true a its.toArray) there fun h' he hi old => pie_e (t := true) (xs := xs) I1 hq he hi old q) hs rfl))
end EnumT
/-! ### walks over what is a list or a tuple -/
namespace SeqW
open PySem PySem.Spec PySem.Calls PyProof.Rows L2
/-- what stands at a is as it was -/
def Keeps (a : Addr) (H H' : Hp) : Prop := ∀ o, H a = some o → H' a = some o
theorem keeps_v {t : Bool} {K : PySem.W.Frag} {H H' : Hp} {a : Addr} {xs : List V} (k : Keeps a H H') (h : PairW.SqV t K H a xs) : PairW.SqV t K H' a xs := by
  cases t <;> exact h.elim (fun h => .inl (h.elim (fun h => .inl (k _ h)) fun ⟨o, h⟩ => .inr ⟨o, k _ h⟩)) .inr
theorem keeps_l {K : PySem.W.Frag} {H H' : Hp} {a : Addr} {xs : List V} (k : Keeps a H H') (h : SqL K H a xs) : SqL K H' a xs := keeps_v (t := false) k h
theorem keeps_t {K : PySem.W.Frag} {H H' : Hp} {a : Addr} {xs : List V} (k : Keeps a H H') (h : SqT K H a xs) : SqT K H' a xs := keeps_v (t := true) k h
theorem keeps_same {a : Addr} {H H' : Hp} (s : Same H H') : Keeps a H H' := fun o h => s a o h
theorem ix_seqK {X : Cx} {K : PySem.W.Frag} (h : X.K = K) : IxR X (rIx K) := by
  subst h
  exact ix_seq
def iSeq (K : PySem.W.Frag) (tl : TE) : TI := fun σ H R => tl σ H fun x H1 => ∃ a xs, x = .ref a ∧ ∃ Kp : Hp → Prop, ((∀ H', Kp H' → SqL K H' a xs) ∨ (∀ H', Kp H' → SqT K H' a xs)) ∧ Kp H1 ∧ ∀ (J : It) (G : Hp → Prop), Walk J xs.length G (YAt xs) → (∀ H', Kp H' → G H') → R J H1
theorem pi_seq {X : Cx} {tg l : Expr} {tl : TE} (hl : PE X l tl) : PI X tg l (iSeq X.K tl) where
  run := fun pins s σ H R I h => thn (hl.run pins s σ H _ I h) fun v s1 ⟨x, H1, I1, rv, a, xs, e, Kp, side, kp, q⟩ => by
    subst e
    cases rv
    have new : ∀ b ∈ [s1.heap.objs.size], s1.heap.objs.size ≤ b := fun b m => Nat.le_of_eq (List.mem_singleton.mp m).symm
    rcases side with is | is
    · obtain ⟨its, _, there, _⟩ := I1.list (is _ kp)
      exact wpAny_pyIter_list there.isList (PairW.begun I1 (fun _ _ => Heap.get?_push_of_some _) (turn_list a _) ⟨_, Heap.get?_push_size _ rfl, rfl, rfl⟩ new (q _ _ walk_list is))
    · obtain ⟨its, _, there, _⟩ := I1.tuple (is _ kp)
      exact wpAny_pyIter_tuple (show s1.heap.IsTuple a its.toArray from there) (PairW.begun I1 (fun _ _ => Heap.get?_push_of_some _) (turn_tuple a _) ⟨_, Heap.get?_push_size _ rfl, rfl, rfl⟩ new (q _ _ walk_tup is))
def iEnumA (K : PySem.W.Frag) (ta : TA) : TI := fun σ H R => ta σ H fun vs H1 => ∃ a xs, vs = [.ref a] ∧ ∃ Kp : Hp → Prop, ((∀ H', Kp H' → SqL K H' a xs) ∨ (∀ H', Kp H' → SqT K H' a xs)) ∧ Kp H1 ∧ ∀ (J : It) (G : Hp → Prop), Walk J xs.length G (YPair (fun i => some (.int (i : Nat))) (fun i => xs[i]?)) → (∀ H', Kp H' → G H') → R J H1
theorem pi_enumA {X : Cx} {e : Expr} {ta : TA} {p pos tpos : Pos} {elts : List Expr} {kk : Nat} (hg : Gl X "enumerate") (hm : X.mg "enumerate" = none) (ha : PA X [e] ta)
    (hs : starEach [e] X.env = [(false, eval e X.env)] := by rfl) : PI X (.Tuple elts kk tpos) (.Call (.Name "enumerate" p) [e] [] pos) (iEnumA X.K ta) where
  run := fun pins s σ H R I h => Call_ (ld_blt I hg hm boot_enumerate (PyProof.Rows.callWith_type1 (thn (ha.run pos pins s σ H _ I h) fun us s1 ⟨vs, H1, I1, rv, a, xs, e, Kp, side, kp, q⟩ => by
    subst e
    obtain ⟨_, rfl, rfl⟩ := vals1 rv
    have go : ∀ t : Bool, (∀ H', Kp H' → PairW.SqV t X.K H' a xs) → wpAny (model X.prog X.w) X.A (call (.type "enumerate") [.ref a]) (fun v s2 => wpAny (model X.prog X.w) X.A (pyIter v) (PIE X pins σ (.Tuple elts kk tpos) R) X.xe s2) X.xe s1 := fun t is => by
      obtain ⟨its, _, there⟩ := PairW.sqv_get I1 (is _ kp)
      have w := PairW.walk_e (t := t) (k0 := 0) (K := X.K) (a := a) (xs := xs)
      simp only [Int.zero_add] at w
      exact PairW.call_one (PairW.begins t a its.toArray) there fun h' he hi old => PairW.pie_e (xs := xs) I1 (is _ kp) he hi old (q _ _ w is)
    exact side.elim (go false) (go true)) hs rfl))
end SeqW
/-! ### rules for what stands in a comprehension within another one -/
namespace SeqK
open PySem PySem.Spec PyProof.Rows L2
theorem pi_seqK {X : Cx} {K : PySem.W.Frag} {tg l : Expr} {tl : TE} (h : X.K = K) (hl : PE X l tl) : PI X tg l (SeqW.iSeq K tl) := by
  subst h
  exact SeqW.pi_seq hl
def rJoin (K : PySem.W.Frag) : V → List V → Hp → VK → Prop := fun x xs H Q => ∃ a p, ∃ ys : List Str, x = .str a ∧ xs = [.ref p] ∧ (SqL K H p (ys.map V.str) ∨ SqT K H p (ys.map V.str)) ∧ (ys.map (·.length)).sum + ys.length * a.length ≤ 16777216 ∧ Q (.str (Txt.join a ys)) H
theorem joinK {X : Cx} {K : PySem.W.Frag} (h : X.K = K) : MtR X "str.join" (rJoin K) := by
  subst h
  exact mt_join
section
variable {X : Cx} {K : PySem.W.Frag} {T id : String} {name : Str} {o e : Expr} {es : List Expr} {apos cpos : Pos} {r : V → List V → Hp → VK → Prop} {to : TE} {t : TA}
theorem pe_bmK (h : X.K = K) (pa : PlainAttrs T) (slot : Slot T name id) (hty : typeOf (.builtin id) = pure (.type "method_descriptor")) (hm : MtR X id r) (ho : PE X o to) (ha : PA X [e] t) (hbase : attributeBase o name X.env (eval o X.env) = eval o X.env := by rfl)
    (few : ((backTo cpos (starEach [e] X.env)).all (fun x => !x.1) && (backToKw cpos (keywordEach [] X.env)).all (fun x => x.1.isSome) && decide (([e] : List Expr).length + ([] : List Keyword).length + (if ([] : List Keyword).isEmpty then 0 else 1) < 30)) = true := by rfl)
    (line : (apos.endLine == cpos.line) = true := by rfl) (stars : starEach [e] X.env = (false, eval e X.env) :: starEach [] X.env := by rfl) (plain : (backTo cpos (starEach [] X.env)).any (·.1) = false := by rfl) : PE X (.Call (.Attribute o name apos) [e] [] cpos) (tBM K T r to t) := by
  subst h
  exact pe_bm pa slot hty hm ho ha hbase few line stars plain
end
end SeqK
/-! ### a def that is only called where nothing is being shown: str of what is nested -/
namespace GuG
open PySem PySem.Spec PyProof.Rows L2
structure FnG (P : Program) (w : World) (K : PySem.W.Frag) (mg : Str → Option Value) (base : Heap) (k : Nat) (f : Addr) (fd : FuncData) (ps : List Str) (sp : Sp) : Prop where
  len : ∀ vs H Q E, sp vs H Q E → vs.length = ps.length
  runG : ∀ (A : Around) (outer : List Env) (s : Shared) (H : Hp) (args : Args) (us : List Value) (vs : List V) (Q : VK) (E : XK), A.guards = some [] → Room k A → Env0 P w K mg base A outer s H →
    BindsTo s fd args (ps.zip us) → Vals vs us → sp vs H Q E → codeAny (model P w) A (.call (.ref f) args) (CR CX0 outer P w H s Q E) s
section
variable {P : Program} {w : World} {K : PySem.W.Frag} {mg : Str → Option Value} {base : Heap}
theorem okG {x qual : Str} {st : Stmt} {f : Addr} {fd : FuncData} {N ps : List Str} {k : Nat} {sp : Sp} (F : Fun K x qual st f fd) (S : FnScope N ps (defScope st)) (len : ∀ vs H Q E, sp vs H Q E → vs.length = ps.length)
    (body : ∀ (cdv : Value) (A : Around) (outer : List Env) (s : Shared) (H : Hp) (vs : List V) (Q : VK) (E : XK), A.guards = some [] → Room k (A.deeper (envOfC qual (defScope st) s.heap.objs.size f cdv)) → sp vs H Q E →
      ∃ t, PSs (cxOf CX0 P w K mg base N qual (defScope st) f cdv A outer s H E).nox (defBody st) t ∧ t { nx := fun _ H' => Q .non H', rt := Q } (start N vs) H) : FnG P w K mg base (k + 1) f fd ps sp := by
  obtain ⟨c1, c2, c3, c4, c5, c6, cd, c8, c9, rfl, look, code⟩ := F.ex
  refine ⟨len, fun A outer s H args us vs Q E gd room env0 bind rel hsp => ?_⟩
  have here : K.In s.heap := env0.mod.kin.keeps (fun c u e => (env0.bs c u e).1)
  have kinds : ∀ y ∈ ps.zip us, (defScope st).names.lookup y.1 = some .local ∨ ((defScope st).names.lookup y.1 = some .cell ∧ ((cellsFrom (s.heap.objs.size + 1) (defScope st).names []).lookup y.1).isSome = true) := fun ⟨n, v⟩ hy =>
    (S.par n (List.of_mem_zip hy).1).elim .inl (fun q => .inr ⟨q, PySem.W.cellsFrom_some _ _ _ (.inl q)⟩)
  refine codeAny_call_function room.depth (here _ _ look) rfl S.co S.gen rfl (PySem.W.codeRec_of here code) (bind _ _ _ _ (wpAny_newFunctionEnv_cells S.kind kinds fun env he s1 x => ?_))
  subst he
  refine ⟨(env0.mod.nolimit.keeps fun c u e => (env0.bs c u e).1).keeps x.toInCall.keep, codeAny_func ?_⟩
  obtain ⟨t, ht, hq⟩ := body cd A outer s H vs Q E gd (room.deeper _) hsp
  have I := inv_start (CX := CX0) (E := E) S room.hd env0 (len _ _ _ _ hsp) rel x
  refine wpAny_mono (ht.nox.run [] s1 (start N vs) H _ I hq) (fun fl s' done => ?_) (fun e s' done => done)
  match fl, done with
  | .ret u, ⟨v, σ', H', J, rv, q⟩ => exact ⟨v, H', J.os, J.bare, J.base, J.hok, rv, q⟩
  | .next, ⟨σ', H', J, q⟩ => exact ⟨.non, H', J.os, J.bare, J.base, J.hok, rfl, q⟩
  | .brk, ⟨_, _, _, q⟩ => exact q.elim
  | .cont, ⟨_, _, _, q⟩ => exact q.elim
end
/-- the law called with a script, at the place where laws are called -/
theorem called {P : Program} {w : World} {K : PySem.W.Frag} {mg mb : Str → Option Value} {k : Nat} {fa a : Addr} {fd : FuncData} {x : Str} {sp : Sp} {s1 : Shared} {vals : List Value} {ns : List Int}
    (KX : K.In s1.heap) (main : s1.heap.Ns mainGlobals mg) (built : s1.heap.Ns builtinsNs mb) (boot : ∀ x : Str, x ≠ "__name__" → mb x = bootBuiltins x) (lim : s1.heap.NoLimit) (gens : s1.gens = #[])
    (obj : s1.heap.get? a = some { cls := .type "list", data := .seq vals.toArray }) (nums : IntsAre vals ns) (short : ns.length ≤ sizeLine) (room : Room k callerA)
    (F : ∀ base : Heap, K.In base → base.Ns mainGlobals mg → FnG P w K mg base k fa fd [x] sp) (bind : ∀ (s : Shared) (u : Value), BindsTo s fd ⟨[u], []⟩ [(x, u)])
    (hsp : ∀ H : Hp, Only H → SqL K H a (ns.map V.int) → sp [.ref a] H (fun v _ => v = .bl true) fun _ _ _ => False) :
    codeAny (model P w) callerA (.call (.ref fa) ⟨[.ref a], []⟩) (fun r s' => r = .ok (.ret (.bool true)) ∧ OldK s1.heap s'.heap ∧ s'.os = s1.os ∧ AllBare s'.gens) s1 := by
  have rel := vals_ints nums
  have many := nums.length
  -- whatever is known of the script, nothing else is tracked
  have go : ∀ H : Hp, Only H → SqL K H a (ns.map V.int) → HOk P w H s1.heap → (∀ c, H c ≠ none → c = a) → (H a ≠ none → K.lookup a = none) →
      codeAny (model P w) callerA (.call (.ref fa) ⟨[.ref a], []⟩) (fun r s' => r = .ok (.ret (.bool true)) ∧ OldK s1.heap s'.heap ∧ s'.os = s1.os ∧ AllBare s'.gens) s1 := by
    intro H only seq ok alone own
    have free : ∀ {c : Addr} {u : Obj} {es : Array DictEntry} {ep : Nat}, s1.heap.get? c = some u → u.data = .dict es ep → H c = none := fun {c u es ep} e d => by
      refine Classical.byContradiction fun z => ?_
      have ec := alone c z
      rw [ec, obj] at e
      cases e
      cases d
    have ns2 : ∀ {c : Addr} {m : Str → Option Value}, s1.heap.Ns c m → (hidT s1.heap H).Ns c m := fun {c m} ⟨u, es, ep, e, d, r⟩ => ⟨u, es, ep, hidT_get e (free e d), d, r⟩
    have kb : K.In (hidT s1.heap H) := fun c u e => by
      refine hidT_get (KX c u e) (Classical.byContradiction fun z => ?_)
      have ec := alone c z
      rw [ec] at z e
      rw [own z] at e
      cases e
    obtain ⟨mc, l1, l2⟩ := lim
    have md : Mod K mg (hidT s1.heap H) := ⟨kb, ns2 main, ⟨mb, ns2 built, boot⟩, ⟨mc, ns2 l1, l2⟩⟩
    have none0 : ∀ {c : Addr}, c ∈ ([] : List Addr) → False := fun h => nomatch h
    have env0 : Env0 P w K mg (hidT s1.heap H) callerA [] s1 H := ⟨rfl, md, fun c u e => of_hidT e, Nat.le_of_eq (hidT_size _ _), trivial, fun c hc => (none0 hc).elim, ok, .of_eq gens⟩
    refine codeAny_mono ((F _ kb (ns2 main)).runG callerA [] s1 H ⟨[.ref a], []⟩ [.ref a] [.ref a] _ _ rfl room env0 (bind s1 (.ref a)) (.cons rfl .nil) (hsp H only seq)) fun r s' h => ?_
    match r, h with
    | .error e, h => exact h.elim
    | .ok .next, h => exact h.elim
    | .ok .brk, h => exact h.elim
    | .ok .cont, h => exact h.elim
    | .ok (.ret u), ⟨v, H', os, bare, un, ok', ru, qv⟩ =>
      have qv : v = .bl true := qv
      subst qv
      cases (show u = Value.bool true from ru)
      refine ⟨rfl, OldK.of_keep fun c u e => ?_, os, bare⟩
      rcases only c with z | ⟨oc, xs, z⟩
      · exact un.keep c u e z (fun y => none0 y) (by simp)
      · have z2 := un.frzs c oc _ z
        have g1 := (ok c _ z).1
        have g2 := (ok' c _ z2).1
        rw [e] at g1
        cases g1
        exact g2
  cases there : K.lookup a with
  | some o =>
    have e := KX a o there
    rw [obj] at e
    cases e
    have noneH : ∀ c : Addr, ((fun _ => none : Hp) c) = none := fun _ => rfl
    refine go (fun _ => none) (fun _ => .inl rfl) (.inr ⟨_, vals.toArray, _, there, rfl, rfl, rfl, ?_, by simpa using rel⟩) (fun c u z => nomatch (show (none : Option HO) = some u from z)) (fun c z => (z (noneH c)).elim) fun z => (z (noneH a)).elim
    rw [List.size_toArray, many]
    exact short
  | none =>
    have yes : ∀ c, c = a → (if c = a then some (HO.frz { cls := .type "list", data := .seq vals.toArray } (.lst (ns.map V.int))) else none) = some (HO.frz { cls := .type "list", data := .seq vals.toArray } (.lst (ns.map V.int))) := fun c h => if_pos h
    have no : ∀ c, ¬ c = a → (if c = a then some (HO.frz { cls := .type "list", data := .seq vals.toArray } (.lst (ns.map V.int))) else none) = none := fun c h => if_neg h
    refine go (fun c => if c = a then some (.frz { cls := .type "list", data := .seq vals.toArray } (.lst (ns.map V.int))) else none) (fun c => ?_) (.inl (.inr ⟨_, yes a rfl⟩)) (fun c u z => ?_) (fun c z => ?_) fun _ => there
    · by_cases hc : c = a
      · exact .inr ⟨_, _, yes c hc⟩
      · exact .inl (no c hc)
    · by_cases hc : c = a
      · have z := (yes c hc).symm.trans z
        cases z
        subst hc
        refine ⟨obj, ?_, vals, _, rel, obj⟩
        rw [List.length_map]
        exact short
      · exact nomatch (no c hc).symm.trans z
    · exact Classical.byContradiction fun hc => z (no c hc)
theorem walk {l : PySem.W.OpenLaw} {n k : Nat} {q : Program} {loose : List Str} {XP : (Str → Option Value) → Heap → Prop} {YP : World → Heap → Prop} {d : DefRec} {K : Params → PySem.W.Frag} {sp : World → Sp} {x : Str}
    (most : l.most = some n) (n2 : n ≤ sizeLine) (dfl : d.params.defaults = []) (room : Room k callerA) (hY : ∀ (w : World) (h : Heap), YP w h → (K w.params).In h)
    (F : ∀ (w : World) (mg : Str → Option Value) (fa : Addr) (h : Heap), (K w.params).In h → h.Ns mainGlobals mg → mg d.name = some (.ref fa) →
      ∃ fd : FuncData, (∀ (s : Shared) (u : Value), BindsTo s fd ⟨[u], []⟩ [(x, u)]) ∧ ∀ base : Heap, (K w.params).In base → base.Ns mainGlobals mg → FnG l.prog w (K w.params) mg base k fa fd [x] (sp w))
    (hsp : ∀ (w : World) (H : Hp) (a : Addr) (ns : List Int), ns.length ≤ n → Only H → SqL (K w.params) H a (ns.map V.int) → sp w [.ref a] H (fun v _ => v = .bl true) fun _ _ _ => False) :
    PySem.W.WalkO q loose XP YP l.row.toRowW d [] (fun f vs => PySem.call f vs) := by
  refine Att.attach_call most dfl fun w s0 s1 mg mb fa o pm cd doc a vs ns G Y ho hd hcd hmg hobj hints hlen hg => ?_
  have KX := hY w _ Y
  obtain ⟨fd, hb, hF⟩ := F w mg fa _ KX G.T.g hmg
  exact called KX G.T.g G.T.b G.T.builtins G.T.nolimit hg hobj hints (Nat.le_trans hlen n2) room hF hb fun H hO hS => hsp w H a ns hlen hO hS
/-- str(x) of what is nested -/
def rStrD (K : PySem.W.Frag) : List V → Hp → VK → Prop := fun xs H Q => ∃ (p : Addr) (d : PyData), xs = [.ref p] ∧ Dp K H (.ref p) d ∧ d.showable = true ∧ d.hasDict = false ∧ d.depth ≤ 60 ∧ d.shown.length ≤ sizeLine ∧ Q (.str d.shown) H
theorem call_strD {X : Cx} (hg : X.A.guards = some []) (hu : X.A.units + 64 < cLine) : CallR X (.type "str") (rStrD X.K) := by
  intro pins s σ H xs us Q I r h
  obtain ⟨p, d, rfl, hd, sh, nd, dep, sz, q⟩ := h
  obtain ⟨u, rfl, ru⟩ := vals1 r
  cases (show u = Value.ref p from ru)
  obtain ⟨as, rd⟩ := Dp.reads I d (.ref p) (.ref p) hd rfl
  refine str_of_reads rd sh (PyData.noDict_hsm nd) hg (by omega) (fun b o e => e) (fun h' u tk keep => ?_) sz
  exact ⟨.str d.shown, H, I.kept (t' := tk) keep, ⟨u, rfl⟩, q⟩
end GuG
namespace M
open PySem PySem.Spec PyProof.Rows L2
def topS (i : Nat) : Stmt := PySem.Challenge.pw_wayneedle_k81_logs_written.main.body.getD i (.Pass ⟨0, 0, 0, 0⟩)
abbrev s_is_whole : Stmt := topS 1
theorem sc_is_whole : FnScope ["thing"] ["thing"] (defScope s_is_whole) := ⟨rfl, rfl, rfl, by decide +kernel, rfl, by decide +kernel, by decide +kernel⟩
abbrev s_is_letter : Stmt := topS 11
theorem sc_is_letter : FnScope ["thing"] ["thing"] (defScope s_is_letter) := ⟨rfl, rfl, rfl, by decide +kernel, rfl, by decide +kernel, by decide +kernel⟩
abbrev s_is_short_text : Stmt := topS 18
theorem sc_is_short_text : FnScope ["thing"] ["thing"] (defScope s_is_short_text) := ⟨rfl, rfl, rfl, by decide +kernel, rfl, by decide +kernel, by decide +kernel⟩
abbrev s_are_small : Stmt := topS 19
theorem sc_are_small : FnScope ["text", "letter"] ["text"] (defScope s_are_small) := ⟨rfl, rfl, rfl, by decide +kernel, rfl, by decide +kernel, by decide +kernel⟩
abbrev s_is_name : Stmt := topS 20
theorem sc_is_name : FnScope ["thing"] ["thing"] (defScope s_is_name) := ⟨rfl, rfl, rfl, by decide +kernel, rfl, by decide +kernel, by decide +kernel⟩
abbrev s_is_lone : Stmt := topS 21
theorem sc_is_lone : FnScope ["thing"] ["thing"] (defScope s_is_lone) := ⟨rfl, rfl, rfl, by decide +kernel, rfl, by decide +kernel, by decide +kernel⟩
abbrev s_is_sign : Stmt := topS 22
theorem sc_is_sign : FnScope ["thing"] ["thing"] (defScope s_is_sign) := ⟨rfl, rfl, rfl, by decide +kernel, rfl, by decide +kernel, by decide +kernel⟩
abbrev s_is_many : Stmt := topS 23
theorem sc_is_many : FnScope ["thing"] ["thing"] (defScope s_is_many) := ⟨rfl, rfl, rfl, by decide +kernel, rfl, by decide +kernel, by decide +kernel⟩
abbrev s_is_pair_entry : Stmt := topS 24
theorem sc_is_pair_entry : FnScope ["word", "part"] ["word", "part"] (defScope s_is_pair_entry) := ⟨rfl, rfl, rfl, by decide +kernel, rfl, by decide +kernel, by decide +kernel⟩
abbrev s_is_entry : Stmt := topS 25
theorem sc_is_entry : FnScope ["thing"] ["thing"] (defScope s_is_entry) := ⟨rfl, rfl, rfl, by decide +kernel, rfl, by decide +kernel, by decide +kernel⟩
abbrev s_held_log : Stmt := topS 26
theorem sc_held_log : FnScope ["entries", "faced", "log", "at", "thing"] ["entries"] (defScope s_held_log) := ⟨rfl, rfl, rfl, by decide +kernel, rfl, by decide +kernel, by decide +kernel⟩
abbrev s_entry_text : Stmt := topS 31
theorem sc_entry_text : FnScope ["entry", "part"] ["entry"] (defScope s_entry_text) := ⟨rfl, rfl, rfl, by decide +kernel, rfl, by decide +kernel, by decide +kernel⟩
abbrev s_log_text : Stmt := topS 32
theorem sc_log_text : FnScope ["log", "entry"] ["log"] (defScope s_log_text) := ⟨rfl, rfl, rfl, by decide +kernel, rfl, by decide +kernel, by decide +kernel⟩
abbrev s_number_in : Stmt := topS 33
theorem sc_number_in : FnScope ["word", "figure"] ["word"] (defScope s_number_in) := ⟨rfl, rfl, rfl, by decide +kernel, rfl, by decide +kernel, by decide +kernel⟩
abbrev s_entry_in : Stmt := topS 34
theorem sc_entry_in : FnScope ["text", "words"] ["text"] (defScope s_entry_in) := ⟨rfl, rfl, rfl, by decide +kernel, rfl, by decide +kernel, by decide +kernel⟩
abbrev s_read_log : Stmt := topS 35
theorem sc_read_log : FnScope ["text", "why", "part"] ["text"] (defScope s_read_log) := ⟨rfl, rfl, rfl, by decide +kernel, rfl, by decide +kernel, by decide +kernel⟩
abbrev s_Lany_entry : Stmt := topS 37
theorem sc_Lany_entry : FnScope ["_law_pool_here", "_law_looks", "_law_pick", "_law_sign_here"] ["_law_pool_here", "_law_looks"] (defScope s_Lany_entry) := ⟨rfl, rfl, rfl, by decide +kernel, rfl, by decide +kernel, by decide +kernel⟩
abbrev s_Lany_log : Stmt := topS 38
theorem sc_Lany_log : FnScope ["_law_pool_here", "_law_many", "_law_swaps", "_law_log", "_law_looks", "_law_left", "_law_k", "_law_entry"] ["_law_pool_here", "_law_many", "_law_swaps"] (defScope s_Lany_log) := ⟨rfl, rfl, rfl, by decide +kernel, rfl, by decide +kernel, by decide +kernel⟩
abbrev s_Llisted : Stmt := topS 39
theorem sc_Llisted : FnScope ["_law_pool_here", "_law_log", "_law_rows", "_law_entry"] ["_law_pool_here", "_law_log"] (defScope s_Llisted) := ⟨rfl, rfl, rfl, by decide +kernel, rfl, by decide +kernel, by decide +kernel⟩
abbrev s_Lpool : Stmt := topS 40
theorem sc_Lpool : FnScope ["_law_script", "_law_k", "_law_cell", "_law_left"] ["_law_script", "_law_k"] (defScope s_Lpool) := ⟨rfl, rfl, rfl, by decide +kernel, rfl, by decide +kernel, by decide +kernel⟩
abbrev s_Ltake : Stmt := topS 41
theorem sc_Ltake : FnScope ["_law_pool_here", "_law_wide", "_law_found", "_law_primes", "_law_one", "_law_two"] ["_law_pool_here", "_law_wide"] (defScope s_Ltake) := ⟨rfl, rfl, rfl, by decide +kernel, rfl, by decide +kernel, by decide +kernel⟩
abbrev s_Lwhole : Stmt := topS 42
theorem sc_Lwhole : FnScope ["_law_thing"] ["_law_thing"] (defScope s_Lwhole) := ⟨rfl, rfl, rfl, by decide +kernel, rfl, by decide +kernel, by decide +kernel⟩
abbrev s_Lsame : Stmt := topS 43
theorem sc_Lsame : FnScope ["_law_found", "_law_due", "_law_one", "_law_other"] ["_law_found", "_law_due"] (defScope s_Lsame) := ⟨rfl, rfl, rfl, by decide +kernel, rfl, by decide +kernel, by decide +kernel⟩
abbrev s_Lname : Stmt := topS 44
theorem sc_Lname : FnScope ["_law_pool_here", "_law_letters", "_law_k"] ["_law_pool_here"] (defScope s_Lname) := ⟨rfl, rfl, rfl, by decide +kernel, rfl, by decide +kernel, by decide +kernel⟩
abbrev s_Lsign : Stmt := topS 45
theorem sc_Lsign : FnScope ["_law_pool_here", "_law_lone", "_law_sign_here"] ["_law_pool_here", "_law_lone"] (defScope s_Lsign) := ⟨rfl, rfl, rfl, by decide +kernel, rfl, by decide +kernel, by decide +kernel⟩
abbrev s_law : Stmt := topS 46
theorem sc_law : FnScope ["_law_script", "_law_pool_here", "_law_k", "_law_there", "_law_log", "_law_rows", "_law_due", "_law_handed", "_law_kept", "_law_entry", "_law_part"] ["_law_script"] (defScope s_law) := ⟨rfl, rfl, rfl, by decide +kernel, rfl, by decide +kernel, by decide +kernel⟩
/-- what the top has left -/
structure Top (w : World) (K : PySem.W.Frag) (mg : Str → Option Value) where
  a_is_whole : Addr
  fd_is_whole : FuncData
  F_is_whole : Fun K "is_whole" "is_whole" s_is_whole a_is_whole fd_is_whole
  b_is_whole : Binds K fd_is_whole ["thing"] []
  g_is_whole : mg "is_whole" = some (.ref a_is_whole)
  a_is_letter : Addr
  fd_is_letter : FuncData
  F_is_letter : Fun K "is_letter" "is_letter" s_is_letter a_is_letter fd_is_letter
  b_is_letter : Binds K fd_is_letter ["thing"] []
  g_is_letter : mg "is_letter" = some (.ref a_is_letter)
  a_is_short_text : Addr
  fd_is_short_text : FuncData
  F_is_short_text : Fun K "is_short_text" "is_short_text" s_is_short_text a_is_short_text fd_is_short_text
  b_is_short_text : Binds K fd_is_short_text ["thing"] []
  g_is_short_text : mg "is_short_text" = some (.ref a_is_short_text)
  a_are_small : Addr
  fd_are_small : FuncData
  F_are_small : Fun K "are_small" "are_small" s_are_small a_are_small fd_are_small
  b_are_small : Binds K fd_are_small ["text"] []
  g_are_small : mg "are_small" = some (.ref a_are_small)
  a_is_name : Addr
  fd_is_name : FuncData
  F_is_name : Fun K "is_name" "is_name" s_is_name a_is_name fd_is_name
  b_is_name : Binds K fd_is_name ["thing"] []
  g_is_name : mg "is_name" = some (.ref a_is_name)
  a_is_lone : Addr
  fd_is_lone : FuncData
  F_is_lone : Fun K "is_lone" "is_lone" s_is_lone a_is_lone fd_is_lone
  b_is_lone : Binds K fd_is_lone ["thing"] []
  g_is_lone : mg "is_lone" = some (.ref a_is_lone)
  a_is_sign : Addr
  fd_is_sign : FuncData
  F_is_sign : Fun K "is_sign" "is_sign" s_is_sign a_is_sign fd_is_sign
  b_is_sign : Binds K fd_is_sign ["thing"] []
  g_is_sign : mg "is_sign" = some (.ref a_is_sign)
  a_is_many : Addr
  fd_is_many : FuncData
  F_is_many : Fun K "is_many" "is_many" s_is_many a_is_many fd_is_many
  b_is_many : Binds K fd_is_many ["thing"] []
  g_is_many : mg "is_many" = some (.ref a_is_many)
  a_is_pair_entry : Addr
  fd_is_pair_entry : FuncData
  F_is_pair_entry : Fun K "is_pair_entry" "is_pair_entry" s_is_pair_entry a_is_pair_entry fd_is_pair_entry
  b_is_pair_entry : Binds K fd_is_pair_entry ["word", "part"] []
  g_is_pair_entry : mg "is_pair_entry" = some (.ref a_is_pair_entry)
  a_is_entry : Addr
  fd_is_entry : FuncData
  F_is_entry : Fun K "is_entry" "is_entry" s_is_entry a_is_entry fd_is_entry
  b_is_entry : Binds K fd_is_entry ["thing"] []
  g_is_entry : mg "is_entry" = some (.ref a_is_entry)
  a_held_log : Addr
  fd_held_log : FuncData
  F_held_log : Fun K "held_log" "held_log" s_held_log a_held_log fd_held_log
  b_held_log : Binds K fd_held_log ["entries"] []
  g_held_log : mg "held_log" = some (.ref a_held_log)
  a_entry_text : Addr
  fd_entry_text : FuncData
  F_entry_text : Fun K "entry_text" "entry_text" s_entry_text a_entry_text fd_entry_text
  b_entry_text : Binds K fd_entry_text ["entry"] []
  g_entry_text : mg "entry_text" = some (.ref a_entry_text)
  a_log_text : Addr
  fd_log_text : FuncData
  F_log_text : Fun K "log_text" "log_text" s_log_text a_log_text fd_log_text
  b_log_text : Binds K fd_log_text ["log"] []
  g_log_text : mg "log_text" = some (.ref a_log_text)
  a_number_in : Addr
  fd_number_in : FuncData
  F_number_in : Fun K "number_in" "number_in" s_number_in a_number_in fd_number_in
  b_number_in : Binds K fd_number_in ["word"] []
  g_number_in : mg "number_in" = some (.ref a_number_in)
  a_entry_in : Addr
  fd_entry_in : FuncData
  F_entry_in : Fun K "entry_in" "entry_in" s_entry_in a_entry_in fd_entry_in
  b_entry_in : Binds K fd_entry_in ["text"] []
  g_entry_in : mg "entry_in" = some (.ref a_entry_in)
  a_read_log : Addr
  fd_read_log : FuncData
  F_read_log : Fun K "read_log" "read_log" s_read_log a_read_log fd_read_log
  b_read_log : Binds K fd_read_log ["text"] []
  g_read_log : mg "read_log" = some (.ref a_read_log)
  a_Lany_entry : Addr
  fd_Lany_entry : FuncData
  F_Lany_entry : Fun K "_law_any_entry" "_law_any_entry" s_Lany_entry a_Lany_entry fd_Lany_entry
  b_Lany_entry : Binds K fd_Lany_entry ["_law_pool_here", "_law_looks"] []
  g_Lany_entry : mg "_law_any_entry" = some (.ref a_Lany_entry)
  a_Lany_log : Addr
  fd_Lany_log : FuncData
  F_Lany_log : Fun K "_law_any_log" "_law_any_log" s_Lany_log a_Lany_log fd_Lany_log
  b_Lany_log : Binds K fd_Lany_log ["_law_pool_here", "_law_many", "_law_swaps"] []
  g_Lany_log : mg "_law_any_log" = some (.ref a_Lany_log)
  a_Llisted : Addr
  fd_Llisted : FuncData
  F_Llisted : Fun K "_law_listed" "_law_listed" s_Llisted a_Llisted fd_Llisted
  b_Llisted : Binds K fd_Llisted ["_law_pool_here", "_law_log"] []
  g_Llisted : mg "_law_listed" = some (.ref a_Llisted)
  a_Lpool : Addr
  fd_Lpool : FuncData
  F_Lpool : Fun K "_law_pool" "_law_pool" s_Lpool a_Lpool fd_Lpool
  b_Lpool : Binds K fd_Lpool ["_law_script", "_law_k"] []
  g_Lpool : mg "_law_pool" = some (.ref a_Lpool)
  a_Ltake : Addr
  fd_Ltake : FuncData
  F_Ltake : Fun K "_law_take" "_law_take" s_Ltake a_Ltake fd_Ltake
  b_Ltake : Binds K fd_Ltake ["_law_pool_here", "_law_wide"] []
  g_Ltake : mg "_law_take" = some (.ref a_Ltake)
  a_Lwhole : Addr
  fd_Lwhole : FuncData
  F_Lwhole : Fun K "_law_whole" "_law_whole" s_Lwhole a_Lwhole fd_Lwhole
  b_Lwhole : Binds K fd_Lwhole ["_law_thing"] []
  g_Lwhole : mg "_law_whole" = some (.ref a_Lwhole)
  a_Lsame : Addr
  fd_Lsame : FuncData
  F_Lsame : Fun K "_law_same" "_law_same" s_Lsame a_Lsame fd_Lsame
  b_Lsame : Binds K fd_Lsame ["_law_found", "_law_due"] []
  g_Lsame : mg "_law_same" = some (.ref a_Lsame)
  a_Lname : Addr
  fd_Lname : FuncData
  F_Lname : Fun K "_law_name" "_law_name" s_Lname a_Lname fd_Lname
  b_Lname : Binds K fd_Lname ["_law_pool_here"] []
  g_Lname : mg "_law_name" = some (.ref a_Lname)
  a_Lsign : Addr
  fd_Lsign : FuncData
  F_Lsign : Fun K "_law_sign" "_law_sign" s_Lsign a_Lsign fd_Lsign
  b_Lsign : Binds K fd_Lsign ["_law_pool_here", "_law_lone"] []
  g_Lsign : mg "_law_sign" = some (.ref a_Lsign)
  a_law : Addr
  fd_law : FuncData
  F_law : Fun K "law" "law" s_law a_law fd_law
  b_law : Binds K fd_law ["_law_script"] []
  g_law : mg "law" = some (.ref a_law)
  a_STEPS : Addr
  g_STEPS : mg "STEPS" = some (.ref a_STEPS)
  es_STEPS : Array DictEntry
  n_STEPS : Nat
  kd_STEPS : KDict K w a_STEPS es_STEPS n_STEPS
  ns_STEPS : ∀ z : Str, ∃ r, PySem.W.nsIn K a_STEPS z = some r ∧ r.isSome = ((["n", "e", "s", "w"] : List Str).any fun s => s == z)
  v_STEPS_0 : ∃ q, KDct K w a_STEPS "n" (.ref q) ∧ ∀ H, SqT K H q [.int (0), .int (1)]
  v_STEPS_1 : ∃ q, KDct K w a_STEPS "e" (.ref q) ∧ ∀ H, SqT K H q [.int (1), .int (0)]
  v_STEPS_2 : ∃ q, KDct K w a_STEPS "s" (.ref q) ∧ ∀ H, SqT K H q [.int (0), .int (-1)]
  v_STEPS_3 : ∃ q, KDct K w a_STEPS "w" (.ref q) ∧ ∀ H, SqT K H q [.int (-1), .int (0)]
  g_SMALL : ∃ t, mg "SMALL" = some (.str "abcdefghijklmnopqrstuvwxyz" t)
  g_GREAT : ∃ t, mg "GREAT" = some (.str "ABCDEFGHIJKLMNOPQRSTUVWXYZ" t)
  g_LONGEST : ∃ t, mg "LONGEST" = some (.int 8 t)
  a_WORDS_ALONE : Addr
  g_WORDS_ALONE : mg "WORDS_ALONE" = some (.ref a_WORDS_ALONE)
  v_WORDS_ALONE : ∀ H, SqT K H a_WORDS_ALONE [.str "left", .str "right", .str "back", .str "bump", .str "bare", .str "swap"]
  a_WORDS_BEHIND_A_FACE : Addr
  g_WORDS_BEHIND_A_FACE : mg "WORDS_BEHIND_A_FACE" = some (.ref a_WORDS_BEHIND_A_FACE)
  v_WORDS_BEHIND_A_FACE : ∀ H, SqT K H a_WORDS_BEHIND_A_FACE [.str "left", .str "right", .str "back", .str "go", .str "bump", .str "spy"]
  g_FIGURES : ∃ t, mg "FIGURES" = some (.str "0123456789" t)
  g_MOST_FIGURES : ∃ t, mg "MOST_FIGURES" = some (.int 30 t)
  g_NONE_AT_ALL : ∃ t, mg "NONE_AT_ALL" = some (.str "-" t)
  m_abs : mg "abs" = none
  m_all : mg "all" = none
  m_bool : mg "bool" = none
  m_enumerate : mg "enumerate" = none
  m_int : mg "int" = none
  m_isinstance : mg "isinstance" = none
  m_len : mg "len" = none
  m_list : mg "list" = none
  m_range : mg "range" = none
  m_str : mg "str" = none
  m_tuple : mg "tuple" = none
  m_zip : mg "zip" = none
/-! ### heaps, pools -/
/-- all but what stands at p is as it was -/
def But (p : Addr) (H H' : Hp) : Prop := ∀ b o, b ≠ p → H b = some o → H' b = some o
theorem But.refl (p : Addr) (H : Hp) : But p H H := fun _ _ _ h => h
theorem But.trans {p : Addr} {H H1 H2 : Hp} (a : But p H H1) (b : But p H1 H2) : But p H H2 := fun c o hc h => b c o hc (a c o hc h)
theorem But.of {p : Addr} {H H' : Hp} (a : Same H H') : But p H H' := fun b o _ h => a b o h
theorem But.upd {p : Addr} {H H' : Hp} {o : HO} (a : But p H H') : But p H (upd H' p o) := fun b u hb h => by
  rw [upd_ne hb]
  exact a b u hb h
theorem same_upd {H : Hp} {p : Addr} {o : HO} (h : H p = none) : Same H (upd H p o) := fun b x e => by
  rw [upd_ne (ne_of_none e h)]
  exact e
/-- changed at a new place alone -/
theorem But.same {p : Addr} {H H1 H2 : Hp} (n : H p = none) (a : Same H H1) (b : But p H1 H2) : Same H H2 := fun c o h => b c o (ne_of_none h n) (a c o h)
theorem But.free {p l : Addr} {H H1 : Hp} (a : But p H H1) (n : l ≠ p) (h : H1 l = none) : H l = none := by
  cases e : H l with
  | none => rfl
  | some o =>
    rw [a l o n e] at h
    cases h
/-- a change at a place that H doesn't know -/
theorem But.mut {p l : Addr} {H H1 : Hp} {o : HO} (a : But p H H1) (n : H l = none) : But p H (L2.upd H1 l o) := fun b u hb h => by
  rw [upd_ne (ne_of_none h n)]
  exact a b u hb h
/-- the spring of draws: four whole numbers, the first not below nought -/
def Pool (H : Hp) (p : Addr) : Prop := ∃ l c k n : Int, 0 ≤ l ∧ H p = some (.lst [.int l, .int c, .int k, .int n])
theorem Pool.same {H H' : Hp} {p : Addr} (h : Pool H p) (e : Same H H') : Pool H' p := by
  obtain ⟨l, c, k, n, h0, h1⟩ := h
  exact ⟨l, c, k, n, h0, e _ _ h1⟩
theorem Pool.ne_tup {H : Hp} {p q : Addr} {xs : List V} (h : Pool H p) (e : H q = some (.tup xs)) : q ≠ p := by
  obtain ⟨l, c, k, n, h0, h1⟩ := h
  exact ne_of e h1 (by intro z; cases z)
theorem Pool.ne_new {H : Hp} {p q : Addr} (h : Pool H p) (e : H q = none) : q ≠ p := by
  obtain ⟨l, c, k, n, h0, h1⟩ := h
  intro z
  rw [z, h1] at e
  cases e
theorem Pool.upd {H : Hp} {p q : Addr} {o : HO} (h : Pool H p) (e : q ≠ p) : Pool (L2.upd H q o) p := by
  obtain ⟨l, c, k, n, h0, h1⟩ := h
  refine ⟨l, c, k, n, h0, ?_⟩
  rw [upd_ne (Ne.symm e)]
  exact h1
theorem seq_but {K : PySem.W.Frag} {H H' : Hp} {p a : Addr} {xs : List V} (e : But p H H') (n : a ≠ p) (h : SqL K H a xs) : SqL K H' a xs := by
  rcases h with (h | ⟨o, h⟩) | h
  · exact .inl (.inl (e _ _ n h))
  · exact .inl (.inr ⟨o, e _ _ n h⟩)
  · exact .inr h
theorem abs_if (n : Int) : 0 ≤ (if n < 0 then -n else n) := by
  split <;> omega
local macro_rules | `(tactic| walk_at "go") => `(tactic| repeat (first
  | (with_reducible exact rfl)
  | (refine ⟨_, _, rfl, rfl, ?_⟩)
  | (refine ⟨_, rfl, ?_⟩)
  | (refine ⟨rfl, ?_⟩)))
def spPool (K : PySem.W.Frag) : Sp := fun vs H Q _ => ∃ (a : Addr) (ns : List Int) (k : Int), vs = [.ref a, .int k] ∧ SqL K H a (ns.map V.int) ∧ ns.length ≤ 63 ∧ 0 ≤ k ∧ ∀ H' p, Same H H' → H p = none → Pool H' p → Q (.ref p) H'
def spTake : Sp := fun vs H Q _ => ∃ (p : Addr) (m : Int), vs = [.ref p, .int m] ∧ 0 < m ∧ m < 2 ^ 200 ∧ Pool H p ∧ ∀ H' (r : Int), But p H H' → Pool H' p → 0 ≤ r → r < m → Q (.int r) H'
theorem iteY {c A B : Prop} [Decidable c] (hc : c) (h : A) : if decide c = true then A else B := by
  rw [if_pos (decide_eq_true hc)]
  exact h
theorem iteYn {c A B : Prop} [Decidable c] (hc : c) (h : B) : if (!decide c) = true then A else B := by
  rw [decide_eq_true hc]
  exact h
theorem iteDN {b : Bool} {A B : Prop} (hb : b = false) (h : B) : if b = true then A else B := by
  rw [hb]
  exact h
theorem iteDY {b : Bool} {A B : Prop} (hb : b = true) (h : A) : if b = true then A else B := by
  rw [hb]
  exact h
theorem iteNE {d e : PyData} {A B : Prop} (h : d = e) (hs : SeqAt.shaped d = true) (hB : B) : if (!PyData.eqv d e) = true then A else B := by
  subst h
  rw [SeqAt.eqv_refl d (SeqAt.canLay_of_shaped hs)]
  exact hB
theorem ne_no {x y : V} (e : x = y) : (!decide (x = y)) = false := by
  rw [decide_eq_true e]
  rfl
theorem iteN {x y : V} {A B : Prop} (e : x = y) (h : B) : if (!decide (x = y)) = true then A else B := by
  rw [ne_no e, if_neg Bool.false_ne_true]
  exact h
section
variable {P : Program} {w : World} {K : PySem.W.Frag} {mg : Str → Option Value} {base : Heap}
theorem ok_Lpool (T : Top w K mg) : FnOk P w K mg base CX0 1 T.a_Lpool T.fd_Lpool ["_law_script", "_law_k"] (spPool K) := by
  refine T.F_Lpool.ok sc_Lpool (fun vs H Q E h => ?_) (fun cdv A outer s H vs Q E hr h => ?_)
  · obtain ⟨a, ns, k, rfl, _⟩ := h
    rfl
  · obtain ⟨a, ns, k, rfl, hS, hlen, hk, q⟩ := h
    refine ⟨_, (pss_cons (ps_set (i := 2) sc_Lpool.nd rfl (.inl rfl) pe_int)
      (Evl.pss_cut (ps_if (pt_cmpR op_gt (pe_callB call_len_seq (by rfl) T.m_len (by decide +kernel) (pa_cons (pv 0) pa_nil)) pe_int (nomark _)) (pss_one (ps_set (i := 2) sc_Lpool.nd rfl (.inl rfl) (pe_ix ix_list (pv 0) (pe_op op_mod (pv 1) (pe_callB call_len_seq (by rfl) T.m_len (by decide +kernel) (pa_cons (pv 0) pa_nil))) (fun _ _ => rfl)))) pss_nil)
      (pss_cons (ps_set (i := 3) sc_Lpool.nd rfl (.inl rfl) pe_int)
      (pss_cons (ps_if (PW.pt (pw_and (pt_cmpR op_lt (pv 1) (pe_callB call_len_seq (by rfl) T.m_len (by decide +kernel) (pa_cons (pv 0) pa_nil)) (nomark _)) (pw_and1 (pt_cmpR op_ge (pe_callB call_abs (by rfl) T.m_abs (by decide +kernel) (pa_cons (pv 2) pa_nil)) (pe_op op_pow pe_int pe_int) (nomark _))))) (pss_one (ps_set (i := 3) sc_Lpool.nd rfl (.inl rfl) (pe_callB call_abs (by rfl) T.m_abs (by decide +kernel) (pa_cons (pv 2) pa_nil)))) pss_nil)
      (pss_one (ps_ret (pe_lst (pa_cons (pv 3) (pa_cons (pv 2) (pa_cons (pv 1) (pa_cons pe_int pa_nil))))))))))), ?_⟩
    have hL : ((ns.map V.int).length : Int) = ns.length := by rw [List.length_map]
    have fin : ∀ (l c : Int), 0 ≤ l → ∀ p, H p = none → Q (.ref p) (upd H p (.lst [.int l, .int c, .int k, .int 0])) := fun l c hl p hp =>
      q _ p (same_upd hp) hp ⟨l, c, k, 0, hl, upd_same⟩
    refine ⟨fun σ H' => H' = H ∧ ∃ c : Int, σ = [some (.ref a), some (.int k), some (.int c), none], ?_, ?_⟩
    · refine ⟨.ref a, rfl, a, ns.map V.int, rfl, .inl hS, _, _, rfl, rfl, _, rfl, ite2 (fun e => ?_) (fun e => ?_)⟩
      · have e0 : (0 : Int) < ((ns.map V.int).length : Int) := of_decide_eq_true e
        refine ⟨.ref a, rfl, .int k, rfl, .ref a, rfl, a, ns.map V.int, rfl, .inl hS, k, _, rfl, rfl, e0, ?_⟩
        have h1 := Int.emod_nonneg k (show ((ns.map V.int).length : Int) ≠ 0 by omega)
        have h2 := Int.emod_lt_of_pos k e0
        obtain ⟨j, hj⟩ : ∃ j : Nat, k % ((ns.map V.int).length : Int) = j := ⟨(k % ((ns.map V.int).length : Int)).toNat, by omega⟩
        have hj2 : j < ns.length := by omega
        have g : (ns.map V.int)[j]? = some (.int ns[j]) := by
          rw [List.getElem?_map, List.getElem?_eq_getElem hj2]
          rfl
        have gi : atI (ns.map V.int) (k % ((ns.map V.int).length : Int)) = some (.int ns[j]) := by
          rw [hj]
          exact atI_nat g
        exact ⟨a, _, _, _, rfl, rfl, hS, gi, rfl, _, rfl⟩
      · exact ⟨rfl, 0, rfl⟩
    · rintro σ H' ⟨rfl, c, rfl⟩
      refine ⟨.int k, rfl, .ref a, rfl, a, ns.map V.int, rfl, .inl hS, _, _, rfl, rfl, _, rfl, ite2 (fun e => ?_) (fun e => ?_)⟩
      · refine ⟨.int c, rfl, c, rfl, _, _, rfl, rfl, ⟨by decide, by decide, by decide⟩, _, _, rfl, rfl, _, rfl, ite2 (fun e => ?_) (fun e => ?_)⟩
        · exact ⟨.int c, rfl, c, rfl, _, rfl, _, rfl, _, rfl, by show 4 ≤ sizeLine; decide, fin _ c (abs_if c)⟩
        · exact ⟨_, rfl, _, rfl, _, rfl, by show 4 ≤ sizeLine; decide, fin 0 c (by decide)⟩
      · refine ite2 (fun e2 => by cases e2) (fun _ => ?_)
        exact ⟨_, rfl, _, rfl, _, rfl, by show 4 ≤ sizeLine; decide, fin 0 c (by decide)⟩
def primes : List Int := [2147483629, 2147483587, 2147483579, 2147483563, 2147483549, 2147483543, 2147483497, 2147483489]
theorem primes_at {i : Int} (h0 : 0 ≤ i) (h1 : i < 8) : ∃ p : Int, atI (primes.map V.int) i = some (.int p) ∧ 0 < p ∧ p < 2147483647 := by
  obtain rfl | rfl | rfl | rfl | rfl | rfl | rfl | rfl : i = 0 ∨ i = 1 ∨ i = 2 ∨ i = 3 ∨ i = 4 ∨ i = 5 ∨ i = 6 ∨ i = 7 := by omega
  all_goals exact ⟨_, rfl, by decide, by decide⟩
theorem pow_ok (a : Int) : CPow (a % 2147483647) 5 := by
  have h1 := Int.emod_nonneg a (show (2147483647 : Int) ≠ 0 by decide)
  have h2 := Int.emod_lt_of_pos a (show (0 : Int) < 2147483647 by decide)
  exact ⟨by decide, by decide, by omega⟩
theorem ok_Ltake (T : Top w K mg) : FnOk P w K mg base CX0 1 T.a_Ltake T.fd_Ltake ["_law_pool_here", "_law_wide"] spTake := by
  refine T.F_Ltake.ok sc_Ltake (fun vs H Q E h => ?_) (fun cdv A outer s H vs Q E hr h => ?_)
  · obtain ⟨p, m, rfl, _⟩ := h
    rfl
  · obtain ⟨p, m, rfl, hm, hb, ⟨l, c, k, n, hl, hp⟩, q⟩ := h
    refine ⟨_, (pss_cons (ps_if (pt_cmpR op_gt (pe_ix ix_list (pv 0) pe_int (fun _ _ => rfl)) pe_int (nomark _)) (pss_cons (ps_set (i := 2) sc_Ltake.nd rfl (.inl rfl) (pe_op op_mod (pe_ix ix_list (pv 0) pe_int (fun _ _ => rfl)) (pv 1)))
      (pss_cons (ps_asg (pe_op op_fdivW (pe_ix ix_list (pv 0) pe_int (fun _ _ => rfl)) (pv 1)) (pg_sub (pv 0) pe_int set_list))
      (pss_one (ps_ret (pv 2))))) pss_nil)
      (pss_cons (ps_asg (pe_op op_add (pe_ix ix_list (pv 0) pe_int (fun _ _ => rfl)) pe_int) (pg_sub (pv 0) pe_int set_list))
      (pss_cons (ps_set (i := 3) sc_Ltake.nd rfl (.inl rfl) (pe_lst (pa_cons pe_int (pa_cons pe_int (pa_cons pe_int (pa_cons pe_int (pa_cons pe_int (pa_cons pe_int (pa_cons pe_int (pa_cons pe_int pa_nil))))))))))
      (pss_cons (ps_set (i := 4) sc_Ltake.nd rfl (.inl rfl) (pe_op op_mod (pe_op op_add (pe_op op_add (pe_op op_add (pe_ix ix_list (pv 0) pe_int (fun _ _ => rfl)) (pe_op op_mul pe_int (pe_ix ix_list (pv 0) pe_int (fun _ _ => rfl)))) (pe_op op_mul pe_int (pe_ix ix_list (pv 0) pe_int (fun _ _ => rfl)))) pe_int) pe_int))
      (pss_cons (ps_set (i := 4) sc_Ltake.nd rfl (.inl rfl) (pe_op op_mod (pe_op op_pow (pv 4) pe_int) (pe_ix ix_list (pv 3) (pe_op op_mod (pe_ix ix_list (pv 0) pe_int (fun _ _ => rfl)) pe_int) (fun _ _ => rfl))))
      (pss_cons (ps_set (i := 5) sc_Ltake.nd rfl (.inl rfl) (pe_op op_mod (pe_op op_add (pe_op op_add (pv 4) (pe_op op_mul pe_int (pe_ix ix_list (pv 0) pe_int (fun _ _ => rfl)))) (pe_ix ix_list (pv 0) pe_int (fun _ _ => rfl))) pe_int))
      (pss_one (ps_ret (pe_op op_mod (pe_op op_add (pe_op op_mul (pe_op op_mod (pe_op op_pow (pv 5) pe_int) pe_int) pe_int) (pv 4)) (pv 1)))))))))), ?_⟩
    refine ⟨.ref p, rfl, p, _, 0, .int l, rfl, rfl, .inl (.inl hp), rfl, _, _, rfl, rfl, _, rfl, ite2 (fun e => ?_) (fun e => ?_)⟩
    · refine ⟨.ref p, rfl, p, _, 0, .int l, rfl, rfl, .inl (.inl hp), rfl, .int m, rfl, l, m, rfl, rfl, hm, ?_⟩
      refine ⟨.ref p, rfl, p, _, 0, .int l, rfl, rfl, .inl (.inl hp), rfl, .int m, rfl, l, m, rfl, rfl, wide_div (b := 200) hm (by omega) (by decide) (by decide), ?_⟩
      refine ⟨.ref p, rfl, p, _, 0, 0, rfl, rfl, hp, rfl, ?_⟩
      refine ⟨_, rfl, q _ _ (But.refl p H).upd ⟨l / m, c, k, n, Int.ediv_nonneg hl (by omega), ?_⟩ (Int.emod_nonneg l (by omega)) (Int.emod_lt_of_pos l hm)⟩
      exact upd_same
    · refine ⟨.ref p, rfl, p, _, 3, .int n, rfl, rfl, .inl (.inl hp), rfl, n, 1, rfl, rfl, .ref p, rfl, p, _, 3, 3, rfl, rfl, hp, rfl, ?_⟩
      refine ⟨by show 8 ≤ sizeLine; decide, fun o no => ?_⟩
      have hop : o ≠ p := fun z => by
        rw [z, upd_same] at no
        cases no
      have h3 : (upd (upd H p (.lst [.int l, .int c, .int k, .int (n + 1)])) o (.lst (primes.map V.int))) p = some (.lst [.int l, .int c, .int k, .int (n + 1)]) := by
        rw [upd_ne (Ne.symm hop), upd_same]
      have h4 : (upd (upd H p (.lst [.int l, .int c, .int k, .int (n + 1)])) o (.lst (primes.map V.int))) o = some (.lst (primes.map V.int)) := upd_same
      have bt : But p H (upd (upd H p (.lst [.int l, .int c, .int k, .int (n + 1)])) o (.lst (primes.map V.int))) := fun b u hb h => by
        have nb : b ≠ o := fun z => by
          have : (upd H p (.lst [.int l, .int c, .int k, .int (n + 1)])) b = some u := by
            rw [upd_ne hb]
            exact h
          rw [z] at this
          exact absurd (this.symm.trans no) (by intro z; cases z)
        rw [upd_ne nb, upd_ne hb]
        exact h
      have i8 : 0 ≤ (n + 1) % 8 := Int.emod_nonneg _ (by decide)
      have j8 : (n + 1) % 8 < 8 := Int.emod_lt_of_pos _ (by decide)
      obtain ⟨pr, hpr, pr0, pr1⟩ := primes_at i8 j8
      refine ⟨.ref p, rfl, p, _, 1, .int c, rfl, rfl, .inl (.inl h3), rfl, .ref p, rfl, p, _, 2, .int k, rfl, rfl, .inl (.inl h3), rfl, 7919, k, rfl, rfl, .inl ⟨by decide, by decide⟩, _, _, rfl, rfl, .ref p, rfl, p, _, 3, .int (n + 1), rfl, rfl, .inl (.inl h3), rfl, 104729, n + 1, rfl, rfl, .inl ⟨by decide, by decide⟩, _, _, rfl, rfl, _, _, rfl, rfl, _, _, rfl, rfl, (by show (0 : Int) < 2147483647; decide), ?_⟩
      refine ⟨_, rfl, _, _, rfl, rfl, pow_ok _, .ref o, rfl, .ref p, rfl, p, _, 3, .int (n + 1), rfl, rfl, .inl (.inl h3), rfl, _, _, rfl, rfl, (by show (0 : Int) < 8; decide), o, _, _, .int pr, rfl, rfl, .inl (.inl h4), hpr, _, _, rfl, rfl, pr0, ?_⟩
      refine ⟨_, rfl, .ref p, rfl, p, _, 2, .int k, rfl, rfl, .inl (.inl h3), rfl, 40692, k, rfl, rfl, .inl ⟨by decide, by decide⟩, _, _, rfl, rfl, .ref p, rfl, p, _, 3, .int (n + 1), rfl, rfl, .inl (.inl h3), rfl, _, _, rfl, rfl, _, _, rfl, rfl, (by show (0 : Int) < 2147483647; decide), ?_⟩
      refine ⟨_, rfl, _, _, rfl, rfl, pow_ok _, _, _, rfl, rfl, (by show (0 : Int) < 2147483647; decide), _, _, rfl, rfl, .inr ⟨by decide, by decide⟩, _, rfl, _, _, rfl, rfl, .int m, rfl, _, _, rfl, rfl, hm, ?_⟩
      exact q _ _ bt ⟨l, c, k, n + 1, hl, h3⟩ (Int.emod_nonneg _ (by omega)) (Int.emod_lt_of_pos _ hm)
/-! ### data alike -/
theorem sqt_same {K : PySem.W.Frag} {H H' : Hp} {a : Addr} {xs : List V} (e : Same H H') (h : SqT K H a xs) : SqT K H' a xs := Evl.ex_t (show Evl.Ex H H' from e) h
mutual
theorem dp_same {K : PySem.W.Frag} {H H' : Hp} (e : Same H H') : ∀ (d : PyData) (v : V), Dp K H v d → Dp K H' v d
  | .none, _, h => by cases h; exact .non
  | .bool b, _, h => by cases h; exact .bl b
  | .int i, _, h => by cases h; exact .int i
  | .str x, _, h => by cases h; exact .str x
  | .list ds, _, h => by
    cases h with
    | lst hs ha => exact .lst (e.seq hs) (dpa_same e ds _ ha)
  | .tuple ds, _, h => by
    cases h with
    | tup hs ha => exact .tup (sqt_same e hs) (dpa_same e ds _ ha)
  | .dict _, _, h => by cases h
theorem dpa_same {K : PySem.W.Frag} {H H' : Hp} (e : Same H H') : ∀ (ds : List PyData) (vs : List V), DpAll K H vs ds → DpAll K H' vs ds
  | [], _, h => by cases h; exact .nil
  | d :: ds, _, h => by
    cases h with
    | cons h1 h2 => exact .cons (dp_same e d _ h1) (dpa_same e ds _ h2)
end
theorem dpa_len {K : PySem.W.Frag} {H : Hp} : ∀ (ds : List PyData) (vs : List V), DpAll K H vs ds → vs.length = ds.length
  | [], _, h => by cases h; rfl
  | d :: ds, _, h => by
    cases h with
    | cons h1 h2 =>
      rw [List.length_cons, List.length_cons, dpa_len ds _ h2]
theorem dpa_at {K : PySem.W.Frag} {H : Hp} : ∀ (ds : List PyData) (vs : List V), DpAll K H vs ds → ∀ (i : Nat) (v : V), vs[i]? = some v → ∃ d, ds[i]? = some d ∧ Dp K H v d
  | [], _, h, i, v, e => by cases h; cases e
  | d :: ds, _, h, i, v, e => by
    cases h with
    | cons h1 h2 =>
      cases i with
      | zero =>
        cases e
        exact ⟨d, rfl, h1⟩
      | succ j => exact dpa_at ds _ h2 j v e
theorem ty_tup {K : PySem.W.Frag} {H : Hp} {a : Addr} {xs : List V} (h : SqT K H a xs) : TyX K H (.ref a) (.type "tuple") := by
  rcases h with (h | ⟨o, h⟩) | ⟨o, its, n, lk, hc, _⟩
  · exact .base (.tup h)
  · exact .fTuple h
  · exact .kTuple lk hc
/-- none, truths, whole numbers, texts, and tuples of these, at most n deep -/
def okD : Nat → PyData → Bool
  | _, .none => true
  | _, .bool _ => true
  | _, .int _ => true
  | _, .str _ => true
  | n + 1, .tuple ds => decide (ds.length ≤ 1000) && ds.all fun d => okD n d
  | _, _ => false
theorem walk_zipT {K : PySem.W.Frag} {a b : Addr} {xs ys : List V} {n : Nat} (hn : n = min xs.length ys.length) : Walk (RZ.ItzT K a b) n (fun H => SqT K H a xs ∧ SqT K H b ys) (YPair (fun i => xs[i]?) (fun i => ys[i]?)) where
  goes := fun i H lt ⟨p, q⟩ => ⟨xs, ys, _, _, p, q, List.getElem?_eq_getElem (by omega), List.getElem?_eq_getElem (by omega)⟩
  stops := fun H ⟨p, q⟩ => ⟨xs, ys, p, q, by omega⟩
  yields := fun i H v H' _ ⟨p, q⟩ ⟨T, x, y, e1, e2, e3, e4, e5⟩ => ⟨T, x, y, e1, e2, e3, e4 xs p, e5 ys q⟩
theorem all_true : ∀ n : Nat, (List.replicate n true).all id = true
  | 0 => rfl
  | n + 1 => by rw [List.replicate_succ, List.all_cons, all_true n]; rfl
def spWhole : Sp := fun vs H Q _ => ∃ i : Int, vs = [.int i] ∧ Q (.bl true) H
theorem ok_Lwhole (T : Top w K mg) : FnOk P w K mg base CX0 1 T.a_Lwhole T.fd_Lwhole ["_law_thing"] spWhole := by
  refine T.F_Lwhole.ok sc_Lwhole (fun vs H Q E h => ?_) (fun cdv A outer s H vs Q E hr h => ?_)
  · obtain ⟨i, rfl, _⟩ := h
    rfl
  · obtain ⟨i, rfl, q⟩ := h
    refine ⟨_, (pss_one (ps_ret (pe_and (pe_callB call_isi (by rfl) T.m_isinstance (by decide +kernel) (pa_cons (pv 0) (pa_cons (pe_bltn (v := .ty "int") (by rfl) T.m_int (by decide +kernel) rfl) pa_nil))) (pe_one (pe_not (pe_callB call_isi (by rfl) T.m_isinstance (by decide +kernel) (pa_cons (pv 0) (pa_cons (pe_bltn (v := .ty "bool") (by rfl) T.m_bool (by decide +kernel) rfl) pa_nil)))))))), ?_⟩
    refine ⟨.int i, rfl, _, _, _, _, true, rfl, .ty _, .base (.int i), kit_ty (by decide +kernel), _, rfl, iteT ?_⟩
    exact ⟨.int i, rfl, _, _, _, _, false, rfl, .ty _, .base (.int i), kit_ty (by decide +kernel), _, rfl, q⟩
def spSame (K : PySem.W.Frag) (n : Nat) : Sp := fun vs H Q _ => ∃ (x y : V) (d : PyData), vs = [x, y] ∧ Dp K H x d ∧ Dp K H y d ∧ okD n d = true ∧ ∀ H', Same H H' → Q (.bl true) H'
theorem ok_Lsame0 (T : Top w K mg) : FnOk P w K mg base CX0 2 T.a_Lsame T.fd_Lsame ["_law_found", "_law_due"] (spSame K 0) := by
  have G_Lwhole := ok_Lwhole (P := P) (w := w) (base := base) T
  refine T.F_Lsame.ok sc_Lsame (fun vs H Q E h => ?_) (fun cdv A outer s H vs Q E hr h => ?_)
  · obtain ⟨x, y, d, rfl, _⟩ := h
    rfl
  · obtain ⟨x, y, d, rfl, hx, hy, ok, q⟩ := h
    refine ⟨_, (pss_cons (ps_if (pt_val (pe_callB call_isi (by rfl) T.m_isinstance (by decide +kernel) (pa_cons (pv 1) (pa_cons (pe_bltn (v := .ty "tuple") (by rfl) T.m_tuple (by decide +kernel) rfl) pa_nil)))) pss_never pss_nil)
      (pss_cons (ps_if (pt_cmpR op_isN (pv 1) pe_non (nomark _)) (pss_one (ps_ret (pe_cmpR op_isN (pv 0) pe_non (nomark _)))) pss_nil)
      (pss_cons (ps_if (pt_val (pe_callB call_isi (by rfl) T.m_isinstance (by decide +kernel) (pa_cons (pv 1) (pa_cons (pe_bltn (v := .ty "bool") (by rfl) T.m_bool (by decide +kernel) rfl) pa_nil)))) (pss_one (ps_ret (pe_and (pe_callB call_isi (by rfl) T.m_isinstance (by decide +kernel) (pa_cons (pv 0) (pa_cons (pe_bltn (v := .ty "bool") (by rfl) T.m_bool (by decide +kernel) rfl) pa_nil))) (pe_one (pe_cmpR op_eq (pv 0) (pv 1) (nomark _)))))) pss_nil)
      (pss_cons (ps_if (pt_val (pe_callB call_isi (by rfl) T.m_isinstance (by decide +kernel) (pa_cons (pv 1) (pa_cons (pe_bltn (v := .ty "str") (by rfl) T.m_str (by decide +kernel) rfl) pa_nil)))) (pss_one (ps_ret (pe_and (pe_callB call_isi (by rfl) T.m_isinstance (by decide +kernel) (pa_cons (pv 0) (pa_cons (pe_bltn (v := .ty "str") (by rfl) T.m_str (by decide +kernel) rfl) pa_nil))) (pe_one (pe_cmpR op_eq (pv 0) (pv 1) (nomark _)))))) pss_nil)
      (pss_one (ps_ret (pe_and (pe_call G_Lwhole (hr.mono (by omega)) (by rfl) T.g_Lwhole T.F_Lwhole.kp T.b_Lwhole .nil pass0 (pa_cons (pv 0) pa_nil)) (pe_one (pe_cmpR op_eq (pv 0) (pv 1) (nomark _)))))))))), ?_⟩
    have Q0 := q H (Same.refl H)
    cases d with
    | none =>
      cases hx
      cases hy
      exact ⟨.non, rfl, _, _, _, _, false, rfl, .ty _, .base .non, kit_ty (by decide +kernel), _, rfl, iteF ⟨.non, rfl, rfl, _, rfl, iteT ⟨.non, rfl, rfl, Q0⟩⟩⟩
    | bool b =>
      cases hx
      cases hy
      refine ⟨.bl b, rfl, _, _, _, _, false, rfl, .ty _, .base (.bl b), kit_ty (by decide +kernel), _, rfl, iteF ⟨.bl b, rfl, rfl, _, rfl, iteF ?_⟩⟩
      refine ⟨.bl b, rfl, _, _, _, _, true, rfl, .ty _, .base (.bl b), kit_ty (by decide +kernel), _, rfl, iteT ?_⟩
      refine ⟨.bl b, rfl, _, _, _, _, true, rfl, .ty _, .base (.bl b), kit_ty (by decide +kernel), _, rfl, iteT ⟨.bl b, rfl, .bl b, rfl, rfl, ?_⟩⟩
      rw [decide_eq_true rfl]
      exact Q0
    | int i =>
      cases hx
      cases hy
      refine ⟨.int i, rfl, _, _, _, _, false, rfl, .ty _, .base (.int i), kit_ty (by decide +kernel), _, rfl, iteF ⟨.int i, rfl, rfl, _, rfl, iteF ?_⟩⟩
      refine ⟨.int i, rfl, _, _, _, _, false, rfl, .ty _, .base (.int i), kit_ty (by decide +kernel), _, rfl, iteF ?_⟩
      refine ⟨.int i, rfl, _, _, _, _, false, rfl, .ty _, .base (.int i), kit_ty (by decide +kernel), _, rfl, iteF ?_⟩
      refine ⟨.int i, rfl, i, rfl, _, rfl, iteT ⟨.int i, rfl, .int i, rfl, rfl, ?_⟩⟩
      rw [decide_eq_true rfl]
      exact Q0
    | str z =>
      cases hx
      cases hy
      refine ⟨.str z, rfl, _, _, _, _, false, rfl, .ty _, .base (.str z), kit_ty (by decide +kernel), _, rfl, iteF ⟨.str z, rfl, rfl, _, rfl, iteF ?_⟩⟩
      refine ⟨.str z, rfl, _, _, _, _, false, rfl, .ty _, .base (.str z), kit_ty (by decide +kernel), _, rfl, iteF ?_⟩
      refine ⟨.str z, rfl, _, _, _, _, true, rfl, .ty _, .base (.str z), kit_ty (by decide +kernel), _, rfl, iteT ?_⟩
      refine ⟨.str z, rfl, _, _, _, _, true, rfl, .ty _, .base (.str z), kit_ty (by decide +kernel), _, rfl, iteT ⟨.str z, rfl, .str z, rfl, rfl, ?_⟩⟩
      rw [decide_eq_true rfl]
      exact Q0
    | list ds => cases ok
    | tuple ds => cases ok
    | dict ds => cases ok
theorem ok_LsameS (T : Top w K mg) {n : Nat} (G_Lsame : FnOk P w K mg base CX0 (n + 2) T.a_Lsame T.fd_Lsame ["_law_found", "_law_due"] (spSame K n)) : FnOk P w K mg base CX0 (n + 3) T.a_Lsame T.fd_Lsame ["_law_found", "_law_due"] (spSame K (n + 1)) := by
  have G_Lwhole := ok_Lwhole (P := P) (w := w) (base := base) T
  refine T.F_Lsame.ok sc_Lsame (fun vs H Q E h => ?_) (fun cdv A outer s H vs Q E hr h => ?_)
  · obtain ⟨x, y, d, rfl, _⟩ := h
    rfl
  · obtain ⟨x, y, d, rfl, hx, hy, ok, q⟩ := h
    refine ⟨_, (pss_cons (ps_if (pt_val (pe_callB call_isi (by rfl) T.m_isinstance (by decide +kernel) (pa_cons (pv 1) (pa_cons (pe_bltn (v := .ty "tuple") (by rfl) T.m_tuple (by decide +kernel) rfl) pa_nil)))) (pss_cons (ps_if (PW.pt (pw_or (pt_not (pt_val (pe_callB call_isi (by rfl) T.m_isinstance (by decide +kernel) (pa_cons (pv 0) (pa_cons (pe_bltn (v := .ty "tuple") (by rfl) T.m_tuple (by decide +kernel) rfl) pa_nil))))) (pw_or1 (pt_cmpR op_ne (pe_callB call_len_seq (by rfl) T.m_len (by decide +kernel) (pa_cons (pv 0) pa_nil)) (pe_callB call_len_seq (by rfl) T.m_len (by decide +kernel) (pa_cons (pv 1) pa_nil)) (nomark _))))) (pss_one (ps_ret pe_bl)) pss_nil)
      (pss_one (ps_ret (pe_callB (cr_all rfl) (by rfl) T.m_all (by decide +kernel) (pa_cons (pe_lc (own := [("_law_one", 2), ("_law_other", 3)]) (g := gTup K 2 (gCons (gName 2) (gCons (gName 3) gNil))) (by rfl) sc_Lsame.nd (RZ.pi_zipA (by rfl) T.m_zip (pa_cons (pv 0) (pa_cons (pv 1) pa_nil))) (blkOk_by (own := [("_law_one", 2), ("_law_other", 3)]) (N := ["_law_found", "_law_due", "_law_one", "_law_other"]) (sc := defScope s_Lsame) (by decide +kernel)) (fun _ _ _ _ _ => (pg_tup rfl (pgs_cons (pg_name (i := 2) sc_Lsame.nd rfl (Or.inl rfl)) (pgs_cons (pg_name (i := 3) sc_Lsame.nd rfl (Or.inl rfl)) pgs_nil)))) (fun _ _ _ _ _ => pts_nil) (fun _ _ _ _ _ => (pe_call G_Lsame hr (by rfl) T.g_Lsame T.F_Lsame.kp T.b_Lsame .nil pass0 (pa_cons (pv 2) (pa_cons (pv 3) pa_nil))))) pa_nil))))) pss_nil)
      (pss_cons (ps_if (pt_cmpR op_isN (pv 1) pe_non (nomark _)) (pss_one (ps_ret (pe_cmpR op_isN (pv 0) pe_non (nomark _)))) pss_nil)
      (pss_cons (ps_if (pt_val (pe_callB call_isi (by rfl) T.m_isinstance (by decide +kernel) (pa_cons (pv 1) (pa_cons (pe_bltn (v := .ty "bool") (by rfl) T.m_bool (by decide +kernel) rfl) pa_nil)))) (pss_one (ps_ret (pe_and (pe_callB call_isi (by rfl) T.m_isinstance (by decide +kernel) (pa_cons (pv 0) (pa_cons (pe_bltn (v := .ty "bool") (by rfl) T.m_bool (by decide +kernel) rfl) pa_nil))) (pe_one (pe_cmpR op_eq (pv 0) (pv 1) (nomark _)))))) pss_nil)
      (pss_cons (ps_if (pt_val (pe_callB call_isi (by rfl) T.m_isinstance (by decide +kernel) (pa_cons (pv 1) (pa_cons (pe_bltn (v := .ty "str") (by rfl) T.m_str (by decide +kernel) rfl) pa_nil)))) (pss_one (ps_ret (pe_and (pe_callB call_isi (by rfl) T.m_isinstance (by decide +kernel) (pa_cons (pv 0) (pa_cons (pe_bltn (v := .ty "str") (by rfl) T.m_str (by decide +kernel) rfl) pa_nil))) (pe_one (pe_cmpR op_eq (pv 0) (pv 1) (nomark _)))))) pss_nil)
      (pss_one (ps_ret (pe_and (pe_call G_Lwhole (hr.mono (by omega)) (by rfl) T.g_Lwhole T.F_Lwhole.kp T.b_Lwhole .nil pass0 (pa_cons (pv 0) pa_nil)) (pe_one (pe_cmpR op_eq (pv 0) (pv 1) (nomark _)))))))))), ?_⟩
    have Q0 := q H (Same.refl H)
    cases d with
    | none =>
      cases hx
      cases hy
      exact ⟨.non, rfl, _, _, _, _, false, rfl, .ty _, .base .non, kit_ty (by decide +kernel), _, rfl, iteF ⟨.non, rfl, rfl, _, rfl, iteT ⟨.non, rfl, rfl, Q0⟩⟩⟩
    | bool b =>
      cases hx
      cases hy
      refine ⟨.bl b, rfl, _, _, _, _, false, rfl, .ty _, .base (.bl b), kit_ty (by decide +kernel), _, rfl, iteF ⟨.bl b, rfl, rfl, _, rfl, iteF ?_⟩⟩
      refine ⟨.bl b, rfl, _, _, _, _, true, rfl, .ty _, .base (.bl b), kit_ty (by decide +kernel), _, rfl, iteT ?_⟩
      refine ⟨.bl b, rfl, _, _, _, _, true, rfl, .ty _, .base (.bl b), kit_ty (by decide +kernel), _, rfl, iteT ⟨.bl b, rfl, .bl b, rfl, rfl, ?_⟩⟩
      rw [decide_eq_true rfl]
      exact Q0
    | int i =>
      cases hx
      cases hy
      refine ⟨.int i, rfl, _, _, _, _, false, rfl, .ty _, .base (.int i), kit_ty (by decide +kernel), _, rfl, iteF ⟨.int i, rfl, rfl, _, rfl, iteF ?_⟩⟩
      refine ⟨.int i, rfl, _, _, _, _, false, rfl, .ty _, .base (.int i), kit_ty (by decide +kernel), _, rfl, iteF ?_⟩
      refine ⟨.int i, rfl, _, _, _, _, false, rfl, .ty _, .base (.int i), kit_ty (by decide +kernel), _, rfl, iteF ?_⟩
      refine ⟨.int i, rfl, i, rfl, _, rfl, iteT ⟨.int i, rfl, .int i, rfl, rfl, ?_⟩⟩
      rw [decide_eq_true rfl]
      exact Q0
    | str z =>
      cases hx
      cases hy
      refine ⟨.str z, rfl, _, _, _, _, false, rfl, .ty _, .base (.str z), kit_ty (by decide +kernel), _, rfl, iteF ⟨.str z, rfl, rfl, _, rfl, iteF ?_⟩⟩
      refine ⟨.str z, rfl, _, _, _, _, false, rfl, .ty _, .base (.str z), kit_ty (by decide +kernel), _, rfl, iteF ?_⟩
      refine ⟨.str z, rfl, _, _, _, _, true, rfl, .ty _, .base (.str z), kit_ty (by decide +kernel), _, rfl, iteT ?_⟩
      refine ⟨.str z, rfl, _, _, _, _, true, rfl, .ty _, .base (.str z), kit_ty (by decide +kernel), _, rfl, iteT ⟨.str z, rfl, .str z, rfl, rfl, ?_⟩⟩
      rw [decide_eq_true rfl]
      exact Q0
    | list ds => cases ok
    | dict ds => cases ok
    | tuple ds =>
      cases hx with
      | @tup a xs _ sx ax =>
        cases hy with
        | @tup b ys _ sy ay =>
          have lx := dpa_len ds xs ax
          have ly := dpa_len ds ys ay
          obtain ⟨okL, okA⟩ := Bool.and_eq_true_iff.mp (show (decide (ds.length ≤ 1000) && ds.all fun d => okD n d) = true from ok)
          have okl : ds.length ≤ 1000 := of_decide_eq_true okL
          refine ⟨.ref b, rfl, _, _, _, _, true, rfl, .ty _, ty_tup sy, kit_ty (by decide +kernel), _, rfl, iteT ?_⟩
          refine ⟨.ref a, rfl, _, _, _, _, true, rfl, .ty _, ty_tup sx, kit_ty (by decide +kernel), _, rfl, iteF ?_⟩
          refine ⟨.ref a, rfl, a, xs, rfl, .inr sx, .ref b, rfl, b, ys, rfl, .inr sy, rfl, _, rfl, iteN (by rw [lx, ly]) ?_⟩
          refine ⟨.ref a, rfl, .ref b, rfl, a, b, xs, ys, rfl, .inr ⟨sx, sy, fun D hD => lc_it (walk_zipT (xs := xs) (ys := ys) (n := ds.length) (by omega)) (fun i H' => Same H H' ∧ H' D = some (.lst ((List.replicate i true).map V.bl))) ⟨same_upd hD, upd_same⟩ (fun i H' _ h => ⟨sqt_same h.1 sx, sqt_same h.1 sy⟩) ?_ ?_⟩⟩
          · rintro i v H1 H2 hi ⟨sm, eD⟩ ⟨t, u1, u2, rfl, nt, rfl, e1, e2⟩
            have st : Same H1 (upd H1 t (.tup [u1, u2])) := same_upd nt
            obtain ⟨d1, f1, g1⟩ := dpa_at ds xs ax i u1 e1
            obtain ⟨d2, f2, g2⟩ := dpa_at ds ys ay i u2 e2
            have ed : d2 = d1 := Option.some.inj (f2.symm.trans f1)
            subst ed
            have okd : okD n d2 = true := List.all_eq_true.mp okA d2 (List.mem_of_getElem? f1)
            refine ⟨t, [u1, u2], rfl, .inl (.inl upd_same), rfl, u1, [u2], rfl, u2, [], rfl, rfl, rfl, ?_⟩
            refine ⟨u1, rfl, u2, rfl, u1, u2, d2, rfl, dp_same (sm.trans st) d2 u1 g1, dp_same (sm.trans st) d2 u2 g2, okd, fun H3 s3 => ?_⟩
            refine ⟨_, s3 _ _ (st _ _ eD), ?_, ?_, ?_⟩
            · rw [List.length_map, List.length_replicate]
              exact small1000 (by omega)
            · exact fun b' o e => by
                rw [upd_ne (ne_of_none e hD)]
                exact s3 _ _ (st _ _ (sm _ _ e))
            · rw [upd_same, List.replicate_succ', List.map_append]
              rfl
          · rintro H1 ⟨sm, eD⟩
            refine ⟨_, List.replicate ds.length true, rfl, .inl (.inl eD), ?_⟩
            rw [all_true]
            exact q _ sm
theorem ok_Lsame (T : Top w K mg) : ∀ n : Nat, FnOk P w K mg base CX0 (n + 2) T.a_Lsame T.fd_Lsame ["_law_found", "_law_due"] (spSame K n)
  | 0 => ok_Lsame0 T
  | n + 1 => ok_LsameS T (ok_Lsame T n)
/-! ### data, whatever else stands in the heap -/
def isSeq : HO → Bool
  | .lst _ => true
  | .tup _ => true
  | .frz _ _ => true
  | _ => false
/-- all lists and tuples as they were -/
def Seqs (H H' : Hp) : Prop := ∀ b o, isSeq o = true → H b = some o → H' b = some o
theorem Seqs.of {H H' : Hp} (e : Same H H') : Seqs H H' := fun b o _ h => e b o h
theorem Seqs.trans {H H1 H2 : Hp} (a : Seqs H H1) (b : Seqs H1 H2) : Seqs H H2 := fun c o z h => b c o z (a c o z h)
theorem Seqs.upd {H : Hp} {a : Addr} {o u : HO} (e : H a = some u) (n : isSeq u = false) : Seqs H (L2.upd H a o) := fun b v z h => by
  rw [upd_ne (fun y => by rw [y, e] at h; cases h; rw [n] at z; cases z)]
  exact h
theorem Seqs.new {H : Hp} {a : Addr} {o : HO} (e : H a = none) : Seqs H (L2.upd H a o) := Seqs.of (same_upd e)
theorem seqs_l {K : PySem.W.Frag} {H H' : Hp} {a : Addr} {xs : List V} (e : Seqs H H') (h : SqL K H a xs) : SqL K H' a xs := by
  rcases h with (h | ⟨o, h⟩) | h
  · exact .inl (.inl (e _ _ rfl h))
  · exact .inl (.inr ⟨o, e _ _ rfl h⟩)
  · exact .inr h
theorem seqs_t {K : PySem.W.Frag} {H H' : Hp} {a : Addr} {xs : List V} (e : Seqs H H') (h : SqT K H a xs) : SqT K H' a xs := by
  rcases h with (h | ⟨o, h⟩) | h
  · exact .inl (.inl (e _ _ rfl h))
  · exact .inl (.inr ⟨o, e _ _ rfl h⟩)
  · exact .inr h
mutual
theorem dp_seqs {K : PySem.W.Frag} {H H' : Hp} (e : Seqs H H') : ∀ (d : PyData) (v : V), Dp K H v d → Dp K H' v d
  | .none, _, h => by cases h; exact .non
  | .bool b, _, h => by cases h; exact .bl b
  | .int i, _, h => by cases h; exact .int i
  | .str x, _, h => by cases h; exact .str x
  | .list ds, _, h => by
    cases h with
    | lst hs ha => exact .lst (seqs_l e hs) (dpa_seqs e ds _ ha)
  | .tuple ds, _, h => by
    cases h with
    | tup hs ha => exact .tup (seqs_t e hs) (dpa_seqs e ds _ ha)
  | .dict _, _, h => by cases h
theorem dpa_seqs {K : PySem.W.Frag} {H H' : Hp} (e : Seqs H H') : ∀ (ds : List PyData) (vs : List V), DpAll K H vs ds → DpAll K H' vs ds
  | [], _, h => by cases h; exact .nil
  | d :: ds, _, h => by
    cases h with
    | cons h1 h2 => exact .cons (dp_seqs e d _ h1) (dpa_seqs e ds _ h2)
end
theorem dpa_snoc {K : PySem.W.Frag} {H : Hp} {v : V} {d : PyData} (h : Dp K H v d) : ∀ (ds : List PyData) (vs : List V), DpAll K H vs ds → DpAll K H (vs ++ [v]) (ds ++ [d])
  | [], _, a => by cases a; exact .cons h .nil
  | x :: ds, _, a => by
    cases a with
    | cons h1 h2 => exact .cons h1 (dpa_snoc h ds _ h2)
/-- the heap without the places of X -/
noncomputable def wo (H : Hp) (X : Addr → Prop) : Hp := fun b => by
  classical
  exact if X b then none else H b
theorem wo_in {H : Hp} {X : Addr → Prop} {b : Addr} (h : ¬ X b) : wo H X b = H b := by
  unfold wo
  exact if_neg h
theorem wo_some {H : Hp} {X : Addr → Prop} {b : Addr} {o : HO} (h : wo H X b = some o) : ¬ X b ∧ H b = some o := by
  unfold wo at h
  by_cases hx : X b
  · rw [if_pos hx] at h
    cases h
  · rw [if_neg hx] at h
    exact ⟨hx, h⟩
theorem wo_same {H : Hp} {X : Addr → Prop} : Same (wo H X) H := fun b o h => (wo_some h).2
theorem wo_none {H : Hp} : wo H (fun _ => False) = H := by
  funext b
  exact wo_in (fun h => h)
/-! ### kinds of things -/
theorem ty_lst {K : PySem.W.Frag} {H : Hp} {a : Addr} {xs : List V} (h : SqL K H a xs) : TyX K H (.ref a) (.type "list") := by
  rcases h with (h | ⟨o, h⟩) | ⟨o, its, n, lk, hc, _⟩
  · exact .base (.lst h)
  · exact .base (.frz h)
  · exact .kList lk hc
theorem kit_any2 {K : PySem.W.Frag} {t a b : String} {x y : Bool} (h1 : kitB t a = some x) (h2 : kitB t b = some y) : PySem.W.kitAny K (.type t) [.type a, .type b] = some (x || y) := by
  unfold PySem.W.kitAny
  rw [kit_ty h1]
  cases x with
  | true => rfl
  | false =>
    unfold PySem.W.kitAny
    rw [kit_ty h2]
    cases y <;> rfl
/-- the type's name -/
def tyD : PyData → String
  | .none => "NoneType"
  | .bool _ => "bool"
  | .int _ => "int"
  | .str _ => "str"
  | .list _ => "list"
  | .tuple _ => "tuple"
  | .dict _ => "dict"
theorem ty_dp {K : PySem.W.Frag} {H : Hp} {v : V} {d : PyData} (h : Dp K H v d) : TyX K H v (.type (tyD d)) := by
  cases h with
  | non => exact .base .non
  | bl b => exact .base (.bl b)
  | int i => exact .base (.int i)
  | str z => exact .base (.str z)
  | lst h _ => exact ty_lst h
  | tup h _ => exact ty_tup h
def seqD : PyData → Option (List PyData)
  | .list ds => some ds
  | .tuple ds => some ds
  | _ => none
def strD : PyData → Bool
  | .str _ => true
  | _ => false
theorem kit_seq (d : PyData) : ∃ x y, kitB (tyD d) "tuple" = some x ∧ kitB (tyD d) "list" = some y ∧ (x || y) = (seqD d).isSome := by
  cases d with
  | list ds => exact ⟨false, true, by show kitB "list" "tuple" = some false; decide +kernel, by show kitB "list" "list" = some true; decide +kernel, rfl⟩
  | tuple ds => exact ⟨true, false, by show kitB "tuple" "tuple" = some true; decide +kernel, by show kitB "tuple" "list" = some false; decide +kernel, rfl⟩
  | none => exact ⟨false, false, by show kitB "NoneType" "tuple" = some false; decide +kernel, by show kitB "NoneType" "list" = some false; decide +kernel, rfl⟩
  | bool b => exact ⟨false, false, by show kitB "bool" "tuple" = some false; decide +kernel, by show kitB "bool" "list" = some false; decide +kernel, rfl⟩
  | int i => exact ⟨false, false, by show kitB "int" "tuple" = some false; decide +kernel, by show kitB "int" "list" = some false; decide +kernel, rfl⟩
  | str z => exact ⟨false, false, by show kitB "str" "tuple" = some false; decide +kernel, by show kitB "str" "list" = some false; decide +kernel, rfl⟩
  | dict z => exact ⟨false, false, by show kitB "dict" "tuple" = some false; decide +kernel, by show kitB "dict" "list" = some false; decide +kernel, rfl⟩
theorem kit_str (d : PyData) : kitB (tyD d) "str" = some (strD d) := by
  cases d with
  | list ds => show kitB "list" "str" = some false; decide +kernel
  | tuple ds => show kitB "tuple" "str" = some false; decide +kernel
  | none => show kitB "NoneType" "str" = some false; decide +kernel
  | bool b => show kitB "bool" "str" = some false; decide +kernel
  | int i => show kitB "int" "str" = some false; decide +kernel
  | str z => show kitB "str" "str" = some true; decide +kernel
  | dict z => show kitB "dict" "str" = some false; decide +kernel
def SqA (K : PySem.W.Frag) (H : Hp) (a : Addr) (xs : List V) : Prop := SqL K H a xs ∨ SqT K H a xs
theorem SqA.same {K : PySem.W.Frag} {H H' : Hp} {a : Addr} {xs : List V} (e : Same H H') (h : SqA K H a xs) : SqA K H' a xs := h.elim (fun h => .inl (e.seq h)) (fun h => .inr (sqt_same e h))
theorem seq_dp {K : PySem.W.Frag} {H : Hp} {v : V} {d : PyData} {ds : List PyData} (h : Dp K H v d) (e : seqD d = some ds) : ∃ a xs, v = .ref a ∧ SqA K H a xs ∧ DpAll K H xs ds := by
  cases h with
  | lst h a => cases e; exact ⟨_, _, rfl, .inl h, a⟩
  | tup h a => cases e; exact ⟨_, _, rfl, .inr h, a⟩
  | _ => cases e
theorem ixA {K : PySem.W.Frag} {H : Hp} {a : Addr} {xs : List V} {j : Nat} {v : V} {Q : VK} (h : SqA K H a xs) (hj : xs[j]? = some v) (q : Q v H) : rIx K (.ref a) (.int (j : Int)) H Q :=
  h.elim (fun h => .inl ⟨a, xs, j, v, rfl, rfl, h, atI_nat hj, q⟩) (fun h => .inr (.inl ⟨a, xs, j, v, rfl, rfl, h, atI_nat hj, q⟩))
theorem kpA {K : PySem.W.Frag} {H : Hp} {a : Addr} {xs : List V} (h : SqA K H a xs) : (∀ H', Same H H' → SqL K H' a xs) ∨ (∀ H', Same H H' → SqT K H' a xs) := h.elim (fun h => .inl fun _ s => s.seq h) (fun h => .inr fun _ s => sqt_same s h)
/-! ### texts -/
abbrev SMALLs : Str := PySem.Str.ofString "abcdefghijklmnopqrstuvwxyz"
abbrev GREATs : Str := PySem.Str.ofString "ABCDEFGHIJKLMNOPQRSTUVWXYZ"
def smC (c : Nat) : Bool := decide (c ∈ SMALLs.cps.toList)
def grC (c : Nat) : Bool := decide (c ∈ GREATs.cps.toList)
def shL (cs : List Nat) : Bool := decide (1 ≤ (cs.length : Int)) && decide ((cs.length : Int) ≤ 8)
def nmL (cs : List Nat) : Bool := shL cs && cs.all smC
def loL : List Nat → Bool
  | [] => false
  | c :: r => shL (c :: r) && (grC c && r.all smC)
def nmV : V → Bool
  | .str z => nmL z.cps.toList
  | _ => false
def loV : V → Bool
  | .str z => loL z.cps.toList
  | _ => false
def sgV (v : V) : Bool := nmV v || loV v
def shV : V → Bool
  | .str z => shL z.cps.toList
  | _ => false
/-- a thing: a text that is not too long, or no text -/
def Th (K : PySem.W.Frag) (H : Hp) (v : V) : Prop := (∃ z : Str, v = .str z ∧ z.length ≤ 1000) ∨ ((∀ z, v ≠ .str z) ∧ ∃ t, TyX K H v (.type t) ∧ kitB t "str" = some false)
theorem tyx_same {K : PySem.W.Frag} {H H' : Hp} {v : V} {t : Value} (e : Same H H') (h : TyX K H v t) : TyX K H' v t := by
  cases h with
  | base b =>
    cases b with
    | non => exact .base .non
    | bl x => exact .base (.bl x)
    | int i => exact .base (.int i)
    | str x => exact .base (.str x)
    | flt x => exact .base (.flt x)
    | lst h => exact .base (.lst (e _ _ h))
    | frz h => exact .base (.frz (e _ _ h))
    | tup h => exact .base (.tup (e _ _ h))
    | dK h => exact .base (.dK (e _ _ h))
    | dT h => exact .base (.dT (e _ _ h))
    | ins h a b c d f => exact .base (.ins (e _ _ h) a b c d f)
  | byt b => exact .byt b
  | set h => exact .set (e _ _ h)
  | kList h c => exact .kList h c
  | kTuple h c => exact .kTuple h c
  | kDict h c => exact .kDict h c
  | fTuple h => exact .fTuple (e _ _ h)
  | fDict h => exact .fDict (e _ _ h)
theorem Th.same {K : PySem.W.Frag} {H H' : Hp} {v : V} (e : Same H H') (h : Th K H v) : Th K H' v := by
  rcases h with h | ⟨n, t, ty, k⟩
  · exact .inl h
  · exact .inr ⟨n, t, tyx_same e ty, k⟩
theorem nmV_no {v : V} (h : ∀ z, v ≠ .str z) : nmV v = false ∧ loV v = false ∧ shV v = false := by
  cases v with
  | str z => exact absurd rfl (h z)
  | _ => exact ⟨rfl, rfl, rfl⟩
theorem len_toList (z : Str) : z.cps.toList.length = z.length := Array.length_toList
theorem thou {n : Nat} (h : n ≤ 1000) : n ≤ sizeLine := Nat.le_trans h (by decide)
def spShort (K : PySem.W.Frag) : Sp := fun vs H Q _ => ∃ v, vs = [v] ∧ Th K H v ∧ Q (.bl (shV v)) H
theorem s0 : PySem.Str.ofString "" = (⟨#[]⟩ : Str) := by decide +kernel
theorem ok_is_short_text (T : Top w K mg) : FnOk P w K mg base CX0 1 T.a_is_short_text T.fd_is_short_text ["thing"] (spShort K) := by
  refine T.F_is_short_text.ok sc_is_short_text (fun vs H Q E h => ?_) (fun cdv A outer s H vs Q E hr h => ?_)
  · obtain ⟨v, rfl, _⟩ := h
    rfl
  · obtain ⟨v, rfl, hv, q⟩ := h
    refine ⟨_, (pss_one (ps_ret (pe_and (pe_callB call_isi (by rfl) T.m_isinstance (by decide +kernel) (pa_cons (pv 0) (pa_cons (pe_bltn (v := .ty "str") (by rfl) T.m_str (by decide +kernel) rfl) pa_nil))) (pe_one (pe_chain op_le op_le pe_int (pe_callB call_len_str (by rfl) T.m_len (by decide +kernel) (pa_cons (pv 0) pa_nil)) (pe_glob (v := .int 8) (by rfl) T.g_LONGEST.choose_spec ⟨_, rfl⟩)))))), ?_⟩
    rcases hv with ⟨z, rfl, hz⟩ | ⟨no, t, ty, k⟩
    · refine ⟨.str z, rfl, _, _, _, _, true, rfl, .ty _, .base (.str z), kit_ty (by decide +kernel), _, rfl, iteT ?_⟩
      have q' : Q (.bl (decide (1 ≤ (z.length : Int)) && decide ((z.length : Int) ≤ 8))) H := by
        have e : shV (.str z) = (decide (1 ≤ (z.length : Int)) && decide ((z.length : Int) ≤ 8)) := by
          show (decide (1 ≤ (z.cps.toList.length : Int)) && decide ((z.cps.toList.length : Int) ≤ 8)) = _
          rw [len_toList]
        rw [← e]
        exact q
      refine ⟨.str z, rfl, z, rfl, thou hz, _, _, rfl, rfl, _, rfl, ite2 (fun e => ?_) (fun e => ?_)⟩
      · refine ⟨_, _, rfl, rfl, ?_⟩
        rw [e] at q'
        exact q'
      · rw [Bool.eq_false_iff.mpr e] at q'
        exact q'
    · rw [(nmV_no no).2.2] at q
      exact ⟨v, rfl, _, _, _, _, false, rfl, .ty _, ty, kit_ty k, _, rfl, iteF q⟩
def spSmall : Sp := fun vs H Q _ => ∃ z : Str, vs = [.str z] ∧ z.length ≤ 1000 ∧ ∀ H', Same H H' → Q (.bl (z.cps.toList.all smC)) H'
theorem all_map {f : Nat → Bool} : ∀ xs : List Nat, (xs.map f).all id = xs.all f
  | [] => rfl
  | x :: r => by rw [List.map_cons, List.all_cons, List.all_cons, all_map r]; rfl
theorem ok_are_small (T : Top w K mg) : FnOk P w K mg base CX0 1 T.a_are_small T.fd_are_small ["text"] spSmall := by
  refine T.F_are_small.ok sc_are_small (fun vs H Q E h => ?_) (fun cdv A outer s H vs Q E hr h => ?_)
  · obtain ⟨z, rfl, _⟩ := h
    rfl
  · obtain ⟨z, rfl, hz, q⟩ := h
    refine ⟨_, (pss_one (ps_ret (pe_callB (cr_all rfl) (by rfl) T.m_all (by decide +kernel) (pa_cons (pe_lc (own := [("letter", 1)]) (g := gName 1) (by rfl) sc_are_small.nd (pi_str (pv 0)) (blkOk_by (own := [("letter", 1)]) (N := ["text", "letter"]) (sc := defScope s_are_small) (by decide +kernel)) (fun _ _ _ _ _ => (pg_name (i := 1) sc_are_small.nd rfl (Or.inl rfl))) (fun _ _ _ _ _ => pts_nil) (fun _ _ _ _ _ => (pe_cmpR op_in_sign (pv 1) (pe_glob (v := .str "abcdefghijklmnopqrstuvwxyz") (by rfl) T.g_SMALL.choose_spec ⟨_, rfl⟩) (by rfl)))) pa_nil)))), ?_⟩
    refine ⟨.str z, rfl, z, rfl, fun D hD => lc_it walk_str (fun i H' => Same H H' ∧ H' D = some (.lst (((z.cps.toList.take i).map smC).map V.bl))) ⟨same_upd hD, upd_same⟩ (fun _ _ _ _ => trivial) ?_ ?_⟩
    · rintro i x H1 H2 hi ⟨sm, eD⟩ ⟨rfl, c, hc, rfl⟩
      refine ⟨rfl, ?_⟩
      refine ⟨_, rfl, c, _, rfl, rfl, _, eD, ?_, ?_, ?_⟩
      · rw [List.length_map, List.length_map, List.length_take, len_toList]
        exact small1000 (by omega)
      · exact fun b' o e => by
          rw [upd_ne (ne_of_none e hD)]
          exact sm _ _ e
      · rw [upd_same, List.take_add_one, Array.getElem?_toList, hc, List.map_append, List.map_append]
        rfl
    · rintro H1 ⟨sm, eD⟩
      have e2 : z.cps.toList.take z.cps.size = z.cps.toList := List.take_of_length_le (by rw [Array.length_toList]; exact Nat.le_refl _)
      rw [e2] at eD
      refine ⟨_, z.cps.toList.map smC, rfl, .inl (.inl eD), ?_⟩
      rw [all_map]
      exact q _ sm
def spIsV (K : PySem.W.Frag) (f : V → Bool) : Sp := fun vs H Q _ => ∃ v, vs = [v] ∧ Th K H v ∧ ∀ H', Same H H' → Q (.bl (f v)) H'
theorem ok_is_name (T : Top w K mg) : FnOk P w K mg base CX0 2 T.a_is_name T.fd_is_name ["thing"] (spIsV K nmV) := by
  have G_is_short_text := ok_is_short_text (P := P) (w := w) (base := base) T
  have G_are_small := ok_are_small (P := P) (w := w) (base := base) T
  refine T.F_is_name.ok sc_is_name (fun vs H Q E h => ?_) (fun cdv A outer s H vs Q E hr h => ?_)
  · obtain ⟨v, rfl, _⟩ := h
    rfl
  · obtain ⟨v, rfl, hv, q⟩ := h
    refine ⟨_, (pss_one (ps_ret (pe_and (pe_call G_is_short_text hr (by rfl) T.g_is_short_text T.F_is_short_text.kp T.b_is_short_text .nil pass0 (pa_cons (pv 0) pa_nil)) (pe_one (pe_call G_are_small hr (by rfl) T.g_are_small T.F_are_small.kp T.b_are_small .nil pass0 (pa_cons (pv 0) pa_nil)))))), ?_⟩
    refine ⟨v, rfl, v, rfl, hv, _, rfl, ite2 (fun e => ?_) (fun e => ?_)⟩
    · rcases hv with ⟨z, rfl, hz⟩ | ⟨no, _⟩
      · refine ⟨.str z, rfl, z, rfl, hz, fun H' sm => ?_⟩
        have h := q H' sm
        have e2 : nmV (.str z) = z.cps.toList.all smC := by
          show (shV (.str z) && z.cps.toList.all smC) = _
          rw [e]
          rfl
        rw [e2] at h
        exact h
      · rw [(nmV_no no).2.2] at e
        cases e
    · have h := q H (Same.refl H)
      have e2 : nmV v = false := by
        rcases hv with ⟨z, rfl, hz⟩ | ⟨no, _⟩
        · show (shV (.str z) && z.cps.toList.all smC) = _
          rw [Bool.eq_false_iff.mpr e]
          rfl
        · exact (nmV_no no).1
      rw [e2] at h
      exact h
theorem cut_tail (c : Nat) (r : List Nat) : cutS ⟨⟨c :: r⟩⟩ (some 1) none = ⟨⟨r⟩⟩ := by
  unfold cutS
  have e1 : HT.sIx (Str.length ⟨⟨c :: r⟩⟩) 0 (some 1) = 1 := by
    rw [show HT.sIx (Str.length ⟨⟨c :: r⟩⟩) 0 (some 1) = min 1 (Str.length ⟨⟨c :: r⟩⟩) from HT.sIx_nat _ 0 1]
    show min 1 (r.length + 1) = 1
    omega
  rw [e1, HT.sIx_none]
  show (⟨(List.take ((c :: r).length - 1) r).toArray⟩ : Str) = ⟨⟨r⟩⟩
  rw [List.length_cons, Nat.add_sub_cancel, List.take_length]
theorem ok_is_lone (T : Top w K mg) : FnOk P w K mg base CX0 2 T.a_is_lone T.fd_is_lone ["thing"] (spIsV K loV) := by
  have G_is_short_text := ok_is_short_text (P := P) (w := w) (base := base) T
  have G_are_small := ok_are_small (P := P) (w := w) (base := base) T
  refine T.F_is_lone.ok sc_is_lone (fun vs H Q E h => ?_) (fun cdv A outer s H vs Q E hr h => ?_)
  · obtain ⟨v, rfl, _⟩ := h
    rfl
  · obtain ⟨v, rfl, hv, q⟩ := h
    refine ⟨_, (pss_one (ps_ret (pe_and (pe_call G_is_short_text hr (by rfl) T.g_is_short_text T.F_is_short_text.kp T.b_is_short_text .nil pass0 (pa_cons (pv 0) pa_nil)) (pe_and (pe_cmpR op_in_sign (pe_ix ix_str (pv 0) pe_int (fun _ _ => rfl)) (pe_glob (v := .str "ABCDEFGHIJKLMNOPQRSTUVWXYZ") (by rfl) T.g_GREAT.choose_spec ⟨_, rfl⟩) (by rfl)) (pe_one (pe_call G_are_small hr (by rfl) T.g_are_small T.F_are_small.kp T.b_are_small .nil pass0 (pa_cons (pe_slice sl_str (pv 0) (po_some pe_int) po_none) pa_nil))))))), ?_⟩
    refine ⟨v, rfl, v, rfl, hv, _, rfl, ite2 (fun e => ?_) (fun e => ?_)⟩
    · rcases hv with ⟨⟨⟨cs⟩⟩, rfl, hz⟩ | ⟨no, _⟩
      · match cs, hz, e, q with
        | [], _, e, _ => cases e
        | c :: r, hz, e, q =>
          have hz2 : r.length + 1 ≤ 1000 := hz
          refine ⟨_, rfl, _, 0, c, rfl, rfl, thou hz, atI_nat (j := 0) rfl, c, _, rfl, rfl, _, rfl, ite2 (fun e3 => ?_) (fun e3 => ?_)⟩
          · refine ⟨_, rfl, 1, rfl, _, rfl, thou hz, ?_⟩
            rw [cut_tail]
            refine ⟨_, rfl, by show r.length ≤ 1000; omega, fun H' sm => ?_⟩
            have h := q H' sm
            have e2 : loV (.str ⟨⟨c :: r⟩⟩) = r.all smC := by
              show (shL (c :: r) && (grC c && r.all smC)) = _
              rw [show shL (c :: r) = true from e, show grC c = true from e3]
              rfl
            rw [e2] at h
            exact h
          · have h := q H (Same.refl H)
            have e2 : loV (.str ⟨⟨c :: r⟩⟩) = false := by
              show (shL (c :: r) && (grC c && r.all smC)) = _
              rw [show grC c = false from Bool.eq_false_iff.mpr e3, Bool.false_and, Bool.and_false]
            rw [e2] at h
            exact h
      · rw [(nmV_no no).2.2] at e
        cases e
    · have h := q H (Same.refl H)
      have e2 : loV v = false := by
        rcases hv with ⟨⟨⟨cs⟩⟩, rfl, hz⟩ | ⟨no, _⟩
        · match cs, e with
          | [], _ => rfl
          | c :: r, e =>
            show (shL (c :: r) && (grC c && r.all smC)) = _
            rw [show shL (c :: r) = false from Bool.eq_false_iff.mpr e]
            rfl
        · exact (nmV_no no).2.1
      rw [e2] at h
      exact h
theorem ok_is_sign (T : Top w K mg) : FnOk P w K mg base CX0 3 T.a_is_sign T.fd_is_sign ["thing"] (spIsV K sgV) := by
  have G_is_name := ok_is_name (P := P) (w := w) (base := base) T
  have G_is_lone := ok_is_lone (P := P) (w := w) (base := base) T
  refine T.F_is_sign.ok sc_is_sign (fun vs H Q E h => ?_) (fun cdv A outer s H vs Q E hr h => ?_)
  · obtain ⟨v, rfl, _⟩ := h
    rfl
  · obtain ⟨v, rfl, hv, q⟩ := h
    refine ⟨_, (pss_one (ps_ret (pe_or (pe_call G_is_name hr (by rfl) T.g_is_name T.F_is_name.kp T.b_is_name .nil pass0 (pa_cons (pv 0) pa_nil)) (pe_one (pe_call G_is_lone hr (by rfl) T.g_is_lone T.F_is_lone.kp T.b_is_lone .nil pass0 (pa_cons (pv 0) pa_nil)))))), ?_⟩
    refine ⟨v, rfl, v, rfl, hv, fun H1 s1 => ⟨_, rfl, ite2 (fun e => ?_) (fun e => ?_)⟩⟩
    · have h := q H1 s1
      rw [show sgV v = true by unfold sgV; rw [e]; rfl] at h
      exact h
    · refine ⟨v, rfl, v, rfl, hv.same s1, fun H2 s2 => ?_⟩
      have h := q H2 (s1.trans s2)
      rw [show sgV v = loV v by unfold sgV; rw [Bool.eq_false_iff.mpr e]; rfl] at h
      exact h
/-! ### parts of entries -/
theorem units65 {k : Nat} {A : Around} (hr : Room k A) : A.units + 65 < cLine := by
  have := hr.un
  omega
def rEqA (K : PySem.W.Frag) : R2 := fun x y H Q => rEq x y H Q ∨ rEqD K x y H Q
theorem op_eqA {X : Cx} (hu : X.A.units + 64 < cLine) : OpR X (compareOp .Eq) (rEqA X.K) := by
  intro pins s σ H x y v u Q I rx ry h
  rcases h with h | h
  · exact op_eq pins s σ H x y v u Q I rx ry h
  · exact op_eqD hu pins s σ H x y v u Q I rx ry h
def rInTD (K : PySem.W.Frag) : R2 := fun x y H Q => ∃ d ds, Dp K H x d ∧ Dp K H y (.tuple ds) ∧ SeqAt.shaped d = true ∧ SeqAt.shaped (.tuple ds) = true ∧ Q (.bl (ds.any fun z => PyData.eqv z d)) H
def rInA (K : PySem.W.Frag) : R2 := fun x y H Q => rIn K false x y H Q ∨ rInTD K x y H Q
theorem op_inA {X : Cx} (hu : X.A.units + 65 < cLine) : OpR X (compareOp .In) (rInA X.K) := by
  intro pins s σ H x y v u Q I rx ry h
  rcases h with h | ⟨d, ds, hd, he, sd, se, q⟩
  · exact op_in_seq pins s σ H x y v u Q I rx ry h
  · obtain ⟨as, r1⟩ := Dp.reads I d x v hd rx
    obtain ⟨bs, r2⟩ := Dp.reads I (.tuple ds) y u he ry
    exact SeqAt.in_tuple_reads r2 r1 (SeqAt.canLay_of_shaped se) (SeqAt.canLay_of_shaped sd) (room_in_shaped sd hu) ⟨.bl _, H, I, rfl, q⟩
/-- a part of an entry: no text too long; what is nested is of the kind that can be compared -/
def gp : PyData → Bool
  | .none => true
  | .bool _ => true
  | .int _ => true
  | .str z => decide (z.length ≤ 1000)
  | .list ds => SeqAt.shaped (.list ds)
  | .tuple ds => SeqAt.shaped (.tuple ds)
  | .dict _ => false
/-- equal to a text -/
def eqS : PyData → Str → Bool
  | .str z, s => s == z
  | _, _ => false
def inW (d : PyData) (ws : List Str) : Bool := ws.any fun s => eqS d s
theorem dec_str (z s : Str) : decide (V.str z = V.str s) = (s == z) := by
  by_cases h : s = z
  · subst h
    rw [decide_eq_true rfl, beq_self_eq_true]
  · rw [decide_eq_false (fun e => h (V.str.inj e).symm), beq_eq_false_iff_ne.mpr h]
theorem eqA_of {K : PySem.W.Frag} {H : Hp} {v : V} {d : PyData} {s : Str} {Q : VK} (hd : Dp K H v d) (g : gp d = true) (hs : SeqAt.shaped (.str s) = true) (q : Q (.bl (eqS d s)) H) : rEqA K v (.str s) H Q := by
  cases hd with
  | non => exact .inl ⟨rfl, by rw [decide_eq_false (fun h => nomatch h)]; exact q⟩
  | bl b => exact .inl ⟨rfl, by rw [decide_eq_false (fun h => nomatch h)]; exact q⟩
  | int i => exact .inl ⟨rfl, by rw [decide_eq_false (fun h => nomatch h)]; exact q⟩
  | str z => exact .inl ⟨rfl, by rw [dec_str]; exact q⟩
  | lst h a => exact .inr ⟨_, _, .lst h a, .str s, g, hs, q⟩
  | tup h a => exact .inr ⟨_, _, .tup h a, .str s, g, hs, q⟩
theorem dpa_strs {K : PySem.W.Frag} {H : Hp} : ∀ ws : List Str, DpAll K H (ws.map V.str) (ws.map PyData.str)
  | [] => .nil
  | w :: r => .cons (.str w) (dpa_strs r)
theorem flat_strs : ∀ ws : List Str, (ws.map V.str).all flatV = true
  | [] => rfl
  | w :: r => by rw [List.map_cons, List.all_cons, flat_strs r]; rfl
theorem inW_flat {v : V} {d : PyData} (h : ∀ s : Str, eqV (.str s) v = eqS d s) : ∀ ws : List Str, inV v (ws.map V.str) = inW d ws
  | [] => rfl
  | w :: r => by
    have ih := inW_flat h r
    unfold inV inW at ih ⊢
    rw [List.map_cons, List.any_cons, List.any_cons, ih, h w]
theorem inW_deep {d : PyData} (h : ∀ s : Str, PyData.eqv (.str s) d = eqS d s) : ∀ ws : List Str, ((ws.map PyData.str).any fun z => PyData.eqv z d) = inW d ws
  | [] => rfl
  | w :: r => by
    have ih := inW_deep h r
    unfold inW at ih ⊢
    rw [List.map_cons, List.any_cons, List.any_cons, ih, h w]
theorem inA_of {K : PySem.W.Frag} {H : Hp} {v : V} {d : PyData} {p : Addr} {ws : List Str} {Q : VK} (hd : Dp K H v d) (g : gp d = true) (hp : SqT K H p (ws.map V.str)) (hs : SeqAt.shaped (.tuple (ws.map PyData.str)) = true) (q : Q (.bl (inW d ws)) H) : rInA K v (.ref p) H Q := by
  cases hd with
  | non => exact .inl ⟨p, _, rfl, .inr hp, rfl, flat_strs ws, by rw [← inW_flat (v := .non) (d := .none) (fun s => rfl)] at q; exact q⟩
  | bl b => exact .inl ⟨p, _, rfl, .inr hp, rfl, flat_strs ws, by rw [← inW_flat (v := .bl b) (d := .bool b) (fun s => rfl)] at q; exact q⟩
  | int i => exact .inl ⟨p, _, rfl, .inr hp, rfl, flat_strs ws, by rw [← inW_flat (v := .int i) (d := .int i) (fun s => rfl)] at q; exact q⟩
  | str z => exact .inl ⟨p, _, rfl, .inr hp, rfl, flat_strs ws, by rw [← inW_flat (v := .str z) (d := .str z) (fun s => rfl)] at q; exact q⟩
  | lst h a => exact .inr ⟨_, _, .lst h a, .tup hp (dpa_strs ws), g, hs, by rw [inW_deep (fun s => by simp [PyData.eqv, eqS])]; exact q⟩
  | tup h a => exact .inr ⟨_, _, .tup h a, .tup hp (dpa_strs ws), g, hs, by rw [inW_deep (fun s => by simp [PyData.eqv, eqS])]; exact q⟩
theorem th_dp {K : PySem.W.Frag} {H : Hp} {v : V} {d : PyData} (h : Dp K H v d) (g : gp d = true) : Th K H v := by
  cases h with
  | str z => exact .inl ⟨z, rfl, of_decide_eq_true g⟩
  | non => exact .inr ⟨(fun z e => nomatch e), _, .base .non, by decide +kernel⟩
  | bl b => exact .inr ⟨(fun z e => nomatch e), _, .base (.bl b), by decide +kernel⟩
  | int i => exact .inr ⟨(fun z e => nomatch e), _, .base (.int i), by decide +kernel⟩
  | lst h _ => exact .inr ⟨(fun z e => nomatch e), _, ty_lst h, by decide +kernel⟩
  | tup h _ => exact .inr ⟨(fun z e => nomatch e), _, ty_tup h, by decide +kernel⟩
def sgD : PyData → Bool
  | .str z => sgV (.str z)
  | _ => false
theorem sg_dp {K : PySem.W.Frag} {H : Hp} {v : V} {d : PyData} (h : Dp K H v d) : sgV v = sgD d := by
  cases h <;> rfl
/-! ### entries -/
def manyD : PyData → Bool
  | .int i => decide (1 ≤ i) && decide (i ≤ 9)
  | _ => false
abbrev lets : List Str := [PySem.Str.ofString "n", PySem.Str.ofString "e", PySem.Str.ofString "s", PySem.Str.ofString "w"]
def letD (d : PyData) : Bool := inW d lets
abbrev wAlone : List Str := [PySem.Str.ofString "left", PySem.Str.ofString "right", PySem.Str.ofString "back", PySem.Str.ofString "bump", PySem.Str.ofString "bare", PySem.Str.ofString "swap"]
abbrev wFace : List Str := [PySem.Str.ofString "left", PySem.Str.ofString "right", PySem.Str.ofString "back", PySem.Str.ofString "go", PySem.Str.ofString "bump", PySem.Str.ofString "spy"]
def pairD (w p : PyData) : Bool := if eqS w "face" = true then letD p else if eqS w "go" = true then manyD p else eqS w "sign" && sgD p
def entL : List PyData → Bool
  | [a] => inW a wAlone
  | [a, b] => pairD a b
  | [a, b, c] => eqS a "spy" && (manyD b && sgD c)
  | _ => false
def entD (d : PyData) : Bool := match seqD d with
  | some ds => entL ds
  | none => false
/-- a thing in the place of an entry -/
def ge (d : PyData) : Bool := match seqD d with
  | some ds => decide (ds.length ≤ 20) && ds.all gp
  | none => gp d
/-! ### letters, steps -/
def cd : Fin 4 → Nat
  | 0 => 110
  | 1 => 101
  | 2 => 115
  | 3 => 119
def Lt (l : Fin 4) : Str := ⟨#[cd l]⟩
abbrev nesw : Str := PySem.Str.ofString "nesw"
theorem lt0 : PySem.Str.ofString "n" = Lt 0 := by decide +kernel
theorem lt1 : PySem.Str.ofString "e" = Lt 1 := by decide +kernel
theorem lt2 : PySem.Str.ofString "s" = Lt 2 := by decide +kernel
theorem lt3 : PySem.Str.ofString "w" = Lt 3 := by decide +kernel
theorem ltd : ∀ l m : Fin 4, decide (V.str (Lt l) = V.str (Lt m)) = decide (l = m) := by decide +kernel
theorem occ : ∀ l : Fin 4, Builtin.Str.occurrences nesw (Lt l) 0 nesw.length 1 = [l.val] := by decide +kernel
theorem nesw_len : nesw.length ≤ sizeLine := by decide +kernel
theorem nesw_at : ∀ (i : Nat) (h : i < 4) (c : Nat), nesw.cps[i]? = some c → (⟨#[c]⟩ : Str) = Lt ⟨i, h⟩
  | 0, _, c, e => by cases e; rfl
  | 1, _, c, e => by cases e; rfl
  | 2, _, c, e => by cases e; rfl
  | 3, _, c, e => by cases e; rfl
def dx : Fin 4 → Int
  | 0 => 0
  | 1 => 1
  | 2 => 0
  | 3 => -1
def dy : Fin 4 → Int
  | 0 => 1
  | 1 => 0
  | 2 => -1
  | 3 => 0
theorem dxb : ∀ l : Fin 4, -(2 ^ 64) < dx l ∧ dx l < 2 ^ 64 := by decide +kernel
theorem dyb : ∀ l : Fin 4, -(2 ^ 64) < dy l ∧ dy l < 2 ^ 64 := by decide +kernel
/-! ### lots -/
def tr (a : Fin 8) (l : Fin 4) : Fin 4 := if a.val < 4 then ⟨(a.val + l.val) % 4, by omega⟩ else ⟨(a.val + 4 - l.val) % 4, by omega⟩
def un (a : Fin 8) : Fin 8 := if a.val < 4 then ⟨(4 - a.val) % 4, by omega⟩ else a
def bo (a b : Fin 8) : Fin 8 :=
  let q := if a.val < 4 then (a.val + b.val) % 4 else (a.val + 8 - b.val) % 4
  if (decide (a.val < 4)) = (decide (b.val < 4)) then ⟨q % 4, by omega⟩ else ⟨q % 4 + 4, by omega⟩
theorem at_mir : ∀ (a : Fin 8) (l : Fin 4), (4 : Int) ≤ a.val → atI nesw.cps.toList (((a.val : Int) - (l.val : Int)) % 4) = some (cd (tr a l)) := by decide +kernel
theorem at_tur : ∀ (a : Fin 8) (l : Fin 4), ¬ (4 : Int) ≤ a.val → atI nesw.cps.toList (((a.val : Int) + (l.val : Int)) % 4) = some (cd (tr a l)) := by decide +kernel
theorem un_mir : ∀ a : Fin 8, (4 : Int) ≤ a.val → ((un a).val : Int) = a.val := by decide +kernel
theorem un_tur : ∀ a : Fin 8, ¬ (4 : Int) ≤ a.val → ((un a).val : Int) = (-(a.val : Int)) % 4 := by decide +kernel
theorem bo_1 : ∀ a b : Fin 8, (4 : Int) ≤ a.val → (4 : Int) ≤ b.val → ((bo a b).val : Int) = ((a.val : Int) - b.val) % 4 := by decide +kernel
theorem bo_2 : ∀ a b : Fin 8, (4 : Int) ≤ a.val → ¬ (4 : Int) ≤ b.val → ((bo a b).val : Int) = ((a.val : Int) - b.val) % 4 + 4 := by decide +kernel
theorem bo_3 : ∀ a b : Fin 8, ¬ (4 : Int) ≤ a.val → (4 : Int) ≤ b.val → ((bo a b).val : Int) = ((a.val : Int) + b.val) % 4 + 4 := by decide +kernel
theorem bo_4 : ∀ a b : Fin 8, ¬ (4 : Int) ≤ a.val → ¬ (4 : Int) ≤ b.val → ((bo a b).val : Int) = ((a.val : Int) + b.val) % 4 := by decide +kernel
/-! ### entries that are right -/
inductive Ent where
  | face (l : Fin 4)
  | turn (q : Fin 3)
  | go (n : Fin 9)
  | bump
  | sign (z : Str)
  | bare
  | spy (n : Fin 9) (z : Str)
  | swap
def ws : Fin 10 → Str
  | 0 => PySem.Str.ofString "face"
  | 1 => PySem.Str.ofString "left"
  | 2 => PySem.Str.ofString "right"
  | 3 => PySem.Str.ofString "back"
  | 4 => PySem.Str.ofString "go"
  | 5 => PySem.Str.ofString "bump"
  | 6 => PySem.Str.ofString "sign"
  | 7 => PySem.Str.ofString "bare"
  | 8 => PySem.Str.ofString "spy"
  | 9 => PySem.Str.ofString "swap"
theorem wsd : ∀ i j : Fin 10, decide (V.str (ws i) = V.str (ws j)) = decide (i = j) := by decide +kernel
theorem ws_ok : ∀ i : Fin 10, PyData.strOk (ws i) = true ∧ (ws i).length ≤ 12 := by decide +kernel
namespace Ent
def kind : Ent → Fin 10
  | face _ => 0
  | turn q => ⟨q.val + 1, by omega⟩
  | go _ => 4
  | bump => 5
  | sign _ => 6
  | bare => 7
  | spy _ _ => 8
  | swap => 9
def rest : Ent → List PyData
  | face l => [.str (Lt l)]
  | go n => [.int ((n.val : Int) + 1)]
  | sign z => [.str z]
  | spy n z => [.int ((n.val : Int) + 1), .str z]
  | _ => []
def parts (e : Ent) : List PyData := .str (ws e.kind) :: e.rest
def tup (e : Ent) : PyData := .tuple e.parts
def lst (e : Ent) : PyData := .list e.parts
def need : Ent → Bool
  | turn _ => true
  | go _ => true
  | bump => true
  | spy _ _ => true
  | _ => false
def isFace : Ent → Bool
  | face _ => true
  | _ => false
def isSwap : Ent → Bool
  | swap => true
  | _ => false
def sgS (z : Str) : Bool := nmL z.cps.toList || loL z.cps.toList
def ok : Ent → Prop
  | sign z => z.length ≤ 12 ∧ PyData.strOk z = true ∧ sgS z = true
  | spy _ z => z.length ≤ 12 ∧ PyData.strOk z = true ∧ sgS z = true
  | _ => True
theorem face_iff (e : Ent) : e.isFace = decide (e.kind = 0) := by
  cases e with
  | turn q => match q with
    | 0 => rfl
    | 1 => rfl
    | 2 => rfl
  | _ => rfl
theorem swap_iff (e : Ent) : e.isSwap = decide (e.kind = 9) := by
  cases e with
  | turn q => match q with
    | 0 => rfl
    | 1 => rfl
    | 2 => rfl
  | _ => rfl
end Ent
/-- what comes ahead has a face where one is needed -/
def Right (es : List Ent) : Prop := ∀ (i : Nat) (e : Ent), es[i]? = some e → e.need = true → (es.take i).any Ent.isFace = true
theorem Right.nil : Right [] := fun i e h => by cases h
theorem Right.snoc {es : List Ent} {e : Ent} (h : Right es) (he : e.need = true → es.any Ent.isFace = true) : Right (es ++ [e]) := fun i x hx hn => by
  by_cases hi : i < es.length
  · rw [List.getElem?_append_left hi] at hx
    rw [List.take_append_of_le_length (Nat.le_of_lt hi)]
    exact h i x hx hn
  · have hl := (List.getElem?_eq_some_iff.mp hx).1
    rw [List.length_append] at hl
    have : i = es.length := by
      have : [e].length = 1 := rfl
      omega
    rw [this, List.getElem?_append_right (Nat.le_refl _), Nat.sub_self] at hx
    cases hx
    rw [this, List.take_left]
    exact he hn
def swaps (es : List Ent) : Nat := (es.filter Ent.isSwap).length
theorem swaps_snoc (es : List Ent) (e : Ent) : swaps (es ++ [e]) = swaps es + (if e.isSwap = true then 1 else 0) := by
  unfold swaps
  rw [List.filter_append, List.length_append, List.filter_cons, List.filter_nil]
  split <;> rfl
theorem swaps_le (es : List Ent) : swaps es ≤ es.length := List.length_filter_le _ _
/-! ### where a walker stands -/
structure Wk where
  leg : Nat
  x : Int
  y : Int
  look : Option (Fin 4)
def W0 : Wk := ⟨0, 0, 0, none⟩
def tq : Fin 3 → Fin 4
  | 0 => 3
  | 1 => 1
  | 2 => 2
def nlook (a : Fin 8) (look : Option (Fin 4)) : Ent → Option (Fin 4)
  | .face l => some (tr a l)
  | .turn q => look.map (fun l => l + tq q)
  | _ => look
def nx (p : Int) (look : Option (Fin 4)) : Ent → Int
  | .go n => match look with
    | some l => p + ((n.val : Int) + 1) * dx l
    | none => p
  | _ => p
def ny (p : Int) (look : Option (Fin 4)) : Ent → Int
  | .go n => match look with
    | some l => p + ((n.val : Int) + 1) * dy l
    | none => p
  | _ => p
def nleg (n : Nat) (e : Ent) : Nat := if e.isSwap = true then n + 1 else n
def next (lots : List (Fin 8)) (p : Wk) (e : Ent) : Wk := ⟨nleg p.leg e, nx p.x p.look e, ny p.y p.look e, nlook (lots.getD (nleg p.leg e) 0) p.look e⟩
@[irreducible] def wat (lots : List (Fin 8)) (es : List Ent) (i : Nat) : Wk := (es.take i).foldl (next lots) W0
theorem wat_zero (lots : List (Fin 8)) (es : List Ent) : wat lots es 0 = W0 := by
  unfold wat
  rfl
theorem wat_succ {lots : List (Fin 8)} {es : List Ent} {i : Nat} {e : Ent} (h : es[i]? = some e) : wat lots es (i + 1) = next lots (wat lots es i) e := by
  unfold wat
  rw [List.take_add_one, h, List.foldl_append]
  rfl
theorem wat_look (lots : List (Fin 8)) (es : List Ent) : ∀ i, (wat lots es i).look.isSome = (es.take i).any Ent.isFace
  | 0 => by rw [wat_zero]; rfl
  | i + 1 => by
    by_cases hi : i < es.length
    · have h : es[i]? = some es[i] := List.getElem?_eq_getElem hi
      rw [wat_succ h, List.take_add_one, h, List.any_append, ← wat_look lots es i]
      show (nlook _ (wat lots es i).look es[i]).isSome = ((wat lots es i).look.isSome || (es[i].isFace || false))
      cases es[i] with
      | face l => cases (wat lots es i).look <;> rfl
      | turn q => cases (wat lots es i).look <;> rfl
      | _ => cases (wat lots es i).look <;> rfl
    · have e1 : es.take (i + 1) = es.take i := by rw [List.take_of_length_le (by omega), List.take_of_length_le (by omega)]
      have := wat_look lots es i
      unfold wat at this ⊢
      rw [e1]
      exact this
theorem wat_leg (lots : List (Fin 8)) (es : List Ent) : ∀ i, (wat lots es i).leg = swaps (es.take i)
  | 0 => by rw [wat_zero]; rfl
  | i + 1 => by
    by_cases hi : i < es.length
    · have h : es[i]? = some es[i] := List.getElem?_eq_getElem hi
      rw [wat_succ h, List.take_add_one, h]
      show nleg (wat lots es i).leg es[i] = swaps (es.take i ++ [es[i]])
      rw [swaps_snoc, wat_leg lots es i]
      unfold nleg
      split <;> rfl
    · have e1 : es.take (i + 1) = es.take i := by rw [List.take_of_length_le (by omega), List.take_of_length_le (by omega)]
      have := wat_leg lots es i
      unfold wat at this ⊢
      rw [e1]
      exact this
theorem swaps_take (es : List Ent) (i : Nat) : swaps (es.take i) ≤ swaps es := by
  unfold swaps
  exact List.Sublist.length_le ((List.take_sublist i es).filter _)
def lk : Option (Fin 4) → Str
  | some l => Lt l
  | none => PySem.Str.ofString ""
def plD (p : Wk) : PyData := .tuple [.int p.x, .int p.y]
def posD (p : Wk) : PyData := .tuple [plD p, .str (lk p.look)]
def trackL (lots : List (Fin 8)) (es : List Ent) (n : Nat) : List PyData := (List.range n).map fun i => posD (wat lots es (i + 1))
theorem trackL_succ (lots : List (Fin 8)) (es : List Ent) (n : Nat) : trackL lots es (n + 1) = trackL lots es n ++ [posD (wat lots es (n + 1))] := by
  unfold trackL
  rw [List.range_succ, List.map_append]
  rfl
def trackD (lots : List (Fin 8)) (es : List Ent) : PyData := .tuple (trackL lots es es.length)
/-- rows of entries, each a list or a tuple -/
def Rows (K : PySem.W.Frag) (H : Hp) (xs : List V) (es : List Ent) : Prop := ∃ ds, DpAll K H xs ds ∧ ds.map seqD = es.map fun e => some e.parts
theorem Rows.same {K : PySem.W.Frag} {H H' : Hp} {xs : List V} {es : List Ent} (h : Rows K H xs es) (s : Same H H') : Rows K H' xs es := by
  obtain ⟨ds, h1, h2⟩ := h
  exact ⟨ds, dpa_same s _ _ h1, h2⟩
theorem Rows.len {K : PySem.W.Frag} {H : Hp} {xs : List V} {es : List Ent} (h : Rows K H xs es) : xs.length = es.length := by
  obtain ⟨ds, h1, h2⟩ := h
  have := congrArg List.length h2
  rw [List.length_map, List.length_map] at this
  rw [dpa_len ds xs h1, this]
/-- one entry, a list or a tuple -/
def EntAt (K : PySem.W.Frag) (H : Hp) (v : V) (e : Ent) : Prop := ∃ a xs, v = .ref a ∧ SqA K H a (.str (ws e.kind) :: xs) ∧ DpAll K H xs e.rest
theorem ent_at {K : PySem.W.Frag} {H : Hp} {v : V} {d : PyData} {e : Ent} (h : Dp K H v d) (hs : seqD d = some e.parts) : EntAt K H v e := by
  obtain ⟨a, xs, rfl, hq, ha⟩ := seq_dp h hs
  cases ha with
  | cons h1 h2 =>
    cases h1
    exact ⟨a, _, rfl, hq, h2⟩
theorem EntAt.same {K : PySem.W.Frag} {H H' : Hp} {v : V} {e : Ent} (h : EntAt K H v e) (s : Same H H') : EntAt K H' v e := by
  obtain ⟨a, xs, h1, h2, h3⟩ := h
  exact ⟨a, xs, h1, h2.elim (fun h => .inl (s.seq h)) (fun h => .inr (sqt_same s h)), dpa_same s _ _ h3⟩
theorem Rows.at_ {K : PySem.W.Frag} {H : Hp} {xs : List V} {es : List Ent} (h : Rows K H xs es) {i : Nat} {v : V} (hv : xs[i]? = some v) : ∃ e, es[i]? = some e ∧ EntAt K H v e := by
  obtain ⟨ds, h1, h2⟩ := h
  obtain ⟨d, fd, gd⟩ := dpa_at ds xs h1 i v hv
  have e1 : (ds.map seqD)[i]? = some (seqD d) := by rw [List.getElem?_map, fd]; rfl
  rw [h2, List.getElem?_map] at e1
  cases e2 : es[i]? with
  | none => rw [e2] at e1; cases e1
  | some e =>
    rw [e2] at e1
    exact ⟨e, rfl, ent_at gd (Option.some.inj e1).symm⟩
theorem rows_tup {K : PySem.W.Frag} {H : Hp} {xs : List V} {es : List Ent} (h : DpAll K H xs (es.map Ent.tup)) : Rows K H xs es := ⟨_, h, by rw [List.map_map]; rfl⟩
--@@SPLIT
def whD : PyData → Bool
  | .int _ => true
  | _ => false
def spWholeD (K : PySem.W.Frag) : Sp := fun vs H Q _ => ∃ (v : V) (d : PyData), vs = [v] ∧ Dp K H v d ∧ Q (.bl (whD d)) H
theorem ok_is_wholeD (T : Top w K mg) : FnOk P w K mg base CX0 1 T.a_is_whole T.fd_is_whole ["thing"] (spWholeD K) := by
  refine T.F_is_whole.ok sc_is_whole (fun vs H Q E h => ?_) (fun cdv A outer s H vs Q E hr h => ?_)
  · obtain ⟨v, d, rfl, _⟩ := h
    rfl
  · obtain ⟨v, d, rfl, hd, q⟩ := h
    refine ⟨_, (pss_one (ps_ret (pe_and (pe_callB call_isi (by rfl) T.m_isinstance (by decide +kernel) (pa_cons (pv 0) (pa_cons (pe_bltn (v := .ty "int") (by rfl) T.m_int (by decide +kernel) rfl) pa_nil))) (pe_one (pe_not (pe_callB call_isi (by rfl) T.m_isinstance (by decide +kernel) (pa_cons (pv 0) (pa_cons (pe_bltn (v := .ty "bool") (by rfl) T.m_bool (by decide +kernel) rfl) pa_nil)))))))), ?_⟩
    cases hd with
    | non => exact ⟨.non, rfl, _, _, _, _, false, rfl, .ty _, .base .non, kit_ty (by decide +kernel), _, rfl, iteF q⟩
    | bl b => exact ⟨.bl b, rfl, _, _, _, _, true, rfl, .ty _, .base (.bl b), kit_ty (by decide +kernel), _, rfl, iteT ⟨.bl b, rfl, _, _, _, _, true, rfl, .ty _, .base (.bl b), kit_ty (by decide +kernel), _, rfl, q⟩⟩
    | int i => exact ⟨.int i, rfl, _, _, _, _, true, rfl, .ty _, .base (.int i), kit_ty (by decide +kernel), _, rfl, iteT ⟨.int i, rfl, _, _, _, _, false, rfl, .ty _, .base (.int i), kit_ty (by decide +kernel), _, rfl, q⟩⟩
    | str z => exact ⟨.str z, rfl, _, _, _, _, false, rfl, .ty _, .base (.str z), kit_ty (by decide +kernel), _, rfl, iteF q⟩
    | lst h _ => exact ⟨_, rfl, _, _, _, _, false, rfl, .ty _, ty_lst h, kit_ty (by decide +kernel), _, rfl, iteF q⟩
    | tup h _ => exact ⟨_, rfl, _, _, _, _, false, rfl, .ty _, ty_tup h, kit_ty (by decide +kernel), _, rfl, iteF q⟩
/-! ### the program's reading of an entry -/
def Keys : List DictEntry → List Str → Prop
  | [], [] => True
  | e :: r, k :: ks => (∃ t, e.key = .str k t) ∧ Keys r ks
  | _, _ => False
theorem find_keys (z : Str) : ∀ (l : List DictEntry) (ks : List Str), Keys l ks → (l.find? (·.key.isStr z)).isSome = (ks.any fun s => s == z) ∧ l.any (·.refKey) = false
  | [], [], _ => ⟨rfl, rfl⟩
  | e :: r, k :: ks, h => by
    obtain ⟨⟨t, hk⟩, hr⟩ := h
    obtain ⟨i1, i2⟩ := find_keys z r ks hr
    have e1 : e.key.isStr z = (k == z) := by rw [hk]; rfl
    have e2 : e.refKey = false := by unfold DictEntry.refKey; rw [hk]
    constructor
    · rw [List.find?_cons, e1, List.any_cons]
      cases k == z with
      | true => rfl
      | false => exact i1
    · rw [List.any_cons, e2, i2]
      rfl
  | [], _ :: _, h => h.elim
  | _ :: _, [], h => h.elim
theorem ns_keys {K : PySem.W.Frag} {a : Addr} {es : Array DictEntry} {n : Nat} {ks : List Str} (h : K.lookup a = some ⟨.type "dict", none, .dict es n, #[]⟩) (hk : Keys es.toList ks) (z : Str) : ∃ r, PySem.W.nsIn K a z = some r ∧ r.isSome = (ks.any fun s => s == z) := by
  obtain ⟨i1, i2⟩ := find_keys z es.toList ks hk
  unfold PySem.W.nsIn
  rw [h]
  cases e : es.toList.find? (·.key.isStr z) with
  | some x =>
    rw [e] at i1
    refine ⟨some x.val, ?_, i1⟩
    simp only [e]
  | none =>
    rw [e] at i1
    refine ⟨none, ?_, i1⟩
    simp only [e, i2]
    rfl
def spPart (K : PySem.W.Frag) (f : PyData → Bool) : Sp := fun vs H Q _ => ∃ (v : V) (d : PyData), vs = [v] ∧ gp d = true ∧ Dp K H v d ∧ ∀ H', Same H H' → Q (.bl (f d)) H'
theorem ok_is_letter (T : Top w K mg) : FnOk P w K mg base CX0 1 T.a_is_letter T.fd_is_letter ["thing"] (spPart K letD) := by
  refine T.F_is_letter.ok sc_is_letter (fun vs H Q E h => ?_) (fun cdv A outer s H vs Q E hr h => ?_)
  · obtain ⟨v, d, rfl, _⟩ := h
    rfl
  · obtain ⟨v, d, rfl, g, hd, q⟩ := h
    refine ⟨_, (pss_one (ps_ret (pe_and (pe_callB call_isi (by rfl) T.m_isinstance (by decide +kernel) (pa_cons (pv 0) (pa_cons (pe_bltn (v := .ty "str") (by rfl) T.m_str (by decide +kernel) rfl) pa_nil))) (pe_one (pe_cmpR (op_in_kd T.kd_STEPS) (pv 0) (pe_glob (v := .ref T.a_STEPS) (by rfl) T.g_STEPS rfl) (by rfl)))))), ?_⟩
    refine ⟨v, rfl, _, _, _, _, _, rfl, .ty _, ty_dp hd, kit_ty (kit_str d), _, rfl, ?_⟩
    have q := q H (Same.refl H)
    cases hd with
    | str z =>
      obtain ⟨r, h1, h2⟩ := T.ns_STEPS z
      refine iteT ⟨.str z, rfl, z, r, rfl, rfl, h1, ?_⟩
      rw [h2]
      exact q
    | non => exact iteF q
    | bl b => exact iteF q
    | int i => exact iteF q
    | lst h _ => exact iteF q
    | tup h _ => exact iteF q
theorem ok_is_many (T : Top w K mg) : FnOk P w K mg base CX0 2 T.a_is_many T.fd_is_many ["thing"] (spPart K manyD) := by
  have G_is_whole := ok_is_wholeD (P := P) (w := w) (base := base) T
  refine T.F_is_many.ok sc_is_many (fun vs H Q E h => ?_) (fun cdv A outer s H vs Q E hr h => ?_)
  · obtain ⟨v, d, rfl, _⟩ := h
    rfl
  · obtain ⟨v, d, rfl, g, hd, q⟩ := h
    refine ⟨_, (pss_one (ps_ret (pe_and (pe_call G_is_whole hr (by rfl) T.g_is_whole T.F_is_whole.kp T.b_is_whole .nil pass0 (pa_cons (pv 0) pa_nil)) (pe_one (pe_chain op_le op_le pe_int (pv 0) pe_int))))), ?_⟩
    refine ⟨v, rfl, v, d, rfl, hd, _, rfl, ?_⟩
    have q := q H (Same.refl H)
    cases hd with
    | int i =>
      refine iteT ⟨.int i, rfl, _, _, rfl, rfl, _, rfl, ite2 (fun e => ?_) (fun e => ?_)⟩
      · refine ⟨_, _, rfl, rfl, ?_⟩
        have e2 : manyD (.int i) = decide (i ≤ 9) := by
          show (decide (1 ≤ i) && decide (i ≤ 9)) = _
          rw [e]
          rfl
        rw [e2] at q
        exact q
      · have e2 : manyD (.int i) = false := by
          show (decide (1 ≤ i) && decide (i ≤ 9)) = _
          rw [Bool.eq_false_iff.mpr e]
          rfl
        rw [e2] at q
        exact q
    | non => exact iteF q
    | bl b => exact iteF q
    | str z => exact iteF q
    | lst h _ => exact iteF q
    | tup h _ => exact iteF q
def spPair (K : PySem.W.Frag) : Sp := fun vs H Q _ => ∃ (v u : V) (d c : PyData), vs = [v, u] ∧ gp d = true ∧ gp c = true ∧ Dp K H v d ∧ Dp K H u c ∧ ∀ H', Same H H' → Q (.bl (pairD d c)) H'
theorem ok_is_pair_entry (T : Top w K mg) : FnOk P w K mg base CX0 4 T.a_is_pair_entry T.fd_is_pair_entry ["word", "part"] (spPair K) := by
  have G_is_letter := ok_is_letter (P := P) (w := w) (base := base) T
  have G_is_many := ok_is_many (P := P) (w := w) (base := base) T
  have G_is_sign := ok_is_sign (P := P) (w := w) (base := base) T
  refine T.F_is_pair_entry.ok sc_is_pair_entry (fun vs H Q E h => ?_) (fun cdv A outer s H vs Q E hr h => ?_)
  · obtain ⟨v, u, d, c, rfl, _⟩ := h
    rfl
  · obtain ⟨v, u, d, c, rfl, gd, gc, hd, hc, q⟩ := h
    refine ⟨_, (pss_cons (ps_if (pt_cmpR (op_eqA hr.units) (pv 0) pe_str (nomark _)) (pss_one (ps_ret (pe_call G_is_letter (hr.mono (by decide)) (by rfl) T.g_is_letter T.F_is_letter.kp T.b_is_letter .nil pass0 (pa_cons (pv 1) pa_nil)))) pss_nil)
      (pss_cons (ps_if (pt_cmpR (op_eqA hr.units) (pv 0) pe_str (nomark _)) (pss_one (ps_ret (pe_call G_is_many (hr.mono (by decide)) (by rfl) T.g_is_many T.F_is_many.kp T.b_is_many .nil pass0 (pa_cons (pv 1) pa_nil)))) pss_nil)
      (pss_one (ps_ret (pe_and (pe_cmpR (op_eqA hr.units) (pv 0) pe_str (nomark _)) (pe_one (pe_call G_is_sign hr (by rfl) T.g_is_sign T.F_is_sign.kp T.b_is_sign .nil pass0 (pa_cons (pv 1) pa_nil)))))))), ?_⟩
    refine ⟨v, rfl, eqA_of hd gd (by decide +kernel) ⟨_, rfl, ite2 (fun e1 => ?_) (fun e1 => ?_)⟩⟩
    · rw [show pairD d c = letD c from if_pos e1] at q
      exact ⟨u, rfl, u, c, rfl, gc, hc, q⟩
    refine ⟨v, rfl, eqA_of hd gd (by decide +kernel) ⟨_, rfl, ite2 (fun e2 => ?_) (fun e2 => ?_)⟩⟩
    · rw [show pairD d c = manyD c by unfold pairD; rw [if_neg e1, if_pos e2]] at q
      exact ⟨u, rfl, u, c, rfl, gc, hc, q⟩
    rw [show pairD d c = (eqS d "sign" && sgD c) by unfold pairD; rw [if_neg e1, if_neg e2]] at q
    refine ⟨v, rfl, eqA_of hd gd (by decide +kernel) ⟨_, rfl, ite2 (fun e3 => ?_) (fun e3 => ?_)⟩⟩
    · rw [e3] at q
      refine ⟨u, rfl, u, rfl, th_dp hc gc, fun H' sm => ?_⟩
      rw [sg_dp hc]
      exact q H' sm
    · rw [Bool.eq_false_iff.mpr e3] at q
      exact q H (Same.refl H)
theorem ge_parts {d : PyData} {ds : List PyData} (h : ge d = true) (e : seqD d = some ds) : ds.length ≤ 20 ∧ ∀ x ∈ ds, gp x = true := by
  unfold ge at h
  rw [e] at h
  obtain ⟨h1, h2⟩ := Bool.and_eq_true_iff.mp h
  exact ⟨of_decide_eq_true h1, List.all_eq_true.mp h2⟩
/-- the parts of a list or tuple, whichever it is -/
theorem len1 {α : Type} : ∀ l : List α, l.length = 1 → ∃ a, l = [a]
  | [a], _ => ⟨a, rfl⟩
  | [], h => by cases h
  | _ :: _ :: _, h => by simp at h
theorem len2 {α : Type} : ∀ l : List α, l.length = 2 → ∃ a b, l = [a, b]
  | [a, b], _ => ⟨a, b, rfl⟩
  | [], h => by cases h
  | [_], h => by simp at h
  | _ :: _ :: _ :: _, h => by simp at h
theorem len3 {α : Type} : ∀ l : List α, l.length = 3 → ∃ a b c, l = [a, b, c]
  | [a, b, c], _ => ⟨a, b, c, rfl⟩
  | [], h => by cases h
  | [_], h => by simp at h
  | [_, _], h => by simp at h
  | _ :: _ :: _ :: _ :: _, h => by simp at h
theorem ent_else : ∀ ds : List PyData, ¬ ds.length = 1 → ¬ ds.length = 2 → ¬ ds.length = 3 → entL ds = false
  | [], _, _, _ => rfl
  | [_], h, _, _ => absurd rfl h
  | [_, _], _, h, _ => absurd rfl h
  | [_, _, _], _, _, h => absurd rfl h
  | _ :: _ :: _ :: _ :: _, _, _, _ => rfl
theorem dpa1 {K : PySem.W.Frag} {H : Hp} {xs : List V} {a : PyData} (h : DpAll K H xs [a]) : ∃ x, xs = [x] ∧ Dp K H x a := by
  cases h with
  | cons h1 h2 => cases h2; exact ⟨_, rfl, h1⟩
theorem dpa2 {K : PySem.W.Frag} {H : Hp} {xs : List V} {a b : PyData} (h : DpAll K H xs [a, b]) : ∃ x y, xs = [x, y] ∧ Dp K H x a ∧ Dp K H y b := by
  cases h with
  | cons h1 h2 =>
    obtain ⟨y, rfl, h3⟩ := dpa1 h2
    exact ⟨_, y, rfl, h1, h3⟩
theorem dpa3 {K : PySem.W.Frag} {H : Hp} {xs : List V} {a b c : PyData} (h : DpAll K H xs [a, b, c]) : ∃ x y z, xs = [x, y, z] ∧ Dp K H x a ∧ Dp K H y b ∧ Dp K H z c := by
  cases h with
  | cons h1 h2 =>
    obtain ⟨y, z, rfl, h3, h4⟩ := dpa2 h2
    exact ⟨_, y, z, rfl, h1, h3, h4⟩
def spEntry (K : PySem.W.Frag) : Sp := fun vs H Q _ => ∃ (v : V) (d : PyData), vs = [v] ∧ ge d = true ∧ Dp K H v d ∧ ∀ H', Same H H' → Q (.bl (entD d)) H'
theorem ok_is_entry (T : Top w K mg) : FnOk P w K mg base CX0 5 T.a_is_entry T.fd_is_entry ["thing"] (spEntry K) := by
  have G_is_pair_entry := ok_is_pair_entry (P := P) (w := w) (base := base) T
  have G_is_many := ok_is_many (P := P) (w := w) (base := base) T
  have G_is_sign := ok_is_sign (P := P) (w := w) (base := base) T
  refine T.F_is_entry.ok sc_is_entry (fun vs H Q E h => ?_) (fun cdv A outer s H vs Q E hr h => ?_)
  · obtain ⟨v, d, rfl, _⟩ := h
    rfl
  · obtain ⟨v, d, rfl, g, hd, q⟩ := h
    refine ⟨_, (pss_cons (ps_if (pt_not (pt_val (pe_callB call_isiT (by rfl) T.m_isinstance (by decide +kernel) (pa_cons (pv 0) (pa_cons (pe_tup (pa_cons (pe_bltn (v := .ty "tuple") (by rfl) T.m_tuple (by decide +kernel) rfl) (pa_cons (pe_bltn (v := .ty "list") (by rfl) T.m_list (by decide +kernel) rfl) pa_nil))) pa_nil))))) (pss_one (ps_ret pe_bl)) pss_nil)
      (pss_cons (ps_if (pt_cmpR op_eq (pe_callB call_len_seq (by rfl) T.m_len (by decide +kernel) (pa_cons (pv 0) pa_nil)) pe_int (nomark _)) (pss_one (ps_ret (pe_cmpR (op_inA (units65 hr)) (pe_ix ix_seq (pv 0) pe_int (fun _ _ => rfl)) (pe_glob (v := .ref T.a_WORDS_ALONE) (by rfl) T.g_WORDS_ALONE rfl) (by rfl)))) pss_nil)
      (pss_cons (ps_if (pt_cmpR op_eq (pe_callB call_len_seq (by rfl) T.m_len (by decide +kernel) (pa_cons (pv 0) pa_nil)) pe_int (nomark _)) (pss_one (ps_ret (pe_call G_is_pair_entry hr (by rfl) T.g_is_pair_entry T.F_is_pair_entry.kp T.b_is_pair_entry .nil pass0 (pa_cons (pe_ix ix_seq (pv 0) pe_int (fun _ _ => rfl)) (pa_cons (pe_ix ix_seq (pv 0) pe_int (fun _ _ => rfl)) pa_nil))))) pss_nil)
      (pss_one (ps_ret (pe_and (pe_cmpR op_eq (pe_callB call_len_seq (by rfl) T.m_len (by decide +kernel) (pa_cons (pv 0) pa_nil)) pe_int (nomark _)) (pe_and (pe_cmpR (op_eqA hr.units) (pe_ix ix_seq (pv 0) pe_int (fun _ _ => rfl)) pe_str (nomark _)) (pe_and (pe_call G_is_many (hr.mono (by decide)) (by rfl) T.g_is_many T.F_is_many.kp T.b_is_many .nil pass0 (pa_cons (pe_ix ix_seq (pv 0) pe_int (fun _ _ => rfl)) pa_nil)) (pe_one (pe_call G_is_sign (hr.mono (by decide)) (by rfl) T.g_is_sign T.F_is_sign.kp T.b_is_sign .nil pass0 (pa_cons (pe_ix ix_seq (pv 0) pe_int (fun _ _ => rfl)) pa_nil))))))))))), ?_⟩
    obtain ⟨x, y, k1, k2, exy⟩ := kit_seq d
    refine ⟨v, rfl, by show 2 ≤ sizeLine; decide, fun tp np => ⟨v, tp, _, _, _, _, rfl, upd_same, .cons (.ty _) (.cons (.ty _) .nil), ty_dp (dp_same (same_upd np) d v hd), kit_any2 k1 k2, _, rfl, ?_⟩⟩
    rw [exy]
    have s0 := same_upd (o := .tup [.ty "tuple", .ty "list"]) np
    have hd0 := dp_same s0 d v hd
    cases e : seqD d with
    | none =>
      rw [show entD d = false by unfold entD; rw [e]] at q
      exact iteT (q _ s0)
    | some ds =>
      rw [show entD d = entL ds by unfold entD; rw [e]] at q
      refine iteF ?_
      obtain ⟨hlen, hgp⟩ := ge_parts g e
      obtain ⟨a, xs, rfl, hs, ha⟩ := seq_dp hd0 e
      have lx := dpa_len ds xs ha
      refine ⟨.ref a, rfl, a, xs, rfl, hs, rfl, _, rfl, ?_⟩
      by_cases n1 : ds.length = 1
      · obtain ⟨d1, rfl⟩ := len1 ds n1
        obtain ⟨x1, rfl, h1⟩ := dpa1 ha
        · refine iteDY (decide_eq_true rfl) ⟨.ref a, rfl, ixA (j := 0) hs rfl (inA_of (ws := wAlone) h1 (hgp d1 (by simp)) (T.v_WORDS_ALONE _) (by decide +kernel) (q _ s0))⟩
      refine iteDN (decide_eq_false (fun z => n1 (by have := V.int.inj z; omega))) ?_
      refine ⟨.ref a, rfl, a, xs, rfl, hs, rfl, _, rfl, ?_⟩
      by_cases n2 : ds.length = 2
      · obtain ⟨d1, d2, rfl⟩ := len2 ds n2
        obtain ⟨x1, x2, rfl, h1, h2⟩ := dpa2 ha
        · refine iteDY (decide_eq_true rfl) ⟨.ref a, rfl, ixA (j := 0) hs rfl ⟨.ref a, rfl, ixA (j := 1) hs rfl ⟨x1, x2, d1, d2, rfl, hgp d1 (by simp), hgp d2 (by simp), h1, h2, fun H' sm => q _ (s0.trans sm)⟩⟩⟩
      refine iteDN (decide_eq_false (fun z => n2 (by have := V.int.inj z; omega))) ?_
      refine ⟨.ref a, rfl, a, xs, rfl, hs, rfl, _, rfl, ?_⟩
      by_cases n3 : ds.length = 3
      · obtain ⟨d1, d2, d3, rfl⟩ := len3 ds n3
        obtain ⟨x1, x2, x3, rfl, h1, h2, h3⟩ := dpa3 ha
        · have q : ∀ H', Same H H' → Q (.bl (eqS d1 "spy" && (manyD d2 && sgD d3))) H' := q
          refine iteDY (decide_eq_true rfl) ⟨.ref a, rfl, ixA (j := 0) hs rfl (eqA_of h1 (hgp d1 (by simp)) (by decide +kernel) ⟨_, rfl, ite2 (fun e1 => ?_) (fun e1 => ?_)⟩)⟩
          · rw [e1] at q
            refine ⟨.ref a, rfl, ixA (j := 1) hs rfl ⟨x2, d2, rfl, hgp d2 (by simp), h2, fun H2 s2 => ⟨_, rfl, ite2 (fun e2 => ?_) (fun e2 => ?_)⟩⟩⟩
            · rw [e2] at q
              refine ⟨.ref a, rfl, ixA (j := 2) (hs.same s2) rfl ⟨x3, rfl, th_dp (dp_same s2 _ _ h3) (hgp d3 (by simp)), fun H3 s3 => ?_⟩⟩
              rw [sg_dp h3]
              exact q _ ((s0.trans s2).trans s3)
            · rw [Bool.eq_false_iff.mpr e2] at q
              exact q _ (s0.trans s2)
          · rw [Bool.eq_false_iff.mpr e1] at q
            exact q _ s0
      refine iteDN (decide_eq_false (fun z => n3 (by have := V.int.inj z; omega))) ?_
      rw [ent_else ds n1 n2 n3] at q
      exact q _ s0
theorem many_fin : ∀ n : Fin 9, manyD (.int ((n.val : Int) + 1)) = true := by decide
theorem let_fin : ∀ l : Fin 4, letD (.str (Lt l)) = true := by decide +kernel
theorem ent_L {e : Ent} (h : e.ok) : entL e.parts = true := by
  cases e with
  | face l =>
    show pairD (.str (ws 0)) (.str (Lt l)) = true
    unfold pairD
    rw [if_pos (by decide +kernel)]
    exact let_fin l
  | go n =>
    show pairD (.str (ws 4)) (.int ((n.val : Int) + 1)) = true
    unfold pairD
    rw [if_neg (by decide +kernel), if_pos (by decide +kernel)]
    exact many_fin n
  | sign z =>
    show pairD (.str (ws 6)) (.str z) = true
    unfold pairD
    rw [if_neg (by decide +kernel), if_neg (by decide +kernel)]
    show (eqS (.str (ws 6)) "sign" && Ent.sgS z) = true
    rw [h.2.2, show eqS (.str (ws 6)) "sign" = true by decide +kernel]
    rfl
  | spy n z =>
    show (eqS (.str (ws 8)) "spy" && (manyD (.int ((n.val : Int) + 1)) && Ent.sgS z)) = true
    rw [h.2.2, many_fin n, show eqS (.str (ws 8)) "spy" = true by decide +kernel]
    rfl
  | turn q =>
    have : ∀ q : Fin 3, entL (Ent.turn q).parts = true := by decide +kernel
    exact this q
  | bump => show inW (.str (ws 5)) wAlone = true; decide +kernel
  | bare => show inW (.str (ws 7)) wAlone = true; decide +kernel
  | swap => show inW (.str (ws 9)) wAlone = true; decide +kernel
--@@SPLIT
/-! ### logs that are right, held -/
theorem ws_gp : ∀ i : Fin 10, gp (.str (ws i)) = true := by decide +kernel
theorem seq_entD {d : PyData} {e : Ent} (h : seqD d = some e.parts) (ok : e.ok) : entD d = true := by
  unfold entD
  rw [h]
  exact ent_L ok
theorem parts_gp {e : Ent} (ok : e.ok) : ∀ d ∈ e.parts, gp d = true := by
  intro d hd
  rcases List.mem_cons.mp hd with hd | hd
  · rw [hd]
    have : ∀ i : Fin 10, gp (.str (ws i)) = true := by decide +kernel
    exact this _
  have sg : ∀ {z : Str}, (z.length ≤ 12 ∧ PyData.strOk z = true ∧ Ent.sgS z = true) → gp (.str z) = true := fun h => decide_eq_true (by have := h.1; omega)
  have lt : ∀ l : Fin 4, gp (.str (Lt l)) = true := by decide +kernel
  cases e with
  | face l => rw [List.mem_singleton.mp hd]; exact lt l
  | go n => rw [List.mem_singleton.mp hd]; rfl
  | sign z => rw [List.mem_singleton.mp hd]; exact sg ok
  | spy n z =>
    rcases List.mem_cons.mp hd with hd | hd
    · rw [hd]; rfl
    · rw [List.mem_singleton.mp hd]; exact sg ok
  | turn q => cases hd
  | bump => cases hd
  | bare => cases hd
  | swap => cases hd
theorem plen3 (e : Ent) : e.parts.length ≤ 3 := by
  cases e with
  | face l => exact (show 2 ≤ 3 by decide)
  | turn q => exact (show 1 ≤ 3 by decide)
  | go n => exact (show 2 ≤ 3 by decide)
  | bump => exact (show 1 ≤ 3 by decide)
  | sign z => exact (show 2 ≤ 3 by decide)
  | bare => exact (show 1 ≤ 3 by decide)
  | spy n z => exact (show 3 ≤ 3 by decide)
  | swap => exact (show 1 ≤ 3 by decide)
theorem seq_ge {d : PyData} {e : Ent} (h : seqD d = some e.parts) (ok : e.ok) : ge d = true := by
  unfold ge
  rw [h]
  refine Bool.and_eq_true_iff.mpr ⟨decide_eq_true (by have := plen3 e; omega), List.all_eq_true.mpr (parts_gp ok)⟩
/-- the i-th entry as data -/
theorem Rows.dp_at {K : PySem.W.Frag} {H : Hp} {xs : List V} {es : List Ent} (h : Rows K H xs es) {i : Nat} {v : V} (hv : xs[i]? = some v) : ∃ e d, es[i]? = some e ∧ Dp K H v d ∧ seqD d = some e.parts := by
  obtain ⟨ds, h1, h2⟩ := h
  obtain ⟨d, fd, gd⟩ := dpa_at ds xs h1 i v hv
  have e1 : (ds.map seqD)[i]? = some (seqD d) := by rw [List.getElem?_map, fd]; rfl
  rw [h2, List.getElem?_map] at e1
  cases e2 : es[i]? with
  | none => rw [e2] at e1; cases e1
  | some e =>
    rw [e2] at e1
    exact ⟨e, d, rfl, gd, (Option.some.inj e1).symm⟩
theorem need_iff : ∀ i : Fin 10, inV (.str (ws i)) (wFace.map V.str) = decide (i = 1 ∨ i = 2 ∨ i = 3 ∨ i = 4 ∨ i = 5 ∨ i = 8) := by decide +kernel
theorem need_kind (e : Ent) : decide (e.kind = 1 ∨ e.kind = 2 ∨ e.kind = 3 ∨ e.kind = 4 ∨ e.kind = 5 ∨ e.kind = 8) = e.need := by
  cases e with
  | turn q =>
    have : ∀ q : Fin 3, decide ((Ent.turn q).kind = 1 ∨ (Ent.turn q).kind = 2 ∨ (Ent.turn q).kind = 3 ∨ (Ent.turn q).kind = 4 ∨ (Ent.turn q).kind = 5 ∨ (Ent.turn q).kind = 8) = true := by decide
    exact this q
  | _ => rfl
theorem faceW (e : Ent) : decide (V.str (ws e.kind) = V.str (PySem.Str.ofString "face")) = e.isFace := (wsd e.kind 0).trans e.face_iff.symm
def spHeld (K : PySem.W.Frag) : Sp := fun vs H Q _ => ∃ (e : Addr) (xs : List V) (es : List Ent), vs = [.ref e] ∧ SqA K H e xs ∧ Rows K H xs es ∧ (∀ e ∈ es, e.ok) ∧ Right es ∧ es.length ≤ 200 ∧ ∀ H' r ys, Same H H' → H r = none → H' r = some (.tup ys) → DpAll K H' ys (es.map Ent.tup) → Q (.ref r) H'
theorem ok_held_log (T : Top w K mg) : FnOk P w K mg base CX0 6 T.a_held_log T.fd_held_log ["entries"] (spHeld K) := by
  have G_is_entry := ok_is_entry (P := P) (w := w) (base := base) T
  refine T.F_held_log.ok sc_held_log (fun vs H Q E h => ?_) (fun cdv A outer s H vs Q E hr h => ?_)
  · obtain ⟨e, xs, es, rfl, _⟩ := h
    rfl
  · obtain ⟨e, xs, es, rfl, hs, ha, ok, hR, hlen, q⟩ := h
    refine ⟨_, (pss_cons (ps_set (i := 1) sc_held_log.nd rfl (.inl rfl) pe_bl)
      (pss_cons (ps_set (i := 2) sc_held_log.nd rfl (.inl rfl) (pe_lst pa_nil))
      (pss_cons (ps_for PassesOwn.never rfl (SeqW.pi_enumA (by rfl) T.m_enumerate (pa_cons (pv 0) pa_nil)) (pg_tup rfl (pgs_cons (pg_name (i := 3) sc_held_log.nd rfl (.inl rfl)) (pgs_cons (pg_name (i := 4) sc_held_log.nd rfl (.inl rfl)) pgs_nil))) (pss_cons (ps_if (pt_not (pt_val (pe_call G_is_entry hr (by rfl) T.g_is_entry T.F_is_entry.kp T.b_is_entry .nil pass0 (pa_cons (pv 4) pa_nil)))) (pss_one ps_never) pss_nil)
      (Evl.pss_cut (ps_if (PW.pt (pw_and (pt_cmpR (op_inA (units65 hr)) (pe_ix (r := rIx K) (SeqW.ix_seqK rfl) (pv 4) pe_int (fun _ _ => rfl)) (pe_glob (v := .ref T.a_WORDS_BEHIND_A_FACE) (by rfl) T.g_WORDS_BEHIND_A_FACE rfl) (by rfl)) (pw_and1 (pt_not (pt_val (pv 1)))))) (pss_one ps_never) pss_nil)
      (Evl.pss_cut (ps_set (i := 1) sc_held_log.nd rfl (.inl rfl) (pe_or (pv 1) (pe_one (pe_cmpR (op_eqA hr.units) (pe_ix (r := rIx K) (SeqW.ix_seqK rfl) (pv 4) pe_int (fun _ _ => rfl)) pe_str (nomark _)))))
      (pss_one (ps_expr (pe_bm PySem.F.plainAttrs_list PySem.F.slot_list_append PySem.F.type_list_append mt_append (pv 2) (pa_cons (pe_callTy call_tuple_of (by rfl) T.m_tuple (by decide +kernel) (pa_cons (pv 4) pa_nil)) pa_nil))))))))
      (pss_one (ps_ret (pe_callTy call_tuple_of (by rfl) T.m_tuple (by decide +kernel) (pa_cons (pv 2) pa_nil))))))), ?_⟩
    have lx := ha.len
    refine ⟨Nat.zero_le _, fun L nL => ?_⟩
    have s0 := same_upd (o := .lst []) nL
    refine ⟨.ref e, rfl, e, xs, rfl, (fun H' => Same H H'), kpA hs, s0, fun J G wk hG => for_it wk (fun i σ H' => Same H H' ∧ ∃ y3 y4 ys, σ = [some (.ref e), some (.bl ((es.take i).any Ent.isFace)), some (.ref L), y3, y4] ∧ H' L = some (.lst ys) ∧ ys.length = i ∧ DpAll K (wo H' (fun b => b = L)) ys ((es.take i).map Ent.tup)) ⟨s0, none, none, [], rfl, upd_same, rfl, .nil⟩ (fun i σ H' _ h => hG _ h.1) ?_ ?_⟩
    · rintro i v σ H1 H2 hi ⟨sm, y3, y4, ys, rfl, eL, ly, hy⟩ ⟨t, u1, u2, rfl, nt, rfl, e1, e2⟩
      cases e1
      have e2 : xs[i]? = some u2 := e2
      obtain ⟨en, d, fe, gd, sd⟩ := ha.dp_at e2
      have oke := ok en (List.mem_of_getElem? fe)
      have st := same_upd (o := .tup [.int (i : Nat), u2]) nt
      have sm2 := sm.trans st
      refine ⟨t, _, rfl, .inl (.inl upd_same), rfl, _, _, rfl, _, _, rfl, rfl, ?_⟩
      refine ⟨u2, rfl, u2, d, rfl, seq_ge sd oke, dp_same sm2 d u2 gd, fun H3 s3 => ⟨_, rfl, ?_⟩⟩
      rw [seq_entD sd oke]
      refine iteF ?_
      have sm3 := sm2.trans s3
      have nLt : L ≠ t := ne_of_none eL nt
      have eL3 := s3 _ _ (st _ _ eL)
      have mH : Same H (wo H3 (fun b => b = L)) := fun b o h => by
        rw [wo_in (X := fun b => b = L) (ne_of_none h nL)]
        exact sm3 _ _ h
      obtain ⟨a, us, rfl, hqW, hallW⟩ := ent_at (dp_same mH d u2 gd) sd
      have hq := hqW.same wo_same
      have fin : (Same H H3 ∧ ∃ y3 y4 ys, [some (V.ref e), some (.bl ((es.take i).any Ent.isFace)), some (.ref L), some (.int (i : Nat)), some (.ref a)] = [some (V.ref e), some (.bl ((es.take i).any Ent.isFace)), some (.ref L), y3, y4] ∧ H3 L = some (.lst ys)) := ⟨sm3, _, _, _, rfl, eL3⟩
      refine ⟨fun σ H' => H3 = H' ∧ σ = [some (.ref e), some (.bl ((es.take i).any Ent.isFace)), some (.ref L), some (.int (i : Nat)), some (.ref a)], ?_, ?_⟩
      · refine ⟨.ref a, rfl, ixA (j := 0) hq rfl (inA_of (d := .str (ws en.kind)) (ws := wFace) (.str _) (ws_gp _) (T.v_WORDS_BEHIND_A_FACE _) (by decide +kernel) ⟨_, rfl, ?_⟩)⟩
        have hn : inW (.str (ws en.kind)) wFace = en.need := by
          rw [← need_kind, ← need_iff]
          exact (inW_flat (v := .str (ws en.kind)) (d := .str (ws en.kind)) (fun s => rfl) wFace).symm
        rw [hn]
        refine ite2 (fun e3 => ?_) (fun e3 => ⟨rfl, rfl⟩)
        refine ⟨_, rfl, _, rfl, ?_⟩
        rw [hR i en fe e3]
        exact iteF ⟨rfl, rfl⟩
      rintro σ H4 ⟨rfl, rfl⟩
      refine ⟨fun σ H' => H3 = H' ∧ σ = [some (.ref e), some (.bl ((es.take (i + 1)).any Ent.isFace)), some (.ref L), some (.int (i : Nat)), some (.ref a)], ?_, ?_⟩
      · have ea : (es.take (i + 1)).any Ent.isFace = ((es.take i).any Ent.isFace || en.isFace) := by
          rw [List.take_add_one, fe, List.any_append]
          show (_ || (en.isFace || false)) = _
          rw [Bool.or_false]
        refine ⟨_, rfl, _, rfl, ?_⟩
        cases eb : (es.take i).any Ent.isFace with
        | true =>
          rw [ea, eb]
          exact iteT ⟨rfl, rfl⟩
        | false =>
          rw [ea, eb]
          refine iteF ⟨.ref a, rfl, ixA (j := 0) hq rfl (.inl ⟨rfl, ?_⟩)⟩
          rw [faceW]
          exact ⟨rfl, rfl⟩
      rintro σ H4 ⟨rfl, rfl⟩
      have i2 : (es.take (i + 1)).map Ent.tup = (es.take i).map Ent.tup ++ [en.tup] := by
        rw [List.take_add_one, fe, List.map_append]
        rfl
      have hw : Same (wo H1 (fun b => b = L)) (wo H3 (fun b => b = L)) := fun b o h => by
        have h2 := wo_some h
        rw [wo_in (X := fun b => b = L) h2.1]
        exact s3 _ _ (st _ _ h2.2)
      have more : ∀ (H5 : Hp) (r : Addr), Same H3 H5 → Dp K (wo H5 (fun b => b = L)) (.ref r) en.tup → H5 L = some (.lst ys) → ∃ l zs y, V.ref L = .ref l ∧ [V.ref r] = [y] ∧ H5 l = some (.lst zs) ∧ zs.length < sizeLine ∧ (Same H (upd H5 l (.lst (zs ++ [y]))) ∧ ∃ y3 y4 ys, [some (V.ref e), some (.bl ((es.take (i + 1)).any Ent.isFace)), some (.ref L), some (.int (i : Nat)), some (.ref a)] = [some (V.ref e), some (.bl ((es.take (i + 1)).any Ent.isFace)), some (.ref L), y3, y4] ∧ (upd H5 l (.lst (zs ++ [y]))) L = some (.lst ys) ∧ ys.length = i + 1 ∧ DpAll K (wo (upd H5 l (.lst (zs ++ [y]))) (fun b => b = L)) ys ((es.take (i + 1)).map Ent.tup)) := fun H5 r s5 hd5 eL5 => by
        have m6 : Same (wo H5 (fun b => b = L)) (wo (upd H5 L (.lst (ys ++ [.ref r]))) (fun b => b = L)) := fun c u z => by
          have h2 := wo_some z
          rw [wo_in (X := fun b => b = L) h2.1, upd_ne h2.1]
          exact h2.2
        have w35 : Same (wo H3 (fun b => b = L)) (wo H5 (fun b => b = L)) := fun b o h => by
          have h2 := wo_some h
          rw [wo_in (X := fun b => b = L) h2.1]
          exact s5 _ _ h2.2
        refine ⟨L, ys, .ref r, rfl, rfl, eL5, small1000 (by omega), ?_, _, _, _, rfl, upd_same, ?_, ?_⟩
        · exact fun b o h => by
            rw [upd_ne (ne_of_none h nL)]
            exact s5 _ _ (sm3 _ _ h)
        · rw [List.length_append, ly]
          rfl
        · rw [i2]
          exact dpa_snoc (dp_same m6 _ _ hd5) _ _ (dpa_same ((hw.trans w35).trans m6) _ _ hy)
      refine ⟨.ref L, rfl, .inl ⟨rfl, _, .inl (.inl eL3)⟩, .ref a, rfl, a, .str (ws en.kind) :: us, rfl, ?_⟩
      rcases hqW with hl | ht
      · refine .inl ⟨wo_same.seq hl, fun r nr => ?_⟩
        have sr := same_upd (o := .tup (.str (ws en.kind) :: us)) nr
        refine more _ r sr ?_ (sr _ _ eL3)
        refine .tup (.inl (.inl ?_)) (.cons (.str _) (dpa_same (fun b o h => ?_) _ _ hallW))
        · rw [wo_in (X := fun b => b = L) (fun z : r = L => by rw [z, eL3] at nr; cases nr)]
          exact upd_same
        · have h2 := wo_some h
          rw [wo_in (X := fun b => b = L) h2.1]
          exact sr _ _ h2.2
      · exact .inr ⟨sqt_same wo_same ht, more _ a (Same.refl _) (.tup ht (.cons (.str _) hallW)) eL3⟩
    · rintro σ H1 ⟨sm, y3, y4, ys, rfl, eL, ly, hy⟩
      rw [lx, List.take_length] at hy
      refine ⟨.ref L, rfl, L, ys, rfl, .inl ⟨.inl (.inl eL), fun r nr => ?_⟩⟩
      have sr := same_upd (o := .tup ys) nr
      exact q _ r ys (sm.trans sr) (sm.free nr) upd_same (dpa_same (wo_same.trans sr) _ _ hy)
/-! ### a box that is right, held -/
def keepO : HO → Bool
  | .lst _ => false
  | .dK _ => false
  | _ => true
def Kp (H H' : Hp) : Prop := ∀ b o, keepO o = true → H b = some o → H' b = some o
theorem Kp.of {H H' : Hp} (s : Same H H') : Kp H H' := fun b o _ h => s b o h
theorem Kp.trans {H H1 H2 : Hp} (a : Kp H H1) (b : Kp H1 H2) : Kp H H2 := fun c o z h => b c o z (a c o z h)
theorem Kp.upd {H : Hp} {a : Addr} {o u : HO} (e : H a = some u) (n : keepO u = false) : Kp H (L2.upd H a o) := fun b v z h => by
  rw [upd_ne (fun y => by rw [y, e] at h; cases h; rw [n] at z; cases z)]
  exact h
theorem Kp.but {H H' : Hp} {p : Addr} (hp : Pool H p) (b : But p H H') : Kp H H' := fun c o z h => by
  refine b c o (fun e => ?_) h
  obtain ⟨l, x, k, n, _, h1⟩ := hp
  rw [e, h1] at h
  cases h
  cases z
def tpO : HO → Bool
  | .tup _ => true
  | .frz _ _ => true
  | _ => false
def Tp (H H' : Hp) : Prop := ∀ b o, tpO o = true → H b = some o → H' b = some o
theorem Kp.tp {H H' : Hp} (k : Kp H H') : Tp H H' := fun b o z h => k b o (by cases o <;> first | rfl | cases z) h
theorem Tp.wo {H : Hp} {X : Addr → Prop} (h : ∀ b o, X b → H b = some o → tpO o = false) : Tp H (M.wo H X) := fun b o z e => by
  rw [wo_in (X := X) (fun x => by rw [h b o x e] at z; cases z)]
  exact e
theorem sqt_kp {K : PySem.W.Frag} {H H' : Hp} {a : Addr} {xs : List V} (e : Tp H H') (h : SqT K H a xs) : SqT K H' a xs := by
  rcases h with (h | ⟨o, h⟩) | h
  · exact .inl (.inl (e _ _ rfl h))
  · exact .inl (.inr ⟨o, e _ _ rfl h⟩)
  · exact .inr h
theorem dpa_kpA {K : PySem.W.Frag} {H H' : Hp} {P : PyData → Prop} (f : ∀ d v, P d → Dp K H v d → Dp K H' v d) : ∀ (ds : List PyData) (vs : List V), (∀ d ∈ ds, P d) → DpAll K H vs ds → DpAll K H' vs ds
  | [], _, _, h => by cases h; exact .nil
  | d :: ds, _, hp, h => by
    cases h with
    | cons h1 h2 => exact .cons (f d _ (hp d List.mem_cons_self) h1) (dpa_kpA f ds _ (fun x hx => hp x (List.mem_cons_of_mem _ hx)) h2)
theorem dp_kp {K : PySem.W.Frag} {H H' : Hp} (e : Tp H H') : ∀ (n : Nat) (d : PyData) (v : V), okD n d = true → Dp K H v d → Dp K H' v d
  | n, .none, _, _, h => by cases h; exact .non
  | n, .bool b, _, _, h => by cases h; exact .bl b
  | n, .int i, _, _, h => by cases h; exact .int i
  | n, .str x, _, _, h => by cases h; exact .str x
  | 0, .list ds, _, o, _ => by cases o
  | n + 1, .list ds, _, o, _ => by cases o
  | 0, .tuple ds, _, o, _ => by cases o
  | n + 1, .tuple ds, _, o, h => by
    cases h with
    | tup hs ha =>
      have o2 := (Bool.and_eq_true_iff.mp (show (decide (ds.length ≤ 1000) && ds.all fun d => okD n d) = true from o)).2
      exact .tup (sqt_kp e hs) (dpa_kpA (P := fun d => okD n d = true) (fun d v o h => dp_kp e n d v o h) ds _ (fun d hd => List.all_eq_true.mp o2 d hd) ha)
  | 0, .dict ds, _, o, _ => by cases o
  | n + 1, .dict ds, _, o, _ => by cases o
--@@SPLIT
/-! ### numbers by figures -/
abbrev FIGs : Str := PySem.Str.ofString "0123456789"
def dgC (c : Nat) : Bool := decide (c ∈ FIGs.cps.toList)
def numOk (cs : List Nat) : Bool := (decide (1 ≤ (cs.length : Int)) && decide ((cs.length : Int) ≤ 30)) && (cs.all dgC && !(decide (cs.head? = some 48) && decide (1 < (cs.length : Int))))
def numIn (cs : List Nat) : Option Nat := if numOk cs = true then some (NumText.digitsVal cs) else none
def numV : Option Nat → V
  | some n => .int (n : Int)
  | none => .non
theorem figs_eq : FIGs.cps.toList = [48, 49, 50, 51, 52, 53, 54, 55, 56, 57] := by decide +kernel
theorem dg_iff (c : Nat) : dgC c = true ↔ 48 ≤ c ∧ c ≤ 57 := by
  unfold dgC
  rw [figs_eq, decide_eq_true_iff]
  simp only [List.mem_cons, List.not_mem_nil, or_false]
  omega
theorem num_all {cs : List Nat} (h : cs.all dgC = true) : NumText.AllDigits cs := fun c hc => by
  have := (dg_iff c).mp (List.all_eq_true.mp h c hc)
  omega
def spNumIn : Sp := fun vs H Q _ => ∃ z : Str, vs = [.str z] ∧ z.length ≤ 1000000 ∧ ∀ H', Same H H' → Q (numV (numIn z.cps.toList)) H'
theorem len_toListN (z : Str) : z.cps.toList.length = z.length := Array.length_toList
theorem all_mapN {f : Nat → Bool} : ∀ xs : List Nat, (xs.map f).all id = xs.all f
  | [] => rfl
  | x :: r => by rw [List.map_cons, List.all_cons, List.all_cons, all_mapN r]; rfl
theorem ok_number_in (T : Top w K mg) : FnOk P w K mg base CX0 1 T.a_number_in T.fd_number_in ["word"] spNumIn := by
  refine T.F_number_in.ok sc_number_in (fun vs H Q E h => ?_) (fun cdv A outer s H vs Q E hr h => ?_)
  · obtain ⟨z, rfl, _⟩ := h
    rfl
  · obtain ⟨z, rfl, hz, q⟩ := h
    refine ⟨_, (pss_cons (ps_if (PW.pt (pw_or (pt_not (pt_chain op_le op_le pe_int (pe_callB call_len_str (by rfl) T.m_len (by decide +kernel) (pa_cons (pv 0) pa_nil)) (pe_glob (v := .int 30) (by rfl) T.g_MOST_FIGURES.choose_spec ⟨_, rfl⟩))) (pw_or1 (pt_not (pt_val (pe_callB (cr_all rfl) (by rfl) T.m_all (by decide +kernel) (pa_cons (pe_lc (own := [("figure", 1)]) (g := gName 1) (by rfl) sc_number_in.nd (pi_str (pv 0)) (blkOk_by (own := [("figure", 1)]) (N := ["word", "figure"]) (sc := defScope s_number_in) (by decide +kernel)) (fun _ _ _ _ _ => (pg_name (i := 1) sc_number_in.nd rfl (Or.inl rfl))) (fun _ _ _ _ _ => pts_nil) (fun _ _ _ _ _ => (pe_cmpR op_in_sign (pv 1) (pe_glob (v := .str "0123456789") (by rfl) T.g_FIGURES.choose_spec ⟨_, rfl⟩) (by rfl)))) pa_nil))))))) (pss_one (ps_ret pe_non)) pss_nil)
      (pss_cons (ps_if (PW.pt (pw_and (pt_cmpR op_eq (pe_ix ix_str (pv 0) pe_int (fun _ _ => rfl)) pe_str (nomark _)) (pw_and1 (pt_cmpR op_gt (pe_callB call_len_str (by rfl) T.m_len (by decide +kernel) (pa_cons (pv 0) pa_nil)) pe_int (nomark _))))) (pss_one (ps_ret pe_non)) pss_nil)
      (pss_one (ps_ret (pe_callTy call_int_str (by rfl) T.m_int (by decide +kernel) (pa_cons (pv 0) pa_nil)))))), ?_⟩
    have hs : z.length ≤ sizeLine := Nat.le_trans hz (by decide)
    have lz : z.cps.toList.length = z.length := len_toListN z
    have no : numOk z.cps.toList = false → ∀ H', Same H H' → Q .non H' := fun e H' s => by
      have h := q H' s
      unfold numIn at h
      rw [e] at h
      exact h
    refine ⟨.str z, rfl, z, rfl, hs, _, _, rfl, rfl, _, rfl, ite2 (fun e1 => ?_) (fun e1 => ?_)⟩
    · refine ⟨_, _, rfl, rfl, _, rfl, ite2 (fun e2 => ?_) (fun e2 => ?_)⟩
      · refine no ?_ H (Same.refl _)
        unfold numOk
        rw [lz, show decide ((z.length : Int) ≤ 30) = false by cases h : decide ((z.length : Int) ≤ 30) with
          | false => rfl
          | true => rw [h] at e2; cases e2]
        simp
      have l30 : decide ((z.length : Int) ≤ 30) = true := by
        cases h : decide ((z.length : Int) ≤ 30) with
          | true => rfl
          | false => rw [h] at e2; exact absurd rfl e2
      refine ⟨.str z, rfl, z, rfl, fun D hD => lc_it walk_str (fun i H' => Same H H' ∧ H' D = some (.lst (((z.cps.toList.take i).map dgC).map V.bl))) ⟨same_upd hD, upd_same⟩ (fun _ _ _ _ => trivial) ?_ ?_⟩
      · rintro i x H1 H2 hi ⟨sm, eD⟩ ⟨rfl, c, hc, rfl⟩
        refine ⟨rfl, ?_⟩
        refine ⟨_, rfl, c, _, rfl, rfl, _, eD, ?_, ?_, ?_⟩
        · rw [List.length_map, List.length_map, List.length_take, lz]
          exact small1000 (by have := of_decide_eq_true l30; omega)
        · exact fun b' o e => by
            rw [upd_ne (ne_of_none e hD)]
            exact sm _ _ e
        · rw [upd_same, List.take_add_one, Array.getElem?_toList, hc, List.map_append, List.map_append]
          rfl
      · rintro H1 ⟨sm, eD⟩
        have e2 : z.cps.toList.take z.cps.size = z.cps.toList := List.take_of_length_le (by rw [Array.length_toList]; exact Nat.le_refl _)
        rw [e2] at eD
        refine ⟨_, z.cps.toList.map dgC, rfl, .inl (.inl eD), ?_⟩
        rw [all_mapN]
        refine ⟨_, rfl, ite2 (fun e3 => ?_) (fun e3 => ?_)⟩
        · refine no ?_ H1 sm
          unfold numOk
          rw [show z.cps.toList.all dgC = false by cases h : z.cps.toList.all dgC with
            | false => rfl
            | true => rw [h] at e3; cases e3]
          simp
        have ad : z.cps.toList.all dgC = true := by
          cases h : z.cps.toList.all dgC with
            | true => rfl
            | false => rw [h] at e3; exact absurd rfl e3
        obtain ⟨c, r, ez⟩ : ∃ c r, z.cps.toList = c :: r := by
          cases h : z.cps.toList with
          | nil =>
            rw [h] at lz
            have : (1 : Int) ≤ (z.length : Int) := of_decide_eq_true e1
            have : ([] : List Nat).length = 0 := rfl
            omega
          | cons c r => exact ⟨c, r, rfl⟩
        have hc : decide (V.str ⟨#[c]⟩ = V.str (PySem.Str.ofString "0")) = decide (c = 48) := by
          by_cases h : c = 48
          · subst h; decide +kernel
          · rw [decide_eq_false h]
            refine decide_eq_false fun z => h ?_
            have z2 := V.str.inj z
            have z3 := congrArg (fun s : Str => s.cps.toList) z2
            rw [show (PySem.Str.ofString "0").cps.toList = [48] by decide +kernel] at z3
            exact (List.cons.inj z3).1
        have ok0 : numOk z.cps.toList = !(decide (c = 48) && decide (1 < (z.length : Int))) := by
          unfold numOk
          rw [lz, ad, l30, show decide (1 ≤ (z.length : Int)) = true from e1, ez]
          show (true && true && (true && !(decide (some c = some 48) && _))) = _
          rw [show decide (some c = some 48) = decide (c = 48) by simp]
          simp
        have yes : numOk z.cps.toList = true → Q (.int (NumText.digitsVal z.cps.toList : Nat)) H1 := fun e => by
          have h := q H1 sm
          unfold numIn at h
          rw [e] at h
          exact h
        have fin : numOk z.cps.toList = true → ∃ a n, [V.str z] = [.str a] ∧ PySem.intText? a = some n ∧ a.length ≤ 640 ∧ Q (.int n) H1 := fun e => by
          have l3 := of_decide_eq_true l30
          exact ⟨z, _, rfl, intText_digits (num_all ad) (by rw [ez]; exact fun h => nomatch h) (by omega), by omega, yes e⟩
        refine ⟨.str z, rfl, z, 0, c, rfl, rfl, hs, by rw [ez]; exact atI_nat (j := 0) rfl, rfl, _, rfl, ?_⟩
        rw [hc]
        refine ite2 (fun e4 => ?_) (fun e4 => ?_)
        · refine ⟨.str z, rfl, z, rfl, hs, _, _, rfl, rfl, _, rfl, ite2 (fun e5 => ?_) (fun e5 => ?_)⟩
          · refine no ?_ H1 sm
            rw [ok0, e4, show decide (1 < (z.length : Int)) = true from e5]
            rfl
          · refine ⟨.str z, rfl, fin ?_⟩
            rw [ok0, show decide (1 < (z.length : Int)) = false from Bool.eq_false_iff.mpr e5]
            simp
        · refine ite2 (fun z => nomatch z) (fun _ => ⟨.str z, rfl, fin ?_⟩)
          rw [ok0, Bool.eq_false_iff.mpr e4]
          rfl
    · refine ⟨_, rfl, iteT (no ?_ H (Same.refl _))⟩
      unfold numOk
      rw [lz, show decide (1 ≤ (z.length : Int)) = false from Bool.eq_false_iff.mpr e1]
      rfl
/-! ### a number written -/
def figT (n : Nat) : Str := PySem.Str.ofString (toString ((n : Nat) : Int))
theorem tl_fig (n : Nat) : (figT n).cps.toList = TL.numL n := TL.tl_num n
theorem fig_len {n : Nat} (h : n < 10 ^ 30) : (figT n).length ≤ 30 := by
  rw [← len_toListN, tl_fig]
  exact TL.numL_len (by decide) h
theorem head0 : ∀ n : Nat, 10 ≤ n → (TL.numL n).head? ≠ some 48 := fun n => by
  induction n using Nat.strongRecOn with
  | _ n ih =>
    intro h
    rw [TL.numL_step h]
    by_cases h2 : n / 10 < 10
    · rw [TL.numL_lt h2]
      show some (48 + n / 10) ≠ some 48
      intro z
      have := Option.some.inj z
      omega
    · have := ih (n / 10) (by omega) (by omega)
      have ne := TL.numL_ne (n / 10)
      cases e : TL.numL (n / 10) with
      | nil => exact absurd e ne
      | cons c r =>
        rw [e] at this
        exact this
theorem numIn_fig {n : Nat} (h : n < 10 ^ 30) : numIn (figT n).cps.toList = some n := by
  have hl : (TL.numL n).length ≤ 30 := TL.numL_len (by decide) h
  have h1 : 1 ≤ (TL.numL n).length := List.length_pos_iff.mpr (TL.numL_ne n)
  have ok : numOk (TL.numL n) = true := by
    unfold numOk
    rw [decide_eq_true (show (1 : Int) ≤ ((TL.numL n).length : Int) by omega), decide_eq_true (show ((TL.numL n).length : Int) ≤ 30 by omega)]
    have ha : (TL.numL n).all dgC = true := List.all_eq_true.mpr fun c hc => (dg_iff c).mpr (by have := TL.numL_digits n c hc; omega)
    rw [ha]
    by_cases h10 : n < 10
    · rw [TL.numL_lt h10]
      simp
    · rw [decide_eq_false (head0 n (by omega))]
      rfl
  unfold numIn
  rw [tl_fig, ok, if_pos rfl, TL.numL_val]
--@@SPLIT
/-! ### entries as texts -/
def rStrA : List V → Hp → VK → Prop := fun xs H Q => (∃ i, xs = [.int i] ∧ i.natAbs.log2 < 1920 ∧ Q (.str (toString i)) H) ∨ (∃ a, xs = [.str a] ∧ Q (.str a) H)
theorem call_strA {X : Cx} : CallR X (.type "str") rStrA := by
  intro pins s σ H xs us Q I r h
  rcases h with h | h
  · exact call_str_int pins s σ H xs us Q I r h
  · exact SkE.call_str_str pins s σ H xs us Q I r h
abbrev blank : Str := PySem.Str.ofString " "
theorem blank_tl : blank.cps.toList = [32] := by decide +kernel
/-- the text of a part -/
def partT : PyData → Str
  | .str z => z
  | .int i => PySem.Str.ofString (toString i)
  | _ => PySem.Str.ofString ""
def partOk : PyData → Bool
  | .str z => decide (z.length ≤ 100)
  | .int i => decide (0 ≤ i) && decide (i < 10 ^ 30)
  | _ => false
def entT (ds : List PyData) : Str := Txt.join blank (ds.map partT)
theorem part_len {d : PyData} (h : partOk d = true) : (partT d).length ≤ 100 := by
  cases d with
  | str z => exact of_decide_eq_true h
  | int i =>
    obtain ⟨h0, h1⟩ := Bool.and_eq_true_iff.mp h
    have h0 := of_decide_eq_true h0
    have h1 := of_decide_eq_true h1
    obtain ⟨n, rfl⟩ : ∃ n : Nat, i = n := ⟨i.toNat, by omega⟩
    have h2 : n < 10 ^ 30 := by omega
    have := fig_len h2
    show (figT n).length ≤ 100
    omega
  | _ => cases h
theorem part_sum : ∀ ds : List PyData, (∀ d ∈ ds, partOk d = true) → ((ds.map partT).map (·.length)).sum ≤ 100 * ds.length
  | [], _ => Nat.zero_le _
  | d :: r, h => by
    rw [List.map_cons, List.map_cons, List.sum_cons, List.length_cons]
    have h1 := part_len (h d List.mem_cons_self)
    have h2 := part_sum r (fun x hx => h x (List.mem_cons_of_mem _ hx))
    omega
def spEntText (K : PySem.W.Frag) : Sp := fun vs H Q _ => ∃ (a : Addr) (xs : List V) (ds : List PyData), vs = [.ref a] ∧ SqA K H a xs ∧ DpAll K H xs ds ∧ (∀ d ∈ ds, partOk d = true) ∧ ds.length ≤ 900 ∧ ∀ H', Same H H' → Q (.str (entT ds)) H'
theorem log2_30 {n : Nat} (h : n < 10 ^ 30) : n.log2 < 1920 := by
  by_cases h0 : n = 0
  · subst h0
    decide
  · refine (Nat.log2_lt h0).mpr (Nat.lt_of_lt_of_le h (by decide +kernel))
theorem ok_entry_text (T : Top w K mg) : FnOk P w K mg base CX0 1 T.a_entry_text T.fd_entry_text ["entry"] (spEntText K) := by
  refine T.F_entry_text.ok sc_entry_text (fun vs H Q E h => ?_) (fun cdv A outer s H vs Q E hr h => ?_)
  · obtain ⟨a, xs, ds, rfl, _⟩ := h
    rfl
  · obtain ⟨a, xs, ds, rfl, hs, ha, hp, hl, q⟩ := h
    refine ⟨_, (pss_one (ps_ret (pe_bm PySem.F.plainAttrs_str PySem.F.slot_str_join PySem.F.type_str_join mt_join pe_str (pa_cons (pe_lc (own := [("part", 1)]) (g := gName 1) (by rfl) sc_entry_text.nd (SeqW.pi_seq (pv 0)) (blkOk_by (own := [("part", 1)]) (N := ["entry", "part"]) (sc := defScope s_entry_text) (by decide +kernel)) (fun _ _ _ _ _ => (pg_name (i := 1) sc_entry_text.nd rfl (Or.inl rfl))) (fun _ _ _ _ _ => pts_nil) (fun _ _ _ _ _ => (pe_callTy call_strA (by rfl) T.m_str (by decide +kernel) (pa_cons (pv 1) pa_nil)))) pa_nil)))), ?_⟩
    have lx := dpa_len ds xs ha
    refine ⟨rfl, .ref a, rfl, a, xs, rfl, (fun H' => Same H H'), kpA hs, Same.refl _, fun J G wk hG D hD => lc_it wk (fun i H' => Same H H' ∧ H' D = some (.lst (((ds.take i).map partT).map V.str))) ⟨same_upd hD, upd_same⟩ (fun i H' _ h => hG _ h.1) ?_ ?_⟩
    · rintro i v H1 H2 hi ⟨sm, eD⟩ ⟨rfl, hx⟩
      obtain ⟨d, fd, gd⟩ := dpa_at ds xs ha i v hx
      have pd := hp d (List.mem_of_getElem? fd)
      have fin : ∃ acc, H2 D = some (.lst acc) ∧ acc.length < sizeLine ∧ (Same H (upd H2 D (.lst (acc ++ [.str (partT d)]))) ∧ (upd H2 D (.lst (acc ++ [.str (partT d)]))) D = some (.lst (((ds.take (i + 1)).map partT).map V.str))) := by
        refine ⟨_, eD, ?_, ?_, ?_⟩
        · rw [List.length_map, List.length_map, List.length_take]
          exact small1000 (by omega)
        · exact fun b' o e => by
            rw [upd_ne (ne_of_none e hD)]
            exact sm _ _ e
        · rw [upd_same, List.take_add_one, fd, List.map_append, List.map_append]
          rfl
      refine ⟨rfl, v, rfl, ?_⟩
      cases gd with
      | str z => exact .inr ⟨z, rfl, fin⟩
      | int j =>
        obtain ⟨h0, h1⟩ := Bool.and_eq_true_iff.mp pd
        have h0 := of_decide_eq_true h0
        have h1 := of_decide_eq_true h1
        exact .inl ⟨j, rfl, log2_30 (by omega), fin⟩
      | _ => cases pd
    · rintro H1 ⟨sm, eD⟩
      rw [lx, List.take_length] at eD
      refine ⟨_, D, ds.map partT, rfl, rfl, .inl (.inl (.inl eD)), ?_, q H1 sm⟩
      have h1 := part_sum ds hp
      rw [List.length_map, show (PySem.Str.ofString " ").length = 1 by decide +kernel]
      omega
/-! ### a text read as an entry -/
abbrev wGS : List Str := [PySem.Str.ofString "go", PySem.Str.ofString "spy"]
def goSpy (s : Str) : Bool := inV (.str s) (wGS.map V.str)
def numD : Option Nat → PyData
  | some n => .int (n : Int)
  | none => .none
def entDs : List Str → List PyData
  | a :: b :: r => .str a :: (if goSpy a = true then numD (numIn b.cps.toList) else .str b) :: r.map PyData.str
  | ws => ws.map PyData.str
theorem spl_ne (S : List Nat) : ∀ (l acc : List Nat) (k : Nat), TL.spl S k acc l ≠ []
  | [], acc, k => by rw [TL.spl_nil]; exact fun h => nomatch h
  | c :: r, acc, 0 => by
    cases e : TL.pre S (c :: r) with
    | true => rw [TL.spl_hit e]; exact fun h => nomatch h
    | false => rw [TL.spl_miss e]; exact spl_ne S r _ 0
  | c :: r, acc, k + 1 => by
    rw [TL.spl_pass]
    exact spl_ne' S _ _
where spl_ne' (S : List Nat) : ∀ (l acc : List Nat), TL.spl S 0 acc l ≠ []
  | [], acc => by rw [TL.spl_nil]; exact fun h => nomatch h
  | c :: r, acc => by
    cases e : TL.pre S (c :: r) with
    | true => rw [TL.spl_hit e]; exact fun h => nomatch h
    | false => rw [TL.spl_miss e]; exact spl_ne' S r _
theorem split_ne (z : Str) : Txt.split z blank ≠ [] := fun h => by
  have e := TL.split_spl z blank (by rw [show TL.tl blank = [32] from blank_tl]; exact fun h => nomatch h) (TL.kind_ok (by decide +kernel))
  rw [h] at e
  exact spl_ne _ _ _ _ e.symm
theorem strs_dp {K : PySem.W.Frag} {H : Hp} : ∀ ws : List Str, DpAll K H (ws.map V.str) (ws.map PyData.str)
  | [] => .nil
  | a :: r => .cons (.str _) (strs_dp r)
theorem numV_dp {K : PySem.W.Frag} {H : Hp} : ∀ o : Option Nat, Dp K H (numV o) (numD o)
  | some n => .int _
  | none => .non
theorem numD_gp : ∀ o : Option Nat, gp (numD o) = true
  | some n => rfl
  | none => rfl
theorem ents_gp {ws : List Str} (h : ∀ x ∈ ws, x.length ≤ 1000) : ∀ d ∈ entDs ws, gp d = true := by
  have hs : ∀ ws : List Str, (∀ x ∈ ws, x.length ≤ 1000) → ∀ d ∈ ws.map PyData.str, gp d = true := fun ws h d hd => by
    obtain ⟨x, hx, rfl⟩ := List.mem_map.mp hd
    exact decide_eq_true (h x hx)
  match ws, h with
  | [], h => exact hs _ h
  | [a], h => exact hs _ h
  | a :: b :: r, h =>
    intro d hd
    rcases List.mem_cons.mp hd with hd | hd
    · rw [hd]
      exact decide_eq_true (h a (by simp))
    rcases List.mem_cons.mp hd with hd | hd
    · rw [hd]
      by_cases g : goSpy a = true
      · rw [if_pos g]
        exact numD_gp _
      · rw [if_neg g]
        exact decide_eq_true (h b (by simp))
    · exact hs r (fun x hx => h x (List.mem_cons_of_mem _ (List.mem_cons_of_mem _ hx))) d hd
theorem ents_len : ∀ ws : List Str, (entDs ws).length = ws.length
  | [] => rfl
  | [a] => rfl
  | a :: b :: r => by
    show (r.map PyData.str).length + 1 + 1 = r.length + 1 + 1
    rw [List.length_map]
def spEntIn (K : PySem.W.Frag) : Sp := fun vs H Q _ => ∃ (z : Str) (ws : List Str), vs = [.str z] ∧ z.length ≤ 1000000 ∧ Txt.split z blank = ws ∧ ws.length ≤ 20 ∧ (∀ x ∈ ws, x.length ≤ 1000) ∧
  (entL (entDs ws) = true → ∀ H' r xs, Same H H' → H r = none → H' r = some (.tup xs) → DpAll K H' xs (entDs ws) → Q (.ref r) H') ∧ (entL (entDs ws) = false → ∀ H', Same H H' → Q .non H')
theorem ok_entry_in (T : Top w K mg) : FnOk P w K mg base CX0 6 T.a_entry_in T.fd_entry_in ["text"] (spEntIn K) := by
  have G_number_in := ok_number_in (P := P) (w := w) (base := base) T
  have G_is_entry := ok_is_entry (P := P) (w := w) (base := base) T
  refine T.F_entry_in.ok sc_entry_in (fun vs H Q E h => ?_) (fun cdv A outer s H vs Q E hr h => ?_)
  · obtain ⟨z, ws, rfl, _⟩ := h
    rfl
  · obtain ⟨z, ws, rfl, hz, hw, hl, hx, q1, q2⟩ := h
    refine ⟨_, (pss_cons (ps_set (i := 1) sc_entry_in.nd rfl (.inl rfl) (pe_bm PySem.F.plainAttrs_str PySem.F.slot_str_split PySem.F.type_str_split mt_split (pv 0) (pa_cons pe_str pa_nil)))
      (Evl.pss_cut (ps_if (PW.pt (pw_and (pt_cmpR op_in_seq (pe_ix ix_list (pv 1) pe_int (fun _ _ => rfl)) (pe_tup (pa_cons pe_str (pa_cons pe_str pa_nil))) (by rfl)) (pw_and1 (pt_cmpR op_gt (pe_callB call_len_seq (by rfl) T.m_len (by decide +kernel) (pa_cons (pv 1) pa_nil)) pe_int (nomark _))))) (pss_one (ps_asg (pe_call G_number_in (hr.mono (by decide)) (by rfl) T.g_number_in T.F_number_in.kp T.b_number_in .nil pass0 (pa_cons (pe_ix ix_list (pv 1) pe_int (fun _ _ => rfl)) pa_nil)) (pg_sub (pv 1) pe_int set_list))) pss_nil)
      (pss_one (ps_ret (pe_ifExp (pt_val (pe_call G_is_entry hr (by rfl) T.g_is_entry T.F_is_entry.kp T.b_is_entry .nil pass0 (pa_cons (pv 1) pa_nil))) (pe_callTy call_tuple_of (by rfl) T.m_tuple (by decide +kernel) (pa_cons (pv 1) pa_nil)) pe_non))))), ?_⟩
    refine ⟨_, rfl, rfl, _, _, rfl, rfl, by decide +kernel, Nat.le_trans (show z.length + 2 ≤ 1000002 by omega) (by decide), fun W nW => ?_⟩
    rw [hw]
    have sW := same_upd (o := .lst (ws.map V.str)) nW
    obtain ⟨a, r, rfl⟩ : ∃ a r, ws = a :: r := by
      cases e : ws with
      | nil => rw [e] at hw; exact absurd hw (split_ne z)
      | cons a r => exact ⟨a, r, rfl⟩
    refine ⟨fun σ H' => Same H H' ∧ ∃ xs, σ = [some (.str z), some (.ref W)] ∧ H' W = some (.lst xs) ∧ DpAll K H' xs (entDs (a :: r)), ?_, ?_⟩
    · refine ⟨.ref W, rfl, W, _, 0, .str a, rfl, rfl, .inl (.inl upd_same), atI_nat (j := 0) rfl, ?_⟩
      refine ⟨by show 2 ≤ sizeLine; decide, fun tp np => ⟨tp, wGS.map V.str, rfl, .inr (.inl (.inl upd_same)), rfl, by decide +kernel, _, rfl, ?_⟩⟩
      have s1 := same_upd (o := .tup (wGS.map V.str)) np
      have eW := s1 _ _ (upd_same (H := H) (a := W) (o := .lst ((a :: r).map V.str)))
      have nos : ∀ H', Same (upd H W (.lst ((a :: r).map V.str))) H' → entDs (a :: r) = (a :: r).map PyData.str → (Same H H' ∧ ∃ xs, [some (V.str z), some (.ref W)] = [some (.str z), some (.ref W)] ∧ H' W = some (.lst xs) ∧ DpAll K H' xs (entDs (a :: r))) := fun H' s e => ⟨sW.trans s, _, rfl, s _ _ upd_same, by rw [e]; exact strs_dp _⟩
      show if goSpy a = true then _ else _
      refine ite2 (fun e1 => ?_) (fun e1 => ?_)
      · refine ⟨.ref W, rfl, W, _, rfl, .inl (.inl (.inl eW)), _, _, rfl, rfl, _, rfl, ite2 (fun e2 => ?_) (fun e2 => ?_)⟩
        · obtain ⟨b, r, rfl⟩ : ∃ b r', r = b :: r' := by
            cases e : r with
            | nil =>
              rw [e] at e2
              cases e2
            | cons b r' => exact ⟨b, r', rfl⟩
          refine ⟨.ref W, rfl, W, _, 1, .str b, rfl, rfl, .inl (.inl eW), atI_nat (j := 1) rfl, b, rfl, Nat.le_trans (hx b (by simp)) (by decide), fun H3 s3 => ?_⟩
          have eW3 := s3 _ _ eW
          refine ⟨.ref W, rfl, W, _, 1, 1, rfl, rfl, eW3, Evl.ixN_nat (j := 1) (by rw [List.length_map, List.length_cons, List.length_cons]; omega), fun b' o e => ?_, _, rfl, upd_same, ?_⟩
          · rw [upd_ne (ne_of_none e nW)]
            exact s3 _ _ (s1 _ _ (sW _ _ e))
          · show DpAll K _ (.str a :: numV (numIn b.cps.toList) :: r.map V.str) (.str a :: (if goSpy a = true then _ else _) :: r.map PyData.str)
            rw [if_pos e1]
            exact .cons (.str _) (.cons (numV_dp _) (strs_dp r))
        · refine nos _ s1 ?_
          cases e : r with
          | nil => rfl
          | cons b r' =>
            rw [e] at e2
            refine absurd (decide_eq_true ?_) e2
            show (1 : Int) < (((a :: b :: r').map V.str).length : Int)
            rw [List.length_map, List.length_cons, List.length_cons]
            omega
      · refine ite2 (fun z => nomatch z) (fun _ => nos _ s1 ?_)
        cases e : r with
        | nil => rfl
        | cons b r' =>
          show PyData.str a :: (if goSpy a = true then _ else _) :: _ = _
          rw [if_neg e1]
          rfl
    rintro σ H1 ⟨s1, xs, rfl, eW, ha⟩
    refine ⟨.ref W, rfl, .ref W, .list (entDs (a :: r)), rfl, ?_, .lst (.inl (.inl eW)) ha, fun H2 s2 => ⟨_, rfl, ?_⟩⟩
    · show (decide ((entDs (a :: r)).length ≤ 20) && (entDs (a :: r)).all gp) = true
      rw [decide_eq_true (by rw [ents_len]; exact hl), List.all_eq_true.mpr (ents_gp hx)]
      rfl
    show if entL (entDs (a :: r)) = true then _ else _
    refine ite2 (fun e => ?_) (fun e => q2 (Bool.eq_false_iff.mpr e) _ (s1.trans s2))
    refine ⟨.ref W, rfl, W, xs, rfl, .inl ⟨.inl (.inl (s2 _ _ eW)), fun t nt => ?_⟩⟩
    have s3 := same_upd (o := .tup xs) nt
    exact q1 e _ t xs ((s1.trans s2).trans s3) ((s1.trans s2).free nt) upd_same (dpa_same (s2.trans s3) _ _ ha)
--@@SPLIT
/-! ### drawn texts, drawn things -/
theorem op_mulS {X : Cx} : OpR X (binaryOp .Mult) (fun x y H Q => ∃ (z : Str) (n : Int), x = .str z ∧ y = .int n ∧ z.length ≤ 16 ∧ 0 ≤ n ∧ n ≤ 1048576 ∧ ∀ z' : Str, (z'.length : Int) = (z.length : Int) * n → Q (.str z') H) := by
  intro pins s σ H x y v u Q I rx ry h
  obtain ⟨z, n, rfl, rfl, hz, h0, h1, q⟩ := h
  obtain ⟨t, rfl⟩ := rx
  obtain ⟨t', rfl⟩ := ry
  exact PySem.W.KXi.mul rfl hz (by omega) (by omega) fun t' k _ h2 => ⟨.str _, H, I.tok _, ⟨_, rfl⟩, q _ (h2 h0)⟩
theorem cut_len (z : Str) (lo hi : Option Int) : (cutS z lo hi).length ≤ z.length := by
  show (((z.cps.toList.drop (HT.sIx z.length 0 lo)).take (HT.sIx z.length z.length hi - HT.sIx z.length 0 lo)).toArray).size ≤ z.length
  rw [List.size_toArray, List.length_take, List.length_drop, len_toList]
  omega
theorem app_len (a b : Str) : (a ++ b).length = a.length + b.length := by
  show (a.cps ++ b.cps).size = _
  rw [Array.size_append]
  rfl
theorem str_at {z : Str} {i : Int} (h0 : 0 ≤ i) (h1 : i < (z.length : Int)) : ∃ c, atI z.cps.toList i = some c := by
  obtain ⟨j, rfl⟩ : ∃ j : Nat, i = j := ⟨i.toNat, by omega⟩
  have hj : j < z.cps.toList.length := by
    rw [len_toList]
    omega
  exact ⟨z.cps.toList[j], atI_nat (List.getElem?_eq_getElem hj)⟩
def spText (lo hi : Nat) : Sp := fun vs H Q _ => ∃ p, vs = [.ref p] ∧ Pool H p ∧ ∀ H' (z : Str), But p H H' → Pool H' p → lo ≤ z.length → z.length ≤ hi → (∀ c ∈ z.cps.toList, c ∈ SMALLs.cps.toList) → Q (.str z) H'
theorem app_mem {a b : Str} {c : Nat} (h : c ∈ (a ++ b).cps.toList) : c ∈ a.cps.toList ∨ c ∈ b.cps.toList := by
  have h2 : c ∈ (a.cps ++ b.cps).toList := h
  rw [Array.toList_append] at h2
  exact List.mem_append.mp h2
theorem join_mem {S : List Nat} : ∀ ys : List Str, (∀ y ∈ ys, ∀ c ∈ y.cps.toList, c ∈ S) → ∀ c ∈ (Str.join (PySem.Str.ofString "") ys).cps.toList, c ∈ S
  | [], _, c, h => by
    have h2 : c ∈ ([] : List Nat) := h
    cases h2
  | [y], hy, c, h => hy y (by simp) c h
  | y :: z :: r, hy, c, h => by
    have h2 : c ∈ ((y ++ PySem.Str.ofString "") ++ Str.join (PySem.Str.ofString "") (z :: r)).cps.toList := h
    rcases app_mem h2 with h3 | h3
    · rcases app_mem h3 with h4 | h4
      · exact hy y (by simp) c h4
      · have h5 : c ∈ ([] : List Nat) := by
          rw [show (PySem.Str.ofString "").cps.toList = [] by decide +kernel] at h4
          exact h4
        cases h5
    · exact join_mem (z :: r) (fun x hx => hy x (List.mem_cons_of_mem _ hx)) c h3
theorem ok_of_mem {z : Str} (h : ∀ c ∈ z.cps.toList, c < 0x110000) : PyData.strOk z = true := by
  show z.cps.all (fun c => decide (c < 0x110000)) = true
  rw [Array.all_eq_true_iff_forall_mem]
  intro c hc
  exact decide_eq_true (h c (Array.mem_toList_iff.mpr hc))
theorem small_ok : ∀ c ∈ SMALLs.cps.toList, c < 0x110000 := by decide +kernel
theorem cut_mem {z : Str} {lo hi : Option Int} {c : Nat} (h : c ∈ (cutS z lo hi).cps.toList) : c ∈ z.cps.toList := by
  have h2 : c ∈ (z.cps.toList.drop (HT.sIx z.length 0 lo)).take (HT.sIx z.length z.length hi - HT.sIx z.length 0 lo) := h
  exact List.mem_of_mem_drop (List.mem_of_mem_take h2)
theorem at_mem {z : Str} {i : Int} {c : Nat} (h : atI z.cps.toList i = some c) : c ∈ z.cps.toList := by
  obtain ⟨j, _, h2, _⟩ := atI_get h
  exact List.mem_of_getElem? h2
theorem join_len : ∀ ys : List Str, (∀ y ∈ ys, y.length = 1) → (Str.join (PySem.Str.ofString "") ys).length = ys.length
  | [], _ => rfl
  | [y], h => by
    show y.length = 1
    exact h y (by simp)
  | y :: z :: r, h => by
    show ((y ++ PySem.Str.ofString "") ++ Str.join (PySem.Str.ofString "") (z :: r)).length = _
    rw [app_len, app_len, join_len (z :: r) (fun x hx => h x (List.mem_cons_of_mem _ hx)), h y (by simp), s0]
    show 1 + 0 + (z :: r).length = (z :: r).length + 1
    omega
theorem sum_ones : ∀ ys : List Str, (∀ y ∈ ys, y.length = 1) → (ys.map (·.length)).sum = ys.length
  | [], _ => rfl
  | y :: r, h => by
    rw [List.map_cons, List.sum_cons, sum_ones r (fun x hx => h x (List.mem_cons_of_mem _ hx)), h y (by simp), List.length_cons]
    omega
theorem ok_Lname (T : Top w K mg) : FnOk P w K mg base CX0 2 T.a_Lname T.fd_Lname ["_law_pool_here"] (spText 1 8) := by
  have G_Ltake := ok_Ltake (P := P) (w := w) (base := base) T
  refine T.F_Lname.ok sc_Lname (fun vs H Q E h => ?_) (fun cdv A outer s H vs Q E hr h => ?_)
  · obtain ⟨p, rfl, _⟩ := h
    rfl
  · obtain ⟨p, rfl, hp, q⟩ := h
    refine ⟨_, (pss_cons (ps_set (i := 1) sc_Lname.nd rfl (.inr rfl) pe_str)
      (pss_one (ps_ret (pe_bm PySem.F.plainAttrs_str PySem.F.slot_str_join PySem.F.type_str_join mt_join pe_str (pa_cons (pe_lc (own := [("_law_k", 2)]) (g := gName 2) (by rfl) sc_Lname.nd (pi_range1 (by rfl) T.m_range (pa_cons (pe_op op_add pe_int (pe_call G_Ltake hr (by rfl) T.g_Ltake T.F_Ltake.kp T.b_Ltake .nil pass0 (pa_cons (pv 0) (pa_cons pe_int pa_nil)))) pa_nil)) (blkOk_by (own := [("_law_k", 2)]) (N := ["_law_pool_here", "_law_letters", "_law_k"]) (sc := defScope s_Lname) (by decide +kernel)) (fun _ _ _ _ _ => (pg_name (i := 2) sc_Lname.nd rfl (Or.inl rfl))) (fun _ _ _ _ _ => pts_nil) (fun _ _ _ _ _ => (pe_ix ix_str (pv 1) (pe_call G_Ltake hr (by rfl) T.g_Ltake T.F_Ltake.kp T.b_Ltake .nil pass0 (pa_cons (pv 0) (pa_cons pe_int pa_nil))) (fun _ _ => rfl)))) pa_nil))))), ?_⟩
    refine ⟨rfl, .ref p, rfl, p, 8, rfl, by decide, by decide, hp, fun H1 r b1 hp1 r0 r1 => ?_⟩
    have l26 : SMALLs.length = 26 := by decide +kernel
    refine ⟨_, _, rfl, rfl, 1 + r, rfl, by omega, by omega, fun D hD => lc_range (lo := 0) (n := (1 + r).toNat) (fun i H' => Pool H' p ∧ But p H H' ∧ ∃ ys : List Str, ys.length = i ∧ (∀ y ∈ ys, y.length = 1) ∧ (∀ y ∈ ys, ∀ c ∈ y.cps.toList, c ∈ SMALLs.cps.toList) ∧ H' D = some (.lst (ys.map V.str))) ⟨hp1.upd (hp1.ne_new hD), b1.mut (b1.free (hp1.ne_new hD) hD), [], rfl, (fun _ h => nomatch h), (fun _ h => nomatch h), upd_same⟩ ?_ ?_⟩
    · rintro i H2 hi ⟨hp2, b2, ys, hl, h1, hm, eD⟩
      have nD : D ≠ p := hp1.ne_new hD
      refine ⟨rfl, ?_⟩
      refine ⟨_, rfl, .ref p, rfl, p, 26, rfl, by decide, by decide, hp2, fun H3 k b3 hp3 k0 k1 => ?_⟩
      obtain ⟨c, hc⟩ := str_at (z := SMALLs) k0 (by rw [l26]; omega)
      refine ⟨_, k, c, rfl, rfl, by decide +kernel, hc, _, b3 _ _ nD eD, ?_, hp3.upd nD, (b2.trans b3).mut (b1.free nD hD), ys ++ [⟨#[c]⟩], ?_, ?_, ?_, ?_⟩
      · rw [List.length_map]
        exact small1000 (by omega)
      · rw [List.length_append, hl]
        rfl
      · intro y hy
        rcases List.mem_append.mp hy with h | h
        · exact h1 y h
        · rw [List.mem_singleton.mp h]
          rfl
      · intro y hy c2 hc2
        rcases List.mem_append.mp hy with h | h
        · exact hm y h c2 hc2
        · rw [List.mem_singleton.mp h] at hc2
          have h3 : c2 ∈ [c] := hc2
          rw [List.mem_singleton.mp h3]
          exact at_mem hc
      · rw [upd_same, List.map_append]
        rfl
    · rintro H2 ⟨hp2, b2, ys, hl, h1, hm, eD⟩
      have e := join_len ys h1
      refine ⟨_, D, ys, rfl, rfl, .inl (.inl (.inl eD)), ?_, ?_⟩
      · rw [sum_ones ys h1, s0]
        show ys.length + ys.length * 0 ≤ 16777216
        omega
      · rw [TL.join_eq]
        exact q H2 _ b2 hp2 (by omega) (by omega) (join_mem ys hm)
theorem up_gr : ∀ c ∈ SMALLs.cps.toList, (Txt.upper ⟨#[c]⟩).cps.toList = [c - 32] ∧ grC (c - 32) = true ∧ c - 32 < 0x110000 := by decide +kernel
theorem all_sm {cs : List Nat} (h : ∀ c ∈ cs, c ∈ SMALLs.cps.toList) : cs.all smC = true := List.all_eq_true.mpr fun c hc => decide_eq_true (h c hc)
theorem nm_of {z : Str} (h1 : 1 ≤ z.length) (h8 : z.length ≤ 8) (hm : ∀ c ∈ z.cps.toList, c ∈ SMALLs.cps.toList) : nmL z.cps.toList = true := by
  unfold nmL shL
  rw [all_sm hm, len_toList, decide_eq_true (show (1 : Int) ≤ (z.length : Int) by omega), decide_eq_true (show (z.length : Int) ≤ 8 by omega)]
  rfl
theorem cut1_tl (z : Str) (h : 1 ≤ z.length) : (cutS z (some 1) none).cps.toList = z.cps.toList.drop 1 := by
  show (z.cps.toList.drop (HT.sIx z.length 0 (some 1))).take (HT.sIx z.length z.length none - HT.sIx z.length 0 (some 1)) = _
  have e1 : HT.sIx z.length 0 (some 1) = 1 := by
    unfold HT.sIx
    simp
    omega
  have e2 : HT.sIx z.length z.length none = z.length := rfl
  rw [e1, e2]
  exact List.take_of_length_le (by rw [List.length_drop, len_toList]; exact Nat.le_refl _)
theorem lo_of {z : Str} {c : Nat} (h1 : 1 ≤ z.length) (h8 : z.length ≤ 8) (hm : ∀ c ∈ z.cps.toList, c ∈ SMALLs.cps.toList) (hc : c ∈ SMALLs.cps.toList) : (Txt.upper ⟨#[c]⟩ ++ cutS z (some 1) none).cps.toList = (c - 32) :: z.cps.toList.drop 1 ∧ loL ((c - 32) :: z.cps.toList.drop 1) = true := by
  obtain ⟨u1, u2, _⟩ := up_gr c hc
  refine ⟨?_, ?_⟩
  · show ((Txt.upper ⟨#[c]⟩).cps ++ (cutS z (some 1) none).cps).toList = _
    rw [Array.toList_append, u1, cut1_tl z h1]
    rfl
  · show (shL ((c - 32) :: z.cps.toList.drop 1) && (grC (c - 32) && (z.cps.toList.drop 1).all smC)) = true
    have l : ((c - 32) :: z.cps.toList.drop 1).length = z.length := by
      rw [List.length_cons, List.length_drop, len_toList]
      omega
    unfold shL
    rw [u2, all_sm (fun d hd => hm d (List.mem_of_mem_drop hd)), l, decide_eq_true (show (1 : Int) ≤ (z.length : Int) by omega), decide_eq_true (show (z.length : Int) ≤ 8 by omega)]
    rfl
/-- a sign that is drawn: lone, or as a name -/
def spSign : Sp := fun vs H Q _ => ∃ (p : Addr) (b : Bool), vs = [.ref p, .bl b] ∧ Pool H p ∧ ∀ H' (z : Str), But p H H' → Pool H' p → z.length ≤ 12 → (PyData.strOk z = true ∧ Ent.sgS z = true) → Q (.str z) H'
theorem ok_Lsign (T : Top w K mg) : FnOk P w K mg base CX0 3 T.a_Lsign T.fd_Lsign ["_law_pool_here", "_law_lone"] spSign := by
  have G_Lname := ok_Lname (P := P) (w := w) (base := base) T
  refine T.F_Lsign.ok sc_Lsign (fun vs H Q E h => ?_) (fun cdv A outer s H vs Q E hr h => ?_)
  · obtain ⟨p, b, rfl, _⟩ := h
    rfl
  · obtain ⟨p, b, rfl, hp, q⟩ := h
    refine ⟨_, (pss_cons (ps_set (i := 2) sc_Lsign.nd rfl (.inl rfl) (pe_call G_Lname hr (by rfl) T.g_Lname T.F_Lname.kp T.b_Lname .nil pass0 (pa_cons (pv 0) pa_nil)))
      (pss_cons (ps_if (pt_val (pv 1)) (pss_one (ps_ret (pe_op op_add_str (pe_bm0 PySem.F.plainAttrs_str PySem.F.slot_str_upper PySem.F.type_str_upper mt_upper (pe_ix ix_str (pv 2) pe_int (fun _ _ => rfl))) (pe_slice sl_str (pv 2) (po_some pe_int) po_none)))) pss_nil)
      (pss_one (ps_ret (pv 2))))), ?_⟩
    refine ⟨.ref p, rfl, p, rfl, hp, fun H1 z b1 hp1 z0 z1 zm => ?_⟩
    refine ⟨.bl b, rfl, b, rfl, ite2 (fun e => ?_) (fun e => ?_)⟩
    · obtain ⟨c, hc⟩ := str_at (z := z) (i := 0) (by decide) (by omega)
      have hu1 : (⟨#[c]⟩ : Str).length = 1 := rfl
      have hcut := cut_len z (some 1) none
      have cm := zm c (at_mem hc)
      obtain ⟨el, lo⟩ := lo_of (c := c) z0 z1 zm cm
      have hl : (Txt.upper ⟨#[c]⟩ ++ cutS z (some 1) none).length ≤ 12 := by
        rw [← len_toList, el, List.length_cons, List.length_drop, len_toList]
        omega
      refine ⟨.str z, rfl, z, 0, c, rfl, rfl, thou (by omega), hc, rfl, _, rfl, rfl, (by rw [hu1]; decide), .str z, rfl, 1, rfl, z, rfl, thou (by omega), _, _, rfl, rfl, ?_, ?_⟩
      · have h3 := app_len (Txt.upper ⟨#[c]⟩) (cutS z (some 1) none)
        exact thou (by omega)
      exact q H1 _ b1 hp1 hl ⟨ok_of_mem fun c2 h2 => by
        rw [el] at h2
        rcases List.mem_cons.mp h2 with h3 | h3
        · rw [h3]
          exact (up_gr c cm).2.2
        · exact small_ok c2 (zm c2 (List.mem_of_mem_drop h3)), by unfold Ent.sgS; rw [el, lo, Bool.or_true]⟩
    · exact ⟨.str z, rfl, q H1 z b1 hp1 (by omega) ⟨ok_of_mem fun c2 h2 => small_ok c2 (zm c2 h2), by unfold Ent.sgS; rw [nm_of z0 z1 zm]; rfl⟩⟩
--@@SPLIT
/-! ### an entry drawn -/
/-- places that are left out of sight: the spring is one, all of them are known -/
def HX (p : Addr) (X : Addr → Prop) (H : Hp) : Prop := X p ∧ ∀ b, X b → H b ≠ none
theorem HX.same {p : Addr} {X : Addr → Prop} {H H' : Hp} (x : HX p X H) (e : Same H H') : HX p X H' := ⟨x.1, fun b h => by
  cases o : H b with
  | none => exact absurd o (x.2 b h)
  | some o' => rw [e b o' o]; exact fun z => nomatch z⟩
theorem Pool.known {H : Hp} {p : Addr} (h : Pool H p) : H p ≠ none := by
  obtain ⟨l, c, k, n, h0, h1⟩ := h
  rw [h1]
  exact fun z => nomatch z
theorem HX.but {p : Addr} {X : Addr → Prop} {H H' : Hp} (x : HX p X H) (e : But p H H') (hp : Pool H' p) : HX p X H' := ⟨x.1, fun b h => by
  by_cases eb : b = p
  · rw [eb]
    exact hp.known
  · cases o : H b with
    | none => exact absurd o (x.2 b h)
    | some o' => rw [e b o' eb o]; exact fun z => nomatch z⟩
theorem HX.fresh {p t : Addr} {X : Addr → Prop} {H : Hp} (x : HX p X H) (n : H t = none) : ¬ X t := fun z => x.2 t z n
theorem But.wo {p : Addr} {X : Addr → Prop} {H H' : Hp} (xp : X p) (e : But p H H') : Same (M.wo H X) (M.wo H' X) := fun b o h => by
  have h2 := wo_some h
  rw [wo_in (X := X) h2.1]
  exact e _ _ (fun z => h2.1 (z ▸ xp)) h2.2
theorem tupW {K : PySem.W.Frag} {H : Hp} {p t : Addr} {X : Addr → Prop} {vs : List V} {ds : List PyData} (x : HX p X H) (nt : H t = none) (h : DpAll K (wo H X) vs ds) : Dp K (wo (upd H t (.tup vs)) X) (.ref t) (.tuple ds) :=
  .tup (.inl (.inl ((wo_in (X := X) (x.fresh nt)).trans upd_same))) (dpa_same ((But.of (same_upd nt)).wo x.1) ds vs h)
theorem lstW {K : PySem.W.Frag} {H : Hp} {p t : Addr} {X : Addr → Prop} {vs : List V} {ds : List PyData} (x : HX p X H) (nt : H t = none) (h : DpAll K (wo H X) vs ds) : Dp K (wo (upd H t (.lst vs)) X) (.ref t) (.list ds) :=
  .lst (.inl (.inl ((wo_in (X := X) (x.fresh nt)).trans upd_same))) (dpa_same ((But.of (same_upd nt)).wo x.1) ds vs h)
theorem nesw_lt {r : Int} (h0 : 0 ≤ r) (h1 : r < 4) : ∃ l : Fin 4, atI (PySem.Str.ofString "nesw").cps.toList r = some (cd l) := by
  obtain rfl | rfl | rfl | rfl : r = 0 ∨ r = 1 ∨ r = 2 ∨ r = 3 := by omega
  · exact ⟨0, by decide +kernel⟩
  · exact ⟨1, by decide +kernel⟩
  · exact ⟨2, by decide +kernel⟩
  · exact ⟨3, by decide +kernel⟩
theorem nine {r : Int} (h0 : 0 ≤ r) (h1 : r < 9) : ∃ n : Fin 9, 1 + r = ((n.val : Nat) : Int) + 1 := ⟨⟨r.toNat, by omega⟩, by show 1 + r = ((r.toNat : Nat) : Int) + 1; omega⟩
def spAnyEntry (K : PySem.W.Frag) : Sp := fun vs H Q _ => ∃ (p : Addr) (b : Bool) (X : Addr → Prop), vs = [.ref p, .bl b] ∧ Pool H p ∧ HX p X H ∧ ∀ H' t e, But p H H' → Pool H' p → Dp K (wo H' X) (.ref t) (Ent.tup e) → e.ok → (e.need = true → b = true) → Q (.ref t) H'
theorem ok_Lany_entry (T : Top w K mg) : FnOk P w K mg base CX0 4 T.a_Lany_entry T.fd_Lany_entry ["_law_pool_here", "_law_looks"] (spAnyEntry K) := by
  have G_Ltake := ok_Ltake (P := P) (w := w) (base := base) T
  have G_Lsign := ok_Lsign (P := P) (w := w) (base := base) T
  refine T.F_Lany_entry.ok sc_Lany_entry (fun vs H Q E h => ?_) (fun cdv A outer s H vs Q E hr h => ?_)
  · obtain ⟨p, b, X, rfl, _⟩ := h
    rfl
  · obtain ⟨p, b, X, rfl, hp, x, q⟩ := h
    refine ⟨_, (pss_cons (ps_set (i := 2) sc_Lany_entry.nd rfl (.inl rfl) (pe_call G_Ltake (hr.mono (by decide)) (by rfl) T.g_Ltake T.F_Ltake.kp T.b_Ltake .nil pass0 (pa_cons (pv 0) (pa_cons pe_int pa_nil))))
      (pss_cons (ps_set (i := 3) sc_Lany_entry.nd rfl (.inl rfl) (pe_call G_Lsign hr (by rfl) T.g_Lsign T.F_Lsign.kp T.b_Lsign .nil pass0 (pa_cons (pv 0) (pa_cons (pe_cmpR op_eq (pe_call G_Ltake (hr.mono (by decide)) (by rfl) T.g_Ltake T.F_Ltake.kp T.b_Ltake .nil pass0 (pa_cons (pv 0) (pa_cons pe_int pa_nil))) pe_int (nomark _)) pa_nil))))
      (Evl.pss_cut (ps_if (PW.pt (pw_and (pt_not (pt_val (pv 1))) (pw_and1 (pt_cmpR op_gt (pv 2) pe_int (nomark _))))) (pss_one (ps_set (i := 2) sc_Lany_entry.nd rfl (.inl rfl) (pe_op op_mod (pv 2) pe_int))) pss_nil)
      (pss_cons (ps_if (PW.pt (pw_or (pt_cmpR op_eq (pv 2) pe_int (nomark _)) (pw_or1 (pt_cmpR op_gt (pv 2) pe_int (nomark _))))) (pss_one (ps_ret (pe_tup (pa_cons pe_str (pa_cons (pe_ix ix_str pe_str (pe_call G_Ltake (hr.mono (by decide)) (by rfl) T.g_Ltake T.F_Ltake.kp T.b_Ltake .nil pass0 (pa_cons (pv 0) (pa_cons pe_int pa_nil))) (fun _ _ => rfl)) pa_nil))))) pss_nil)
      (pss_cons (ps_if (pt_cmpR op_lt (pv 2) pe_int (nomark _)) (pss_one (ps_ret (pe_ix ix_tup (pe_tup (pa_cons (pe_tup (pa_cons pe_str (pa_cons (pv 3) pa_nil))) (pa_cons (pe_tup (pa_cons pe_str pa_nil)) (pa_cons (pe_tup (pa_cons pe_str pa_nil)) pa_nil)))) (pe_op op_sub (pv 2) pe_int) (fun _ _ => rfl)))) pss_nil)
      (pss_cons (ps_if (pt_cmpR op_eq (pv 2) pe_int (nomark _)) (pss_one (ps_ret (pe_ix ix_tup (pe_tup (pa_cons (pe_tup (pa_cons pe_str pa_nil)) (pa_cons (pe_tup (pa_cons pe_str pa_nil)) (pa_cons (pe_tup (pa_cons pe_str pa_nil)) pa_nil)))) (pe_call G_Ltake (hr.mono (by decide)) (by rfl) T.g_Ltake T.F_Ltake.kp T.b_Ltake .nil pass0 (pa_cons (pv 0) (pa_cons pe_int pa_nil))) (fun _ _ => rfl)))) pss_nil)
      (pss_cons (ps_if (pt_cmpR op_eq (pv 2) pe_int (nomark _)) (pss_one (ps_ret (pe_tup (pa_cons pe_str pa_nil)))) pss_nil)
      (pss_cons (ps_if (pt_cmpR op_eq (pv 2) pe_int (nomark _)) (pss_one (ps_ret (pe_tup (pa_cons pe_str (pa_cons (pe_op op_add pe_int (pe_call G_Ltake (hr.mono (by decide)) (by rfl) T.g_Ltake T.F_Ltake.kp T.b_Ltake .nil pass0 (pa_cons (pv 0) (pa_cons pe_int pa_nil)))) (pa_cons (pv 3) pa_nil)))))) pss_nil)
      (pss_one (ps_ret (pe_tup (pa_cons pe_str (pa_cons (pe_op op_add pe_int (pe_call G_Ltake (hr.mono (by decide)) (by rfl) T.g_Ltake T.F_Ltake.kp T.b_Ltake .nil pass0 (pa_cons (pv 0) (pa_cons pe_int pa_nil)))) pa_nil))))))))))))), ?_⟩
    refine ⟨.ref p, rfl, p, 12, rfl, by decide, by decide, hp, fun H1 k b1 hp1 k0 k1 => ?_⟩
    refine ⟨.ref p, rfl, .ref p, rfl, p, 2, rfl, by decide, by decide, hp1, fun H2 j b2 hp2 _ _ => ?_⟩
    refine ⟨rfl, p, _, rfl, hp2, fun H3 z b3 hp3 hz hk => ?_⟩
    have bt := (b1.trans b2).trans b3
    have x3 := x.but bt hp3
    refine ⟨fun σ H' => H3 = H' ∧ ∃ k : Int, 0 ≤ k ∧ k ≤ 11 ∧ (3 < k → b = true) ∧ σ = [some (.ref p), some (.bl b), some (.int k), some (.str z)], ?_, ?_⟩
    · refine ⟨.bl b, rfl, b, rfl, ?_⟩
      cases b with
      | true => exact ite2 (fun z => nomatch z) (fun _ => ⟨rfl, k, k0, by omega, fun _ => rfl, rfl⟩)
      | false =>
        refine iteT ⟨.int k, rfl, _, _, rfl, rfl, _, rfl, ite2 (fun e => ?_) (fun e => ?_)⟩
        · have := Int.emod_lt_of_pos k (show (0 : Int) < 4 by decide)
          exact ⟨.int k, rfl, _, _, rfl, rfl, (by show (0 : Int) < 4; decide), rfl, k % 4, Int.emod_nonneg k (by decide), by omega, fun z => by omega, rfl⟩
        · have : ¬ 3 < k := fun z => e (decide_eq_true z)
          exact ⟨rfl, k, k0, by omega, fun z => absurd z this, rfl⟩
    rintro σ H4 ⟨rfl, k, k0, k1, kb, rfl⟩
    have face : ∀ H5 (r : Int), But p H3 H5 → Pool H5 p → 0 ≤ r → r < 4 → ∃ c, atI (PySem.Str.ofString "nesw").cps.toList r = some c ∧ ∀ t, H5 t = none → Q (.ref t) (upd H5 t (.tup [.str "face", .str ⟨#[c]⟩])) := fun H5 r b5 hp5 r0 r1 => by
      obtain ⟨l, hc⟩ := nesw_lt r0 r1
      exact ⟨cd l, hc, fun t nt => q _ t (.face l) ((bt.trans b5).trans (But.of (same_upd nt))) (hp5.upd (hp5.ne_new nt)) (tupW (x.but (bt.trans b5) hp5) nt (.cons (.str _) (.cons (.str _) .nil))) trivial (fun z => nomatch z)⟩
    refine ⟨.int k, rfl, rfl, _, rfl, ite2 (fun e => ?_) (fun e => ?_)⟩
    · refine iteT ⟨.ref p, rfl, p, 4, rfl, by decide, by decide, hp3, fun H5 r b5 hp5 r0 r1 => ?_⟩
      obtain ⟨c, hc, qq⟩ := face H5 r b5 hp5 r0 r1
      exact ⟨_, r, c, rfl, rfl, by decide +kernel, hc, by show 2 ≤ sizeLine; decide, qq⟩
    refine ⟨.int k, rfl, _, _, rfl, rfl, _, rfl, ite2 (fun e2 => ?_) (fun e2 => ?_)⟩
    · refine ⟨.ref p, rfl, p, 4, rfl, by decide, by decide, hp3, fun H5 r b5 hp5 r0 r1 => ?_⟩
      obtain ⟨c, hc, qq⟩ := face H5 r b5 hp5 r0 r1
      exact ⟨_, r, c, rfl, rfl, by decide +kernel, hc, by show 2 ≤ sizeLine; decide, qq⟩
    have kn : k ≠ 0 := fun z => e (by rw [z]; exact decide_eq_true rfl)
    refine ⟨.int k, rfl, _, _, rfl, rfl, _, rfl, ite2 (fun e3 => ?_) (fun e3 => ?_)⟩
    · have k4 : k < 4 := of_decide_eq_true e3
      refine ⟨.str z, rfl, by show 2 ≤ sizeLine; decide, fun m1 n1 => ⟨by show 1 ≤ sizeLine; decide, fun m2 n2 => ⟨by show 1 ≤ sizeLine; decide, fun m3 n3 => ⟨by show 3 ≤ sizeLine; decide, fun t nt => ?_⟩⟩⟩⟩
      have s1 := same_upd (o := .tup [.str "sign", .str z]) n1
      have s2 := same_upd (o := .tup [.str "bare"]) n2
      have s3 := same_upd (o := .tup [.str "swap"]) n3
      have s4 := same_upd (o := .tup [.ref m1, .ref m2, .ref m3]) nt
      have d1 := tupW (K := K) (vs := [.str "sign", .str z]) (ds := [.str "sign", .str z]) x3 n1 (.cons (.str _) (.cons (.str _) .nil))
      have p1 := hp3.same s1
      have d2 := tupW (K := K) (vs := [.str "bare"]) (ds := [.str "bare"]) (x3.same s1) n2 (.cons (.str _) .nil)
      have p2 := p1.same s2
      have d3 := tupW (K := K) (vs := [.str "swap"]) (ds := [.str "swap"]) ((x3.same s1).same s2) n3 (.cons (.str _) .nil)
      have p3 := p2.same s3
      have p4 := p3.same s4
      have bz := bt.trans (But.of (((s1.trans s2).trans s3).trans s4))
      obtain rfl | rfl | rfl : k = 1 ∨ k = 2 ∨ k = 3 := by omega
      · exact ⟨_, rfl, _, _, rfl, rfl, t, _, 0, _, rfl, rfl, .inl (.inl upd_same), rfl, q _ m1 (.sign z) bz p4 (dp_same ((But.of ((s2.trans s3).trans s4)).wo x.1) _ _ d1) ⟨hz, hk⟩ (fun z => nomatch z)⟩
      · exact ⟨_, rfl, _, _, rfl, rfl, t, _, 1, _, rfl, rfl, .inl (.inl upd_same), rfl, q _ m2 .bare bz p4 (dp_same ((But.of (s3.trans s4)).wo x.1) _ _ d2) trivial (fun z => nomatch z)⟩
      · exact ⟨_, rfl, _, _, rfl, rfl, t, _, 2, _, rfl, rfl, .inl (.inl upd_same), rfl, q _ m3 .swap bz p4 (dp_same ((But.of s4).wo x.1) _ _ d3) trivial (fun z => nomatch z)⟩
    have kb := kb (by have : ¬ k < 4 := fun z => e3 (decide_eq_true z)
                      omega)
    refine ⟨.int k, rfl, rfl, _, rfl, ite2 (fun e4 => ?_) (fun e4 => ?_)⟩
    · refine ⟨by show 1 ≤ sizeLine; decide, fun m1 n1 => ⟨by show 1 ≤ sizeLine; decide, fun m2 n2 => ⟨by show 1 ≤ sizeLine; decide, fun m3 n3 => ⟨by show 3 ≤ sizeLine; decide, fun t nt => ?_⟩⟩⟩⟩
      have s1 := same_upd (o := .tup [.str "left"]) n1
      have s2 := same_upd (o := .tup [.str "right"]) n2
      have s3 := same_upd (o := .tup [.str "back"]) n3
      have s4 := same_upd (o := .tup [.ref m1, .ref m2, .ref m3]) nt
      have d1 := tupW (K := K) (vs := [.str "left"]) (ds := [.str "left"]) x3 n1 (.cons (.str _) .nil)
      have p1 := hp3.same s1
      have d2 := tupW (K := K) (vs := [.str "right"]) (ds := [.str "right"]) (x3.same s1) n2 (.cons (.str _) .nil)
      have p2 := p1.same s2
      have d3 := tupW (K := K) (vs := [.str "back"]) (ds := [.str "back"]) ((x3.same s1).same s2) n3 (.cons (.str _) .nil)
      have p3 := p2.same s3
      have p4 := p3.same s4
      refine ⟨.ref p, rfl, p, 3, rfl, by decide, by decide, p4, fun H5 r b5 hp5 r0 r1 => ?_⟩
      have et := b5 _ _ (p3.ne_new nt) upd_same
      have bz := (bt.trans (But.of (((s1.trans s2).trans s3).trans s4))).trans b5
      obtain rfl | rfl | rfl : r = 0 ∨ r = 1 ∨ r = 2 := by omega
      · exact ⟨t, _, 0, _, rfl, rfl, .inl (.inl et), rfl, q _ m1 (.turn 0) bz hp5 (dp_same (((But.of ((s2.trans s3).trans s4)).trans b5).wo x.1) _ _ d1) trivial (fun _ => kb)⟩
      · exact ⟨t, _, 1, _, rfl, rfl, .inl (.inl et), rfl, q _ m2 (.turn 1) bz hp5 (dp_same (((But.of (s3.trans s4)).trans b5).wo x.1) _ _ d2) trivial (fun _ => kb)⟩
      · exact ⟨t, _, 2, _, rfl, rfl, .inl (.inl et), rfl, q _ m3 (.turn 2) bz hp5 (dp_same (((But.of s4).trans b5).wo x.1) _ _ d3) trivial (fun _ => kb)⟩
    refine ⟨.int k, rfl, rfl, _, rfl, ite2 (fun e5 => ?_) (fun e5 => ?_)⟩
    · exact ⟨by show 1 ≤ sizeLine; decide, fun t nt => q _ t .bump (bt.trans (But.of (same_upd nt))) (hp3.upd (hp3.ne_new nt)) (tupW x3 nt (.cons (.str _) .nil)) trivial (fun _ => kb)⟩
    refine ⟨.int k, rfl, rfl, _, rfl, ite2 (fun e6 => ?_) (fun e6 => ?_)⟩
    · refine ⟨.ref p, rfl, p, 9, rfl, by decide, by decide, hp3, fun H5 r b5 hp5 r0 r1 => ⟨_, _, rfl, rfl, .str z, rfl, by show 3 ≤ sizeLine; decide, fun t nt => ?_⟩⟩
      obtain ⟨n, hn⟩ := nine r0 r1
      have ed : Ent.tup (.spy n z) = .tuple [.str "spy", .int (1 + r), .str z] := by rw [hn]; rfl
      exact q _ t (.spy n z) ((bt.trans b5).trans (But.of (same_upd nt))) (hp5.upd (hp5.ne_new nt)) (by rw [ed]; exact tupW (x.but (bt.trans b5) hp5) nt (.cons (.str _) (.cons (.int _) (.cons (.str _) .nil)))) ⟨hz, hk⟩ (fun _ => kb)
    refine ⟨.ref p, rfl, p, 9, rfl, by decide, by decide, hp3, fun H5 r b5 hp5 r0 r1 => ⟨_, _, rfl, rfl, by show 2 ≤ sizeLine; decide, fun t nt => ?_⟩⟩
    obtain ⟨n, hn⟩ := nine r0 r1
    have ed : Ent.tup (.go n) = .tuple [.str "go", .int (1 + r)] := by rw [hn]; rfl
    exact q _ t (.go n) ((bt.trans b5).trans (But.of (same_upd nt))) (hp5.upd (hp5.ne_new nt)) (by rw [ed]; exact tupW (x.but (bt.trans b5) hp5) nt (.cons (.str _) (.cons (.int _) .nil))) trivial (fun _ => kb)
--@@SPLIT
/-! ### a log drawn -/
theorem dpa_len2 {K : PySem.W.Frag} {H : Hp} {ds : List PyData} {vs : List V} (h : DpAll K H vs ds) : vs.length = ds.length := dpa_len ds vs h
theorem tup_at {K : PySem.W.Frag} {H : Hp} {t : Addr} {e : Ent} (h : Dp K H (.ref t) (Ent.tup e)) : ∃ xs, SqT K H t (.str (ws e.kind) :: xs) ∧ DpAll K H xs e.rest := by
  cases h with
  | @tup _ ys _ hs ha =>
    cases ha with
    | cons h1 h2 =>
      cases h1
      exact ⟨_, hs, h2⟩
theorem HX.or {p D : Addr} {X : Addr → Prop} {H : Hp} (x : HX p X H) (h : H D ≠ none) : HX p (fun b => X b ∨ b = D) H := ⟨.inl x.1, fun c z => z.elim (x.2 c) (fun e => by rw [e]; exact h)⟩
theorem some_ne {H : Hp} {b : Addr} {o : HO} (h : H b = some o) : H b ≠ none := by rw [h]; exact fun z => nomatch z
theorem wo_less {H : Hp} {X Y : Addr → Prop} (h : ∀ b, X b → Y b) : Same (wo H Y) (wo H X) := fun c o z => by
  have h2 := wo_some z
  rw [wo_in (X := X) (fun z => h2.1 (h c z))]
  exact h2.2
theorem wo_mut {H : Hp} {X : Addr → Prop} {D : Addr} {o : HO} (h : X D) : Same (wo H X) (wo (upd H D o) X) := fun c u z => by
  have h2 := wo_some z
  rw [wo_in (X := X) h2.1, upd_ne (fun z : c = D => h2.1 (by rw [z]; exact h))]
  exact h2.2
def spAnyLog (K : PySem.W.Frag) : Sp := fun vs H Q _ => ∃ (p : Addr) (m s : Int) (X : Addr → Prop), vs = [.ref p, .int m, .int s] ∧ 0 ≤ m ∧ m ≤ 100 ∧ Pool H p ∧ HX p X H ∧ ∀ H' t xs es, But p H H' → Pool H' p → H t = none → SqT K (wo H' X) t xs → DpAll K (wo H' X) xs (es.map Ent.tup) → (es.length : Int) = m → (∀ e ∈ es, e.ok) → Right es → ((swaps es : Int) ≤ s ∨ s < 0) → Q (.ref t) H'
theorem ok_Lany_log (T : Top w K mg) : FnOk P w K mg base CX0 5 T.a_Lany_log T.fd_Lany_log ["_law_pool_here", "_law_many", "_law_swaps"] (spAnyLog K) := by
  have G_Lany_entry := ok_Lany_entry (P := P) (w := w) (base := base) T
  refine T.F_Lany_log.ok sc_Lany_log (fun vs H Q E h => ?_) (fun cdv A outer s H vs Q E hr h => ?_)
  · obtain ⟨p, m, s, X, rfl, _⟩ := h
    rfl
  · obtain ⟨p, m, sw, X, rfl, m0, m1, hp, x, q⟩ := h
    refine ⟨_, (pss_cons (ps_set (i := 3) sc_Lany_log.nd rfl (.inl rfl) (pe_lst pa_nil))
      (pss_cons (ps_set (i := 4) sc_Lany_log.nd rfl (.inl rfl) pe_bl)
      (pss_cons (ps_set (i := 5) sc_Lany_log.nd rfl (.inl rfl) (pv 2))
      (pss_cons (ps_for PassesOwn.never rfl (pi_range1 (by rfl) T.m_range (pa_cons (pv 1) pa_nil)) (pg_name (i := 6) sc_Lany_log.nd rfl (.inl rfl)) (pss_cons (ps_set (i := 7) sc_Lany_log.nd rfl (.inl rfl) (pe_call G_Lany_entry hr (by rfl) T.g_Lany_entry T.F_Lany_entry.kp T.b_Lany_entry .nil pass0 (pa_cons (pv 0) (pa_cons (pv 4) pa_nil))))
      (Evl.pss_cut (ps_if (PW.pt (pw_and (pt_cmpR op_eq (pe_ix ix_tup (pv 7) pe_int (fun _ _ => rfl)) pe_str (nomark _)) (pw_and1 (pt_cmpR op_eq (pv 5) pe_int (nomark _))))) (pss_one (ps_set (i := 7) sc_Lany_log.nd rfl (.inl rfl) (pe_tup (pa_cons pe_str pa_nil)))) pss_nil)
      (Evl.pss_cut (ps_set (i := 5) sc_Lany_log.nd rfl (.inl rfl) (pe_op op_sub (pv 5) (pe_callTy call_int1 (by rfl) T.m_int (by decide +kernel) (pa_cons (pe_cmpR op_eq (pe_ix ix_tup (pv 7) pe_int (fun _ _ => rfl)) pe_str (nomark _)) pa_nil))))
      (Evl.pss_cut (ps_set (i := 4) sc_Lany_log.nd rfl (.inl rfl) (pe_or (pv 4) (pe_one (pe_cmpR op_eq (pe_ix ix_tup (pv 7) pe_int (fun _ _ => rfl)) pe_str (nomark _)))))
      (pss_one (ps_expr (pe_bm PySem.F.plainAttrs_list PySem.F.slot_list_append PySem.F.type_list_append mt_append (pv 3) (pa_cons (pv 7) pa_nil)))))))))
      (pss_one (ps_ret (pe_callTy call_tuple_of (by rfl) T.m_tuple (by decide +kernel) (pa_cons (pv 3) pa_nil)))))))), ?_⟩
    refine ⟨Nat.zero_le _, fun L nL => ?_⟩
    have nLp : L ≠ p := hp.ne_new nL
    have s0 := same_upd (o := .lst []) nL
    obtain ⟨n, rfl⟩ : ∃ n : Nat, m = n := ⟨m.toNat, by omega⟩
    refine ⟨_, rfl, .int n, rfl, n, rfl, by omega, by omega, for_range (n := n) (fun i σ H' => But p H H' ∧ Pool H' p ∧ ∃ (l : Int) (y6 y7 : Option V) (ys : List V) (es : List Ent), σ = [some (.ref p), some (.int n), some (.int sw), some (.ref L), some (.bl (es.any Ent.isFace)), some (.int l), y6, y7] ∧ H' L = some (.lst ys) ∧ es.length = i ∧ DpAll K (wo H' (fun b => X b ∨ b = L)) ys (es.map Ent.tup) ∧ (∀ e ∈ es, e.ok) ∧ Right es ∧ l = sw - swaps es ∧ (0 ≤ l ∨ sw < 0))
      ⟨But.of s0, hp.same s0, sw, none, none, [], [], rfl, upd_same, rfl, .nil, (fun d h => nomatch h), Right.nil, by show sw = sw - ((0 : Nat) : Int); omega, by omega⟩ ?_ ?_⟩
    · rintro i σ H1 hi ⟨b1, hp1, l, y6, y7, ys, es, rfl, eL, hl, ha, hg, hR, hl1, hl2⟩
      have x1 : HX p (fun b => X b ∨ b = L) H1 := (x.but b1 hp1).or (some_ne eL)
      refine ⟨.ref p, rfl, .bl _, rfl, p, _, _, rfl, hp1, x1, fun H2 t e b2 hp2 hd gd hn => ?_⟩
      have eL2 := b2 _ _ nLp eL
      have x2 := x1.but b2 hp2
      refine ⟨fun σ H' => Same H2 H' ∧ ∃ (y6 : Option V) (t : Addr) (e : Ent), σ = [some (.ref p), some (.int n), some (.int sw), some (.ref L), some (.bl (es.any Ent.isFace)), some (.int l), y6, some (.ref t)] ∧ Dp K (wo H' (fun b => X b ∨ b = L)) (.ref t) (Ent.tup e) ∧ e.ok ∧ (e.need = true → es.any Ent.isFace = true) ∧ (e.isSwap = true → l ≠ 0), ?_, ?_⟩
      · obtain ⟨us, hs, _⟩ := tup_at hd
        refine ⟨.ref t, rfl, t, _, 0, _, rfl, rfl, sqt_same wo_same hs, atI_nat (j := 0) rfl, rfl, _, rfl, ?_⟩
        have dw : decide (V.str (ws e.kind) = V.str (PySem.Str.ofString "swap")) = e.isSwap := (wsd e.kind 9).trans e.swap_iff.symm
        rw [dw]
        refine ite2 (fun e1 => ?_) (fun e1 => ?_)
        · refine ⟨.int l, rfl, rfl, _, rfl, ite2 (fun e2 => ?_) (fun e2 => ?_)⟩
          · exact ⟨by show 1 ≤ sizeLine; decide, fun t2 n2 => ⟨same_upd n2, _, t2, .bare, rfl, tupW x2 n2 (.cons (.str "bare") .nil), trivial, (fun z => nomatch z), fun z => nomatch z⟩⟩
          · exact ⟨Same.refl _, _, t, e, rfl, hd, gd, hn, fun _ z => e2 (by rw [z]; exact decide_eq_true rfl)⟩
        · exact ite2 (fun z => nomatch z) (fun _ => ⟨Same.refl _, _, t, e, rfl, hd, gd, hn, fun z => absurd z e1⟩)
      rintro σ H3 ⟨s3, y6, t, e, rfl, hd, gd, hn, hsw⟩
      obtain ⟨us, hs, _⟩ := tup_at hd
      have hs3 := sqt_same wo_same hs
      have dw : decide (V.str (ws e.kind) = V.str (PySem.Str.ofString "swap")) = e.isSwap := (wsd e.kind 9).trans e.swap_iff.symm
      have df : decide (V.str (ws e.kind) = V.str (PySem.Str.ofString "face")) = e.isFace := (wsd e.kind 0).trans e.face_iff.symm
      refine ⟨fun σ H' => H3 = H' ∧ σ = [some (.ref p), some (.int n), some (.int sw), some (.ref L), some (.bl (es.any Ent.isFace)), some (.int (l - (if e.isSwap = true then 1 else 0))), y6, some (.ref t)], ?_, ?_⟩
      · refine ⟨.int l, rfl, .ref t, rfl, t, _, 0, _, rfl, rfl, hs3, atI_nat (j := 0) rfl, rfl, .inr ⟨_, rfl, _, _, rfl, rfl, rfl, ?_⟩⟩
        show _ = _
        rw [dw]
        cases e.isSwap <;> rfl
      rintro σ H4 ⟨rfl, rfl⟩
      refine ⟨fun σ H' => H3 = H' ∧ σ = [some (.ref p), some (.int n), some (.int sw), some (.ref L), some (.bl ((es ++ [e]).any Ent.isFace)), some (.int (l - (if e.isSwap = true then 1 else 0))), y6, some (.ref t)], ?_, ?_⟩
      · have ea : (es ++ [e]).any Ent.isFace = (es.any Ent.isFace || e.isFace) := by
          rw [List.any_append]
          show (_ || (e.isFace || false)) = _
          rw [Bool.or_false]
        refine ⟨_, rfl, _, rfl, ?_⟩
        cases eb : es.any Ent.isFace with
        | true =>
          rw [ea, eb]
          exact iteT ⟨rfl, rfl⟩
        | false =>
          rw [ea, eb]
          refine iteF ⟨.ref t, rfl, t, _, 0, _, rfl, rfl, hs3, atI_nat (j := 0) rfl, rfl, rfl, ?_⟩
          show _ = _
          rw [df]
          rfl
      rintro σ H4 ⟨rfl, rfl⟩
      have eL3 := s3 _ _ eL2
      have lx := dpa_len2 ha
      rw [List.length_map] at lx
      refine ⟨.ref L, rfl, .inl ⟨rfl, _, .inl (.inl eL3)⟩, .ref t, rfl, L, ys, _, rfl, rfl, eL3, small1000 (by omega), ?_⟩
      have b3 := b2.trans (But.of s3)
      have m6 : Same (wo H3 (fun b => X b ∨ b = L)) (wo (upd H3 L (.lst (ys ++ [.ref t]))) (fun b => X b ∨ b = L)) := wo_mut (.inr rfl)
      refine ⟨(b1.trans b3).mut nL, (hp2.same s3).upd nLp, _, _, _, ys ++ [.ref t], es ++ [e], rfl, upd_same, ?_, ?_, ?_, hR.snoc hn, ?_, ?_⟩
      · rw [List.length_append, hl]
        rfl
      · rw [List.map_append]
        exact dpa_snoc (dp_same m6 _ _ hd) _ _ (dpa_same ((b3.wo (.inl x.1)).trans m6) _ _ ha)
      · intro d h
        rcases List.mem_append.mp h with h | h
        · exact hg d h
        · rw [List.mem_singleton.mp h]
          exact gd
      · rw [swaps_snoc]
        split <;> omega
      · cases es1 : e.isSwap with
        | false => rw [if_neg Bool.false_ne_true]; omega
        | true =>
          have := hsw es1
          rw [if_pos rfl]
          omega
    · rintro σ H1 ⟨b1, hp1, l, y6, y7, ys, es, rfl, eL, hl, ha, hg, hR, hl1, hl2⟩
      refine ⟨.ref L, rfl, L, ys, rfl, .inl ⟨.inl (.inl eL), fun r nr => ?_⟩⟩
      have x1 := x.but b1 hp1
      have sr := same_upd (o := .tup ys) nr
      have nr0 : H r = none := by
        cases e : H r with
        | none => rfl
        | some o =>
          by_cases z : r = p
          · rw [z] at nr
            exact absurd nr hp1.known
          · rw [b1 r o z e] at nr
            cases nr
      exact q _ r ys es (b1.trans (But.of sr)) (hp1.same sr) nr0 (.inl (.inl ((wo_in (X := X) (x1.fresh nr)).trans upd_same))) (dpa_same ((wo_less (fun b z => .inl z)).trans ((But.of sr).wo x.1)) _ _ ha) (by rw [hl]) hg hR (by omega)
--@@SPLIT
def rLstOf (K : PySem.W.Frag) : List V → Hp → VK → Prop := fun xs H Q => ∃ p ys, xs = [.ref p] ∧ (SqL K H p ys ∨ SqT K H p ys) ∧ ∀ l, H l = none → Q (.ref l) (upd H l (.lst ys))
theorem call_lstK {X : Cx} {K : PySem.W.Frag} (h : X.K = K) : CallR X (.type "list") (rLstOf K) := by
  subst h
  exact call_list_of
theorem wo_bn {p D : Addr} {X : Addr → Prop} {H H' : Hp} (xp : X p) (b : But p H H') (n : H D = none) : Same (wo H X) (wo H' (fun b => X b ∨ b = D)) := fun c o h1 => by
  have h2 := wo_some h1
  have hc : c ≠ D := ne_of_none h2.2 n
  rw [wo_in (X := fun b => X b ∨ b = D) (fun z => z.elim h2.1 hc)]
  exact b _ _ (fun z => h2.1 (by rw [z]; exact xp)) h2.2
theorem map_more {es : List Ent} {fs : List PyData} {i : Nat} {e : Ent} {d' : PyData} (he : fs.map seqD = (es.take i).map fun e => some e.parts) (fd : es[i]? = some e) (h : seqD d' = some e.parts) : (fs ++ [d']).map seqD = (es.take (i + 1)).map fun e => some e.parts := by
  rw [List.take_add_one, fd, List.map_append, List.map_append, he]
  show _ ++ [seqD d'] = _ ++ [some e.parts]
  rw [h]
def spListed (K : PySem.W.Frag) : Sp := fun vs H Q _ => ∃ (p t : Addr) (xs : List V) (es : List Ent) (X : Addr → Prop), vs = [.ref p, .ref t] ∧ Pool H p ∧ HX p X H ∧ SqT K (wo H X) t xs ∧ DpAll K (wo H X) xs (es.map Ent.tup) ∧ es.length ≤ 100 ∧
  ∀ H' e ys, But p H H' → Pool H' p → SqA K (wo H' X) e ys → Rows K (wo H' X) ys es → Q (.ref e) H'
theorem ok_Llisted (T : Top w K mg) : FnOk P w K mg base CX0 2 T.a_Llisted T.fd_Llisted ["_law_pool_here", "_law_log"] (spListed K) := by
  have G_Ltake := ok_Ltake (P := P) (w := w) (base := base) T
  refine T.F_Llisted.ok sc_Llisted (fun vs H Q E h => ?_) (fun cdv A outer s H vs Q E hr h => ?_)
  · obtain ⟨p, t, xs, es, X, rfl, _⟩ := h
    rfl
  · obtain ⟨p, t, xs, es, X, rfl, hp, x, hs, ha, hl, q⟩ := h
    have lx := dpa_len2 ha
    rw [List.length_map] at lx
    refine ⟨_, (pss_cons (ps_setLc (i := 2) (own := [("_law_entry", 3)]) (g := gName 3) (by rfl) sc_Llisted.nd rfl rfl (sw_true rfl rfl rfl (by decide +kernel)) (pi_tup (pv 1)) (blkOk_by (own := [("_law_entry", 3)]) (N := ["_law_pool_here", "_law_log", "_law_rows", "_law_entry"]) (sc := defScope s_Llisted) (by decide +kernel)) (fun _ _ _ _ _ => (pg_name (i := 3) sc_Llisted.nd rfl (Or.inl rfl))) (fun _ _ _ _ _ => pts_nil) (fun _ _ _ _ _ => (pe_ifExp (pt_cmpR op_eq (pe_call G_Ltake hr (by rfl) T.g_Ltake T.F_Ltake.kp T.b_Ltake .nil pass0 (pa_cons (pv 0) (pa_cons pe_int pa_nil))) pe_int (nomark _)) (pe_callTy (T := "list") (r := rLstOf K) (call_lstK rfl) (by rfl) T.m_list (by decide +kernel) (pa_cons (pv 3) pa_nil)) (pv 3))))
      (pss_one (ps_ret (pe_ifExp (pt_cmpR op_eq (pe_call G_Ltake hr (by rfl) T.g_Ltake T.F_Ltake.kp T.b_Ltake .nil pass0 (pa_cons (pv 0) (pa_cons pe_int pa_nil))) pe_int (nomark _)) (pv 2) (pe_callTy call_tuple_of (by rfl) T.m_tuple (by decide +kernel) (pa_cons (pv 2) pa_nil)))))), ?_⟩
    refine ⟨.ref t, rfl, t, rfl, ⟨xs, sqt_same wo_same hs⟩, fun D hD => lc_it (walk_tup (xs := xs)) (fun i H' => But p H H' ∧ Pool H' p ∧ ∃ (ys : List V) (fs : List PyData), ys.length = i ∧ (fs.map seqD = (es.take i).map fun e => some e.parts) ∧ DpAll K (wo H' (fun b => X b ∨ b = D)) ys fs ∧ H' D = some (.lst ys)) ⟨But.of (same_upd hD), hp.same (same_upd hD), [], [], rfl, rfl, .nil, upd_same⟩ (fun i H' _ h => sqt_same ((h.1.wo x.1).trans wo_same) hs) ?_ ?_⟩
    · rintro i v H1 H2 hi ⟨b1, hp1, ys, fs, ly, he, hy, eD⟩ ⟨rfl, hx⟩
      have nD : D ≠ p := hp.ne_new hD
      refine ⟨rfl, ?_⟩
      refine ⟨.ref p, rfl, p, 2, rfl, by decide, by decide, hp1, fun H3 j b3 hp3 _ _ => ⟨rfl, _, rfl, ?_⟩⟩
      obtain ⟨d, fd, gd⟩ := dpa_at _ xs (dpa_same (wo_bn x.1 (b1.trans b3) hD) _ _ ha) i v hx
      rw [List.getElem?_map] at fd
      obtain ⟨e, fe, rfl⟩ : ∃ e, es[i]? = some e ∧ Ent.tup e = d := by
        cases e1 : es[i]? with
        | none => rw [e1] at fd; cases fd
        | some e => rw [e1] at fd; exact ⟨e, rfl, Option.some.inj fd⟩
      have eD3 := b3 _ _ nD eD
      have x3 := (x.but (b1.trans b3) hp3).or (some_ne eD3)
      have fin : ∀ (H5 : Hp) (u : V) (d' : PyData), Same H3 H5 → Dp K (wo H5 (fun b => X b ∨ b = D)) u d' → seqD d' = some e.parts → (But p H (upd H5 D (.lst (ys ++ [u]))) ∧ Pool (upd H5 D (.lst (ys ++ [u]))) p ∧ ∃ (zs : List V) (gs : List PyData), zs.length = i + 1 ∧ (gs.map seqD = (es.take (i + 1)).map fun e => some e.parts) ∧ DpAll K (wo (upd H5 D (.lst (ys ++ [u]))) (fun b => X b ∨ b = D)) zs gs ∧ (upd H5 D (.lst (ys ++ [u]))) D = some (.lst zs)) := fun H5 u d' s5 hu hd' => by
        have m5 : Same (wo H2 (fun b => X b ∨ b = D)) (wo H5 (fun b => X b ∨ b = D)) := (b3.trans (But.of s5)).wo (X := fun b => X b ∨ b = D) (.inl x.1)
        have m6 : Same (wo H5 (fun b => X b ∨ b = D)) (wo (upd H5 D (.lst (ys ++ [u]))) (fun b => X b ∨ b = D)) := wo_mut (X := fun b => X b ∨ b = D) (.inr rfl)
        exact ⟨((b1.trans b3).trans (But.of s5)).mut hD, (hp3.same s5).upd nD, ys ++ [u], fs ++ [d'], by rw [List.length_append, ly]; rfl, map_more he fe hd', dpa_snoc (dp_same m6 _ _ hu) _ _ (dpa_same (m5.trans m6) _ _ hy), upd_same⟩
      have gd3 := gd
      cases gd3 with
      | @tup q0 us _ hq hu =>
      refine ite2 (fun e => ?_) (fun e => ?_)
      · refine ⟨.ref q0, rfl, q0, us, rfl, .inr (sqt_same wo_same hq), fun l nl => ?_⟩
        have sl := same_upd (o := .lst us) nl
        exact ⟨ys, sl _ _ eD3, small1000 (by omega), fin _ (.ref l) (.list _) sl (lstW x3 nl hu) rfl⟩
      · exact ⟨.ref q0, rfl, ys, eD3, small1000 (by omega), fin _ _ _ (Same.refl _) gd rfl⟩
    · rintro H4 ⟨b4, hp4, ys, fs, ly, he, hy, eD⟩
      rw [lx, List.take_length] at he
      have nD : D ≠ p := hp.ne_new hD
      refine ⟨.ref p, rfl, p, 2, rfl, by decide, by decide, hp4, fun H5 j b5 hp5 _ _ => ⟨rfl, _, rfl, ?_⟩⟩
      have eD5 := b5 _ _ nD eD
      have hy5 := dpa_same (((b5.wo (X := fun b => X b ∨ b = D) (.inl x.1))).trans (wo_less (fun b z => .inl z))) _ _ hy
      refine ite2 (fun e => ?_) (fun e => ?_)
      · exact ⟨.ref D, rfl, q H5 D ys (b4.trans b5) hp5 (.inl (.inl (.inl ((wo_in (X := X) (x.fresh hD)).trans eD5)))) ⟨fs, hy5, he⟩⟩
      · refine ⟨.ref D, rfl, D, ys, rfl, .inl ⟨.inl (.inl eD5), fun r nr => ?_⟩⟩
        have sr := same_upd (o := .tup ys) nr
        have x5 := x.but (b4.trans b5) hp5
        exact q _ r ys ((b4.trans b5).trans (But.of sr)) (hp5.same sr) (.inr (.inl (.inl ((wo_in (X := X) (x5.fresh nr)).trans upd_same)))) ⟨fs, dpa_same ((But.of sr).wo x.1) _ _ hy5, he⟩
--@@SPLIT
/-! ### the text of an entry that is right, and back -/
theorem sg_mem {z : Str} (h : Ent.sgS z = true) : z.length ≤ 8 ∧ ∀ c ∈ z.cps.toList, c ∈ SMALLs.cps.toList ∨ c ∈ GREATs.cps.toList := by
  unfold Ent.sgS at h
  have hl := len_toList z
  cases e : z.cps.toList with
  | nil =>
    rw [e] at h
    cases h
  | cons c r =>
    rw [e] at h hl
    rcases Bool.or_eq_true_iff.mp h with h | h
    · obtain ⟨h1, h2⟩ := Bool.and_eq_true_iff.mp (show (shL (c :: r) && (c :: r).all smC) = true from h)
      refine ⟨?_, fun d hd => .inl (of_decide_eq_true (List.all_eq_true.mp h2 d hd))⟩
      have := of_decide_eq_true (Bool.and_eq_true_iff.mp h1).2
      omega
    · obtain ⟨h1, h2⟩ := Bool.and_eq_true_iff.mp (show (shL (c :: r) && (grC c && r.all smC)) = true from h)
      obtain ⟨h3, h4⟩ := Bool.and_eq_true_iff.mp h2
      refine ⟨?_, fun d hd => ?_⟩
      · have := of_decide_eq_true (Bool.and_eq_true_iff.mp h1).2
        omega
      · rcases List.mem_cons.mp hd with hd | hd
        · rw [hd]
          exact .inr (of_decide_eq_true h3)
        · exact .inl (of_decide_eq_true (List.all_eq_true.mp h4 d hd))
theorem sm_32 : 32 ∉ SMALLs.cps.toList ∧ 32 ∉ GREATs.cps.toList := by decide +kernel
theorem sg_free {z : Str} (h : Ent.sgS z = true) : 32 ∉ z.cps.toList := fun hm => (((sg_mem h).2 32 hm).elim sm_32.1 sm_32.2)
theorem ws_free : ∀ i : Fin 10, 32 ∉ (ws i).cps.toList := by decide +kernel
theorem lt_free : ∀ l : Fin 4, 32 ∉ (Lt l).cps.toList := by decide +kernel
theorem lt_len : ∀ l : Fin 4, (Lt l).length ≤ 100 := by decide +kernel
theorem ws_len : ∀ i : Fin 10, (ws i).length ≤ 100 := by decide +kernel
theorem fin_nat (n : Fin 9) : ((n.val : Int) + 1) = ((n.val + 1 : Nat) : Int) := by omega
theorem ws_gs : ∀ i : Fin 10, goSpy (ws i) = decide (i = 4 ∨ i = 8) := by decide +kernel
/-- a part as it may stand in a text: it can be written, and has no blank -/
structure PartT (d : PyData) : Prop where
  ok : partOk d = true
  free : 32 ∉ (partT d).cps.toList
theorem pt_str {z : Str} (h1 : z.length ≤ 100) (h2 : 32 ∉ z.cps.toList) : PartT (.str z) := ⟨decide_eq_true h1, h2⟩
theorem part_int {i : Int} (h0 : 0 ≤ i) (h1 : i < 10 ^ 30) : partOk (.int i) = true := by
  show (decide (0 ≤ i) && decide (i < 10 ^ 30)) = true
  rw [decide_eq_true h0, decide_eq_true h1]
  rfl
theorem pt_int (n : Fin 9) : PartT (.int ((n.val : Int) + 1)) := by
  rw [fin_nat]
  refine ⟨part_int (Int.natCast_nonneg _) ?_, ?_⟩
  · have h1 : ((n.val + 1 : Nat) : Int) < 10 := by omega
    have h : (10 : Int) < 10 ^ 30 := by decide +kernel
    exact Int.lt_trans h1 h
  · show 32 ∉ (figT (n.val + 1)).cps.toList
    rw [tl_fig]
    exact TL.numL_free (by decide)
theorem ent_parts {e : Ent} (h : e.ok) : ∀ d ∈ e.parts, PartT d := by
  have hw : PartT (.str (ws e.kind)) := pt_str (ws_len _) (ws_free _)
  intro d hd
  rcases List.mem_cons.mp hd with hd | hd
  · rw [hd]
    exact hw
  have sg : ∀ {z : Str}, (z.length ≤ 12 ∧ PyData.strOk z = true ∧ Ent.sgS z = true) → PartT (.str z) := fun h => pt_str (by have := h.1; omega) (sg_free h.2.2)
  cases e with
  | face l =>
    rw [List.mem_singleton.mp hd]
    exact pt_str (lt_len l) (lt_free l)
  | go n =>
    rw [List.mem_singleton.mp hd]
    exact pt_int n
  | sign z =>
    rw [List.mem_singleton.mp hd]
    exact sg h
  | spy n z =>
    rcases List.mem_cons.mp hd with hd | hd
    · rw [hd]
      exact pt_int n
    · rw [List.mem_singleton.mp hd]
      exact sg h
  | turn q => cases hd
  | bump => cases hd
  | bare => cases hd
  | swap => cases hd
theorem ent_words {e : Ent} (h : e.ok) : Txt.split (entT e.parts) blank = e.parts.map partT :=
  TL.split_join (s := 32) (S := []) blank_tl (by decide +kernel) (fun z => nomatch z) fun p hp => by
    obtain ⟨d, hd, rfl⟩ := List.mem_map.mp hp
    exact (ent_parts h d hd).free
theorem num_part (n : Fin 9) : numD (numIn (partT (.int ((n.val : Int) + 1))).cps.toList) = .int ((n.val : Int) + 1) := by
  rw [fin_nat]
  show numD (numIn (figT (n.val + 1)).cps.toList) = _
  rw [numIn_fig (Nat.lt_of_lt_of_le (show n.val + 1 < 10 by omega) (by decide +kernel))]
  rfl
theorem gs_no {i : Fin 10} (h : ¬ (i = 4 ∨ i = 8)) {α : Type} (a b : α) : (if goSpy (ws i) = true then a else b) = b := by
  rw [ws_gs, decide_eq_false h]
  rfl
theorem gs_yes {i : Fin 10} (h : i = 4 ∨ i = 8) {α : Type} (a b : α) : (if goSpy (ws i) = true then a else b) = a := by
  rw [ws_gs, decide_eq_true h]
  rfl
theorem ent_ds (e : Ent) : entDs (e.parts.map partT) = e.parts := by
  cases e with
  | face l =>
    show [PyData.str (ws 0), if goSpy (ws 0) = true then _ else PyData.str (Lt l)] = _
    rw [gs_no (by decide)]
    rfl
  | go n =>
    show [PyData.str (ws 4), if goSpy (ws 4) = true then numD (numIn (partT (.int ((n.val : Int) + 1))).cps.toList) else _] = _
    rw [gs_yes (by decide), num_part]
    rfl
  | sign z =>
    show [PyData.str (ws 6), if goSpy (ws 6) = true then _ else PyData.str z] = _
    rw [gs_no (by decide)]
    rfl
  | spy n z =>
    show [PyData.str (ws 8), (if goSpy (ws 8) = true then numD (numIn (partT (.int ((n.val : Int) + 1))).cps.toList) else _), PyData.str z] = _
    rw [gs_yes (by decide), num_part]
    rfl
  | turn q => rfl
  | bump => rfl
  | bare => rfl
  | swap => rfl
theorem parts_len (e : Ent) : e.parts.length ≤ 3 := by
  cases e with
  | face l => exact (show 2 ≤ 3 by decide)
  | turn q => exact (show 1 ≤ 3 by decide)
  | go n => exact (show 2 ≤ 3 by decide)
  | bump => exact (show 1 ≤ 3 by decide)
  | sign z => exact (show 2 ≤ 3 by decide)
  | bare => exact (show 1 ≤ 3 by decide)
  | spy n z => exact (show 3 ≤ 3 by decide)
  | swap => exact (show 1 ≤ 3 by decide)
theorem spl_len (S : List Nat) : ∀ (n : Nat) (l acc : List Nat), l.length ≤ n → ∀ p ∈ TL.spl S 0 acc l, p.length ≤ acc.length + l.length
  | _, [], acc, _, p, hp => by
    rw [TL.spl_nil] at hp
    rw [List.mem_singleton.mp hp]
    omega
  | 0, c :: r, acc, h, p, hp => by cases h
  | n + 1, c :: r, acc, h, p, hp => by
    have hr : r.length ≤ n := Nat.le_of_succ_le_succ h
    cases e : TL.pre S (c :: r) with
    | true =>
      rw [TL.spl_hit e] at hp
      rcases List.mem_cons.mp hp with hp | hp
      · rw [hp]
        omega
      · rw [TL.spl_pass] at hp
        have := spl_len S n _ [] (by rw [List.length_drop]; omega) p hp
        rw [List.length_drop] at this
        have h0 : ([] : List Nat).length = 0 := rfl
        rw [List.length_cons]
        omega
    | false =>
      rw [TL.spl_miss e] at hp
      have := spl_len S n r (acc ++ [c]) hr p hp
      rw [List.length_append] at this
      have h1 : [c].length = 1 := rfl
      rw [List.length_cons]
      omega
theorem ent_len {e : Ent} (h : e.ok) : (entT e.parts).length ≤ 400 := by
  unfold entT
  have h1 := part_sum e.parts (fun d hd => (ent_parts h d hd).ok)
  have h2 := parts_len e
  have jl : ∀ ys : List Str, (Str.join blank ys).length ≤ (ys.map (·.length)).sum + ys.length := fun ys => by
    induction ys with
    | nil => exact Nat.zero_le _
    | cons y r ih =>
      cases r with
      | nil =>
        show y.length ≤ y.length + 0 + 1
        omega
      | cons z r =>
        have e1 : (Str.join blank (y :: z :: r)).length = (y.length + blank.length) + (Str.join blank (z :: r)).length := by
          show (y ++ blank ++ Str.join blank (z :: r)).length = _
          have ap : ∀ a b : Str, (a ++ b).length = a.length + b.length := fun a b => by
            show (a.cps ++ b.cps).size = _
            rw [Array.size_append]
            rfl
          rw [ap, ap]
        rw [e1, show blank.length = 1 by decide +kernel, List.map_cons, List.sum_cons, List.length_cons]
        omega
  rw [TL.join_eq]
  have := jl (e.parts.map partT)
  rw [List.length_map] at this
  omega
def spReadEnt (K : PySem.W.Frag) : Sp := fun vs H Q _ => ∃ (e : Ent), vs = [.str (entT e.parts)] ∧ e.ok ∧ ∀ H' r, Same H H' → Dp K H' (.ref r) e.tup → Q (.ref r) H'
theorem ent_ok1 {e : Ent} (h : e.ok) : okD 1 (Ent.tup e) = true := by
  refine Bool.and_eq_true_iff.mpr ⟨decide_eq_true (by have := parts_len e; omega), List.all_eq_true.mpr fun d hd => ?_⟩
  have := (ent_parts h d hd).ok
  cases d with
  | str z => rfl
  | int i => rfl
  | _ => cases this
--@@SPLIT
/-! ### logs as texts -/
abbrev semi : Str := PySem.Str.ofString "; "
abbrev strokeL : Str := PySem.Str.ofString "-"
theorem semi_tl : semi.cps.toList = [59, 32] := by decide +kernel
theorem semi_len : semi.length = 2 := by decide +kernel
def entTs (es : List Ent) : List Str := es.map fun e => entT e.parts
def logJ (es : List Ent) : Str := Txt.join semi (entTs es)
def logT (es : List Ent) : Str := if es.isEmpty = true then strokeL else logJ es
theorem joinL_mem {S : List Nat} {c : Nat} : ∀ ps : List (List Nat), c ∈ TL.joinL S ps → c ∈ S ∨ ∃ p ∈ ps, c ∈ p
  | [], h => nomatch h
  | [p], h => .inr ⟨p, List.mem_cons_self, h⟩
  | p :: q :: r, h => by
    rcases List.mem_append.mp (show c ∈ p ++ (S ++ TL.joinL S (q :: r)) from h) with h | h
    · exact .inr ⟨p, List.mem_cons_self, h⟩
    · rcases List.mem_append.mp h with h | h
      · exact .inl h
      · rcases joinL_mem (q :: r) h with h | ⟨x, hx, hc⟩
        · exact .inl h
        · exact .inr ⟨x, List.mem_cons_of_mem _ hx, hc⟩
theorem joinL_ge {S : List Nat} (p : List Nat) : ∀ ps : List (List Nat), p.length ≤ (TL.joinL S (p :: ps)).length
  | [] => Nat.le_refl _
  | q :: r => by
    show p.length ≤ (p ++ (S ++ TL.joinL S (q :: r))).length
    rw [List.length_append]
    omega
theorem joinL_le {S : List Nat} {n : Nat} : ∀ ps : List (List Nat), (∀ p ∈ ps, p.length ≤ n) → (TL.joinL S ps).length ≤ (n + S.length) * ps.length
  | [], _ => Nat.zero_le _
  | [p], h => by
    have := h p List.mem_cons_self
    show p.length ≤ (n + S.length) * 1
    omega
  | p :: q :: r, h => by
    have h1 := joinL_le (S := S) (q :: r) (fun x hx => h x (List.mem_cons_of_mem _ hx))
    have h2 := h p List.mem_cons_self
    show (p ++ (S ++ TL.joinL S (q :: r))).length ≤ (n + S.length) * ((q :: r).length + 1)
    rw [List.length_append, List.length_append, Nat.mul_add]
    omega
theorem tl_joinT (y : Str) (ws : List Str) : (Txt.join y ws).cps.toList = TL.joinL y.cps.toList (ws.map fun z => z.cps.toList) := by
  rw [TL.join_eq]
  exact TL.tl_join y ws
theorem sm_59 : 59 ∉ SMALLs.cps.toList ∧ 59 ∉ GREATs.cps.toList := by decide +kernel
theorem ws_59 : ∀ i : Fin 10, 59 ∉ (ws i).cps.toList := by decide +kernel
theorem lt_59 : ∀ l : Fin 4, 59 ∉ (Lt l).cps.toList := by decide +kernel
theorem ws_two : ∀ i : Fin 10, 2 ≤ (ws i).cps.toList.length := by decide +kernel
theorem sg_59 {z : Str} (h : Ent.sgS z = true) : 59 ∉ z.cps.toList := fun hm => (((sg_mem h).2 59 hm).elim sm_59.1 sm_59.2)
theorem int_59 (n : Fin 9) : 59 ∉ (partT (.int ((n.val : Int) + 1))).cps.toList := by
  rw [fin_nat]
  show 59 ∉ (figT (n.val + 1)).cps.toList
  rw [tl_fig]
  exact TL.numL_free (by decide)
theorem part_59 {e : Ent} (h : e.ok) : ∀ d ∈ e.parts, 59 ∉ (partT d).cps.toList := by
  intro d hd
  rcases List.mem_cons.mp hd with hd | hd
  · rw [hd]
    exact ws_59 _
  cases e with
  | face l => rw [List.mem_singleton.mp hd]; exact lt_59 l
  | go n => rw [List.mem_singleton.mp hd]; exact int_59 n
  | sign z => rw [List.mem_singleton.mp hd]; exact sg_59 h.2.2
  | spy n z =>
    rcases List.mem_cons.mp hd with hd | hd
    · rw [hd]; exact int_59 n
    · rw [List.mem_singleton.mp hd]; exact sg_59 h.2.2
  | turn q => cases hd
  | bump => cases hd
  | bare => cases hd
  | swap => cases hd
theorem ent_59 {e : Ent} (h : e.ok) : 59 ∉ (entT e.parts).cps.toList := fun hm => by
  unfold entT at hm
  rw [tl_joinT] at hm
  rcases joinL_mem _ hm with h1 | ⟨p, hp, hc⟩
  · rw [blank_tl] at h1
    exact absurd (List.mem_singleton.mp h1) (by decide)
  · rw [List.map_map] at hp
    obtain ⟨d, hd, rfl⟩ := List.mem_map.mp hp
    exact part_59 h d hd hc
theorem ent_two (e : Ent) : 2 ≤ (entT e.parts).cps.toList.length := by
  unfold entT
  rw [tl_joinT]
  show 2 ≤ (TL.joinL blank.cps.toList ((ws e.kind).cps.toList :: (e.rest.map partT).map fun z => z.cps.toList)).length
  exact Nat.le_trans (ws_two e.kind) (joinL_ge _ _)
theorem logJ_two {e : Ent} {es : List Ent} : 2 ≤ (logJ (e :: es)).length := by
  rw [← len_toList]
  unfold logJ
  rw [tl_joinT]
  show 2 ≤ (TL.joinL semi.cps.toList ((entT e.parts).cps.toList :: (entTs es).map fun z => z.cps.toList)).length
  exact Nat.le_trans (ent_two e) (joinL_ge _ _)
theorem logJ_len {es : List Ent} (h : ∀ e ∈ es, e.ok) : (logJ es).length ≤ 402 * es.length := by
  rw [← len_toList]
  unfold logJ
  rw [tl_joinT, semi_tl]
  have := joinL_le (S := [59, 32]) (n := 400) ((entTs es).map fun z => z.cps.toList) (fun p hp => by
    rw [show entTs es = es.map (fun e => entT e.parts) from rfl, List.map_map] at hp
    obtain ⟨e, he, rfl⟩ := List.mem_map.mp hp
    show (entT e.parts).cps.toList.length ≤ 400
    rw [len_toList]
    exact ent_len (h e he))
  rw [List.length_map, show (entTs es).length = es.length from List.length_map _] at this
  exact this
theorem log_split {es : List Ent} (ne : es ≠ []) (h : ∀ e ∈ es, e.ok) : Txt.split (logJ es) semi = entTs es := by
  refine TL.split_join (s := 59) (S := [32]) semi_tl (by decide +kernel) (fun z => ne (List.map_eq_nil_iff.mp z)) fun p hp => ?_
  obtain ⟨e, he, rfl⟩ := List.mem_map.mp hp
  exact ent_59 (h e he)
theorem entTs_sum {es : List Ent} (h : ∀ e ∈ es, e.ok) : ((entTs es).map (·.length)).sum ≤ 400 * es.length := by
  induction es with
  | nil => exact Nat.zero_le _
  | cons e es ih =>
    have h1 := ih (fun x hx => h x (List.mem_cons_of_mem _ hx))
    have h2 := ent_len (h e List.mem_cons_self)
    show (entT e.parts).length + ((entTs es).map (·.length)).sum ≤ 400 * (es.length + 1)
    omega
theorem ent_dpa {K : PySem.W.Frag} {H : Hp} {v : V} {e : Ent} (h : EntAt K H v e) : ∃ a us, v = .ref a ∧ SqA K H a us ∧ DpAll K H us e.parts := by
  obtain ⟨a, xs, h1, h2, h3⟩ := h
  exact ⟨a, _, h1, h2, .cons (.str _) h3⟩
def spLogText (K : PySem.W.Frag) : Sp := fun vs H Q _ => ∃ (a : Addr) (xs : List V) (es : List Ent), vs = [.ref a] ∧ SqA K H a xs ∧ Rows K H xs es ∧ (∀ e ∈ es, e.ok) ∧ es.length ≤ 200 ∧ ∀ H', Same H H' → Q (.str (logT es)) H'
theorem entTs_succ {es : List Ent} {i : Nat} {e : Ent} (h : es[i]? = some e) : entTs (es.take (i + 1)) = entTs (es.take i) ++ [entT e.parts] := by
  unfold entTs
  rw [List.take_add_one, h, List.map_append]
  rfl
theorem ok_log_text (T : Top w K mg) : FnOk P w K mg base CX0 2 T.a_log_text T.fd_log_text ["log"] (spLogText K) := by
  have G_entry_text := ok_entry_text (P := P) (w := w) (base := base) T
  refine T.F_log_text.ok sc_log_text (fun vs H Q E h => ?_) (fun cdv A outer s H vs Q E hr h => ?_)
  · obtain ⟨a, xs, es, rfl, _⟩ := h
    rfl
  · obtain ⟨a, xs, es, rfl, hs, ha, hok, hl, q⟩ := h
    have lx := ha.len
    refine ⟨_, (pss_one (ps_ret (pe_orT (pe_bm PySem.F.plainAttrs_str PySem.F.slot_str_join PySem.F.type_str_join mt_join pe_str (pa_cons (pe_lc (own := [("entry", 1)]) (g := gName 1) (by rfl) sc_log_text.nd (SeqW.pi_seq (pv 0)) (blkOk_by (own := [("entry", 1)]) (N := ["log", "entry"]) (sc := defScope s_log_text) (by decide +kernel)) (fun _ _ _ _ _ => (pg_name (i := 1) sc_log_text.nd rfl (Or.inl rfl))) (fun _ _ _ _ _ => pts_nil) (fun _ _ _ _ _ => (pe_call G_entry_text hr (by rfl) T.g_entry_text T.F_entry_text.kp T.b_entry_text .nil pass0 (pa_cons (pv 1) pa_nil)))) pa_nil)) (pe_one (pe_glob (v := .str "-") (by rfl) T.g_NONE_AT_ALL.choose_spec ⟨_, rfl⟩))))), ?_⟩
    refine ⟨rfl, .ref a, rfl, a, xs, rfl, (fun H' => Same H H'), kpA hs, Same.refl _, fun J G wk hG D hD => lc_it wk (fun i H' => Same H H' ∧ H' D = some (.lst ((entTs (es.take i)).map V.str))) ⟨same_upd hD, upd_same⟩ (fun i H' _ h => hG _ h.1) ?_ ?_⟩
    · rintro i v H1 H2 hi ⟨sm, eD⟩ ⟨rfl, hx⟩
      obtain ⟨en, fe, hen⟩ := (ha.same sm).at_ hx
      obtain ⟨b, us, rfl, hb, hu⟩ := ent_dpa hen
      have eok := hok en (List.mem_of_getElem? fe)
      have pl := parts_len en
      refine ⟨rfl, _, rfl, b, us, en.parts, rfl, hb, hu, fun d hd => (ent_parts eok d hd).ok, by omega, fun H3 s3 => ⟨_, s3 _ _ eD, ?_, fun c o h => ?_, ?_⟩⟩
      · unfold entTs
        rw [List.length_map, List.length_map, List.length_take]
        exact small1000 (by omega)
      · rw [upd_ne (ne_of_none h hD)]
        exact s3 _ _ (sm _ _ h)
      · rw [upd_same, entTs_succ fe, List.map_append]
        rfl
    · rintro H1 ⟨sm, eD⟩
      rw [lx, List.take_length] at eD
      have hsum := entTs_sum hok
      have hlen := logJ_len hok
      have lt : (entTs es).length = es.length := List.length_map _
      refine ⟨_, D, entTs es, rfl, rfl, .inl (.inl (.inl eD)), ?_, ?_⟩
      · rw [lt, show (PySem.Str.ofString "; ").length = 2 from semi_len]
        omega
      · refine ⟨_, ⟨by show (logJ es).length ≤ sizeLine; exact Nat.le_trans (show (logJ es).length ≤ 100000 by omega) (by decide), rfl⟩, ?_⟩
        have h := q H1 sm
        unfold logT at h
        show if (((logJ es).length : Int) != 0) = true then Q (.str (logJ es)) H1 else _
        cases es with
        | nil =>
          rw [show (logJ []).length = 0 by decide +kernel]
          exact iteF h
        | cons x r =>
          have l2 := logJ_two (e := x) (es := r)
          rw [show (((logJ (x :: r)).length : Int) != 0) = true by
            rw [bne_iff_ne]
            omega]
          exact iteT h
def spReadLog (K : PySem.W.Frag) : Sp := fun vs H Q _ => ∃ (es : List Ent), vs = [.str (logT es)] ∧ (∀ e ∈ es, e.ok) ∧ Right es ∧ es.length ≤ 200 ∧ ∀ H' r, Same H H' → Dp K H' (.ref r) (.tuple (es.map Ent.tup)) → Q (.ref r) H'
theorem ok_read_log (T : Top w K mg) : FnOk P w K mg base CX0 7 T.a_read_log T.fd_read_log ["text"] (spReadLog K) := by
  have G_entry_in := ok_entry_in (P := P) (w := w) (base := base) T
  have G_held_log := ok_held_log (P := P) (w := w) (base := base) T
  refine T.F_read_log.ok sc_read_log (fun vs H Q E h => ?_) (fun cdv A outer s H vs Q E hr h => ?_)
  · obtain ⟨es, rfl, _⟩ := h
    rfl
  · obtain ⟨es, rfl, hok, hR, hl, q⟩ := h
    refine ⟨_, (pss_cons (ps_if (pt_cmpR op_eq (pv 0) (pe_glob (v := .str "-") (by rfl) T.g_NONE_AT_ALL.choose_spec ⟨_, rfl⟩) (nomark _)) (pss_one (ps_ret (pe_tup pa_nil))) pss_nil)
      (pss_one (ps_try_thru0 (pss_one (ps_ret (pe_call G_held_log hr (by rfl) T.g_held_log T.F_held_log.kp T.b_held_log .nil pass0 (pa_cons (pe_lc (own := [("part", 2)]) (g := gName 2) (by rfl) sc_read_log.nd (pi_list (pe_bm PySem.F.plainAttrs_str PySem.F.slot_str_split PySem.F.type_str_split mt_split (pv 0) (pa_cons pe_str pa_nil))) (blkOk_by (own := [("part", 2)]) (N := ["text", "why", "part"]) (sc := defScope s_read_log) (by decide +kernel)) (fun _ _ _ _ _ => (pg_name (i := 2) sc_read_log.nd rfl (Or.inl rfl))) (fun _ _ _ _ _ => pts_nil) (fun _ _ _ _ _ => (pe_call G_entry_in hr (by rfl) T.g_entry_in T.F_entry_in.kp T.b_entry_in .nil pass0 (pa_cons (pv 2) pa_nil)))) pa_nil))))))), ?_⟩
    refine ⟨_, rfl, rfl, _, rfl, ?_⟩
    cases el : es with
    | nil =>
      rw [show decide (V.str (logT []) = V.str (PySem.Str.ofString "-")) = true by exact decide_eq_true rfl]
      refine iteT ⟨Nat.zero_le _, fun r nr => ?_⟩
      rw [el] at q
      exact q _ r (same_upd nr) (.tup (.inl (.inl upd_same)) .nil)
    | cons x r =>
      have ne : es ≠ [] := by rw [el]; exact fun z => nomatch z
      rw [← el]
      have eT : logT es = logJ es := by
        rw [el]
        rfl
      have l2 : 2 ≤ (logJ es).length := by rw [el]; exact logJ_two
      have hlen := logJ_len hok
      rw [eT]
      refine iteDN (decide_eq_false fun z => ?_) ?_
      · have := congrArg Str.length (V.str.inj z)
        rw [show (PySem.Str.ofString "-").length = 1 by decide +kernel] at this
        omega
      refine ⟨_, rfl, rfl, _, _, rfl, rfl, by decide +kernel, Nat.le_trans (show (logJ es).length + 2 ≤ 100000 by omega) (by decide), fun W nW => ?_⟩
      rw [show Txt.split (logJ es) (PySem.Str.ofString "; ") = entTs es from log_split ne hok]
      have sW := same_upd (o := .lst ((entTs es).map V.str)) nW
      have eW : upd H W (.lst ((entTs es).map V.str)) W = some (.lst ((entTs es).map V.str)) := upd_same
      generalize upd H W (.lst ((entTs es).map V.str)) = H1 at sW eW
      refine ⟨W, rfl, ⟨_, .inl (.inl eW)⟩, fun D hD => lc_it (walk_list (xs := (entTs es).map V.str)) (fun i H' => Same H1 H' ∧ ∃ ys, H' D = some (.lst ys) ∧ DpAll K (wo H' (fun c => c = D)) ys ((es.take i).map Ent.tup)) ⟨same_upd hD, [], upd_same, .nil⟩ (fun i H' _ h => .inl (.inl (h.1 _ _ eW))) ?_ ?_⟩
      · rintro i v H2 H3 hi ⟨sm, ys, eD, hy⟩ ⟨rfl, hx⟩
        rw [show entTs es = es.map (fun e => entT e.parts) from rfl, List.map_map, List.getElem?_map] at hx
        obtain ⟨e, fe, rfl⟩ : ∃ e, es[i]? = some e ∧ V.str (entT e.parts) = v := by
          cases e1 : es[i]? with
          | none => rw [e1] at hx; cases hx
          | some e => rw [e1] at hx; exact ⟨e, rfl, Option.some.inj hx⟩
        have ok := hok e (List.mem_of_getElem? fe)
        have hle := ent_len ok
        have hp := parts_len e
        have ly := dpa_len2 hy
        rw [List.length_map, List.length_take] at ly
        refine ⟨rfl, _, rfl, entT e.parts, e.parts.map partT, rfl, by omega, ent_words ok, by rw [List.length_map]; omega, ?_, ?_, ?_⟩
        · intro x hx
          obtain ⟨d, hd, rfl⟩ := List.mem_map.mp hx
          have := part_len (ent_parts ok d hd).ok
          omega
        · intro _ H4 r' xs s4 nr er hx
          rw [ent_ds] at hx
          have nrD : r' ≠ D := Ne.symm (ne_of_none eD nr)
          have m5 : Same (wo H3 (fun c => c = D)) (wo (upd H4 D (.lst (ys ++ [.ref r']))) (fun c => c = D)) := fun c o h => by
            have h2 := wo_some h
            rw [wo_in (X := fun c => c = D) h2.1, upd_ne h2.1]
            exact s4 _ _ h2.2
          refine ⟨ys, s4 _ _ eD, small1000 (by omega), fun c o h => ?_, _, upd_same, ?_⟩
          · rw [upd_ne (ne_of_none h hD)]
            exact s4 _ _ (sm _ _ h)
          · rw [List.take_add_one, fe, List.map_append]
            refine dpa_snoc ?_ _ _ (dpa_same m5 _ _ hy)
            refine dp_kp (fun c o z h => ?_) 1 _ _ (ent_ok1 ok) (show Dp K H4 (.ref r') (Ent.tup e) from .tup (.inl (.inl er)) hx)
            have hc : c ≠ D := fun y => by rw [y, s4 _ _ eD] at h; cases h; cases z
            rw [wo_in (X := fun c => c = D) hc, upd_ne hc]
            exact h
        · intro z
          rw [ent_ds, ent_L ok] at z
          cases z
      rintro H2 ⟨sm, ys, eD, hy⟩
      rw [List.length_map, show (entTs es).length = es.length from List.length_map _, List.take_length] at hy
      refine ⟨D, ys, es, rfl, .inl (.inl (.inl eD)), rows_tup (dpa_same wo_same _ _ hy), hok, hR, hl, fun H3 r2 zs s3 nr er hz => ?_⟩
      exact q _ r2 ((sW.trans sm).trans s3) (.tup (.inl (.inl er)) hz)
--@@SPLIT
/-! ### data that can be shown -/
structure Good (d : PyData) (n w : Nat) : Prop where
  sh : d.showable = true
  nd : d.hasDict = false
  dep : d.depth ≤ n
  lay : d.canLay0 = true
  short : d.intsShort 13 = true
  wt : d.weight ≤ w
structure GoodL (ds : List PyData) (n w : Nat) : Prop where
  sh : PyData.showableAll ds = true
  nd : PyData.hasDictAll ds = false
  dep : PyData.depthAll ds ≤ n
  lay : PyData.canLayAll0 ds = true
  short : PyData.intsShortAll 13 ds = true
  wt : PyData.weightAll ds ≤ (w + 1) * ds.length
theorem good_all {n w : Nat} : ∀ ds : List PyData, (∀ d ∈ ds, Good d n w) → GoodL ds n w
  | [], _ => ⟨rfl, rfl, Nat.zero_le _, rfl, rfl, Nat.zero_le _⟩
  | d :: ds, h => by
    have i := good_all ds (fun x hx => h x (List.mem_cons_of_mem _ hx))
    have g := h d List.mem_cons_self
    refine ⟨?_, ?_, ?_, ?_, ?_, ?_⟩
    · show (d.showable && PyData.showableAll ds) = true
      rw [g.sh, i.sh]; rfl
    · show (d.hasDict || PyData.hasDictAll ds) = false
      rw [g.nd, i.nd]; rfl
    · exact Nat.max_le.mpr ⟨g.dep, i.dep⟩
    · show (d.canLay0 && PyData.canLayAll0 ds) = true
      rw [g.lay, i.lay]; rfl
    · show (PyData.intsShort 13 d && PyData.intsShortAll 13 ds) = true
      rw [g.short, i.short]; rfl
    · have h1 := g.wt
      have h2 := i.wt
      show d.weight + 1 + PyData.weightAll ds ≤ (w + 1) * (ds.length + 1)
      rw [Nat.mul_add]
      omega
theorem GoodL.list {ds : List PyData} {n w : Nat} (h : GoodL ds n w) : Good (.list ds) (n + 1) ((w + 1) * ds.length) := ⟨h.sh, h.nd, Nat.succ_le_succ h.dep, h.lay, h.short, h.wt⟩
theorem GoodL.tuple {ds : List PyData} {n w : Nat} (h : GoodL ds n w) : Good (.tuple ds) (n + 1) ((w + 1) * ds.length) := ⟨h.sh, h.nd, Nat.succ_le_succ h.dep, h.lay, h.short, h.wt⟩
theorem Good.more {d : PyData} {n w m v : Nat} (h : Good d n w) (h1 : n ≤ m) (h2 : w ≤ v) : Good d m v := ⟨h.sh, h.nd, Nat.le_trans h.dep h1, h.lay, h.short, Nat.le_trans h.wt h2⟩
theorem Good.shown {d : PyData} {n w : Nat} (h : Good d n w) (hn : n ≤ 60) (hw : w ≤ 1000000) : d.shown.length ≤ sizeLine := by
  have h1 := h.dep
  have h2 := h.wt
  have l : PyData.layable0 d = true := by
    show (d.canLay0 && decide (d.depth ≤ 64) && decide (d.weight ≤ 2 ^ 20)) = true
    rw [h.lay, decide_eq_true (by omega), decide_eq_true (by omega)]
    rfl
  exact Nat.le_trans (PyProof.Rows.shown_le13 l h.short) (by decide)
theorem good_str {z : Str} (h1 : z.length ≤ 12) (h2 : PyData.strOk z = true) : Good (.str z) 1 12 := ⟨rfl, rfl, Nat.zero_le _, h2, rfl, h1⟩
theorem good_int : ∀ n : Fin 9, Good (.int ((n.val : Int) + 1)) 1 12 := by
  have h : ∀ n : Fin 9, (PyData.int ((n.val : Int) + 1)).showable = true ∧ (PyData.int ((n.val : Int) + 1)).intsShort 13 = true ∧ (PyData.int ((n.val : Int) + 1)).weight ≤ 12 := by decide +kernel
  exact fun n => ⟨(h n).1, rfl, Nat.zero_le _, rfl, (h n).2.1, (h n).2.2⟩
theorem lt_ok : ∀ l : Fin 4, (Lt l).length ≤ 12 ∧ PyData.strOk (Lt l) = true := by decide +kernel
theorem good_part {e : Ent} (h : e.ok) : ∀ d ∈ e.parts, Good d 1 12 := by
  intro d hd
  rcases List.mem_cons.mp hd with hd | hd
  · rw [hd]; exact good_str (ws_ok _).2 (ws_ok _).1
  cases e with
  | face l => rw [List.mem_singleton.mp hd]; exact good_str (lt_ok l).1 (lt_ok l).2
  | go n => rw [List.mem_singleton.mp hd]; exact good_int n
  | sign z => rw [List.mem_singleton.mp hd]; exact good_str h.1 h.2.1
  | spy n z =>
    rcases List.mem_cons.mp hd with hd | hd
    · rw [hd]; exact good_int n
    · rw [List.mem_singleton.mp hd]; exact good_str h.1 h.2.1
  | turn q => cases hd
  | bump => cases hd
  | bare => cases hd
  | swap => cases hd
theorem good_ent {e : Ent} (h : e.ok) {d : PyData} (hs : seqD d = some e.parts) : Good d 2 39 := by
  have g := good_all e.parts (good_part h)
  have l := parts_len e
  have lw : (12 + 1) * e.parts.length ≤ 39 := by omega
  cases d with
  | list ds => cases hs; exact g.list.more (Nat.le_refl _) lw
  | tuple ds => cases hs; exact g.tuple.more (Nat.le_refl _) lw
  | _ => cases hs
theorem good_rows {es : List Ent} (h : ∀ e ∈ es, e.ok) {ds : List PyData} (hs : ds.map seqD = es.map fun e => some e.parts) : GoodL ds 2 39 := by
  refine good_all ds fun d hd => ?_
  obtain ⟨i, hi⟩ := List.mem_iff_getElem?.mp hd
  have e1 : (ds.map seqD)[i]? = some (seqD d) := by rw [List.getElem?_map, hi]; rfl
  rw [hs, List.getElem?_map] at e1
  cases e2 : es[i]? with
  | none => rw [e2] at e1; cases e1
  | some e =>
    rw [e2] at e1
    exact good_ent (h e (List.mem_of_getElem? e2)) (Option.some.inj e1).symm
theorem log_ok2 {es : List Ent} (h : ∀ e ∈ es, e.ok) (hl : es.length ≤ 1000) : okD 2 (.tuple (es.map Ent.tup)) = true := by
  refine Bool.and_eq_true_iff.mpr ⟨decide_eq_true (by rw [List.length_map]; exact hl), List.all_eq_true.mpr fun d hd => ?_⟩
  obtain ⟨e, he, rfl⟩ := List.mem_map.mp hd
  exact ent_ok1 (h e he)
/-- what is handed, as data that can be shown -/
theorem handed_good {K : PySem.W.Frag} {H : Hp} {e : Addr} {ys : List V} {es : List Ent} (hs : SqA K H e ys) (hr : Rows K H ys es) (hok : ∀ e ∈ es, e.ok) (hl : es.length ≤ 100) : ∃ d, Good d 3 4000 ∧ ∀ H', Same H H' → Dp K H' (.ref e) d := by
  obtain ⟨ds, h1, h2⟩ := hr
  have g := good_rows hok h2
  have ld : ds.length = es.length := by
    have := congrArg List.length h2
    rw [List.length_map, List.length_map] at this
    exact this
  rcases hs with h | h
  · exact ⟨.list ds, g.list.more (Nat.le_refl _) (by omega), fun H' s => .lst (s.seq h) (dpa_same s _ _ h1)⟩
  · exact ⟨.tuple ds, g.tuple.more (Nat.le_refl _) (by omega), fun H' s => .tup (sqt_same s h) (dpa_same s _ _ h1)⟩
def spLaw (K : PySem.W.Frag) : Sp := fun vs H Q _ => ∃ (a : Addr) (ns : List Int), vs = [.ref a] ∧ SqL K H a (ns.map V.int) ∧ ns.length ≤ 63 ∧ ∀ H', Q (.bl true) H'
theorem ok_law (T : Top w K mg) : GuG.FnG P w K mg base 8 T.a_law T.fd_law ["_law_script"] (spLaw K) := by
  have G_Lpool := ok_Lpool (P := P) (w := w) (base := base) T
  have G_Ltake := ok_Ltake (P := P) (w := w) (base := base) T
  have G_Lany_log := ok_Lany_log (P := P) (w := w) (base := base) T
  have G_Llisted := ok_Llisted (P := P) (w := w) (base := base) T
  have G_log_text := ok_log_text (P := P) (w := w) (base := base) T
  have G_read_log := ok_read_log (P := P) (w := w) (base := base) T
  have G_Lsame := ok_Lsame (P := P) (w := w) (base := base) T 2
  refine GuG.okG T.F_law sc_law (fun vs H Q E h => ?_) (fun cdv A outer s H vs Q E gd hr h => ?_)
  · obtain ⟨a, ns, rfl, _⟩ := h
    rfl
  · obtain ⟨a, ns, rfl, hS, hlen, q⟩ := h
    refine ⟨_, (pss_cons (ps_set (i := 1) sc_law.nd rfl (.inl rfl) (pe_call G_Lpool (hr.mono (by decide)) (by rfl) T.g_Lpool T.F_Lpool.kp T.b_Lpool .nil pass0 (pa_cons (pv 0) (pa_cons pe_int pa_nil))))
      (pss_cons (ps_for PassesOwn.never rfl (pi_range1 (by rfl) T.m_range (pa_cons (pe_op op_add pe_int (pe_call G_Ltake (hr.mono (by decide)) (by rfl) T.g_Ltake T.F_Ltake.kp T.b_Ltake .nil pass0 (pa_cons (pv 1) (pa_cons pe_int pa_nil)))) pa_nil)) (pg_name (i := 2) sc_law.nd rfl (.inl rfl)) (pss_cons (ps_set (i := 3) sc_law.nd rfl (.inl rfl) (pe_call G_Lpool (hr.mono (by decide)) (by rfl) T.g_Lpool T.F_Lpool.kp T.b_Lpool .nil pass0 (pa_cons (pv 0) (pa_cons (pe_op op_add pe_int (pv 2)) pa_nil))))
      (pss_cons (ps_set (i := 4) sc_law.nd rfl (.inl rfl) (pe_call G_Lany_log (hr.mono (by decide)) (by rfl) T.g_Lany_log T.F_Lany_log.kp T.b_Lany_log .nil pass0 (pa_cons (pv 3) (pa_cons (pe_call G_Ltake (hr.mono (by decide)) (by rfl) T.g_Ltake T.F_Ltake.kp T.b_Ltake .nil pass0 (pa_cons (pv 3) (pa_cons pe_int pa_nil))) (pa_cons pe_int pa_nil)))))
      (pss_cons (ps_setLc (i := 5) (own := [("_law_entry", 9)]) (g := gName 9) (by rfl) sc_law.nd rfl rfl (sw_true rfl rfl rfl (by decide +kernel)) (pi_tup (pv 4)) (blkOk_by (own := [("_law_entry", 9)]) (N := ["_law_script", "_law_pool_here", "_law_k", "_law_there", "_law_log", "_law_rows", "_law_due", "_law_handed", "_law_kept", "_law_entry", "_law_part"]) (sc := defScope s_law) (by decide +kernel)) (fun _ _ _ _ _ => (pg_name (i := 9) sc_law.nd rfl (Or.inl rfl))) (fun _ _ _ _ _ => pts_nil) (fun _ _ _ _ _ => (SeqK.pe_bmK (K := K) rfl PySem.F.plainAttrs_str PySem.F.slot_str_join PySem.F.type_str_join (r := SeqK.rJoin K) (SeqK.joinK rfl) pe_str (pa_cons (pe_lc (own := [("_law_part", 10)]) (g := gName 10) (by rfl) sc_law.nd (SeqK.pi_seqK (K := K) rfl (pv 9)) (blkOk_by (own := [("_law_part", 10)]) (N := ["_law_script", "_law_pool_here", "_law_k", "_law_there", "_law_log", "_law_rows", "_law_due", "_law_handed", "_law_kept", "_law_entry", "_law_part"]) (sc := ({ kind := PySem.ScopeKind.function, names := [(PySem.Str.ofString ".0", PySem.NameKind.local), (PySem.Str.ofString "_law_entry", PySem.NameKind.local)], isGenerator := false, isCoroutine := false, more := [] : PySem.Scope })) (by decide +kernel)) (fun _ _ _ _ _ => (pg_name (i := 10) sc_law.nd rfl (Or.inl rfl))) (fun _ _ _ _ _ => pts_nil) (fun _ _ _ _ _ => (pe_callTy call_strA (by rfl) T.m_str (by decide +kernel) (pa_cons (pv 10) pa_nil)))) pa_nil))))
      (pss_cons (ps_set (i := 6) sc_law.nd rfl (.inl rfl) (pe_bm PySem.F.plainAttrs_str PySem.F.slot_str_join PySem.F.type_str_join mt_join pe_str (pa_cons (pv 5) pa_nil)))
      (Evl.pss_cut (ps_if (pt_cmpR op_eq (pe_callB call_len_seq (by rfl) T.m_len (by decide +kernel) (pa_cons (pv 4) pa_nil)) pe_int (nomark _)) (pss_one (ps_set (i := 6) sc_law.nd rfl (.inl rfl) pe_str)) pss_nil)
      (pss_cons (ps_set (i := 7) sc_law.nd rfl (.inl rfl) (pe_call G_Llisted (hr.mono (by decide)) (by rfl) T.g_Llisted T.F_Llisted.kp T.b_Llisted .nil pass0 (pa_cons (pv 3) (pa_cons (pv 4) pa_nil))))
      (pss_cons (ps_set (i := 8) sc_law.nd rfl (.inl rfl) (pe_callTy (GuG.call_strD gd hr.units) (by rfl) T.m_str (by decide +kernel) (pa_cons (pv 7) pa_nil)))
      (pss_cons (ps_if (PW.pt (pw_or (pt_not (pt_val (pe_call G_Lsame (hr.mono (by decide)) (by rfl) T.g_Lsame T.F_Lsame.kp T.b_Lsame .nil pass0 (pa_cons (pe_call G_log_text (hr.mono (by decide)) (by rfl) T.g_log_text T.F_log_text.kp T.b_log_text .nil pass0 (pa_cons (pv 7) pa_nil)) (pa_cons (pv 6) pa_nil))))) (pw_or (pt_cmpR op_ne (pe_callTy (GuG.call_strD gd hr.units) (by rfl) T.m_str (by decide +kernel) (pa_cons (pv 7) pa_nil)) (pv 8) (nomark _)) (pw_or1 (pt_not (pt_val (pe_call G_Lsame (hr.mono (by decide)) (by rfl) T.g_Lsame T.F_Lsame.kp T.b_Lsame .nil pass0 (pa_cons (pe_call G_log_text (hr.mono (by decide)) (by rfl) T.g_log_text T.F_log_text.kp T.b_log_text .nil pass0 (pa_cons (pv 4) pa_nil)) (pa_cons (pv 6) pa_nil))))))))) (pss_one (ps_ret pe_bl)) pss_nil)
      (pss_one (ps_if (pt_not (pt_val (pe_call G_Lsame (hr.mono (by decide)) (by rfl) T.g_Lsame T.F_Lsame.kp T.b_Lsame .nil pass0 (pa_cons (pe_call G_read_log hr (by rfl) T.g_read_log T.F_read_log.kp T.b_read_log .nil pass0 (pa_cons (pv 6) pa_nil)) (pa_cons (pv 4) pa_nil))))) (pss_one (ps_ret pe_bl)) pss_nil)))))))))))
      (pss_one (ps_ret pe_bl)))), ?_⟩
    refine ⟨.ref a, rfl, a, ns, 0, rfl, hS, hlen, by decide, fun H1 p sm np hp => ?_⟩
    refine ⟨.ref p, rfl, p, 6, rfl, by decide, by decide, hp, fun H2 k b2 hp2 k0 k1 => ?_⟩
    have b02 : ∀ c o, H c = some o → H2 c = some o := fun c o h => b2 _ _ (ne_of_none h np) (sm _ _ h)
    have hS2 : SqL K H2 a (ns.map V.int) := by
      rcases hS with (h | ⟨o, h⟩) | h
      · exact .inl (.inl (b02 _ _ h))
      · exact .inl (.inr ⟨o, b02 _ _ h⟩)
      · exact .inr h
    obtain ⟨m, rfl⟩ : ∃ m : Nat, k = m := ⟨k.toNat, by omega⟩
    refine ⟨_, _, rfl, rfl, 1 + (m : Int), rfl, by omega, by omega, for_range (n := (1 + (m : Int)).toNat) (fun i σ H' => Same H2 H' ∧ ∃ y2 y3 y4 y5 y6 y7 y8 y9 y10, σ = [some (.ref a), some (.ref p), y2, y3, y4, y5, y6, y7, y8, y9, y10]) ⟨Same.refl _, _, _, _, _, _, _, _, _, _, rfl⟩ ?_ (fun σ H' _ => q H')⟩
    rintro i σ H3 hi ⟨s3, y2, y3, y4, y5, y6, y7, y8, y9, y10, rfl⟩
    refine ⟨.ref a, rfl, _, rfl, _, _, rfl, rfl, a, ns, _, rfl, s3.seq hS2, hlen, by omega, fun H4 t0 s4 nt0 hp4 => ?_⟩
    refine ⟨.ref t0, rfl, .ref t0, rfl, t0, 41, rfl, by decide, by decide, hp4, fun H5 n b5 hp5 n0 n1 => ?_⟩
    refine ⟨t0, n, 5, (fun b => b = t0), rfl, n0, by omega, hp5, ⟨rfl, fun b h => h ▸ hp5.known⟩, fun H6 t xs es b6 hp6 nt hs ha hl hok hR hsw => ?_⟩
    have lx := dpa_len2 ha
    rw [List.length_map] at lx
    have les : es.length ≤ 40 := by omega
    have hs6 := sqt_same wo_same hs
    have ha6 := dpa_same wo_same _ _ ha
    have hr6 := rows_tup ha6
    -- the texts of the entries
    refine ⟨.ref t, rfl, t, rfl, ⟨xs, hs6⟩, fun D hD => lc_it (walk_tup (xs := xs)) (fun j H' => Same H6 H' ∧ H' D = some (.lst ((entTs (es.take j)).map V.str))) ⟨same_upd hD, upd_same⟩ (fun j H' _ h => sqt_same h.1 hs6) ?_ ?_⟩
    · rintro j v H7 H8 hj ⟨s8, eD⟩ ⟨rfl, hx⟩
      obtain ⟨en, fe, hen⟩ := (hr6.same s8).at_ hx
      obtain ⟨b, us, rfl, hb, hu⟩ := ent_dpa hen
      have eok := hok en (List.mem_of_getElem? fe)
      have pl := parts_len en
      have lu := dpa_len2 hu
      refine ⟨rfl, rfl, .ref b, rfl, b, us, rfl, (fun H' => Same H8 H'), kpA hb, Same.refl _, fun J G wk hG D2 hD2 => lc_it wk (fun k H' => Same H8 H' ∧ H' D2 = some (.lst (((en.parts.take k).map partT).map V.str))) ⟨same_upd hD2, upd_same⟩ (fun k H' _ h => hG _ h.1) ?_ ?_⟩
      · rintro k v H9 H10 hk ⟨s10, eD2⟩ ⟨rfl, hx2⟩
        obtain ⟨d, fd, gd'⟩ := dpa_at en.parts us hu k v hx2
        have pd := (ent_parts eok d (List.mem_of_getElem? fd)).ok
        have fin : ∃ acc, H10 D2 = some (.lst acc) ∧ acc.length < sizeLine ∧ (Same H8 (upd H10 D2 (.lst (acc ++ [.str (partT d)]))) ∧ (upd H10 D2 (.lst (acc ++ [.str (partT d)]))) D2 = some (.lst (((en.parts.take (k + 1)).map partT).map V.str))) := by
          refine ⟨_, eD2, ?_, ?_, ?_⟩
          · rw [List.length_map, List.length_map, List.length_take]
            exact small1000 (by omega)
          · exact fun b' o e => by
              rw [upd_ne (ne_of_none e hD2)]
              exact s10 _ _ e
          · rw [upd_same, List.take_add_one, fd, List.map_append, List.map_append]
            rfl
        refine ⟨rfl, v, rfl, ?_⟩
        cases gd' with
        | str z => exact .inr ⟨z, rfl, fin⟩
        | int i' =>
          obtain ⟨g0, g1⟩ := Bool.and_eq_true_iff.mp pd
          have g0 := of_decide_eq_true g0
          have g1 := of_decide_eq_true g1
          exact .inl ⟨i', rfl, log2_30 (by omega), fin⟩
        | _ => cases pd
      rintro H9 ⟨s9, eD2⟩
      rw [lu, List.take_length] at eD2
      have psum := part_sum en.parts (fun d hd => (ent_parts eok d hd).ok)
      refine ⟨_, D2, en.parts.map partT, rfl, rfl, .inl (.inl (.inl eD2)), ?_, _, s9 _ _ eD, ?_, fun c o h => ?_, ?_⟩
      · rw [List.length_map, show (PySem.Str.ofString " ").length = 1 by decide +kernel]
        omega
      · unfold entTs
        rw [List.length_map, List.length_map, List.length_take]
        exact small1000 (by omega)
      · rw [upd_ne (ne_of_none h hD)]
        exact s9 _ _ (s8 _ _ h)
      · rw [upd_same, entTs_succ fe, List.map_append]
        rfl
    rintro H7 ⟨s7, eD⟩
    rw [lx, List.take_length] at eD
    have hsum := entTs_sum hok
    have lt : (entTs es).length = es.length := List.length_map _
    refine ⟨rfl, _, rfl, _, D, entTs es, rfl, rfl, .inl (.inl (.inl eD)), ?_, ?_⟩
    · rw [lt, show (PySem.Str.ofString "; ").length = 2 from semi_len]
      omega
    have hs7 := sqt_same s7 hs6
    refine ⟨fun σ' H' => H7 = H' ∧ σ' = [some (.ref a), some (.ref p), some (.int (0 + (i : Int))), some (.ref t0), some (.ref t), some (.ref D), some (.str (logT es)), y7, y8, y9, y10], ?_, ?_⟩
    · refine ⟨.ref t, rfl, t, xs, rfl, .inr hs7, rfl, _, rfl, ?_⟩
      cases el : es with
      | nil =>
        have l0 : xs.length = 0 := by rw [lx, el]; rfl
        rw [l0]
        exact iteDY (decide_eq_true rfl) ⟨rfl, rfl⟩
      | cons x r =>
        refine iteDN (decide_eq_false fun z => ?_) ⟨rfl, rfl⟩
        have := V.int.inj z
        rw [lx, el, List.length_cons] at this
        omega
    rintro σ' H8 ⟨rfl, rfl⟩
    -- handed
    have hp7 := hp6.same s7
    have w67 : Same (wo H6 (fun b => b = t0)) (wo H7 (fun b => b = t0)) := fun c o h => by
      have h2 := wo_some h
      rw [wo_in (X := fun b => b = t0) h2.1]
      exact s7 _ _ h2.2
    refine ⟨.ref t0, rfl, .ref t, rfl, t0, t, xs, es, (fun b => b = t0), rfl, hp7, ⟨rfl, fun b h => h ▸ hp7.known⟩, sqt_same w67 hs, dpa_same w67 _ _ ha, by omega, fun H9 e ys b9 hp9 hsa hra => ?_⟩
    have hsa9 := hsa.same wo_same
    have hra9 := hra.same wo_same
    obtain ⟨d, gd3, hd⟩ := handed_good hsa9 hra9 hok (by omega)
    have sz := gd3.shown (by decide) (by decide)
    have dep := gd3.dep
    have w79 := b9.wo (X := fun b => b = t0) rfl
    have ht9 : SqT K H9 t xs := sqt_same ((w67.trans w79).trans wo_same) hs
    have hr9 : Rows K H9 xs es := rows_tup (dpa_same ((w67.trans w79).trans wo_same) _ _ ha)
    have hd9 : Dp K H9 (.ref t) (.tuple (es.map Ent.tup)) := .tup ht9 (dpa_same ((w67.trans w79).trans wo_same) _ _ ha)
    refine ⟨.ref e, rfl, e, d, rfl, hd _ (Same.refl _), gd3.sh, gd3.nd, by omega, sz, ?_⟩
    refine ⟨.ref e, rfl, e, ys, es, rfl, hsa9, hra9, hok, by omega, fun H10 s10 => ?_⟩
    refine ⟨_, rfl, _, _, .str (logT es), rfl, .str _, .str _, rfl, fun H11 s11 => ⟨_, rfl, iteF ?_⟩⟩
    have s911 := s10.trans s11
    refine ⟨.ref e, rfl, e, d, rfl, hd _ s911, gd3.sh, gd3.nd, by omega, sz, _, rfl, rfl, _, rfl, iteN rfl ?_⟩
    refine ⟨.ref t, rfl, t, xs, es, rfl, .inr (sqt_same s911 ht9), hr9.same s911, hok, by omega, fun H12 s12 => ?_⟩
    refine ⟨_, rfl, _, _, .str (logT es), rfl, .str _, .str _, rfl, fun H13 s13 => ⟨_, rfl, iteF ?_⟩⟩
    have s913 := (s911.trans s12).trans s13
    refine ⟨_, rfl, es, rfl, hok, hR, by omega, fun H14 r s14 hr14 => ?_⟩
    have s914 := s913.trans s14
    refine ⟨.ref t, rfl, .ref r, .ref t, _, rfl, hr14, dp_same s914 _ _ hd9, log_ok2 hok (by omega), fun H15 s15 => ⟨_, rfl, iteF ?_⟩⟩
    refine ⟨fun c o h => ?_, _, _, _, _, _, _, _, _, _, rfl⟩
    have h3 := s3 _ _ h
    have ct : c ≠ t0 := ne_of_none h3 nt0
    exact s15 _ _ (s914 _ _ (b9 _ _ ct (s7 _ _ (b6 _ _ ct (b5 _ _ ct (s4 _ _ h3))))))
--@@SPLIT
end
theorem all_mk {l : PySem.W.OpenLaw} {w : World} {K : PySem.W.Frag} {h : Heap} {mg : Str → Option Value} {fa : Addr} (X : K.In h) (G : h.Ns mainGlobals mg) (hfa : mg "law" = some (.ref fa))
    {f_is_whole : Addr} {od_is_whole an_is_whole : Option Addr} {sl_is_whole : Array (Option Value)} {oc_is_whole kV_is_whole dc_is_whole pm_is_whole cd_is_whole ct_is_whole : Value}
    {f_is_letter : Addr} {od_is_letter an_is_letter : Option Addr} {sl_is_letter : Array (Option Value)} {oc_is_letter kV_is_letter dc_is_letter pm_is_letter cd_is_letter ct_is_letter : Value}
    {f_is_short_text : Addr} {od_is_short_text an_is_short_text : Option Addr} {sl_is_short_text : Array (Option Value)} {oc_is_short_text kV_is_short_text dc_is_short_text pm_is_short_text cd_is_short_text ct_is_short_text : Value}
    {f_are_small : Addr} {od_are_small an_are_small : Option Addr} {sl_are_small : Array (Option Value)} {oc_are_small kV_are_small dc_are_small pm_are_small cd_are_small ct_are_small : Value}
    {f_is_name : Addr} {od_is_name an_is_name : Option Addr} {sl_is_name : Array (Option Value)} {oc_is_name kV_is_name dc_is_name pm_is_name cd_is_name ct_is_name : Value}
    {f_is_lone : Addr} {od_is_lone an_is_lone : Option Addr} {sl_is_lone : Array (Option Value)} {oc_is_lone kV_is_lone dc_is_lone pm_is_lone cd_is_lone ct_is_lone : Value}
    {f_is_sign : Addr} {od_is_sign an_is_sign : Option Addr} {sl_is_sign : Array (Option Value)} {oc_is_sign kV_is_sign dc_is_sign pm_is_sign cd_is_sign ct_is_sign : Value}
    {f_is_many : Addr} {od_is_many an_is_many : Option Addr} {sl_is_many : Array (Option Value)} {oc_is_many kV_is_many dc_is_many pm_is_many cd_is_many ct_is_many : Value}
    {f_is_pair_entry : Addr} {od_is_pair_entry an_is_pair_entry : Option Addr} {sl_is_pair_entry : Array (Option Value)} {oc_is_pair_entry kV_is_pair_entry dc_is_pair_entry pm_is_pair_entry cd_is_pair_entry ct_is_pair_entry : Value}
    {f_is_entry : Addr} {od_is_entry an_is_entry : Option Addr} {sl_is_entry : Array (Option Value)} {oc_is_entry kV_is_entry dc_is_entry pm_is_entry cd_is_entry ct_is_entry : Value}
    {f_held_log : Addr} {od_held_log an_held_log : Option Addr} {sl_held_log : Array (Option Value)} {oc_held_log kV_held_log dc_held_log pm_held_log cd_held_log ct_held_log : Value}
    {f_entry_text : Addr} {od_entry_text an_entry_text : Option Addr} {sl_entry_text : Array (Option Value)} {oc_entry_text kV_entry_text dc_entry_text pm_entry_text cd_entry_text ct_entry_text : Value}
    {f_log_text : Addr} {od_log_text an_log_text : Option Addr} {sl_log_text : Array (Option Value)} {oc_log_text kV_log_text dc_log_text pm_log_text cd_log_text ct_log_text : Value}
    {f_number_in : Addr} {od_number_in an_number_in : Option Addr} {sl_number_in : Array (Option Value)} {oc_number_in kV_number_in dc_number_in pm_number_in cd_number_in ct_number_in : Value}
    {f_entry_in : Addr} {od_entry_in an_entry_in : Option Addr} {sl_entry_in : Array (Option Value)} {oc_entry_in kV_entry_in dc_entry_in pm_entry_in cd_entry_in ct_entry_in : Value}
    {f_read_log : Addr} {od_read_log an_read_log : Option Addr} {sl_read_log : Array (Option Value)} {oc_read_log kV_read_log dc_read_log pm_read_log cd_read_log ct_read_log : Value}
    {f_Lany_entry : Addr} {od_Lany_entry an_Lany_entry : Option Addr} {sl_Lany_entry : Array (Option Value)} {oc_Lany_entry kV_Lany_entry dc_Lany_entry pm_Lany_entry cd_Lany_entry ct_Lany_entry : Value}
    {f_Lany_log : Addr} {od_Lany_log an_Lany_log : Option Addr} {sl_Lany_log : Array (Option Value)} {oc_Lany_log kV_Lany_log dc_Lany_log pm_Lany_log cd_Lany_log ct_Lany_log : Value}
    {f_Llisted : Addr} {od_Llisted an_Llisted : Option Addr} {sl_Llisted : Array (Option Value)} {oc_Llisted kV_Llisted dc_Llisted pm_Llisted cd_Llisted ct_Llisted : Value}
    {f_Lpool : Addr} {od_Lpool an_Lpool : Option Addr} {sl_Lpool : Array (Option Value)} {oc_Lpool kV_Lpool dc_Lpool pm_Lpool cd_Lpool ct_Lpool : Value}
    {f_Ltake : Addr} {od_Ltake an_Ltake : Option Addr} {sl_Ltake : Array (Option Value)} {oc_Ltake kV_Ltake dc_Ltake pm_Ltake cd_Ltake ct_Ltake : Value}
    {f_Lwhole : Addr} {od_Lwhole an_Lwhole : Option Addr} {sl_Lwhole : Array (Option Value)} {oc_Lwhole kV_Lwhole dc_Lwhole pm_Lwhole cd_Lwhole ct_Lwhole : Value}
    {f_Lsame : Addr} {od_Lsame an_Lsame : Option Addr} {sl_Lsame : Array (Option Value)} {oc_Lsame kV_Lsame dc_Lsame pm_Lsame cd_Lsame ct_Lsame : Value}
    {f_Lname : Addr} {od_Lname an_Lname : Option Addr} {sl_Lname : Array (Option Value)} {oc_Lname kV_Lname dc_Lname pm_Lname cd_Lname ct_Lname : Value}
    {f_Lsign : Addr} {od_Lsign an_Lsign : Option Addr} {sl_Lsign : Array (Option Value)} {oc_Lsign kV_Lsign dc_Lsign pm_Lsign cd_Lsign ct_Lsign : Value}
    {f_law : Addr} {od_law an_law : Option Addr} {sl_law : Array (Option Value)} {oc_law kV_law dc_law pm_law cd_law ct_law : Value}
    {f_STEPS : Addr}
    {es_STEPS : Array DictEntry} {n_STEPS : Nat}
    
    
    
    {q_STEPS_0 : Addr}
    {dd_STEPS_0 : Option Addr} {sl_STEPS_0 : Array (Option Value)} {nn_STEPS_0 : Nat} {tk_STEPS_0_0 : Tok} {tk_STEPS_0_1 : Tok}
    {q_STEPS_1 : Addr}
    {dd_STEPS_1 : Option Addr} {sl_STEPS_1 : Array (Option Value)} {nn_STEPS_1 : Nat} {tk_STEPS_1_0 : Tok} {tk_STEPS_1_1 : Tok}
    {q_STEPS_2 : Addr}
    {dd_STEPS_2 : Option Addr} {sl_STEPS_2 : Array (Option Value)} {nn_STEPS_2 : Nat} {tk_STEPS_2_0 : Tok} {tk_STEPS_2_1 : Tok}
    {q_STEPS_3 : Addr}
    {dd_STEPS_3 : Option Addr} {sl_STEPS_3 : Array (Option Value)} {nn_STEPS_3 : Nat} {tk_STEPS_3_0 : Tok} {tk_STEPS_3_1 : Tok}
    {t_SMALL : Tok}
    {t_GREAT : Tok}
    {t_LONGEST : Tok}
    {f_WORDS_ALONE : Addr}
    {dd_WORDS_ALONE : Option Addr} {sl_WORDS_ALONE : Array (Option Value)} {nn_WORDS_ALONE : Nat} {tk_WORDS_ALONE_0 : Tok} {tk_WORDS_ALONE_1 : Tok} {tk_WORDS_ALONE_2 : Tok} {tk_WORDS_ALONE_3 : Tok} {tk_WORDS_ALONE_4 : Tok} {tk_WORDS_ALONE_5 : Tok}
    {f_WORDS_BEHIND_A_FACE : Addr}
    {dd_WORDS_BEHIND_A_FACE : Option Addr} {sl_WORDS_BEHIND_A_FACE : Array (Option Value)} {nn_WORDS_BEHIND_A_FACE : Nat} {tk_WORDS_BEHIND_A_FACE_0 : Tok} {tk_WORDS_BEHIND_A_FACE_1 : Tok} {tk_WORDS_BEHIND_A_FACE_2 : Tok} {tk_WORDS_BEHIND_A_FACE_3 : Tok} {tk_WORDS_BEHIND_A_FACE_4 : Tok} {tk_WORDS_BEHIND_A_FACE_5 : Tok}
    {t_FIGURES : Tok}
    {t_MOST_FIGURES : Tok}
    {t_NONE_AT_ALL : Tok}
    (A_is_whole : PySem.W.nsIn K mainGlobals "is_whole" = some (some (.ref f_is_whole))) (L_is_whole : K.lookup f_is_whole = some ⟨oc_is_whole, od_is_whole, .func (PySem.W.fnOf "is_whole" "is_whole" (defArgs s_is_whole) (defBody s_is_whole) (defScope s_is_whole) .none kV_is_whole dc_is_whole pm_is_whole an_is_whole cd_is_whole ct_is_whole), sl_is_whole⟩) (C_is_whole : PySem.W.codeIn K cd_is_whole "is_whole" = true) (K_is_whole : PySem.W.keepIn K (.ref f_is_whole) = true)
    (A_is_letter : PySem.W.nsIn K mainGlobals "is_letter" = some (some (.ref f_is_letter))) (L_is_letter : K.lookup f_is_letter = some ⟨oc_is_letter, od_is_letter, .func (PySem.W.fnOf "is_letter" "is_letter" (defArgs s_is_letter) (defBody s_is_letter) (defScope s_is_letter) .none kV_is_letter dc_is_letter pm_is_letter an_is_letter cd_is_letter ct_is_letter), sl_is_letter⟩) (C_is_letter : PySem.W.codeIn K cd_is_letter "is_letter" = true) (K_is_letter : PySem.W.keepIn K (.ref f_is_letter) = true)
    (A_is_short_text : PySem.W.nsIn K mainGlobals "is_short_text" = some (some (.ref f_is_short_text))) (L_is_short_text : K.lookup f_is_short_text = some ⟨oc_is_short_text, od_is_short_text, .func (PySem.W.fnOf "is_short_text" "is_short_text" (defArgs s_is_short_text) (defBody s_is_short_text) (defScope s_is_short_text) .none kV_is_short_text dc_is_short_text pm_is_short_text an_is_short_text cd_is_short_text ct_is_short_text), sl_is_short_text⟩) (C_is_short_text : PySem.W.codeIn K cd_is_short_text "is_short_text" = true) (K_is_short_text : PySem.W.keepIn K (.ref f_is_short_text) = true)
    (A_are_small : PySem.W.nsIn K mainGlobals "are_small" = some (some (.ref f_are_small))) (L_are_small : K.lookup f_are_small = some ⟨oc_are_small, od_are_small, .func (PySem.W.fnOf "are_small" "are_small" (defArgs s_are_small) (defBody s_are_small) (defScope s_are_small) .none kV_are_small dc_are_small pm_are_small an_are_small cd_are_small ct_are_small), sl_are_small⟩) (C_are_small : PySem.W.codeIn K cd_are_small "are_small" = true) (K_are_small : PySem.W.keepIn K (.ref f_are_small) = true)
    (A_is_name : PySem.W.nsIn K mainGlobals "is_name" = some (some (.ref f_is_name))) (L_is_name : K.lookup f_is_name = some ⟨oc_is_name, od_is_name, .func (PySem.W.fnOf "is_name" "is_name" (defArgs s_is_name) (defBody s_is_name) (defScope s_is_name) .none kV_is_name dc_is_name pm_is_name an_is_name cd_is_name ct_is_name), sl_is_name⟩) (C_is_name : PySem.W.codeIn K cd_is_name "is_name" = true) (K_is_name : PySem.W.keepIn K (.ref f_is_name) = true)
    (A_is_lone : PySem.W.nsIn K mainGlobals "is_lone" = some (some (.ref f_is_lone))) (L_is_lone : K.lookup f_is_lone = some ⟨oc_is_lone, od_is_lone, .func (PySem.W.fnOf "is_lone" "is_lone" (defArgs s_is_lone) (defBody s_is_lone) (defScope s_is_lone) .none kV_is_lone dc_is_lone pm_is_lone an_is_lone cd_is_lone ct_is_lone), sl_is_lone⟩) (C_is_lone : PySem.W.codeIn K cd_is_lone "is_lone" = true) (K_is_lone : PySem.W.keepIn K (.ref f_is_lone) = true)
    (A_is_sign : PySem.W.nsIn K mainGlobals "is_sign" = some (some (.ref f_is_sign))) (L_is_sign : K.lookup f_is_sign = some ⟨oc_is_sign, od_is_sign, .func (PySem.W.fnOf "is_sign" "is_sign" (defArgs s_is_sign) (defBody s_is_sign) (defScope s_is_sign) .none kV_is_sign dc_is_sign pm_is_sign an_is_sign cd_is_sign ct_is_sign), sl_is_sign⟩) (C_is_sign : PySem.W.codeIn K cd_is_sign "is_sign" = true) (K_is_sign : PySem.W.keepIn K (.ref f_is_sign) = true)
    (A_is_many : PySem.W.nsIn K mainGlobals "is_many" = some (some (.ref f_is_many))) (L_is_many : K.lookup f_is_many = some ⟨oc_is_many, od_is_many, .func (PySem.W.fnOf "is_many" "is_many" (defArgs s_is_many) (defBody s_is_many) (defScope s_is_many) .none kV_is_many dc_is_many pm_is_many an_is_many cd_is_many ct_is_many), sl_is_many⟩) (C_is_many : PySem.W.codeIn K cd_is_many "is_many" = true) (K_is_many : PySem.W.keepIn K (.ref f_is_many) = true)
    (A_is_pair_entry : PySem.W.nsIn K mainGlobals "is_pair_entry" = some (some (.ref f_is_pair_entry))) (L_is_pair_entry : K.lookup f_is_pair_entry = some ⟨oc_is_pair_entry, od_is_pair_entry, .func (PySem.W.fnOf "is_pair_entry" "is_pair_entry" (defArgs s_is_pair_entry) (defBody s_is_pair_entry) (defScope s_is_pair_entry) .none kV_is_pair_entry dc_is_pair_entry pm_is_pair_entry an_is_pair_entry cd_is_pair_entry ct_is_pair_entry), sl_is_pair_entry⟩) (C_is_pair_entry : PySem.W.codeIn K cd_is_pair_entry "is_pair_entry" = true) (K_is_pair_entry : PySem.W.keepIn K (.ref f_is_pair_entry) = true)
    (A_is_entry : PySem.W.nsIn K mainGlobals "is_entry" = some (some (.ref f_is_entry))) (L_is_entry : K.lookup f_is_entry = some ⟨oc_is_entry, od_is_entry, .func (PySem.W.fnOf "is_entry" "is_entry" (defArgs s_is_entry) (defBody s_is_entry) (defScope s_is_entry) .none kV_is_entry dc_is_entry pm_is_entry an_is_entry cd_is_entry ct_is_entry), sl_is_entry⟩) (C_is_entry : PySem.W.codeIn K cd_is_entry "is_entry" = true) (K_is_entry : PySem.W.keepIn K (.ref f_is_entry) = true)
    (A_held_log : PySem.W.nsIn K mainGlobals "held_log" = some (some (.ref f_held_log))) (L_held_log : K.lookup f_held_log = some ⟨oc_held_log, od_held_log, .func (PySem.W.fnOf "held_log" "held_log" (defArgs s_held_log) (defBody s_held_log) (defScope s_held_log) .none kV_held_log dc_held_log pm_held_log an_held_log cd_held_log ct_held_log), sl_held_log⟩) (C_held_log : PySem.W.codeIn K cd_held_log "held_log" = true) (K_held_log : PySem.W.keepIn K (.ref f_held_log) = true)
    (A_entry_text : PySem.W.nsIn K mainGlobals "entry_text" = some (some (.ref f_entry_text))) (L_entry_text : K.lookup f_entry_text = some ⟨oc_entry_text, od_entry_text, .func (PySem.W.fnOf "entry_text" "entry_text" (defArgs s_entry_text) (defBody s_entry_text) (defScope s_entry_text) .none kV_entry_text dc_entry_text pm_entry_text an_entry_text cd_entry_text ct_entry_text), sl_entry_text⟩) (C_entry_text : PySem.W.codeIn K cd_entry_text "entry_text" = true) (K_entry_text : PySem.W.keepIn K (.ref f_entry_text) = true)
    (A_log_text : PySem.W.nsIn K mainGlobals "log_text" = some (some (.ref f_log_text))) (L_log_text : K.lookup f_log_text = some ⟨oc_log_text, od_log_text, .func (PySem.W.fnOf "log_text" "log_text" (defArgs s_log_text) (defBody s_log_text) (defScope s_log_text) .none kV_log_text dc_log_text pm_log_text an_log_text cd_log_text ct_log_text), sl_log_text⟩) (C_log_text : PySem.W.codeIn K cd_log_text "log_text" = true) (K_log_text : PySem.W.keepIn K (.ref f_log_text) = true)
    (A_number_in : PySem.W.nsIn K mainGlobals "number_in" = some (some (.ref f_number_in))) (L_number_in : K.lookup f_number_in = some ⟨oc_number_in, od_number_in, .func (PySem.W.fnOf "number_in" "number_in" (defArgs s_number_in) (defBody s_number_in) (defScope s_number_in) .none kV_number_in dc_number_in pm_number_in an_number_in cd_number_in ct_number_in), sl_number_in⟩) (C_number_in : PySem.W.codeIn K cd_number_in "number_in" = true) (K_number_in : PySem.W.keepIn K (.ref f_number_in) = true)
    (A_entry_in : PySem.W.nsIn K mainGlobals "entry_in" = some (some (.ref f_entry_in))) (L_entry_in : K.lookup f_entry_in = some ⟨oc_entry_in, od_entry_in, .func (PySem.W.fnOf "entry_in" "entry_in" (defArgs s_entry_in) (defBody s_entry_in) (defScope s_entry_in) .none kV_entry_in dc_entry_in pm_entry_in an_entry_in cd_entry_in ct_entry_in), sl_entry_in⟩) (C_entry_in : PySem.W.codeIn K cd_entry_in "entry_in" = true) (K_entry_in : PySem.W.keepIn K (.ref f_entry_in) = true)
    (A_read_log : PySem.W.nsIn K mainGlobals "read_log" = some (some (.ref f_read_log))) (L_read_log : K.lookup f_read_log = some ⟨oc_read_log, od_read_log, .func (PySem.W.fnOf "read_log" "read_log" (defArgs s_read_log) (defBody s_read_log) (defScope s_read_log) .none kV_read_log dc_read_log pm_read_log an_read_log cd_read_log ct_read_log), sl_read_log⟩) (C_read_log : PySem.W.codeIn K cd_read_log "read_log" = true) (K_read_log : PySem.W.keepIn K (.ref f_read_log) = true)
    (A_Lany_entry : PySem.W.nsIn K mainGlobals "_law_any_entry" = some (some (.ref f_Lany_entry))) (L_Lany_entry : K.lookup f_Lany_entry = some ⟨oc_Lany_entry, od_Lany_entry, .func (PySem.W.fnOf "_law_any_entry" "_law_any_entry" (defArgs s_Lany_entry) (defBody s_Lany_entry) (defScope s_Lany_entry) .none kV_Lany_entry dc_Lany_entry pm_Lany_entry an_Lany_entry cd_Lany_entry ct_Lany_entry), sl_Lany_entry⟩) (C_Lany_entry : PySem.W.codeIn K cd_Lany_entry "_law_any_entry" = true) (K_Lany_entry : PySem.W.keepIn K (.ref f_Lany_entry) = true)
    (A_Lany_log : PySem.W.nsIn K mainGlobals "_law_any_log" = some (some (.ref f_Lany_log))) (L_Lany_log : K.lookup f_Lany_log = some ⟨oc_Lany_log, od_Lany_log, .func (PySem.W.fnOf "_law_any_log" "_law_any_log" (defArgs s_Lany_log) (defBody s_Lany_log) (defScope s_Lany_log) .none kV_Lany_log dc_Lany_log pm_Lany_log an_Lany_log cd_Lany_log ct_Lany_log), sl_Lany_log⟩) (C_Lany_log : PySem.W.codeIn K cd_Lany_log "_law_any_log" = true) (K_Lany_log : PySem.W.keepIn K (.ref f_Lany_log) = true)
    (A_Llisted : PySem.W.nsIn K mainGlobals "_law_listed" = some (some (.ref f_Llisted))) (L_Llisted : K.lookup f_Llisted = some ⟨oc_Llisted, od_Llisted, .func (PySem.W.fnOf "_law_listed" "_law_listed" (defArgs s_Llisted) (defBody s_Llisted) (defScope s_Llisted) .none kV_Llisted dc_Llisted pm_Llisted an_Llisted cd_Llisted ct_Llisted), sl_Llisted⟩) (C_Llisted : PySem.W.codeIn K cd_Llisted "_law_listed" = true) (K_Llisted : PySem.W.keepIn K (.ref f_Llisted) = true)
    (A_Lpool : PySem.W.nsIn K mainGlobals "_law_pool" = some (some (.ref f_Lpool))) (L_Lpool : K.lookup f_Lpool = some ⟨oc_Lpool, od_Lpool, .func (PySem.W.fnOf "_law_pool" "_law_pool" (defArgs s_Lpool) (defBody s_Lpool) (defScope s_Lpool) .none kV_Lpool dc_Lpool pm_Lpool an_Lpool cd_Lpool ct_Lpool), sl_Lpool⟩) (C_Lpool : PySem.W.codeIn K cd_Lpool "_law_pool" = true) (K_Lpool : PySem.W.keepIn K (.ref f_Lpool) = true)
    (A_Ltake : PySem.W.nsIn K mainGlobals "_law_take" = some (some (.ref f_Ltake))) (L_Ltake : K.lookup f_Ltake = some ⟨oc_Ltake, od_Ltake, .func (PySem.W.fnOf "_law_take" "_law_take" (defArgs s_Ltake) (defBody s_Ltake) (defScope s_Ltake) .none kV_Ltake dc_Ltake pm_Ltake an_Ltake cd_Ltake ct_Ltake), sl_Ltake⟩) (C_Ltake : PySem.W.codeIn K cd_Ltake "_law_take" = true) (K_Ltake : PySem.W.keepIn K (.ref f_Ltake) = true)
    (A_Lwhole : PySem.W.nsIn K mainGlobals "_law_whole" = some (some (.ref f_Lwhole))) (L_Lwhole : K.lookup f_Lwhole = some ⟨oc_Lwhole, od_Lwhole, .func (PySem.W.fnOf "_law_whole" "_law_whole" (defArgs s_Lwhole) (defBody s_Lwhole) (defScope s_Lwhole) .none kV_Lwhole dc_Lwhole pm_Lwhole an_Lwhole cd_Lwhole ct_Lwhole), sl_Lwhole⟩) (C_Lwhole : PySem.W.codeIn K cd_Lwhole "_law_whole" = true) (K_Lwhole : PySem.W.keepIn K (.ref f_Lwhole) = true)
    (A_Lsame : PySem.W.nsIn K mainGlobals "_law_same" = some (some (.ref f_Lsame))) (L_Lsame : K.lookup f_Lsame = some ⟨oc_Lsame, od_Lsame, .func (PySem.W.fnOf "_law_same" "_law_same" (defArgs s_Lsame) (defBody s_Lsame) (defScope s_Lsame) .none kV_Lsame dc_Lsame pm_Lsame an_Lsame cd_Lsame ct_Lsame), sl_Lsame⟩) (C_Lsame : PySem.W.codeIn K cd_Lsame "_law_same" = true) (K_Lsame : PySem.W.keepIn K (.ref f_Lsame) = true)
    (A_Lname : PySem.W.nsIn K mainGlobals "_law_name" = some (some (.ref f_Lname))) (L_Lname : K.lookup f_Lname = some ⟨oc_Lname, od_Lname, .func (PySem.W.fnOf "_law_name" "_law_name" (defArgs s_Lname) (defBody s_Lname) (defScope s_Lname) .none kV_Lname dc_Lname pm_Lname an_Lname cd_Lname ct_Lname), sl_Lname⟩) (C_Lname : PySem.W.codeIn K cd_Lname "_law_name" = true) (K_Lname : PySem.W.keepIn K (.ref f_Lname) = true)
    (A_Lsign : PySem.W.nsIn K mainGlobals "_law_sign" = some (some (.ref f_Lsign))) (L_Lsign : K.lookup f_Lsign = some ⟨oc_Lsign, od_Lsign, .func (PySem.W.fnOf "_law_sign" "_law_sign" (defArgs s_Lsign) (defBody s_Lsign) (defScope s_Lsign) .none kV_Lsign dc_Lsign pm_Lsign an_Lsign cd_Lsign ct_Lsign), sl_Lsign⟩) (C_Lsign : PySem.W.codeIn K cd_Lsign "_law_sign" = true) (K_Lsign : PySem.W.keepIn K (.ref f_Lsign) = true)
    (A_law : PySem.W.nsIn K mainGlobals "law" = some (some (.ref f_law))) (L_law : K.lookup f_law = some ⟨oc_law, od_law, .func (PySem.W.fnOf "law" "law" (defArgs s_law) (defBody s_law) (defScope s_law) .none kV_law dc_law pm_law an_law cd_law ct_law), sl_law⟩) (C_law : PySem.W.codeIn K cd_law "law" = true) (K_law : PySem.W.keepIn K (.ref f_law) = true)
    (A_STEPS : PySem.W.nsIn K mainGlobals "STEPS" = some (some (.ref f_STEPS)))
    (D_STEPS : K.lookup f_STEPS = some ⟨.type "dict", none, .dict es_STEPS n_STEPS, #[]⟩)
    (Y_STEPS : PySem.W.KeysLit w.params es_STEPS.toList)
    (lo_STEPS : (f_STEPS == sysModules) = false)
    (ke_STEPS : Keys es_STEPS.toList ["n", "e", "s", "w"])
    (N_STEPS_0 : PySem.W.nsIn K f_STEPS "n" = some (some (.ref q_STEPS_0)))
    (V_STEPS_0 : K.lookup q_STEPS_0 = some ⟨.type "tuple", dd_STEPS_0, .seq #[.int (0) tk_STEPS_0_0, .int (1) tk_STEPS_0_1] nn_STEPS_0, sl_STEPS_0⟩)
    (N_STEPS_1 : PySem.W.nsIn K f_STEPS "e" = some (some (.ref q_STEPS_1)))
    (V_STEPS_1 : K.lookup q_STEPS_1 = some ⟨.type "tuple", dd_STEPS_1, .seq #[.int (1) tk_STEPS_1_0, .int (0) tk_STEPS_1_1] nn_STEPS_1, sl_STEPS_1⟩)
    (N_STEPS_2 : PySem.W.nsIn K f_STEPS "s" = some (some (.ref q_STEPS_2)))
    (V_STEPS_2 : K.lookup q_STEPS_2 = some ⟨.type "tuple", dd_STEPS_2, .seq #[.int (0) tk_STEPS_2_0, .int (-1) tk_STEPS_2_1] nn_STEPS_2, sl_STEPS_2⟩)
    (N_STEPS_3 : PySem.W.nsIn K f_STEPS "w" = some (some (.ref q_STEPS_3)))
    (V_STEPS_3 : K.lookup q_STEPS_3 = some ⟨.type "tuple", dd_STEPS_3, .seq #[.int (-1) tk_STEPS_3_0, .int (0) tk_STEPS_3_1] nn_STEPS_3, sl_STEPS_3⟩)
    (A_SMALL : PySem.W.nsIn K mainGlobals "SMALL" = some (some (.str "abcdefghijklmnopqrstuvwxyz" t_SMALL)))
    (A_GREAT : PySem.W.nsIn K mainGlobals "GREAT" = some (some (.str "ABCDEFGHIJKLMNOPQRSTUVWXYZ" t_GREAT)))
    (A_LONGEST : PySem.W.nsIn K mainGlobals "LONGEST" = some (some (.int 8 t_LONGEST)))
    (A_WORDS_ALONE : PySem.W.nsIn K mainGlobals "WORDS_ALONE" = some (some (.ref f_WORDS_ALONE)))
    (V_WORDS_ALONE : K.lookup f_WORDS_ALONE = some ⟨.type "tuple", dd_WORDS_ALONE, .seq #[.str "left" tk_WORDS_ALONE_0, .str "right" tk_WORDS_ALONE_1, .str "back" tk_WORDS_ALONE_2, .str "bump" tk_WORDS_ALONE_3, .str "bare" tk_WORDS_ALONE_4, .str "swap" tk_WORDS_ALONE_5] nn_WORDS_ALONE, sl_WORDS_ALONE⟩)
    (A_WORDS_BEHIND_A_FACE : PySem.W.nsIn K mainGlobals "WORDS_BEHIND_A_FACE" = some (some (.ref f_WORDS_BEHIND_A_FACE)))
    (V_WORDS_BEHIND_A_FACE : K.lookup f_WORDS_BEHIND_A_FACE = some ⟨.type "tuple", dd_WORDS_BEHIND_A_FACE, .seq #[.str "left" tk_WORDS_BEHIND_A_FACE_0, .str "right" tk_WORDS_BEHIND_A_FACE_1, .str "back" tk_WORDS_BEHIND_A_FACE_2, .str "go" tk_WORDS_BEHIND_A_FACE_3, .str "bump" tk_WORDS_BEHIND_A_FACE_4, .str "spy" tk_WORDS_BEHIND_A_FACE_5] nn_WORDS_BEHIND_A_FACE, sl_WORDS_BEHIND_A_FACE⟩)
    (A_FIGURES : PySem.W.nsIn K mainGlobals "FIGURES" = some (some (.str "0123456789" t_FIGURES)))
    (A_MOST_FIGURES : PySem.W.nsIn K mainGlobals "MOST_FIGURES" = some (some (.int 30 t_MOST_FIGURES)))
    (A_NONE_AT_ALL : PySem.W.nsIn K mainGlobals "NONE_AT_ALL" = some (some (.str "-" t_NONE_AT_ALL)))
    (Z_abs : PySem.W.nsIn K mainGlobals "abs" = some none)
    (Z_all : PySem.W.nsIn K mainGlobals "all" = some none)
    (Z_bool : PySem.W.nsIn K mainGlobals "bool" = some none)
    (Z_enumerate : PySem.W.nsIn K mainGlobals "enumerate" = some none)
    (Z_int : PySem.W.nsIn K mainGlobals "int" = some none)
    (Z_isinstance : PySem.W.nsIn K mainGlobals "isinstance" = some none)
    (Z_len : PySem.W.nsIn K mainGlobals "len" = some none)
    (Z_list : PySem.W.nsIn K mainGlobals "list" = some none)
    (Z_range : PySem.W.nsIn K mainGlobals "range" = some none)
    (Z_str : PySem.W.nsIn K mainGlobals "str" = some none)
    (Z_tuple : PySem.W.nsIn K mainGlobals "tuple" = some none)
    (Z_zip : PySem.W.nsIn K mainGlobals "zip" = some none) :
    ∃ fd : FuncData, (∀ (s : Shared) (v : Value), BindsTo s fd ⟨[v], []⟩ [("_law_script", v)]) ∧ ∀ base : Heap, K.In base → base.Ns mainGlobals mg → GuG.FnG l.prog w K mg base 8 fa fd ["_law_script"] (spLaw K) := by
  have e := hfa.symm.trans (PySem.W.mg_of X G A_law)
  cases e
  let T : Top w K mg := {
    a_is_whole := f_is_whole, fd_is_whole := _, F_is_whole := fun_mk (st := s_is_whole) L_is_whole C_is_whole K_is_whole,
    b_is_whole := (fun_mk (st := s_is_whole) L_is_whole C_is_whole K_is_whole).binds (ps := ["thing"]) fun _ _ _ _ _ _ us hl => match us, hl with | [_], _ => rfl,
    g_is_whole := PySem.W.mg_of X G A_is_whole,
    a_is_letter := f_is_letter, fd_is_letter := _, F_is_letter := fun_mk (st := s_is_letter) L_is_letter C_is_letter K_is_letter,
    b_is_letter := (fun_mk (st := s_is_letter) L_is_letter C_is_letter K_is_letter).binds (ps := ["thing"]) fun _ _ _ _ _ _ us hl => match us, hl with | [_], _ => rfl,
    g_is_letter := PySem.W.mg_of X G A_is_letter,
    a_is_short_text := f_is_short_text, fd_is_short_text := _, F_is_short_text := fun_mk (st := s_is_short_text) L_is_short_text C_is_short_text K_is_short_text,
    b_is_short_text := (fun_mk (st := s_is_short_text) L_is_short_text C_is_short_text K_is_short_text).binds (ps := ["thing"]) fun _ _ _ _ _ _ us hl => match us, hl with | [_], _ => rfl,
    g_is_short_text := PySem.W.mg_of X G A_is_short_text,
    a_are_small := f_are_small, fd_are_small := _, F_are_small := fun_mk (st := s_are_small) L_are_small C_are_small K_are_small,
    b_are_small := (fun_mk (st := s_are_small) L_are_small C_are_small K_are_small).binds (ps := ["text"]) fun _ _ _ _ _ _ us hl => match us, hl with | [_], _ => rfl,
    g_are_small := PySem.W.mg_of X G A_are_small,
    a_is_name := f_is_name, fd_is_name := _, F_is_name := fun_mk (st := s_is_name) L_is_name C_is_name K_is_name,
    b_is_name := (fun_mk (st := s_is_name) L_is_name C_is_name K_is_name).binds (ps := ["thing"]) fun _ _ _ _ _ _ us hl => match us, hl with | [_], _ => rfl,
    g_is_name := PySem.W.mg_of X G A_is_name,
    a_is_lone := f_is_lone, fd_is_lone := _, F_is_lone := fun_mk (st := s_is_lone) L_is_lone C_is_lone K_is_lone,
    b_is_lone := (fun_mk (st := s_is_lone) L_is_lone C_is_lone K_is_lone).binds (ps := ["thing"]) fun _ _ _ _ _ _ us hl => match us, hl with | [_], _ => rfl,
    g_is_lone := PySem.W.mg_of X G A_is_lone,
    a_is_sign := f_is_sign, fd_is_sign := _, F_is_sign := fun_mk (st := s_is_sign) L_is_sign C_is_sign K_is_sign,
    b_is_sign := (fun_mk (st := s_is_sign) L_is_sign C_is_sign K_is_sign).binds (ps := ["thing"]) fun _ _ _ _ _ _ us hl => match us, hl with | [_], _ => rfl,
    g_is_sign := PySem.W.mg_of X G A_is_sign,
    a_is_many := f_is_many, fd_is_many := _, F_is_many := fun_mk (st := s_is_many) L_is_many C_is_many K_is_many,
    b_is_many := (fun_mk (st := s_is_many) L_is_many C_is_many K_is_many).binds (ps := ["thing"]) fun _ _ _ _ _ _ us hl => match us, hl with | [_], _ => rfl,
    g_is_many := PySem.W.mg_of X G A_is_many,
    a_is_pair_entry := f_is_pair_entry, fd_is_pair_entry := _, F_is_pair_entry := fun_mk (st := s_is_pair_entry) L_is_pair_entry C_is_pair_entry K_is_pair_entry,
    b_is_pair_entry := (fun_mk (st := s_is_pair_entry) L_is_pair_entry C_is_pair_entry K_is_pair_entry).binds (ps := ["word", "part"]) fun _ _ _ _ _ _ us hl => match us, hl with | [_, _], _ => rfl,
    g_is_pair_entry := PySem.W.mg_of X G A_is_pair_entry,
    a_is_entry := f_is_entry, fd_is_entry := _, F_is_entry := fun_mk (st := s_is_entry) L_is_entry C_is_entry K_is_entry,
    b_is_entry := (fun_mk (st := s_is_entry) L_is_entry C_is_entry K_is_entry).binds (ps := ["thing"]) fun _ _ _ _ _ _ us hl => match us, hl with | [_], _ => rfl,
    g_is_entry := PySem.W.mg_of X G A_is_entry,
    a_held_log := f_held_log, fd_held_log := _, F_held_log := fun_mk (st := s_held_log) L_held_log C_held_log K_held_log,
    b_held_log := (fun_mk (st := s_held_log) L_held_log C_held_log K_held_log).binds (ps := ["entries"]) fun _ _ _ _ _ _ us hl => match us, hl with | [_], _ => rfl,
    g_held_log := PySem.W.mg_of X G A_held_log,
    a_entry_text := f_entry_text, fd_entry_text := _, F_entry_text := fun_mk (st := s_entry_text) L_entry_text C_entry_text K_entry_text,
    b_entry_text := (fun_mk (st := s_entry_text) L_entry_text C_entry_text K_entry_text).binds (ps := ["entry"]) fun _ _ _ _ _ _ us hl => match us, hl with | [_], _ => rfl,
    g_entry_text := PySem.W.mg_of X G A_entry_text,
    a_log_text := f_log_text, fd_log_text := _, F_log_text := fun_mk (st := s_log_text) L_log_text C_log_text K_log_text,
    b_log_text := (fun_mk (st := s_log_text) L_log_text C_log_text K_log_text).binds (ps := ["log"]) fun _ _ _ _ _ _ us hl => match us, hl with | [_], _ => rfl,
    g_log_text := PySem.W.mg_of X G A_log_text,
    a_number_in := f_number_in, fd_number_in := _, F_number_in := fun_mk (st := s_number_in) L_number_in C_number_in K_number_in,
    b_number_in := (fun_mk (st := s_number_in) L_number_in C_number_in K_number_in).binds (ps := ["word"]) fun _ _ _ _ _ _ us hl => match us, hl with | [_], _ => rfl,
    g_number_in := PySem.W.mg_of X G A_number_in,
    a_entry_in := f_entry_in, fd_entry_in := _, F_entry_in := fun_mk (st := s_entry_in) L_entry_in C_entry_in K_entry_in,
    b_entry_in := (fun_mk (st := s_entry_in) L_entry_in C_entry_in K_entry_in).binds (ps := ["text"]) fun _ _ _ _ _ _ us hl => match us, hl with | [_], _ => rfl,
    g_entry_in := PySem.W.mg_of X G A_entry_in,
    a_read_log := f_read_log, fd_read_log := _, F_read_log := fun_mk (st := s_read_log) L_read_log C_read_log K_read_log,
    b_read_log := (fun_mk (st := s_read_log) L_read_log C_read_log K_read_log).binds (ps := ["text"]) fun _ _ _ _ _ _ us hl => match us, hl with | [_], _ => rfl,
    g_read_log := PySem.W.mg_of X G A_read_log,
    a_Lany_entry := f_Lany_entry, fd_Lany_entry := _, F_Lany_entry := fun_mk (st := s_Lany_entry) L_Lany_entry C_Lany_entry K_Lany_entry,
    b_Lany_entry := (fun_mk (st := s_Lany_entry) L_Lany_entry C_Lany_entry K_Lany_entry).binds (ps := ["_law_pool_here", "_law_looks"]) fun _ _ _ _ _ _ us hl => match us, hl with | [_, _], _ => rfl,
    g_Lany_entry := PySem.W.mg_of X G A_Lany_entry,
    a_Lany_log := f_Lany_log, fd_Lany_log := _, F_Lany_log := fun_mk (st := s_Lany_log) L_Lany_log C_Lany_log K_Lany_log,
    b_Lany_log := (fun_mk (st := s_Lany_log) L_Lany_log C_Lany_log K_Lany_log).binds (ps := ["_law_pool_here", "_law_many", "_law_swaps"]) fun _ _ _ _ _ _ us hl => match us, hl with | [_, _, _], _ => rfl,
    g_Lany_log := PySem.W.mg_of X G A_Lany_log,
    a_Llisted := f_Llisted, fd_Llisted := _, F_Llisted := fun_mk (st := s_Llisted) L_Llisted C_Llisted K_Llisted,
    b_Llisted := (fun_mk (st := s_Llisted) L_Llisted C_Llisted K_Llisted).binds (ps := ["_law_pool_here", "_law_log"]) fun _ _ _ _ _ _ us hl => match us, hl with | [_, _], _ => rfl,
    g_Llisted := PySem.W.mg_of X G A_Llisted,
    a_Lpool := f_Lpool, fd_Lpool := _, F_Lpool := fun_mk (st := s_Lpool) L_Lpool C_Lpool K_Lpool,
    b_Lpool := (fun_mk (st := s_Lpool) L_Lpool C_Lpool K_Lpool).binds (ps := ["_law_script", "_law_k"]) fun _ _ _ _ _ _ us hl => match us, hl with | [_, _], _ => rfl,
    g_Lpool := PySem.W.mg_of X G A_Lpool,
    a_Ltake := f_Ltake, fd_Ltake := _, F_Ltake := fun_mk (st := s_Ltake) L_Ltake C_Ltake K_Ltake,
    b_Ltake := (fun_mk (st := s_Ltake) L_Ltake C_Ltake K_Ltake).binds (ps := ["_law_pool_here", "_law_wide"]) fun _ _ _ _ _ _ us hl => match us, hl with | [_, _], _ => rfl,
    g_Ltake := PySem.W.mg_of X G A_Ltake,
    a_Lwhole := f_Lwhole, fd_Lwhole := _, F_Lwhole := fun_mk (st := s_Lwhole) L_Lwhole C_Lwhole K_Lwhole,
    b_Lwhole := (fun_mk (st := s_Lwhole) L_Lwhole C_Lwhole K_Lwhole).binds (ps := ["_law_thing"]) fun _ _ _ _ _ _ us hl => match us, hl with | [_], _ => rfl,
    g_Lwhole := PySem.W.mg_of X G A_Lwhole,
    a_Lsame := f_Lsame, fd_Lsame := _, F_Lsame := fun_mk (st := s_Lsame) L_Lsame C_Lsame K_Lsame,
    b_Lsame := (fun_mk (st := s_Lsame) L_Lsame C_Lsame K_Lsame).binds (ps := ["_law_found", "_law_due"]) fun _ _ _ _ _ _ us hl => match us, hl with | [_, _], _ => rfl,
    g_Lsame := PySem.W.mg_of X G A_Lsame,
    a_Lname := f_Lname, fd_Lname := _, F_Lname := fun_mk (st := s_Lname) L_Lname C_Lname K_Lname,
    b_Lname := (fun_mk (st := s_Lname) L_Lname C_Lname K_Lname).binds (ps := ["_law_pool_here"]) fun _ _ _ _ _ _ us hl => match us, hl with | [_], _ => rfl,
    g_Lname := PySem.W.mg_of X G A_Lname,
    a_Lsign := f_Lsign, fd_Lsign := _, F_Lsign := fun_mk (st := s_Lsign) L_Lsign C_Lsign K_Lsign,
    b_Lsign := (fun_mk (st := s_Lsign) L_Lsign C_Lsign K_Lsign).binds (ps := ["_law_pool_here", "_law_lone"]) fun _ _ _ _ _ _ us hl => match us, hl with | [_, _], _ => rfl,
    g_Lsign := PySem.W.mg_of X G A_Lsign,
    a_law := fa, fd_law := _, F_law := fun_mk (st := s_law) L_law C_law K_law,
    b_law := (fun_mk (st := s_law) L_law C_law K_law).binds (ps := ["_law_script"]) fun _ _ _ _ _ _ us hl => match us, hl with | [_], _ => rfl,
    g_law := PySem.W.mg_of X G A_law,
    a_STEPS := f_STEPS, g_STEPS := PySem.W.mg_of X G A_STEPS,
    es_STEPS := _, n_STEPS := _, kd_STEPS := ⟨D_STEPS, Y_STEPS, lo_STEPS⟩,
    ns_STEPS := ns_keys D_STEPS ke_STEPS,
    v_STEPS_0 := ⟨_, ⟨_, _, _, D_STEPS, Y_STEPS, N_STEPS_0, rfl⟩, fun H => .inr ⟨_, _, _, V_STEPS_0, rfl, rfl, by show 2 ≤ sizeLine; decide, (.cons ⟨_, rfl⟩ (.cons ⟨_, rfl⟩ .nil))⟩⟩,
    v_STEPS_1 := ⟨_, ⟨_, _, _, D_STEPS, Y_STEPS, N_STEPS_1, rfl⟩, fun H => .inr ⟨_, _, _, V_STEPS_1, rfl, rfl, by show 2 ≤ sizeLine; decide, (.cons ⟨_, rfl⟩ (.cons ⟨_, rfl⟩ .nil))⟩⟩,
    v_STEPS_2 := ⟨_, ⟨_, _, _, D_STEPS, Y_STEPS, N_STEPS_2, rfl⟩, fun H => .inr ⟨_, _, _, V_STEPS_2, rfl, rfl, by show 2 ≤ sizeLine; decide, (.cons ⟨_, rfl⟩ (.cons ⟨_, rfl⟩ .nil))⟩⟩,
    v_STEPS_3 := ⟨_, ⟨_, _, _, D_STEPS, Y_STEPS, N_STEPS_3, rfl⟩, fun H => .inr ⟨_, _, _, V_STEPS_3, rfl, rfl, by show 2 ≤ sizeLine; decide, (.cons ⟨_, rfl⟩ (.cons ⟨_, rfl⟩ .nil))⟩⟩,
    g_SMALL := ⟨_, PySem.W.mg_of X G A_SMALL⟩,
    g_GREAT := ⟨_, PySem.W.mg_of X G A_GREAT⟩,
    g_LONGEST := ⟨_, PySem.W.mg_of X G A_LONGEST⟩,
    a_WORDS_ALONE := f_WORDS_ALONE, g_WORDS_ALONE := PySem.W.mg_of X G A_WORDS_ALONE,
    v_WORDS_ALONE := fun H => .inr ⟨_, _, _, V_WORDS_ALONE, rfl, rfl, by show 6 ≤ sizeLine; decide, (.cons ⟨_, rfl⟩ (.cons ⟨_, rfl⟩ (.cons ⟨_, rfl⟩ (.cons ⟨_, rfl⟩ (.cons ⟨_, rfl⟩ (.cons ⟨_, rfl⟩ .nil))))))⟩,
    a_WORDS_BEHIND_A_FACE := f_WORDS_BEHIND_A_FACE, g_WORDS_BEHIND_A_FACE := PySem.W.mg_of X G A_WORDS_BEHIND_A_FACE,
    v_WORDS_BEHIND_A_FACE := fun H => .inr ⟨_, _, _, V_WORDS_BEHIND_A_FACE, rfl, rfl, by show 6 ≤ sizeLine; decide, (.cons ⟨_, rfl⟩ (.cons ⟨_, rfl⟩ (.cons ⟨_, rfl⟩ (.cons ⟨_, rfl⟩ (.cons ⟨_, rfl⟩ (.cons ⟨_, rfl⟩ .nil))))))⟩,
    g_FIGURES := ⟨_, PySem.W.mg_of X G A_FIGURES⟩,
    g_MOST_FIGURES := ⟨_, PySem.W.mg_of X G A_MOST_FIGURES⟩,
    g_NONE_AT_ALL := ⟨_, PySem.W.mg_of X G A_NONE_AT_ALL⟩,
    m_abs := PySem.W.mg_none_of X G Z_abs, m_all := PySem.W.mg_none_of X G Z_all, m_bool := PySem.W.mg_none_of X G Z_bool, m_enumerate := PySem.W.mg_none_of X G Z_enumerate, m_int := PySem.W.mg_none_of X G Z_int, m_isinstance := PySem.W.mg_none_of X G Z_isinstance, m_len := PySem.W.mg_none_of X G Z_len, m_list := PySem.W.mg_none_of X G Z_list, m_range := PySem.W.mg_none_of X G Z_range, m_str := PySem.W.mg_none_of X G Z_str, m_tuple := PySem.W.mg_none_of X G Z_tuple, m_zip := PySem.W.mg_none_of X G Z_zip }
  exact ⟨T.fd_law, fun s v => .of_eq rfl, fun base _ _ => ok_law T⟩
end M
open PySem PySem.W PyProof.Rows
set_option maxHeartbeats 0 in
theorem PySem.Challenge.cw_wayneedle_k81_logs_written_holds : PySem.Challenge.rw_wayneedle_k81_logs_written.Holds := by
  w_on; o_law; k_head; (case hw => w_witness2)
  k_fill
  refine GuG.walk (l := PySem.Challenge.rw_wayneedle_k81_logs_written) (n := 63) (k := 8) (x := "_law_script") (sp := fun w => M.spLaw _) rfl (by decide) rfl ⟨rfl, by decide, by decide⟩ (fun w h Y => PySem.W.kIn_of Y) ?F (fun _ _ a ns hl _ hS => ⟨a, ns, rfl, hS, hl, fun _ => rfl⟩)
  case F =>
    intro w mg fa h KX G hmg
    refine' M.all_mk KX G hmg ?A_is_whole ?L_is_whole ?C_is_whole ?K_is_whole ?A_is_letter ?L_is_letter ?C_is_letter ?K_is_letter ?A_is_short_text ?L_is_short_text ?C_is_short_text ?K_is_short_text ?A_are_small ?L_are_small ?C_are_small ?K_are_small ?A_is_name ?L_is_name ?C_is_name ?K_is_name ?A_is_lone ?L_is_lone ?C_is_lone ?K_is_lone ?A_is_sign ?L_is_sign ?C_is_sign ?K_is_sign ?A_is_many ?L_is_many ?C_is_many ?K_is_many ?A_is_pair_entry ?L_is_pair_entry ?C_is_pair_entry ?K_is_pair_entry ?A_is_entry ?L_is_entry ?C_is_entry ?K_is_entry ?A_held_log ?L_held_log ?C_held_log ?K_held_log ?A_entry_text ?L_entry_text ?C_entry_text ?K_entry_text ?A_log_text ?L_log_text ?C_log_text ?K_log_text ?A_number_in ?L_number_in ?C_number_in ?K_number_in ?A_entry_in ?L_entry_in ?C_entry_in ?K_entry_in ?A_read_log ?L_read_log ?C_read_log ?K_read_log ?A_Lany_entry ?L_Lany_entry ?C_Lany_entry ?K_Lany_entry ?A_Lany_log ?L_Lany_log ?C_Lany_log ?K_Lany_log ?A_Llisted ?L_Llisted ?C_Llisted ?K_Llisted ?A_Lpool ?L_Lpool ?C_Lpool ?K_Lpool ?A_Ltake ?L_Ltake ?C_Ltake ?K_Ltake ?A_Lwhole ?L_Lwhole ?C_Lwhole ?K_Lwhole ?A_Lsame ?L_Lsame ?C_Lsame ?K_Lsame ?A_Lname ?L_Lname ?C_Lname ?K_Lname ?A_Lsign ?L_Lsign ?C_Lsign ?K_Lsign ?A_law ?L_law ?C_law ?K_law ?A_STEPS ?D_STEPS ?Y_STEPS ?lo_STEPS ?ke_STEPS ?N_STEPS_0 ?V_STEPS_0 ?N_STEPS_1 ?V_STEPS_1 ?N_STEPS_2 ?V_STEPS_2 ?N_STEPS_3 ?V_STEPS_3 ?A_SMALL ?A_GREAT ?A_LONGEST ?A_WORDS_ALONE ?V_WORDS_ALONE ?A_WORDS_BEHIND_A_FACE ?V_WORDS_BEHIND_A_FACE ?A_FIGURES ?A_MOST_FIGURES ?A_NONE_AT_ALL ?Z_abs ?Z_all ?Z_bool ?Z_enumerate ?Z_int ?Z_isinstance ?Z_len ?Z_list ?Z_range ?Z_str ?Z_tuple ?Z_zip
    (case A_is_whole => k_is); (case L_is_whole => k_is); (case C_is_whole => k_is); (case K_is_whole => k_is); (case A_is_letter => k_is); (case L_is_letter => k_is); (case C_is_letter => k_is); (case K_is_letter => k_is); (case A_is_short_text => k_is); (case L_is_short_text => k_is); (case C_is_short_text => k_is); (case K_is_short_text => k_is); (case A_are_small => k_is); (case L_are_small => k_is); (case C_are_small => k_is); (case K_are_small => k_is); (case A_is_name => k_is); (case L_is_name => k_is); (case C_is_name => k_is); (case K_is_name => k_is); (case A_is_lone => k_is); (case L_is_lone => k_is); (case C_is_lone => k_is); (case K_is_lone => k_is); (case A_is_sign => k_is); (case L_is_sign => k_is); (case C_is_sign => k_is); (case K_is_sign => k_is); (case A_is_many => k_is); (case L_is_many => k_is); (case C_is_many => k_is); (case K_is_many => k_is); (case A_is_pair_entry => k_is); (case L_is_pair_entry => k_is); (case C_is_pair_entry => k_is); (case K_is_pair_entry => k_is); (case A_is_entry => k_is); (case L_is_entry => k_is); (case C_is_entry => k_is); (case K_is_entry => k_is); (case A_held_log => k_is); (case L_held_log => k_is); (case C_held_log => k_is); (case K_held_log => k_is); (case A_entry_text => k_is); (case L_entry_text => k_is); (case C_entry_text => k_is); (case K_entry_text => k_is); (case A_log_text => k_is); (case L_log_text => k_is); (case C_log_text => k_is); (case K_log_text => k_is); (case A_number_in => k_is); (case L_number_in => k_is); (case C_number_in => k_is); (case K_number_in => k_is); (case A_entry_in => k_is); (case L_entry_in => k_is); (case C_entry_in => k_is); (case K_entry_in => k_is); (case A_read_log => k_is); (case L_read_log => k_is); (case C_read_log => k_is); (case K_read_log => k_is); (case A_Lany_entry => k_is); (case L_Lany_entry => k_is); (case C_Lany_entry => k_is); (case K_Lany_entry => k_is); (case A_Lany_log => k_is); (case L_Lany_log => k_is); (case C_Lany_log => k_is); (case K_Lany_log => k_is); (case A_Llisted => k_is); (case L_Llisted => k_is); (case C_Llisted => k_is); (case K_Llisted => k_is); (case A_Lpool => k_is); (case L_Lpool => k_is); (case C_Lpool => k_is); (case K_Lpool => k_is); (case A_Ltake => k_is); (case L_Ltake => k_is); (case C_Ltake => k_is); (case K_Ltake => k_is); (case A_Lwhole => k_is); (case L_Lwhole => k_is); (case C_Lwhole => k_is); (case K_Lwhole => k_is); (case A_Lsame => k_is); (case L_Lsame => k_is); (case C_Lsame => k_is); (case K_Lsame => k_is); (case A_Lname => k_is); (case L_Lname => k_is); (case C_Lname => k_is); (case K_Lname => k_is); (case A_Lsign => k_is); (case L_Lsign => k_is); (case C_Lsign => k_is); (case K_Lsign => k_is); (case A_law => k_is); (case L_law => k_is); (case C_law => k_is); (case K_law => k_is); (case A_STEPS => k_is); (case D_STEPS => k_is); (case Y_STEPS => k_keys); (case lo_STEPS => first | rfl | decide +kernel); (case ke_STEPS => exact ⟨⟨_, rfl⟩, ⟨_, rfl⟩, ⟨_, rfl⟩, ⟨_, rfl⟩, True.intro⟩); (case N_STEPS_0 => k_is); (case V_STEPS_0 => k_is); (case N_STEPS_1 => k_is); (case V_STEPS_1 => k_is); (case N_STEPS_2 => k_is); (case V_STEPS_2 => k_is); (case N_STEPS_3 => k_is); (case V_STEPS_3 => k_is); (case A_SMALL => k_is); (case A_GREAT => k_is); (case A_LONGEST => k_is); (case A_WORDS_ALONE => k_is); (case V_WORDS_ALONE => k_is); (case A_WORDS_BEHIND_A_FACE => k_is); (case V_WORDS_BEHIND_A_FACE => k_is); (case A_FIGURES => k_is); (case A_MOST_FIGURES => k_is); (case A_NONE_AT_ALL => k_is); (case Z_abs => k_is); (case Z_all => k_is); (case Z_bool => k_is); (case Z_enumerate => k_is); (case Z_int => k_is); (case Z_isinstance => k_is); (case Z_len => k_is); (case Z_list => k_is); (case Z_range => k_is); (case Z_str => k_is); (case Z_tuple => k_is); (case Z_zip => k_is)
