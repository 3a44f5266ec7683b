import PyProof.Rows.All
import Wide.All
import OpenK.AllK
import Wide.FinOn
import HandS.ForMost
import HandS.ForExc
import HandS.HotCalls
import HandS.ExcIs
import HandS.ExcInit
import HandS.ExcField
import HandS.Defaults
import HandS.CallSlots
import HandS.Deep
import KE.GoesEnum
import KE.GoesNew
import HandS.IsInst
import HandS.Replace
import HandS.Wide
import HandS.NoneIn
import HandS.Walk
import HandS.Evl
import HandS.More
import HandS.Zip
import HandS.Conv
import KE.KxIndex
import PySem.Challenge.RW_wayneedle_k83_dealings_written
import HandS.TupMul
import HandS.Star
import HandS.TupAny
import HandS.Flow
import HandS.RaiseMore
set_option Elab.async false
set_option linter.all false
set_option maxRecDepth 100000
set_option maxHeartbeats 4000000

/-! ### iterators that hand out pairs (enumerate, zip), over what is a list or a tuple: one turn for all of them, by GoesN -/
namespace PairW
open PySem PySem.Spec PyProof.Rows L2
/-- a sequence and an iterator over it: a tuple (true) or a list (false) -/
def SqB (t : Bool) (h : Heap) (l : Addr) (xs : Array Value) : Prop := match t with
  | true => h.IsTuple l xs
  | false => h.IsList l xs
def ItB (t : Bool) (h : Heap) (it l : Addr) (k : Nat) : Prop := match t with
  | true => h.IsTupleIter it l k
  | false => h.IsListIter it l k
def SqV (t : Bool) (K : PySem.W.Frag) (H : Hp) (a : Addr) (xs : List V) : Prop := match t with
  | true => SqT K H a xs
  | false => SqL K H a xs
def itO (t : Bool) (l : Addr) : Obj := match t with
  | true => { cls := .type "tuple_iterator", data := .fields #[.ref l, .int 0 0] }
  | false => { cls := .type "list_iterator", data := .fields #[.ref l, .int 0 0] }
theorem SqB.lt {t : Bool} {h : Heap} {a : Addr} {xs : Array Value} (q : SqB t h a xs) : a < h.objs.size := by
  cases t <;> (obtain ⟨o, e, _⟩ := q; exact Heap.lt_size e)
theorem ItB.at {t : Bool} {h h' : Heap} {a l : Addr} {k : Nat} (x : ItB t h a l k) (e : ∀ o, h.get? a = some o → h'.get? a = some o) : ItB t h' a l k := by
  cases t
  · exact Heap.IsListIter.at x e
  · exact Heap.IsTupleIter.at x e
theorem ItB.obj {t : Bool} {h : Heap} {a l : Addr} {k : Nat} (x : ItB t h a l k) : ∃ o, h.get? a = some o ∧ ∀ v, o.data ≠ .cell v := by
  cases t <;> (obtain ⟨o, e, _, d⟩ := x; exact ⟨o, e, fun v q => by rw [d] at q; cases q⟩)
theorem itO_is {t : Bool} {h : Heap} {a l : Addr} (e : h.get? a = some (itO t l)) : ItB t h a l 0 := by
  cases t <;> exact ⟨_, e, rfl, rfl⟩
theorem sqv_get {X : Cx} {pins : List (Addr × Obj)} {σ : L2.St} {H : Hp} {s : Shared} {t : Bool} {a : Addr} {xs : List V} (I : Inv X pins σ H s) (h : SqV t X.K H a xs) : ∃ its, Vals xs its ∧ SqB t s.heap a its.toArray := by
  cases t
  · obtain ⟨its, rv, there, _⟩ := I.list h
    exact ⟨its, rv, there.isList⟩
  · obtain ⟨its, rv, there, _⟩ := I.tuple h
    exact ⟨its, rv, there⟩
theorem sqv_inj {X : Cx} {pins : List (Addr × Obj)} {σ : L2.St} {H : Hp} {s : Shared} {t : Bool} {a : Addr} {xs ys : List V} (I : Inv X pins σ H s) (h : SqV t X.K H a xs) (h' : SqV t X.K H a ys) : xs = ys := by
  cases t
  · exact I.list_inj h h'
  · exact I.tuple_inj h h'
theorem draws {prog : Program} {w : World} {A : Around} (hh : A.handled = none) (t : Bool) {it l : Addr} (ne : l ≠ it) (items : Array Value) :
    Draws prog w A it [it, l] items.size (fun i v => items[i]? = some v) (fun i h => ItB t h it l i ∧ SqB t h l items) := by
  cases t
  · exact Draws.list hh it l ne items
  · exact Draws.tuple hh it l ne items
theorem begins (t : Bool) (l : Addr) (items : Array Value) : Begins (.ref l) (itO t l) (fun h => SqB t h l items) := by
  cases t
  · exact begins_list l items
  · exact begins_tuple l items
/-- an iterator stands, made of new cells alone -/
theorem begun {X : Cx} {pins : List (Addr × Obj)} {σ : L2.St} {H : Hp} {s : Shared} {tg : Expr} {J : It} {fp : List Addr} {it : Addr} {tn : Nat → Heap → Prop} {R : It → Hp → Prop} {h' : Heap} (I : Inv X pins σ H s)
    (old : ∀ b o, s.heap.get? b = some o → h'.get? b = some o) (T : Turn X.prog X.w X.K tg J fp it tn) (st : tn 0 h') (new : ∀ b ∈ fp, s.heap.objs.size ≤ b) (q : R J H) : PIE X pins σ tg R (.ref it) { s with heap := h' } :=
  ⟨it, fp, tn, J, H, rfl, I.kept (t' := s.toks) old, T, st, fun b m => I.fpOk (new b m) (I.hok.fresh (new b m)), q⟩
/-- pairs: when there is one, of what it is, when there is none any more -/
structure Prs where
  go : Nat → Hp → Prop
  are : Nat → Hp → V → V → Prop
  stop : Nat → Hp → Prop
def Prs.it (p : Prs) : It where
  go := p.go
  yld := fun i H v H' => ∃ T x y, v = .ref T ∧ H T = none ∧ H' = upd H T (.tup [x, y]) ∧ p.are i H x y
  stop := p.stop
/-- what the iterator that stands at i over the sequences as they are now does: the library's GoesN, with what its pairs are -/
def Does (P : Program) (w : World) (X : Cx) (tg : Expr) (p : Prs) (it : Addr) (wr : List Addr) (tn : Nat → Heap → Prop) (i : Nat) (H : Hp) (s : Shared) : Prop :=
  ∃ (n : Nat) (fp : List Addr) (Y : Nat → Heap → Value → Heap → Prop) (St : Nat → Heap → Prop), GoesN P w X.A tg it fp wr n Y St ∧ St i s.heap ∧ (∀ h, St (i + 1) h → tn (i + 1) h) ∧ (p.stop i H → i = n) ∧
    (p.go i H → i < n ∧ ∀ h0 v h, Y i h0 v h → ∃ T a b x y, v = .ref T ∧ h0.objs.size ≤ T ∧ h.IsTuple T #[a, b] ∧ RelV x a ∧ RelV y b ∧ p.are i H x y)
theorem turn_prs {P : Program} {w : World} {K : PySem.W.Frag} {tg : Expr} {it : Addr} {fp wr : List Addr} {tn : Nat → Heap → Prop} (p : Prs) (mine : it ∈ fp) (hwr : ∀ b ∈ wr, b ∈ fp)
    (obj : ∀ i h, tn i h → ∀ b ∈ fp, ∃ o, h.get? b = some o ∧ ∀ v, o.data ≠ .cell v) (keep : ∀ i h h', tn i h → (∀ b ∈ fp, ∀ o, h.get? b = some o → h'.get? b = some o) → tn i h')
    (self : ∀ (A : Around) (i : Nat) (s : Shared) (Q : Value → Shared → Prop) (E : Value → Shared → Prop), tn i s.heap → Q (.ref it) s → wpAny (model P w) A (pyIter (.ref it)) Q E s)
    (does : ∀ (X : Cx), X.prog = P → X.w = w → X.K = K → X.calm = true → ∀ i pins s σ H, Inv X pins σ H s → tn i s.heap → (p.go i H ∨ p.stop i H) → Does P w X tg p it wr tn i H s) : Turn P w K tg p.it fp it tn where
  mem := mine
  obj := obj
  keep := keep
  self := self
  item := fun X e1 e2 e3 calm i pins s σ H E I free st more => by
    obtain ⟨n, fp', Y, St, W, here, next, _, far⟩ := does X e1 e2 e3 calm i pins s σ H I st (.inl more)
    obtain ⟨lt, pair⟩ := far more
    refine W.goes i s (fun u s2 => ∃ x H', Inv X pins σ H' s2 ∧ RelV x u ∧ p.it.yld i H x H' ∧ tn (i + 1) s2.heap ∧ ∀ b ∈ fp, H' b = none) E lt here fun v h' tk told st' old _ => ?_
    obtain ⟨T, a, b, x, y, rfl, new, tup, ra, rb, are⟩ := pair _ _ _ told
    refine ⟨.ref T, upd H T (.tup [x, y]), I.turnedNew (ch := wr) old (fun c m => free c (hwr c m)) new ⟨by show 2 ≤ sizeLine; decide, [a, b], .cons ra (.cons rb .nil), tup⟩, rfl, ⟨T, x, y, rfl, I.hok.fresh new, rfl, are⟩, next _ st', fun c m => ?_⟩
    obtain ⟨o, ho, _⟩ := obj i _ st c m
    exact (upd_ne (Nat.ne_of_lt (Nat.lt_of_lt_of_le (Heap.lt_size ho) new))).trans (free c m).1
  done := fun X e1 e2 e3 calm i pins s σ H E I free st none => by
    obtain ⟨n, fp', Y, St, W, here, _, last, _⟩ := does X e1 e2 e3 calm i pins s σ H I st (.inr none)
    rw [last none] at here
    exact W.stops s (fun s1 => Inv X pins σ H s1) E here fun h' tk old _ => I.turnedL (ch := wr) old fun c m => free c (hwr c m)
/-! enumerate, from k0 on -/
def PrE (t : Bool) (k0 : Int) (K : PySem.W.Frag) (a : Addr) : Prs where
  go := fun i H => ∃ xs : List V, SqV t K H a xs ∧ i < xs.length
  are := fun i H x y => x = .int (k0 + (i : Nat)) ∧ ∀ xs, SqV t K H a xs → xs[i]? = some y
  stop := fun i H => ∃ xs : List V, SqV t K H a xs ∧ i = xs.length
def TnE (t : Bool) (k0 : Int) (a e it : Addr) (i : Nat) (h : Heap) : Prop := (∃ old, IsEnum h e it (k0 + (i : Int)) old) ∧ ItB t h it a i
theorem turn_e {P : Program} {w : World} {K : PySem.W.Frag} {elts : List Expr} {kk : Nat} {tpos : Pos} {t : Bool} {k0 : Int} {a e it : Addr} (hai : a ≠ it) (hae : a ≠ e) (hei : e ≠ it) :
    Turn P w K (.Tuple elts kk tpos) (PrE t k0 K a).it [e, it] e (TnE t k0 a e it) := by
  refine turn_prs (wr := [e, it]) _ (by simp) (fun _ m => m) (fun i h st b m => ?_) (fun i h h' st k => ?_) (fun A i s Q E st q => ?_) fun X e1 e2 e3 calm i pins s σ H I st told => ?_
  · obtain ⟨⟨_, he⟩, hi⟩ := st
    rcases List.mem_cons.mp m with z | m
    · exact z ▸ ⟨_, he, fun _ q => nomatch q⟩
    · exact List.mem_singleton.mp m ▸ hi.obj
  · obtain ⟨⟨old, he⟩, hi⟩ := st
    exact ⟨⟨old, k e (by simp) _ he⟩, hi.at fun o => k it (by simp) o⟩
  · exact wpAny_pyIter_enum st.1.choose_spec q
  · subst e1 e2 e3
    obtain ⟨xs, hq⟩ : ∃ xs : List V, SqV t X.K H a xs := told.elim (fun ⟨xs, q, _⟩ => ⟨xs, q⟩) fun ⟨xs, q, _⟩ => ⟨xs, q⟩
    obtain ⟨its, rv, there⟩ := sqv_get I hq
    have many : xs.length = its.toArray.size := by rw [List.size_toArray]; exact rv.length
    have D := draws (prog := X.prog) (w := X.w) (A := X.A.in1) (I.ok.hd calm) t hai its.toArray
    refine ⟨_, _, _, _, GoesN.enumFrom k0 D e hei (by simp; exact ⟨hei, Ne.symm hae⟩) (by simp), ⟨st.1, st.2, there⟩, fun h q => ⟨q.1, q.2.1⟩, fun ⟨ys, q, n⟩ => by rw [n, sqv_inj I q hq, many], fun ⟨ys, q, n⟩ => ⟨?_, ?_⟩⟩
    · rw [sqv_inj I q hq, many] at n; exact n
    · rintro h0 v h ⟨T, tk, u, rfl, new, hu, tup⟩
      have ix : i < xs.length := by rw [← sqv_inj I q hq]; exact n
      obtain ⟨u', hu', ru⟩ := rv.get (List.getElem?_eq_getElem ix)
      have same : u' = u := Option.some.inj (hu'.symm.trans (by simpa using hu))
      exact ⟨T, _, u, .int (k0 + (i : Nat)), xs[i], rfl, new, tup, ⟨tk, rfl⟩, same ▸ ru, rfl, fun zs hz => by rw [sqv_inj I hz hq]; exact List.getElem?_eq_getElem ix⟩
theorem walk_e {t : Bool} {k0 : Int} {K : PySem.W.Frag} {a : Addr} {xs : List V} : Walk (PrE t k0 K a).it xs.length (fun H => SqV t K H a xs) (YPair (fun i => some (.int (k0 + (i : Nat)))) (fun i => xs[i]?)) where
  goes := fun i H lt q => ⟨xs, q, lt⟩
  stops := fun H q => ⟨xs, q, rfl⟩
  yields := fun i H v H' _ q ⟨T, x, y, e1, e2, e3, e4, e5⟩ => ⟨T, x, y, e1, e2, e3, by rw [e4], e5 xs q⟩
/-- the two cells of an enumerate that was made just now -/
theorem pie_e {X : Cx} {pins : List (Addr × Obj)} {σ : L2.St} {H : Hp} {s : Shared} {elts : List Expr} {kk : Nat} {tpos : Pos} {t : Bool} {k0 : Int} {a : Addr} {xs : List V} {R : It → Hp → Prop} {h' : Heap} (I : Inv X pins σ H s) (hq : SqV t X.K H a xs)
    (he : IsEnum h' (s.heap.objs.size + 1) s.heap.objs.size k0 .none) (hi : h'.get? s.heap.objs.size = some (itO t a)) (old : ∀ b o, s.heap.get? b = some o → h'.get? b = some o) (q : R (PrE t k0 X.K a).it H) :
    wpAny (model X.prog X.w) X.A (pyIter (.ref (s.heap.objs.size + 1))) (PIE X pins σ (.Tuple elts kk tpos) R) X.xe { s with heap := h' } := by
  obtain ⟨its, _, there⟩ := sqv_get I hq
  have lt := there.lt
  refine wpAny_pyIter_enum he (begun I old (turn_e (t := t) (k0 := k0) (Nat.ne_of_lt lt) (Nat.ne_of_lt (Nat.lt_succ_of_lt lt)) (Nat.succ_ne_self _)) ⟨⟨.none, ?_⟩, itO_is hi⟩ (fun b m => ?_) q)
  · show IsEnum h' _ _ (k0 + 0) _
    rw [Int.add_zero]; exact he
  · rcases List.mem_cons.mp m with z | m
    · exact z ▸ Nat.le_succ _
    · exact Nat.le_of_eq (List.mem_singleton.mp m).symm
/-- enumerate of one thing, whatever its iterator is -/
theorem made_one {v : Value} {o : Obj} {G : Heap → Prop} (B : Begins v o G) : Meets (Builtin.«enumerate.__new__» ⟨[.type "enumerate", v], []⟩) (fun _ R s => G s.heap ∧
    R (.ok (.ret (.ref (s.heap.push o).objs.size))) { s with heap := (s.heap.push o).push { cls := .type "enumerate", data := .fields #[.none, .bool false, .ref s.heap.objs.size, rawInt 0, .none, .none] } }) := .of_wp fun prog w A R ⟨hp, g, dr, tk, os⟩ ⟨stands, ends⟩ => by
  have known := sub_enumerate
  have first : ∀ {A' : Around} {E Q : Value → Shared → Prop}, Q (.ref hp.objs.size) ⟨hp.push o, g, dr, tk, os⟩ → wpAny (model prog w) A' (pyIter v) Q E ⟨hp, g, dr, tk, os⟩ := fun q => B.iter prog w _ _ ⟨hp, g, dr, tk, os⟩ _ stands q
  wp_walk using first
  refine wpAny_stack_any (fun _ => wpAny_pure ?_)
  split
  next c _ _ _ _ _ => cases (c == Value.type "enumerate") <;> (wp_walk using first; exact ⟨_, rfl, ends⟩)
  next => wp_walk using first; exact ⟨_, rfl, ends⟩
theorem call_one {prog : Program} {w : World} {A : Around} {E : Value → Shared → Prop} {s : Shared} {v : Value} {o : Obj} {G : Heap → Prop} {Q : Value → Shared → Prop} (B : Begins v o G) (stands : G s.heap)
    (then_ : ∀ h', IsEnum h' (s.heap.objs.size + 1) s.heap.objs.size 0 .none → h'.get? s.heap.objs.size = some o → (∀ b o, s.heap.get? b = some o → h'.get? b = some o) → Q (.ref (s.heap.objs.size + 1)) { s with heap := h' }) :
    wpAny (model prog w) A (call (.type "enumerate") [v]) Q E s := by
  refine callType_new F.called_enumerate (by decide) (F.typeCall_enumerate_1 _) (F.newCall_enumerate_1 _) (fun obj => F.args_object_init_2 obj _) F.entry_enumerate_new (made_one B) ⟨stands, ?_⟩
  have n1 := Heap.size_push s.heap o
  have last : IsEnum ((s.heap.push o).push { cls := .type "enumerate", data := .fields #[.none, .bool false, .ref s.heap.objs.size, rawInt 0, .none, .none] }) (s.heap.objs.size + 1) s.heap.objs.size 0 .none := n1 ▸ Heap.get?_push_size (s.heap.push o) rfl
  refine n1.symm ▸ ⟨⟨_, last, rfl⟩, then_ _ last ?_ fun b u z => ?_⟩
  · exact Heap.get?_push_of_some _ (Heap.get?_push_size _ B.free)
  · exact Heap.get?_push_of_some _ (Heap.get?_push_of_some _ z)
end PairW
namespace EnumT
open PySem PySem.Spec PyProof.Rows L2 PairW
theorem walk_enumT {K : PySem.W.Frag} {a : Addr} {xs : List V} : Walk (PrE true 0 K a).it xs.length (fun H => SqT K H a xs) (YPair (fun i => some (.int (i : Nat))) (fun i => xs[i]?)) := by
  have w := walk_e (t := true) (k0 := 0) (K := K) (a := a) (xs := xs)
  simp only [Int.zero_add] at w
  exact w
def iEnumT (K : PySem.W.Frag) (ta : TA) : TI := fun σ H R => ta σ H fun vs H1 => ∃ a xs, vs = [.ref a] ∧ SqT K H1 a xs ∧ R (PrE true 0 K a).it H1
theorem pi_enumT {X : Cx} {e : Expr} {ta : TA} {p pos tpos : Pos} {elts : List Expr} {kk : Nat} (hg : Gl X "enumerate") (hm : X.mg "enumerate" = none) (ha : PA X [e] ta)
    (hs : starEach [e] X.env = [(false, eval e X.env)] := by rfl) : PI X (.Tuple elts kk tpos) (.Call (.Name "enumerate" p) [e] [] pos) (iEnumT X.K ta) where
  run := fun pins s σ H R I h => Call_ (ld_blt I hg hm boot_enumerate (PyProof.Rows.callWith_type1 (thn (ha.run pos pins s σ H _ I h) fun us s1 ⟨vs, H1, I1, rv, a, xs, e, hq, q⟩ => by
    subst e
    obtain ⟨_, rfl, rfl⟩ := vals1 rv
    obtain ⟨its, _, there⟩ := sqv_get (t := true) I1 hq
    exact call_one (begins true a its.toArray) there fun h' he hi old => pie_e (t := true) (xs := xs) I1 hq he hi old q) hs rfl))
end EnumT
/-! ### walks over what is a list or a tuple -/
namespace SeqW
open PySem PySem.Spec PySem.Calls PyProof.Rows L2
/-- what stands at a is as it was -/
def Keeps (a : Addr) (H H' : Hp) : Prop := ∀ o, H a = some o → H' a = some o
theorem keeps_v {t : Bool} {K : PySem.W.Frag} {H H' : Hp} {a : Addr} {xs : List V} (k : Keeps a H H') (h : PairW.SqV t K H a xs) : PairW.SqV t K H' a xs := by
  cases t <;> exact h.elim (fun h => .inl (h.elim (fun h => .inl (k _ h)) fun ⟨o, h⟩ => .inr ⟨o, k _ h⟩)) .inr
theorem keeps_l {K : PySem.W.Frag} {H H' : Hp} {a : Addr} {xs : List V} (k : Keeps a H H') (h : SqL K H a xs) : SqL K H' a xs := keeps_v (t := false) k h
theorem keeps_t {K : PySem.W.Frag} {H H' : Hp} {a : Addr} {xs : List V} (k : Keeps a H H') (h : SqT K H a xs) : SqT K H' a xs := keeps_v (t := true) k h
theorem keeps_same {a : Addr} {H H' : Hp} (s : Same H H') : Keeps a H H' := fun o h => s a o h
theorem ix_seqK {X : Cx} {K : PySem.W.Frag} (h : X.K = K) : IxR X (rIx K) := by
  subst h
  exact ix_seq
def iSeq (K : PySem.W.Frag) (tl : TE) : TI := fun σ H R => tl σ H fun x H1 => ∃ a xs, x = .ref a ∧ ∃ Kp : Hp → Prop, ((∀ H', Kp H' → SqL K H' a xs) ∨ (∀ H', Kp H' → SqT K H' a xs)) ∧ Kp H1 ∧ ∀ (J : It) (G : Hp → Prop), Walk J xs.length G (YAt xs) → (∀ H', Kp H' → G H') → R J H1
theorem pi_seq {X : Cx} {tg l : Expr} {tl : TE} (hl : PE X l tl) : PI X tg l (iSeq X.K tl) where
  run := fun pins s σ H R I h => thn (hl.run pins s σ H _ I h) fun v s1 ⟨x, H1, I1, rv, a, xs, e, Kp, side, kp, q⟩ => by
    subst e
    cases rv
    have new : ∀ b ∈ [s1.heap.objs.size], s1.heap.objs.size ≤ b := fun b m => Nat.le_of_eq (List.mem_singleton.mp m).symm
    rcases side with is | is
    · obtain ⟨its, _, there, _⟩ := I1.list (is _ kp)
      exact wpAny_pyIter_list there.isList (PairW.begun I1 (fun _ _ => Heap.get?_push_of_some _) (turn_list a _) ⟨_, Heap.get?_push_size _ rfl, rfl, rfl⟩ new (q _ _ walk_list is))
    · obtain ⟨its, _, there, _⟩ := I1.tuple (is _ kp)
      exact wpAny_pyIter_tuple (show s1.heap.IsTuple a its.toArray from there) (PairW.begun I1 (fun _ _ => Heap.get?_push_of_some _) (turn_tuple a _) ⟨_, Heap.get?_push_size _ rfl, rfl, rfl⟩ new (q _ _ walk_tup is))
def iEnumA (K : PySem.W.Frag) (ta : TA) : TI := fun σ H R => ta σ H fun vs H1 => ∃ a xs, vs = [.ref a] ∧ ∃ Kp : Hp → Prop, ((∀ H', Kp H' → SqL K H' a xs) ∨ (∀ H', Kp H' → SqT K H' a xs)) ∧ Kp H1 ∧ ∀ (J : It) (G : Hp → Prop), Walk J xs.length G (YPair (fun i => some (.int (i : Nat))) (fun i => xs[i]?)) → (∀ H', Kp H' → G H') → R J H1
theorem pi_enumA {X : Cx} {e : Expr} {ta : TA} {p pos tpos : Pos} {elts : List Expr} {kk : Nat} (hg : Gl X "enumerate") (hm : X.mg "enumerate" = none) (ha : PA X [e] ta)
    (hs : starEach [e] X.env = [(false, eval e X.env)] := by rfl) : PI X (.Tuple elts kk tpos) (.Call (.Name "enumerate" p) [e] [] pos) (iEnumA X.K ta) where
  run := fun pins s σ H R I h => Call_ (ld_blt I hg hm boot_enumerate (PyProof.Rows.callWith_type1 (thn (ha.run pos pins s σ H _ I h) fun us s1 ⟨vs, H1, I1, rv, a, xs, e, Kp, side, kp, q⟩ => by
    subst e
    obtain ⟨_, rfl, rfl⟩ := vals1 rv
    have go : ∀ t : Bool, (∀ H', Kp H' → PairW.SqV t X.K H' a xs) → wpAny (model X.prog X.w) X.A (call (.type "enumerate") [.ref a]) (fun v s2 => wpAny (model X.prog X.w) X.A (pyIter v) (PIE X pins σ (.Tuple elts kk tpos) R) X.xe s2) X.xe s1 := fun t is => by
      obtain ⟨its, _, there⟩ := PairW.sqv_get I1 (is _ kp)
      have w := PairW.walk_e (t := t) (k0 := 0) (K := X.K) (a := a) (xs := xs)
      simp only [Int.zero_add] at w
      exact PairW.call_one (PairW.begins t a its.toArray) there fun h' he hi old => PairW.pie_e (xs := xs) I1 (is _ kp) he hi old (q _ _ w is)
    exact side.elim (go false) (go true)) hs rfl))
end SeqW
namespace M
open PySem PySem.Spec PyProof.Rows L2
def topS (i : Nat) : Stmt := PySem.Challenge.pw_wayneedle_k83_dealings_written.main.body.getD i (.Pass ⟨0, 0, 0, 0⟩)
abbrev s_is_whole : Stmt := topS 1
theorem sc_is_whole : FnScope ["thing"] ["thing"] (defScope s_is_whole) := ⟨rfl, rfl, rfl, by decide +kernel, rfl, by decide +kernel, by decide +kernel⟩
abbrev s_is_lot : Stmt := topS 9
theorem sc_is_lot : FnScope ["thing"] ["thing"] (defScope s_is_lot) := ⟨rfl, rfl, rfl, by decide +kernel, rfl, by decide +kernel, by decide +kernel⟩
abbrev s_dealing_text : Stmt := topS 14
theorem sc_dealing_text : FnScope ["dealing", "lot"] ["dealing"] (defScope s_dealing_text) := ⟨rfl, rfl, rfl, by decide +kernel, rfl, by decide +kernel, by decide +kernel⟩
abbrev s_number_in : Stmt := topS 15
theorem sc_number_in : FnScope ["word", "figure"] ["word"] (defScope s_number_in) := ⟨rfl, rfl, rfl, by decide +kernel, rfl, by decide +kernel, by decide +kernel⟩
abbrev s_read_dealing : Stmt := topS 16
theorem sc_read_dealing : FnScope ["text", "lots", "at", "lot", "word"] ["text"] (defScope s_read_dealing) := ⟨rfl, rfl, rfl, by decide +kernel, rfl, by decide +kernel, by decide +kernel⟩
abbrev s_Lpool : Stmt := topS 18
theorem sc_Lpool : FnScope ["_law_script", "_law_k", "_law_cell", "_law_left"] ["_law_script", "_law_k"] (defScope s_Lpool) := ⟨rfl, rfl, rfl, by decide +kernel, rfl, by decide +kernel, by decide +kernel⟩
abbrev s_Ltake : Stmt := topS 19
theorem sc_Ltake : FnScope ["_law_pool_here", "_law_wide", "_law_found", "_law_primes", "_law_one", "_law_two"] ["_law_pool_here", "_law_wide"] (defScope s_Ltake) := ⟨rfl, rfl, rfl, by decide +kernel, rfl, by decide +kernel, by decide +kernel⟩
abbrev s_Lwhole : Stmt := topS 20
theorem sc_Lwhole : FnScope ["_law_thing"] ["_law_thing"] (defScope s_Lwhole) := ⟨rfl, rfl, rfl, by decide +kernel, rfl, by decide +kernel, by decide +kernel⟩
abbrev s_Lsame : Stmt := topS 21
theorem sc_Lsame : FnScope ["_law_found", "_law_due", "_law_one", "_law_other"] ["_law_found", "_law_due"] (defScope s_Lsame) := ⟨rfl, rfl, rfl, by decide +kernel, rfl, by decide +kernel, by decide +kernel⟩
abbrev s_law : Stmt := topS 22
theorem sc_law : FnScope ["_law_script", "_law_pool_here", "_law_k", "_law_lots", "_law_due", "_law_handed", "_law_turn", "_law_lot"] ["_law_script"] (defScope s_law) := ⟨rfl, rfl, rfl, by decide +kernel, rfl, by decide +kernel, by decide +kernel⟩
/-- what the top has left -/
structure Top (w : World) (K : PySem.W.Frag) (mg : Str → Option Value) where
  a_is_whole : Addr
  fd_is_whole : FuncData
  F_is_whole : Fun K "is_whole" "is_whole" s_is_whole a_is_whole fd_is_whole
  b_is_whole : Binds K fd_is_whole ["thing"] []
  g_is_whole : mg "is_whole" = some (.ref a_is_whole)
  a_is_lot : Addr
  fd_is_lot : FuncData
  F_is_lot : Fun K "is_lot" "is_lot" s_is_lot a_is_lot fd_is_lot
  b_is_lot : Binds K fd_is_lot ["thing"] []
  g_is_lot : mg "is_lot" = some (.ref a_is_lot)
  a_dealing_text : Addr
  fd_dealing_text : FuncData
  F_dealing_text : Fun K "dealing_text" "dealing_text" s_dealing_text a_dealing_text fd_dealing_text
  b_dealing_text : Binds K fd_dealing_text ["dealing"] []
  g_dealing_text : mg "dealing_text" = some (.ref a_dealing_text)
  a_number_in : Addr
  fd_number_in : FuncData
  F_number_in : Fun K "number_in" "number_in" s_number_in a_number_in fd_number_in
  b_number_in : Binds K fd_number_in ["word"] []
  g_number_in : mg "number_in" = some (.ref a_number_in)
  a_read_dealing : Addr
  fd_read_dealing : FuncData
  F_read_dealing : Fun K "read_dealing" "read_dealing" s_read_dealing a_read_dealing fd_read_dealing
  b_read_dealing : Binds K fd_read_dealing ["text"] []
  g_read_dealing : mg "read_dealing" = some (.ref a_read_dealing)
  a_Lpool : Addr
  fd_Lpool : FuncData
  F_Lpool : Fun K "_law_pool" "_law_pool" s_Lpool a_Lpool fd_Lpool
  b_Lpool : Binds K fd_Lpool ["_law_script", "_law_k"] []
  g_Lpool : mg "_law_pool" = some (.ref a_Lpool)
  a_Ltake : Addr
  fd_Ltake : FuncData
  F_Ltake : Fun K "_law_take" "_law_take" s_Ltake a_Ltake fd_Ltake
  b_Ltake : Binds K fd_Ltake ["_law_pool_here", "_law_wide"] []
  g_Ltake : mg "_law_take" = some (.ref a_Ltake)
  a_Lwhole : Addr
  fd_Lwhole : FuncData
  F_Lwhole : Fun K "_law_whole" "_law_whole" s_Lwhole a_Lwhole fd_Lwhole
  b_Lwhole : Binds K fd_Lwhole ["_law_thing"] []
  g_Lwhole : mg "_law_whole" = some (.ref a_Lwhole)
  a_Lsame : Addr
  fd_Lsame : FuncData
  F_Lsame : Fun K "_law_same" "_law_same" s_Lsame a_Lsame fd_Lsame
  b_Lsame : Binds K fd_Lsame ["_law_found", "_law_due"] []
  g_Lsame : mg "_law_same" = some (.ref a_Lsame)
  a_law : Addr
  fd_law : FuncData
  F_law : Fun K "law" "law" s_law a_law fd_law
  b_law : Binds K fd_law ["_law_script"] []
  g_law : mg "law" = some (.ref a_law)
  g_FIGURES : ∃ t, mg "FIGURES" = some (.str "0123456789" t)
  g_MOST_FIGURES : ∃ t, mg "MOST_FIGURES" = some (.int 30 t)
  g_NONE_AT_ALL : ∃ t, mg "NONE_AT_ALL" = some (.str "-" t)
  m_abs : mg "abs" = none
  m_all : mg "all" = none
  m_bool : mg "bool" = none
  m_enumerate : mg "enumerate" = none
  m_int : mg "int" = none
  m_isinstance : mg "isinstance" = none
  m_len : mg "len" = none
  m_list : mg "list" = none
  m_range : mg "range" = none
  m_str : mg "str" = none
  m_tuple : mg "tuple" = none
  m_zip : mg "zip" = none
/-! ### heaps, pools -/
/-- all but what stands at p is as it was -/
def But (p : Addr) (H H' : Hp) : Prop := ∀ b o, b ≠ p → H b = some o → H' b = some o
theorem But.refl (p : Addr) (H : Hp) : But p H H := fun _ _ _ h => h
theorem But.trans {p : Addr} {H H1 H2 : Hp} (a : But p H H1) (b : But p H1 H2) : But p H H2 := fun c o hc h => b c o hc (a c o hc h)
theorem But.of {p : Addr} {H H' : Hp} (a : Same H H') : But p H H' := fun b o _ h => a b o h
theorem But.upd {p : Addr} {H H' : Hp} {o : HO} (a : But p H H') : But p H (upd H' p o) := fun b u hb h => by
  rw [upd_ne hb]
  exact a b u hb h
theorem same_upd {H : Hp} {p : Addr} {o : HO} (h : H p = none) : Same H (upd H p o) := fun b x e => by
  rw [upd_ne (ne_of_none e h)]
  exact e
/-- changed at a new place alone -/
theorem But.same {p : Addr} {H H1 H2 : Hp} (n : H p = none) (a : Same H H1) (b : But p H1 H2) : Same H H2 := fun c o h => b c o (ne_of_none h n) (a c o h)
theorem But.free {p l : Addr} {H H1 : Hp} (a : But p H H1) (n : l ≠ p) (h : H1 l = none) : H l = none := by
  cases e : H l with
  | none => rfl
  | some o =>
    rw [a l o n e] at h
    cases h
/-- a change at a place that H doesn't know -/
theorem But.mut {p l : Addr} {H H1 : Hp} {o : HO} (a : But p H H1) (n : H l = none) : But p H (L2.upd H1 l o) := fun b u hb h => by
  rw [upd_ne (ne_of_none h n)]
  exact a b u hb h
/-- the spring of draws: four whole numbers, the first not below nought -/
def Pool (H : Hp) (p : Addr) : Prop := ∃ l c k n : Int, 0 ≤ l ∧ H p = some (.lst [.int l, .int c, .int k, .int n])
theorem Pool.same {H H' : Hp} {p : Addr} (h : Pool H p) (e : Same H H') : Pool H' p := by
  obtain ⟨l, c, k, n, h0, h1⟩ := h
  exact ⟨l, c, k, n, h0, e _ _ h1⟩
theorem Pool.ne_tup {H : Hp} {p q : Addr} {xs : List V} (h : Pool H p) (e : H q = some (.tup xs)) : q ≠ p := by
  obtain ⟨l, c, k, n, h0, h1⟩ := h
  exact ne_of e h1 (by intro z; cases z)
theorem Pool.ne_new {H : Hp} {p q : Addr} (h : Pool H p) (e : H q = none) : q ≠ p := by
  obtain ⟨l, c, k, n, h0, h1⟩ := h
  intro z
  rw [z, h1] at e
  cases e
theorem Pool.upd {H : Hp} {p q : Addr} {o : HO} (h : Pool H p) (e : q ≠ p) : Pool (L2.upd H q o) p := by
  obtain ⟨l, c, k, n, h0, h1⟩ := h
  refine ⟨l, c, k, n, h0, ?_⟩
  rw [upd_ne (Ne.symm e)]
  exact h1
theorem seq_but {K : PySem.W.Frag} {H H' : Hp} {p a : Addr} {xs : List V} (e : But p H H') (n : a ≠ p) (h : SqL K H a xs) : SqL K H' a xs := by
  rcases h with (h | ⟨o, h⟩) | h
  · exact .inl (.inl (e _ _ n h))
  · exact .inl (.inr ⟨o, e _ _ n h⟩)
  · exact .inr h
theorem abs_if (n : Int) : 0 ≤ (if n < 0 then -n else n) := by
  split <;> omega
local macro_rules | `(tactic| walk_at "go") => `(tactic| repeat (first
  | (with_reducible exact rfl)
  | (refine ⟨_, _, rfl, rfl, ?_⟩)
  | (refine ⟨_, rfl, ?_⟩)
  | (refine ⟨rfl, ?_⟩)))
def spPool (K : PySem.W.Frag) : Sp := fun vs H Q _ => ∃ (a : Addr) (ns : List Int) (k : Int), vs = [.ref a, .int k] ∧ SqL K H a (ns.map V.int) ∧ ns.length ≤ 63 ∧ 0 ≤ k ∧ ∀ H' p, Same H H' → H p = none → Pool H' p → Q (.ref p) H'
def spTake : Sp := fun vs H Q _ => ∃ (p : Addr) (m : Int), vs = [.ref p, .int m] ∧ 0 < m ∧ m < 2 ^ 200 ∧ Pool H p ∧ ∀ H' (r : Int), But p H H' → Pool H' p → 0 ≤ r → r < m → Q (.int r) H'
theorem iteY {c A B : Prop} [Decidable c] (hc : c) (h : A) : if decide c = true then A else B := by
  rw [if_pos (decide_eq_true hc)]
  exact h
theorem iteYn {c A B : Prop} [Decidable c] (hc : c) (h : B) : if (!decide c) = true then A else B := by
  rw [decide_eq_true hc]
  exact h
theorem iteDN {b : Bool} {A B : Prop} (hb : b = false) (h : B) : if b = true then A else B := by
  rw [hb]
  exact h
theorem iteDY {b : Bool} {A B : Prop} (hb : b = true) (h : A) : if b = true then A else B := by
  rw [hb]
  exact h
theorem iteNE {d e : PyData} {A B : Prop} (h : d = e) (hs : SeqAt.shaped d = true) (hB : B) : if (!PyData.eqv d e) = true then A else B := by
  subst h
  rw [SeqAt.eqv_refl d (SeqAt.canLay_of_shaped hs)]
  exact hB
theorem ne_no {x y : V} (e : x = y) : (!decide (x = y)) = false := by
  rw [decide_eq_true e]
  rfl
theorem iteN {x y : V} {A B : Prop} (e : x = y) (h : B) : if (!decide (x = y)) = true then A else B := by
  rw [ne_no e, if_neg Bool.false_ne_true]
  exact h
section
variable {P : Program} {w : World} {K : PySem.W.Frag} {mg : Str → Option Value} {base : Heap}
theorem ok_Lpool (T : Top w K mg) : FnOk P w K mg base CX0 1 T.a_Lpool T.fd_Lpool ["_law_script", "_law_k"] (spPool K) := by
  refine T.F_Lpool.ok sc_Lpool (fun vs H Q E h => ?_) (fun cdv A outer s H vs Q E hr h => ?_)
  · obtain ⟨a, ns, k, rfl, _⟩ := h
    rfl
  · obtain ⟨a, ns, k, rfl, hS, hlen, hk, q⟩ := h
    refine ⟨_, (pss_cons (ps_set (i := 2) sc_Lpool.nd rfl (.inl rfl) pe_int)
      (Evl.pss_cut (ps_if (pt_cmpR op_gt (pe_callB call_len_seq (by rfl) T.m_len (by decide +kernel) (pa_cons (pv 0) pa_nil)) pe_int (nomark _)) (pss_one (ps_set (i := 2) sc_Lpool.nd rfl (.inl rfl) (pe_ix ix_list (pv 0) (pe_op op_mod (pv 1) (pe_callB call_len_seq (by rfl) T.m_len (by decide +kernel) (pa_cons (pv 0) pa_nil))) (fun _ _ => rfl)))) pss_nil)
      (pss_cons (ps_set (i := 3) sc_Lpool.nd rfl (.inl rfl) pe_int)
      (pss_cons (ps_if (PW.pt (pw_and (pt_cmpR op_lt (pv 1) (pe_callB call_len_seq (by rfl) T.m_len (by decide +kernel) (pa_cons (pv 0) pa_nil)) (nomark _)) (pw_and1 (pt_cmpR op_ge (pe_callB call_abs (by rfl) T.m_abs (by decide +kernel) (pa_cons (pv 2) pa_nil)) (pe_op op_pow pe_int pe_int) (nomark _))))) (pss_one (ps_set (i := 3) sc_Lpool.nd rfl (.inl rfl) (pe_callB call_abs (by rfl) T.m_abs (by decide +kernel) (pa_cons (pv 2) pa_nil)))) pss_nil)
      (pss_one (ps_ret (pe_lst (pa_cons (pv 3) (pa_cons (pv 2) (pa_cons (pv 1) (pa_cons pe_int pa_nil))))))))))), ?_⟩
    have hL : ((ns.map V.int).length : Int) = ns.length := by rw [List.length_map]
    have fin : ∀ (l c : Int), 0 ≤ l → ∀ p, H p = none → Q (.ref p) (upd H p (.lst [.int l, .int c, .int k, .int 0])) := fun l c hl p hp =>
      q _ p (same_upd hp) hp ⟨l, c, k, 0, hl, upd_same⟩
    refine ⟨fun σ H' => H' = H ∧ ∃ c : Int, σ = [some (.ref a), some (.int k), some (.int c), none], ?_, ?_⟩
    · refine ⟨.ref a, rfl, a, ns.map V.int, rfl, .inl hS, _, _, rfl, rfl, _, rfl, ite2 (fun e => ?_) (fun e => ?_)⟩
      · have e0 : (0 : Int) < ((ns.map V.int).length : Int) := of_decide_eq_true e
        refine ⟨.ref a, rfl, .int k, rfl, .ref a, rfl, a, ns.map V.int, rfl, .inl hS, k, _, rfl, rfl, e0, ?_⟩
        have h1 := Int.emod_nonneg k (show ((ns.map V.int).length : Int) ≠ 0 by omega)
        have h2 := Int.emod_lt_of_pos k e0
        obtain ⟨j, hj⟩ : ∃ j : Nat, k % ((ns.map V.int).length : Int) = j := ⟨(k % ((ns.map V.int).length : Int)).toNat, by omega⟩
        have hj2 : j < ns.length := by omega
        have g : (ns.map V.int)[j]? = some (.int ns[j]) := by
          rw [List.getElem?_map, List.getElem?_eq_getElem hj2]
          rfl
        have gi : atI (ns.map V.int) (k % ((ns.map V.int).length : Int)) = some (.int ns[j]) := by
          rw [hj]
          exact atI_nat g
        exact ⟨a, _, _, _, rfl, rfl, hS, gi, rfl, _, rfl⟩
      · exact ⟨rfl, 0, rfl⟩
    · rintro σ H' ⟨rfl, c, rfl⟩
      refine ⟨.int k, rfl, .ref a, rfl, a, ns.map V.int, rfl, .inl hS, _, _, rfl, rfl, _, rfl, ite2 (fun e => ?_) (fun e => ?_)⟩
      · refine ⟨.int c, rfl, c, rfl, _, _, rfl, rfl, ⟨by decide, by decide, by decide⟩, _, _, rfl, rfl, _, rfl, ite2 (fun e => ?_) (fun e => ?_)⟩
        · exact ⟨.int c, rfl, c, rfl, _, rfl, _, rfl, _, rfl, by show 4 ≤ sizeLine; decide, fin _ c (abs_if c)⟩
        · exact ⟨_, rfl, _, rfl, _, rfl, by show 4 ≤ sizeLine; decide, fin 0 c (by decide)⟩
      · refine ite2 (fun e2 => by cases e2) (fun _ => ?_)
        exact ⟨_, rfl, _, rfl, _, rfl, by show 4 ≤ sizeLine; decide, fin 0 c (by decide)⟩
def primes : List Int := [2147483629, 2147483587, 2147483579, 2147483563, 2147483549, 2147483543, 2147483497, 2147483489]
theorem primes_at {i : Int} (h0 : 0 ≤ i) (h1 : i < 8) : ∃ p : Int, atI (primes.map V.int) i = some (.int p) ∧ 0 < p ∧ p < 2147483647 := by
  obtain rfl | rfl | rfl | rfl | rfl | rfl | rfl | rfl : i = 0 ∨ i = 1 ∨ i = 2 ∨ i = 3 ∨ i = 4 ∨ i = 5 ∨ i = 6 ∨ i = 7 := by omega
  all_goals exact ⟨_, rfl, by decide, by decide⟩
theorem pow_ok (a : Int) : CPow (a % 2147483647) 5 := by
  have h1 := Int.emod_nonneg a (show (2147483647 : Int) ≠ 0 by decide)
  have h2 := Int.emod_lt_of_pos a (show (0 : Int) < 2147483647 by decide)
  exact ⟨by decide, by decide, by omega⟩
theorem ok_Ltake (T : Top w K mg) : FnOk P w K mg base CX0 1 T.a_Ltake T.fd_Ltake ["_law_pool_here", "_law_wide"] spTake := by
  refine T.F_Ltake.ok sc_Ltake (fun vs H Q E h => ?_) (fun cdv A outer s H vs Q E hr h => ?_)
  · obtain ⟨p, m, rfl, _⟩ := h
    rfl
  · obtain ⟨p, m, rfl, hm, hb, ⟨l, c, k, n, hl, hp⟩, q⟩ := h
    refine ⟨_, (pss_cons (ps_if (pt_cmpR op_gt (pe_ix ix_list (pv 0) pe_int (fun _ _ => rfl)) pe_int (nomark _)) (pss_cons (ps_set (i := 2) sc_Ltake.nd rfl (.inl rfl) (pe_op op_mod (pe_ix ix_list (pv 0) pe_int (fun _ _ => rfl)) (pv 1)))
      (pss_cons (ps_asg (pe_op op_fdivW (pe_ix ix_list (pv 0) pe_int (fun _ _ => rfl)) (pv 1)) (pg_sub (pv 0) pe_int set_list))
      (pss_one (ps_ret (pv 2))))) pss_nil)
      (pss_cons (ps_asg (pe_op op_add (pe_ix ix_list (pv 0) pe_int (fun _ _ => rfl)) pe_int) (pg_sub (pv 0) pe_int set_list))
      (pss_cons (ps_set (i := 3) sc_Ltake.nd rfl (.inl rfl) (pe_lst (pa_cons pe_int (pa_cons pe_int (pa_cons pe_int (pa_cons pe_int (pa_cons pe_int (pa_cons pe_int (pa_cons pe_int (pa_cons pe_int pa_nil))))))))))
      (pss_cons (ps_set (i := 4) sc_Ltake.nd rfl (.inl rfl) (pe_op op_mod (pe_op op_add (pe_op op_add (pe_op op_add (pe_ix ix_list (pv 0) pe_int (fun _ _ => rfl)) (pe_op op_mul pe_int (pe_ix ix_list (pv 0) pe_int (fun _ _ => rfl)))) (pe_op op_mul pe_int (pe_ix ix_list (pv 0) pe_int (fun _ _ => rfl)))) pe_int) pe_int))
      (pss_cons (ps_set (i := 4) sc_Ltake.nd rfl (.inl rfl) (pe_op op_mod (pe_op op_pow (pv 4) pe_int) (pe_ix ix_list (pv 3) (pe_op op_mod (pe_ix ix_list (pv 0) pe_int (fun _ _ => rfl)) pe_int) (fun _ _ => rfl))))
      (pss_cons (ps_set (i := 5) sc_Ltake.nd rfl (.inl rfl) (pe_op op_mod (pe_op op_add (pe_op op_add (pv 4) (pe_op op_mul pe_int (pe_ix ix_list (pv 0) pe_int (fun _ _ => rfl)))) (pe_ix ix_list (pv 0) pe_int (fun _ _ => rfl))) pe_int))
      (pss_one (ps_ret (pe_op op_mod (pe_op op_add (pe_op op_mul (pe_op op_mod (pe_op op_pow (pv 5) pe_int) pe_int) pe_int) (pv 4)) (pv 1)))))))))), ?_⟩
    refine ⟨.ref p, rfl, p, _, 0, .int l, rfl, rfl, .inl (.inl hp), rfl, _, _, rfl, rfl, _, rfl, ite2 (fun e => ?_) (fun e => ?_)⟩
    · refine ⟨.ref p, rfl, p, _, 0, .int l, rfl, rfl, .inl (.inl hp), rfl, .int m, rfl, l, m, rfl, rfl, hm, ?_⟩
      refine ⟨.ref p, rfl, p, _, 0, .int l, rfl, rfl, .inl (.inl hp), rfl, .int m, rfl, l, m, rfl, rfl, wide_div (b := 200) hm (by omega) (by decide) (by decide), ?_⟩
      refine ⟨.ref p, rfl, p, _, 0, 0, rfl, rfl, hp, rfl, ?_⟩
      refine ⟨_, rfl, q _ _ (But.refl p H).upd ⟨l / m, c, k, n, Int.ediv_nonneg hl (by omega), ?_⟩ (Int.emod_nonneg l (by omega)) (Int.emod_lt_of_pos l hm)⟩
      exact upd_same
    · refine ⟨.ref p, rfl, p, _, 3, .int n, rfl, rfl, .inl (.inl hp), rfl, n, 1, rfl, rfl, .ref p, rfl, p, _, 3, 3, rfl, rfl, hp, rfl, ?_⟩
      refine ⟨by show 8 ≤ sizeLine; decide, fun o no => ?_⟩
      have hop : o ≠ p := fun z => by
        rw [z, upd_same] at no
        cases no
      have h3 : (upd (upd H p (.lst [.int l, .int c, .int k, .int (n + 1)])) o (.lst (primes.map V.int))) p = some (.lst [.int l, .int c, .int k, .int (n + 1)]) := by
        rw [upd_ne (Ne.symm hop), upd_same]
      have h4 : (upd (upd H p (.lst [.int l, .int c, .int k, .int (n + 1)])) o (.lst (primes.map V.int))) o = some (.lst (primes.map V.int)) := upd_same
      have bt : But p H (upd (upd H p (.lst [.int l, .int c, .int k, .int (n + 1)])) o (.lst (primes.map V.int))) := fun b u hb h => by
        have nb : b ≠ o := fun z => by
          have : (upd H p (.lst [.int l, .int c, .int k, .int (n + 1)])) b = some u := by
            rw [upd_ne hb]
            exact h
          rw [z] at this
          exact absurd (this.symm.trans no) (by intro z; cases z)
        rw [upd_ne nb, upd_ne hb]
        exact h
      have i8 : 0 ≤ (n + 1) % 8 := Int.emod_nonneg _ (by decide)
      have j8 : (n + 1) % 8 < 8 := Int.emod_lt_of_pos _ (by decide)
      obtain ⟨pr, hpr, pr0, pr1⟩ := primes_at i8 j8
      refine ⟨.ref p, rfl, p, _, 1, .int c, rfl, rfl, .inl (.inl h3), rfl, .ref p, rfl, p, _, 2, .int k, rfl, rfl, .inl (.inl h3), rfl, 7919, k, rfl, rfl, .inl ⟨by decide, by decide⟩, _, _, rfl, rfl, .ref p, rfl, p, _, 3, .int (n + 1), rfl, rfl, .inl (.inl h3), rfl, 104729, n + 1, rfl, rfl, .inl ⟨by decide, by decide⟩, _, _, rfl, rfl, _, _, rfl, rfl, _, _, rfl, rfl, (by show (0 : Int) < 2147483647; decide), ?_⟩
      refine ⟨_, rfl, _, _, rfl, rfl, pow_ok _, .ref o, rfl, .ref p, rfl, p, _, 3, .int (n + 1), rfl, rfl, .inl (.inl h3), rfl, _, _, rfl, rfl, (by show (0 : Int) < 8; decide), o, _, _, .int pr, rfl, rfl, .inl (.inl h4), hpr, _, _, rfl, rfl, pr0, ?_⟩
      refine ⟨_, rfl, .ref p, rfl, p, _, 2, .int k, rfl, rfl, .inl (.inl h3), rfl, 40692, k, rfl, rfl, .inl ⟨by decide, by decide⟩, _, _, rfl, rfl, .ref p, rfl, p, _, 3, .int (n + 1), rfl, rfl, .inl (.inl h3), rfl, _, _, rfl, rfl, _, _, rfl, rfl, (by show (0 : Int) < 2147483647; decide), ?_⟩
      refine ⟨_, rfl, _, _, rfl, rfl, pow_ok _, _, _, rfl, rfl, (by show (0 : Int) < 2147483647; decide), _, _, rfl, rfl, .inr ⟨by decide, by decide⟩, _, rfl, _, _, rfl, rfl, .int m, rfl, _, _, rfl, rfl, hm, ?_⟩
      exact q _ _ bt ⟨l, c, k, n + 1, hl, h3⟩ (Int.emod_nonneg _ (by omega)) (Int.emod_lt_of_pos _ hm)
/-! ### data alike -/
theorem sqt_same {K : PySem.W.Frag} {H H' : Hp} {a : Addr} {xs : List V} (e : Same H H') (h : SqT K H a xs) : SqT K H' a xs := Evl.ex_t (show Evl.Ex H H' from e) h
mutual
theorem dp_same {K : PySem.W.Frag} {H H' : Hp} (e : Same H H') : ∀ (d : PyData) (v : V), Dp K H v d → Dp K H' v d
  | .none, _, h => by cases h; exact .non
  | .bool b, _, h => by cases h; exact .bl b
  | .int i, _, h => by cases h; exact .int i
  | .str x, _, h => by cases h; exact .str x
  | .list ds, _, h => by
    cases h with
    | lst hs ha => exact .lst (e.seq hs) (dpa_same e ds _ ha)
  | .tuple ds, _, h => by
    cases h with
    | tup hs ha => exact .tup (sqt_same e hs) (dpa_same e ds _ ha)
  | .dict _, _, h => by cases h
theorem dpa_same {K : PySem.W.Frag} {H H' : Hp} (e : Same H H') : ∀ (ds : List PyData) (vs : List V), DpAll K H vs ds → DpAll K H' vs ds
  | [], _, h => by cases h; exact .nil
  | d :: ds, _, h => by
    cases h with
    | cons h1 h2 => exact .cons (dp_same e d _ h1) (dpa_same e ds _ h2)
end
theorem dpa_len {K : PySem.W.Frag} {H : Hp} : ∀ (ds : List PyData) (vs : List V), DpAll K H vs ds → vs.length = ds.length
  | [], _, h => by cases h; rfl
  | d :: ds, _, h => by
    cases h with
    | cons h1 h2 =>
      rw [List.length_cons, List.length_cons, dpa_len ds _ h2]
theorem dpa_at {K : PySem.W.Frag} {H : Hp} : ∀ (ds : List PyData) (vs : List V), DpAll K H vs ds → ∀ (i : Nat) (v : V), vs[i]? = some v → ∃ d, ds[i]? = some d ∧ Dp K H v d
  | [], _, h, i, v, e => by cases h; cases e
  | d :: ds, _, h, i, v, e => by
    cases h with
    | cons h1 h2 =>
      cases i with
      | zero =>
        cases e
        exact ⟨d, rfl, h1⟩
      | succ j => exact dpa_at ds _ h2 j v e
theorem ty_tup {K : PySem.W.Frag} {H : Hp} {a : Addr} {xs : List V} (h : SqT K H a xs) : TyX K H (.ref a) (.type "tuple") := by
  rcases h with (h | ⟨o, h⟩) | ⟨o, its, n, lk, hc, _⟩
  · exact .base (.tup h)
  · exact .fTuple h
  · exact .kTuple lk hc
/-- none, truths, whole numbers, texts, and tuples of these, at most n deep -/
def okD : Nat → PyData → Bool
  | _, .none => true
  | _, .bool _ => true
  | _, .int _ => true
  | _, .str _ => true
  | n + 1, .tuple ds => decide (ds.length ≤ 1000) && ds.all fun d => okD n d
  | _, _ => false
theorem walk_zipT {K : PySem.W.Frag} {a b : Addr} {xs ys : List V} {n : Nat} (hn : n = min xs.length ys.length) : Walk (RZ.ItzT K a b) n (fun H => SqT K H a xs ∧ SqT K H b ys) (YPair (fun i => xs[i]?) (fun i => ys[i]?)) where
  goes := fun i H lt ⟨p, q⟩ => ⟨xs, ys, _, _, p, q, List.getElem?_eq_getElem (by omega), List.getElem?_eq_getElem (by omega)⟩
  stops := fun H ⟨p, q⟩ => ⟨xs, ys, p, q, by omega⟩
  yields := fun i H v H' _ ⟨p, q⟩ ⟨T, x, y, e1, e2, e3, e4, e5⟩ => ⟨T, x, y, e1, e2, e3, e4 xs p, e5 ys q⟩
theorem all_true : ∀ n : Nat, (List.replicate n true).all id = true
  | 0 => rfl
  | n + 1 => by rw [List.replicate_succ, List.all_cons, all_true n]; rfl
def spWhole : Sp := fun vs H Q _ => ∃ i : Int, vs = [.int i] ∧ Q (.bl true) H
theorem ok_Lwhole (T : Top w K mg) : FnOk P w K mg base CX0 1 T.a_Lwhole T.fd_Lwhole ["_law_thing"] spWhole := by
  refine T.F_Lwhole.ok sc_Lwhole (fun vs H Q E h => ?_) (fun cdv A outer s H vs Q E hr h => ?_)
  · obtain ⟨i, rfl, _⟩ := h
    rfl
  · obtain ⟨i, rfl, q⟩ := h
    refine ⟨_, (pss_one (ps_ret (pe_and (pe_callB call_isi (by rfl) T.m_isinstance (by decide +kernel) (pa_cons (pv 0) (pa_cons (pe_bltn (v := .ty "int") (by rfl) T.m_int (by decide +kernel) rfl) pa_nil))) (pe_one (pe_not (pe_callB call_isi (by rfl) T.m_isinstance (by decide +kernel) (pa_cons (pv 0) (pa_cons (pe_bltn (v := .ty "bool") (by rfl) T.m_bool (by decide +kernel) rfl) pa_nil)))))))), ?_⟩
    refine ⟨.int i, rfl, _, _, _, _, true, rfl, .ty _, .base (.int i), kit_ty (by decide +kernel), _, rfl, iteT ?_⟩
    exact ⟨.int i, rfl, _, _, _, _, false, rfl, .ty _, .base (.int i), kit_ty (by decide +kernel), _, rfl, q⟩
def spSame (K : PySem.W.Frag) (n : Nat) : Sp := fun vs H Q _ => ∃ (x y : V) (d : PyData), vs = [x, y] ∧ Dp K H x d ∧ Dp K H y d ∧ okD n d = true ∧ ∀ H', Same H H' → Q (.bl true) H'
theorem ok_Lsame0 (T : Top w K mg) : FnOk P w K mg base CX0 2 T.a_Lsame T.fd_Lsame ["_law_found", "_law_due"] (spSame K 0) := by
  have G_Lwhole := ok_Lwhole (P := P) (w := w) (base := base) T
  refine T.F_Lsame.ok sc_Lsame (fun vs H Q E h => ?_) (fun cdv A outer s H vs Q E hr h => ?_)
  · obtain ⟨x, y, d, rfl, _⟩ := h
    rfl
  · obtain ⟨x, y, d, rfl, hx, hy, ok, q⟩ := h
    refine ⟨_, (pss_cons (ps_if (pt_val (pe_callB call_isi (by rfl) T.m_isinstance (by decide +kernel) (pa_cons (pv 1) (pa_cons (pe_bltn (v := .ty "tuple") (by rfl) T.m_tuple (by decide +kernel) rfl) pa_nil)))) pss_never pss_nil)
      (pss_cons (ps_if (pt_cmpR op_isN (pv 1) pe_non (nomark _)) (pss_one (ps_ret (pe_cmpR op_isN (pv 0) pe_non (nomark _)))) pss_nil)
      (pss_cons (ps_if (pt_val (pe_callB call_isi (by rfl) T.m_isinstance (by decide +kernel) (pa_cons (pv 1) (pa_cons (pe_bltn (v := .ty "bool") (by rfl) T.m_bool (by decide +kernel) rfl) pa_nil)))) (pss_one (ps_ret (pe_and (pe_callB call_isi (by rfl) T.m_isinstance (by decide +kernel) (pa_cons (pv 0) (pa_cons (pe_bltn (v := .ty "bool") (by rfl) T.m_bool (by decide +kernel) rfl) pa_nil))) (pe_one (pe_cmpR op_eq (pv 0) (pv 1) (nomark _)))))) pss_nil)
      (pss_cons (ps_if (pt_val (pe_callB call_isi (by rfl) T.m_isinstance (by decide +kernel) (pa_cons (pv 1) (pa_cons (pe_bltn (v := .ty "str") (by rfl) T.m_str (by decide +kernel) rfl) pa_nil)))) (pss_one (ps_ret (pe_and (pe_callB call_isi (by rfl) T.m_isinstance (by decide +kernel) (pa_cons (pv 0) (pa_cons (pe_bltn (v := .ty "str") (by rfl) T.m_str (by decide +kernel) rfl) pa_nil))) (pe_one (pe_cmpR op_eq (pv 0) (pv 1) (nomark _)))))) pss_nil)
      (pss_one (ps_ret (pe_and (pe_call G_Lwhole (hr.mono (by omega)) (by rfl) T.g_Lwhole T.F_Lwhole.kp T.b_Lwhole .nil pass0 (pa_cons (pv 0) pa_nil)) (pe_one (pe_cmpR op_eq (pv 0) (pv 1) (nomark _)))))))))), ?_⟩
    have Q0 := q H (Same.refl H)
    cases d with
    | none =>
      cases hx
      cases hy
      exact ⟨.non, rfl, _, _, _, _, false, rfl, .ty _, .base .non, kit_ty (by decide +kernel), _, rfl, iteF ⟨.non, rfl, rfl, _, rfl, iteT ⟨.non, rfl, rfl, Q0⟩⟩⟩
    | bool b =>
      cases hx
      cases hy
      refine ⟨.bl b, rfl, _, _, _, _, false, rfl, .ty _, .base (.bl b), kit_ty (by decide +kernel), _, rfl, iteF ⟨.bl b, rfl, rfl, _, rfl, iteF ?_⟩⟩
      refine ⟨.bl b, rfl, _, _, _, _, true, rfl, .ty _, .base (.bl b), kit_ty (by decide +kernel), _, rfl, iteT ?_⟩
      refine ⟨.bl b, rfl, _, _, _, _, true, rfl, .ty _, .base (.bl b), kit_ty (by decide +kernel), _, rfl, iteT ⟨.bl b, rfl, .bl b, rfl, rfl, ?_⟩⟩
      rw [decide_eq_true rfl]
      exact Q0
    | int i =>
      cases hx
      cases hy
      refine ⟨.int i, rfl, _, _, _, _, false, rfl, .ty _, .base (.int i), kit_ty (by decide +kernel), _, rfl, iteF ⟨.int i, rfl, rfl, _, rfl, iteF ?_⟩⟩
      refine ⟨.int i, rfl, _, _, _, _, false, rfl, .ty _, .base (.int i), kit_ty (by decide +kernel), _, rfl, iteF ?_⟩
      refine ⟨.int i, rfl, _, _, _, _, false, rfl, .ty _, .base (.int i), kit_ty (by decide +kernel), _, rfl, iteF ?_⟩
      refine ⟨.int i, rfl, i, rfl, _, rfl, iteT ⟨.int i, rfl, .int i, rfl, rfl, ?_⟩⟩
      rw [decide_eq_true rfl]
      exact Q0
    | str z =>
      cases hx
      cases hy
      refine ⟨.str z, rfl, _, _, _, _, false, rfl, .ty _, .base (.str z), kit_ty (by decide +kernel), _, rfl, iteF ⟨.str z, rfl, rfl, _, rfl, iteF ?_⟩⟩
      refine ⟨.str z, rfl, _, _, _, _, false, rfl, .ty _, .base (.str z), kit_ty (by decide +kernel), _, rfl, iteF ?_⟩
      refine ⟨.str z, rfl, _, _, _, _, true, rfl, .ty _, .base (.str z), kit_ty (by decide +kernel), _, rfl, iteT ?_⟩
      refine ⟨.str z, rfl, _, _, _, _, true, rfl, .ty _, .base (.str z), kit_ty (by decide +kernel), _, rfl, iteT ⟨.str z, rfl, .str z, rfl, rfl, ?_⟩⟩
      rw [decide_eq_true rfl]
      exact Q0
    | list ds => cases ok
    | tuple ds => cases ok
    | dict ds => cases ok
theorem ok_LsameS (T : Top w K mg) {n : Nat} (G_Lsame : FnOk P w K mg base CX0 (n + 2) T.a_Lsame T.fd_Lsame ["_law_found", "_law_due"] (spSame K n)) : FnOk P w K mg base CX0 (n + 3) T.a_Lsame T.fd_Lsame ["_law_found", "_law_due"] (spSame K (n + 1)) := by
  have G_Lwhole := ok_Lwhole (P := P) (w := w) (base := base) T
  refine T.F_Lsame.ok sc_Lsame (fun vs H Q E h => ?_) (fun cdv A outer s H vs Q E hr h => ?_)
  · obtain ⟨x, y, d, rfl, _⟩ := h
    rfl
  · obtain ⟨x, y, d, rfl, hx, hy, ok, q⟩ := h
    refine ⟨_, (pss_cons (ps_if (pt_val (pe_callB call_isi (by rfl) T.m_isinstance (by decide +kernel) (pa_cons (pv 1) (pa_cons (pe_bltn (v := .ty "tuple") (by rfl) T.m_tuple (by decide +kernel) rfl) pa_nil)))) (pss_cons (ps_if (PW.pt (pw_or (pt_not (pt_val (pe_callB call_isi (by rfl) T.m_isinstance (by decide +kernel) (pa_cons (pv 0) (pa_cons (pe_bltn (v := .ty "tuple") (by rfl) T.m_tuple (by decide +kernel) rfl) pa_nil))))) (pw_or1 (pt_cmpR op_ne (pe_callB call_len_seq (by rfl) T.m_len (by decide +kernel) (pa_cons (pv 0) pa_nil)) (pe_callB call_len_seq (by rfl) T.m_len (by decide +kernel) (pa_cons (pv 1) pa_nil)) (nomark _))))) (pss_one (ps_ret pe_bl)) pss_nil)
      (pss_one (ps_ret (pe_callB (cr_all rfl) (by rfl) T.m_all (by decide +kernel) (pa_cons (pe_lc (own := [("_law_one", 2), ("_law_other", 3)]) (g := gTup K 2 (gCons (gName 2) (gCons (gName 3) gNil))) (by rfl) sc_Lsame.nd (RZ.pi_zipA (by rfl) T.m_zip (pa_cons (pv 0) (pa_cons (pv 1) pa_nil))) (blkOk_by (own := [("_law_one", 2), ("_law_other", 3)]) (N := ["_law_found", "_law_due", "_law_one", "_law_other"]) (sc := defScope s_Lsame) (by decide +kernel)) (fun _ _ _ _ _ => (pg_tup rfl (pgs_cons (pg_name (i := 2) sc_Lsame.nd rfl (Or.inl rfl)) (pgs_cons (pg_name (i := 3) sc_Lsame.nd rfl (Or.inl rfl)) pgs_nil)))) (fun _ _ _ _ _ => pts_nil) (fun _ _ _ _ _ => (pe_call G_Lsame hr (by rfl) T.g_Lsame T.F_Lsame.kp T.b_Lsame .nil pass0 (pa_cons (pv 2) (pa_cons (pv 3) pa_nil))))) pa_nil))))) pss_nil)
      (pss_cons (ps_if (pt_cmpR op_isN (pv 1) pe_non (nomark _)) (pss_one (ps_ret (pe_cmpR op_isN (pv 0) pe_non (nomark _)))) pss_nil)
      (pss_cons (ps_if (pt_val (pe_callB call_isi (by rfl) T.m_isinstance (by decide +kernel) (pa_cons (pv 1) (pa_cons (pe_bltn (v := .ty "bool") (by rfl) T.m_bool (by decide +kernel) rfl) pa_nil)))) (pss_one (ps_ret (pe_and (pe_callB call_isi (by rfl) T.m_isinstance (by decide +kernel) (pa_cons (pv 0) (pa_cons (pe_bltn (v := .ty "bool") (by rfl) T.m_bool (by decide +kernel) rfl) pa_nil))) (pe_one (pe_cmpR op_eq (pv 0) (pv 1) (nomark _)))))) pss_nil)
      (pss_cons (ps_if (pt_val (pe_callB call_isi (by rfl) T.m_isinstance (by decide +kernel) (pa_cons (pv 1) (pa_cons (pe_bltn (v := .ty "str") (by rfl) T.m_str (by decide +kernel) rfl) pa_nil)))) (pss_one (ps_ret (pe_and (pe_callB call_isi (by rfl) T.m_isinstance (by decide +kernel) (pa_cons (pv 0) (pa_cons (pe_bltn (v := .ty "str") (by rfl) T.m_str (by decide +kernel) rfl) pa_nil))) (pe_one (pe_cmpR op_eq (pv 0) (pv 1) (nomark _)))))) pss_nil)
      (pss_one (ps_ret (pe_and (pe_call G_Lwhole (hr.mono (by omega)) (by rfl) T.g_Lwhole T.F_Lwhole.kp T.b_Lwhole .nil pass0 (pa_cons (pv 0) pa_nil)) (pe_one (pe_cmpR op_eq (pv 0) (pv 1) (nomark _)))))))))), ?_⟩
    have Q0 := q H (Same.refl H)
    cases d with
    | none =>
      cases hx
      cases hy
      exact ⟨.non, rfl, _, _, _, _, false, rfl, .ty _, .base .non, kit_ty (by decide +kernel), _, rfl, iteF ⟨.non, rfl, rfl, _, rfl, iteT ⟨.non, rfl, rfl, Q0⟩⟩⟩
    | bool b =>
      cases hx
      cases hy
      refine ⟨.bl b, rfl, _, _, _, _, false, rfl, .ty _, .base (.bl b), kit_ty (by decide +kernel), _, rfl, iteF ⟨.bl b, rfl, rfl, _, rfl, iteF ?_⟩⟩
      refine ⟨.bl b, rfl, _, _, _, _, true, rfl, .ty _, .base (.bl b), kit_ty (by decide +kernel), _, rfl, iteT ?_⟩
      refine ⟨.bl b, rfl, _, _, _, _, true, rfl, .ty _, .base (.bl b), kit_ty (by decide +kernel), _, rfl, iteT ⟨.bl b, rfl, .bl b, rfl, rfl, ?_⟩⟩
      rw [decide_eq_true rfl]
      exact Q0
    | int i =>
      cases hx
      cases hy
      refine ⟨.int i, rfl, _, _, _, _, false, rfl, .ty _, .base (.int i), kit_ty (by decide +kernel), _, rfl, iteF ⟨.int i, rfl, rfl, _, rfl, iteF ?_⟩⟩
      refine ⟨.int i, rfl, _, _, _, _, false, rfl, .ty _, .base (.int i), kit_ty (by decide +kernel), _, rfl, iteF ?_⟩
      refine ⟨.int i, rfl, _, _, _, _, false, rfl, .ty _, .base (.int i), kit_ty (by decide +kernel), _, rfl, iteF ?_⟩
      refine ⟨.int i, rfl, i, rfl, _, rfl, iteT ⟨.int i, rfl, .int i, rfl, rfl, ?_⟩⟩
      rw [decide_eq_true rfl]
      exact Q0
    | str z =>
      cases hx
      cases hy
      refine ⟨.str z, rfl, _, _, _, _, false, rfl, .ty _, .base (.str z), kit_ty (by decide +kernel), _, rfl, iteF ⟨.str z, rfl, rfl, _, rfl, iteF ?_⟩⟩
      refine ⟨.str z, rfl, _, _, _, _, false, rfl, .ty _, .base (.str z), kit_ty (by decide +kernel), _, rfl, iteF ?_⟩
      refine ⟨.str z, rfl, _, _, _, _, true, rfl, .ty _, .base (.str z), kit_ty (by decide +kernel), _, rfl, iteT ?_⟩
      refine ⟨.str z, rfl, _, _, _, _, true, rfl, .ty _, .base (.str z), kit_ty (by decide +kernel), _, rfl, iteT ⟨.str z, rfl, .str z, rfl, rfl, ?_⟩⟩
      rw [decide_eq_true rfl]
      exact Q0
    | list ds => cases ok
    | dict ds => cases ok
    | tuple ds =>
      cases hx with
      | @tup a xs _ sx ax =>
        cases hy with
        | @tup b ys _ sy ay =>
          have lx := dpa_len ds xs ax
          have ly := dpa_len ds ys ay
          obtain ⟨okL, okA⟩ := Bool.and_eq_true_iff.mp (show (decide (ds.length ≤ 1000) && ds.all fun d => okD n d) = true from ok)
          have okl : ds.length ≤ 1000 := of_decide_eq_true okL
          refine ⟨.ref b, rfl, _, _, _, _, true, rfl, .ty _, ty_tup sy, kit_ty (by decide +kernel), _, rfl, iteT ?_⟩
          refine ⟨.ref a, rfl, _, _, _, _, true, rfl, .ty _, ty_tup sx, kit_ty (by decide +kernel), _, rfl, iteF ?_⟩
          refine ⟨.ref a, rfl, a, xs, rfl, .inr sx, .ref b, rfl, b, ys, rfl, .inr sy, rfl, _, rfl, iteN (by rw [lx, ly]) ?_⟩
          refine ⟨.ref a, rfl, .ref b, rfl, a, b, xs, ys, rfl, .inr ⟨sx, sy, fun D hD => lc_it (walk_zipT (xs := xs) (ys := ys) (n := ds.length) (by omega)) (fun i H' => Same H H' ∧ H' D = some (.lst ((List.replicate i true).map V.bl))) ⟨same_upd hD, upd_same⟩ (fun i H' _ h => ⟨sqt_same h.1 sx, sqt_same h.1 sy⟩) ?_ ?_⟩⟩
          · rintro i v H1 H2 hi ⟨sm, eD⟩ ⟨t, u1, u2, rfl, nt, rfl, e1, e2⟩
            have st : Same H1 (upd H1 t (.tup [u1, u2])) := same_upd nt
            obtain ⟨d1, f1, g1⟩ := dpa_at ds xs ax i u1 e1
            obtain ⟨d2, f2, g2⟩ := dpa_at ds ys ay i u2 e2
            have ed : d2 = d1 := Option.some.inj (f2.symm.trans f1)
            subst ed
            have okd : okD n d2 = true := List.all_eq_true.mp okA d2 (List.mem_of_getElem? f1)
            refine ⟨t, [u1, u2], rfl, .inl (.inl upd_same), rfl, u1, [u2], rfl, u2, [], rfl, rfl, rfl, ?_⟩
            refine ⟨u1, rfl, u2, rfl, u1, u2, d2, rfl, dp_same (sm.trans st) d2 u1 g1, dp_same (sm.trans st) d2 u2 g2, okd, fun H3 s3 => ?_⟩
            refine ⟨_, s3 _ _ (st _ _ eD), ?_, ?_, ?_⟩
            · rw [List.length_map, List.length_replicate]
              exact small1000 (by omega)
            · exact fun b' o e => by
                rw [upd_ne (ne_of_none e hD)]
                exact s3 _ _ (st _ _ (sm _ _ e))
            · rw [upd_same, List.replicate_succ', List.map_append]
              rfl
          · rintro H1 ⟨sm, eD⟩
            refine ⟨_, List.replicate ds.length true, rfl, .inl (.inl eD), ?_⟩
            rw [all_true]
            exact q _ sm
theorem ok_Lsame (T : Top w K mg) : ∀ n : Nat, FnOk P w K mg base CX0 (n + 2) T.a_Lsame T.fd_Lsame ["_law_found", "_law_due"] (spSame K n)
  | 0 => ok_Lsame0 T
  | n + 1 => ok_LsameS T (ok_Lsame T n)
/-! ### data, whatever else stands in the heap -/
def isSeq : HO → Bool
  | .lst _ => true
  | .tup _ => true
  | .frz _ _ => true
  | _ => false
/-- all lists and tuples as they were -/
def Seqs (H H' : Hp) : Prop := ∀ b o, isSeq o = true → H b = some o → H' b = some o
theorem Seqs.of {H H' : Hp} (e : Same H H') : Seqs H H' := fun b o _ h => e b o h
theorem Seqs.trans {H H1 H2 : Hp} (a : Seqs H H1) (b : Seqs H1 H2) : Seqs H H2 := fun c o z h => b c o z (a c o z h)
theorem Seqs.upd {H : Hp} {a : Addr} {o u : HO} (e : H a = some u) (n : isSeq u = false) : Seqs H (L2.upd H a o) := fun b v z h => by
  rw [upd_ne (fun y => by rw [y, e] at h; cases h; rw [n] at z; cases z)]
  exact h
theorem Seqs.new {H : Hp} {a : Addr} {o : HO} (e : H a = none) : Seqs H (L2.upd H a o) := Seqs.of (same_upd e)
theorem seqs_l {K : PySem.W.Frag} {H H' : Hp} {a : Addr} {xs : List V} (e : Seqs H H') (h : SqL K H a xs) : SqL K H' a xs := by
  rcases h with (h | ⟨o, h⟩) | h
  · exact .inl (.inl (e _ _ rfl h))
  · exact .inl (.inr ⟨o, e _ _ rfl h⟩)
  · exact .inr h
theorem seqs_t {K : PySem.W.Frag} {H H' : Hp} {a : Addr} {xs : List V} (e : Seqs H H') (h : SqT K H a xs) : SqT K H' a xs := by
  rcases h with (h | ⟨o, h⟩) | h
  · exact .inl (.inl (e _ _ rfl h))
  · exact .inl (.inr ⟨o, e _ _ rfl h⟩)
  · exact .inr h
mutual
theorem dp_seqs {K : PySem.W.Frag} {H H' : Hp} (e : Seqs H H') : ∀ (d : PyData) (v : V), Dp K H v d → Dp K H' v d
  | .none, _, h => by cases h; exact .non
  | .bool b, _, h => by cases h; exact .bl b
  | .int i, _, h => by cases h; exact .int i
  | .str x, _, h => by cases h; exact .str x
  | .list ds, _, h => by
    cases h with
    | lst hs ha => exact .lst (seqs_l e hs) (dpa_seqs e ds _ ha)
  | .tuple ds, _, h => by
    cases h with
    | tup hs ha => exact .tup (seqs_t e hs) (dpa_seqs e ds _ ha)
  | .dict _, _, h => by cases h
theorem dpa_seqs {K : PySem.W.Frag} {H H' : Hp} (e : Seqs H H') : ∀ (ds : List PyData) (vs : List V), DpAll K H vs ds → DpAll K H' vs ds
  | [], _, h => by cases h; exact .nil
  | d :: ds, _, h => by
    cases h with
    | cons h1 h2 => exact .cons (dp_seqs e d _ h1) (dpa_seqs e ds _ h2)
end
theorem dpa_snoc {K : PySem.W.Frag} {H : Hp} {v : V} {d : PyData} (h : Dp K H v d) : ∀ (ds : List PyData) (vs : List V), DpAll K H vs ds → DpAll K H (vs ++ [v]) (ds ++ [d])
  | [], _, a => by cases a; exact .cons h .nil
  | x :: ds, _, a => by
    cases a with
    | cons h1 h2 => exact .cons h1 (dpa_snoc h ds _ h2)
/-- the heap without the places of X -/
noncomputable def wo (H : Hp) (X : Addr → Prop) : Hp := fun b => by
  classical
  exact if X b then none else H b
theorem wo_in {H : Hp} {X : Addr → Prop} {b : Addr} (h : ¬ X b) : wo H X b = H b := by
  unfold wo
  exact if_neg h
theorem wo_some {H : Hp} {X : Addr → Prop} {b : Addr} {o : HO} (h : wo H X b = some o) : ¬ X b ∧ H b = some o := by
  unfold wo at h
  by_cases hx : X b
  · rw [if_pos hx] at h
    cases h
  · rw [if_neg hx] at h
    exact ⟨hx, h⟩
theorem wo_same {H : Hp} {X : Addr → Prop} : Same (wo H X) H := fun b o h => (wo_some h).2
theorem wo_none {H : Hp} : wo H (fun _ => False) = H := by
  funext b
  exact wo_in (fun h => h)
/-! ### kinds of things -/
theorem ty_lst {K : PySem.W.Frag} {H : Hp} {a : Addr} {xs : List V} (h : SqL K H a xs) : TyX K H (.ref a) (.type "list") := by
  rcases h with (h | ⟨o, h⟩) | ⟨o, its, n, lk, hc, _⟩
  · exact .base (.lst h)
  · exact .base (.frz h)
  · exact .kList lk hc
theorem kit_any2 {K : PySem.W.Frag} {t a b : String} {x y : Bool} (h1 : kitB t a = some x) (h2 : kitB t b = some y) : PySem.W.kitAny K (.type t) [.type a, .type b] = some (x || y) := by
  unfold PySem.W.kitAny
  rw [kit_ty h1]
  cases x with
  | true => rfl
  | false =>
    unfold PySem.W.kitAny
    rw [kit_ty h2]
    cases y <;> rfl
/-- the type's name -/
def tyD : PyData → String
  | .none => "NoneType"
  | .bool _ => "bool"
  | .int _ => "int"
  | .str _ => "str"
  | .list _ => "list"
  | .tuple _ => "tuple"
  | .dict _ => "dict"
theorem ty_dp {K : PySem.W.Frag} {H : Hp} {v : V} {d : PyData} (h : Dp K H v d) : TyX K H v (.type (tyD d)) := by
  cases h with
  | non => exact .base .non
  | bl b => exact .base (.bl b)
  | int i => exact .base (.int i)
  | str z => exact .base (.str z)
  | lst h _ => exact ty_lst h
  | tup h _ => exact ty_tup h
def seqD : PyData → Option (List PyData)
  | .list ds => some ds
  | .tuple ds => some ds
  | _ => none
def strD : PyData → Bool
  | .str _ => true
  | _ => false
theorem kit_seq (d : PyData) : ∃ x y, kitB (tyD d) "tuple" = some x ∧ kitB (tyD d) "list" = some y ∧ (x || y) = (seqD d).isSome := by
  cases d with
  | list ds => exact ⟨false, true, by show kitB "list" "tuple" = some false; decide +kernel, by show kitB "list" "list" = some true; decide +kernel, rfl⟩
  | tuple ds => exact ⟨true, false, by show kitB "tuple" "tuple" = some true; decide +kernel, by show kitB "tuple" "list" = some false; decide +kernel, rfl⟩
  | none => exact ⟨false, false, by show kitB "NoneType" "tuple" = some false; decide +kernel, by show kitB "NoneType" "list" = some false; decide +kernel, rfl⟩
  | bool b => exact ⟨false, false, by show kitB "bool" "tuple" = some false; decide +kernel, by show kitB "bool" "list" = some false; decide +kernel, rfl⟩
  | int i => exact ⟨false, false, by show kitB "int" "tuple" = some false; decide +kernel, by show kitB "int" "list" = some false; decide +kernel, rfl⟩
  | str z => exact ⟨false, false, by show kitB "str" "tuple" = some false; decide +kernel, by show kitB "str" "list" = some false; decide +kernel, rfl⟩
  | dict z => exact ⟨false, false, by show kitB "dict" "tuple" = some false; decide +kernel, by show kitB "dict" "list" = some false; decide +kernel, rfl⟩
theorem kit_str (d : PyData) : kitB (tyD d) "str" = some (strD d) := by
  cases d with
  | list ds => show kitB "list" "str" = some false; decide +kernel
  | tuple ds => show kitB "tuple" "str" = some false; decide +kernel
  | none => show kitB "NoneType" "str" = some false; decide +kernel
  | bool b => show kitB "bool" "str" = some false; decide +kernel
  | int i => show kitB "int" "str" = some false; decide +kernel
  | str z => show kitB "str" "str" = some true; decide +kernel
  | dict z => show kitB "dict" "str" = some false; decide +kernel
def SqA (K : PySem.W.Frag) (H : Hp) (a : Addr) (xs : List V) : Prop := SqL K H a xs ∨ SqT K H a xs
theorem SqA.same {K : PySem.W.Frag} {H H' : Hp} {a : Addr} {xs : List V} (e : Same H H') (h : SqA K H a xs) : SqA K H' a xs := h.elim (fun h => .inl (e.seq h)) (fun h => .inr (sqt_same e h))
theorem seq_dp {K : PySem.W.Frag} {H : Hp} {v : V} {d : PyData} {ds : List PyData} (h : Dp K H v d) (e : seqD d = some ds) : ∃ a xs, v = .ref a ∧ SqA K H a xs ∧ DpAll K H xs ds := by
  cases h with
  | lst h a => cases e; exact ⟨_, _, rfl, .inl h, a⟩
  | tup h a => cases e; exact ⟨_, _, rfl, .inr h, a⟩
  | _ => cases e
theorem ixA {K : PySem.W.Frag} {H : Hp} {a : Addr} {xs : List V} {j : Nat} {v : V} {Q : VK} (h : SqA K H a xs) (hj : xs[j]? = some v) (q : Q v H) : rIx K (.ref a) (.int (j : Int)) H Q :=
  h.elim (fun h => .inl ⟨a, xs, j, v, rfl, rfl, h, atI_nat hj, q⟩) (fun h => .inr (.inl ⟨a, xs, j, v, rfl, rfl, h, atI_nat hj, q⟩))
theorem kpA {K : PySem.W.Frag} {H : Hp} {a : Addr} {xs : List V} (h : SqA K H a xs) : (∀ H', Same H H' → SqL K H' a xs) ∨ (∀ H', Same H H' → SqT K H' a xs) := h.elim (fun h => .inl fun _ s => s.seq h) (fun h => .inr fun _ s => sqt_same s h)
--@@SPLIT
/-! ### numbers by figures -/
abbrev FIGs : Str := PySem.Str.ofString "0123456789"
def dgC (c : Nat) : Bool := decide (c ∈ FIGs.cps.toList)
def numOk (cs : List Nat) : Bool := (decide (1 ≤ (cs.length : Int)) && decide ((cs.length : Int) ≤ 30)) && (cs.all dgC && !(decide (cs.head? = some 48) && decide (1 < (cs.length : Int))))
def numIn (cs : List Nat) : Option Nat := if numOk cs = true then some (NumText.digitsVal cs) else none
def numV : Option Nat → V
  | some n => .int (n : Int)
  | none => .non
theorem figs_eq : FIGs.cps.toList = [48, 49, 50, 51, 52, 53, 54, 55, 56, 57] := by decide +kernel
theorem dg_iff (c : Nat) : dgC c = true ↔ 48 ≤ c ∧ c ≤ 57 := by
  unfold dgC
  rw [figs_eq, decide_eq_true_iff]
  simp only [List.mem_cons, List.not_mem_nil, or_false]
  omega
theorem num_all {cs : List Nat} (h : cs.all dgC = true) : NumText.AllDigits cs := fun c hc => by
  have := (dg_iff c).mp (List.all_eq_true.mp h c hc)
  omega
def spNumIn : Sp := fun vs H Q _ => ∃ z : Str, vs = [.str z] ∧ z.length ≤ 1000000 ∧ ∀ H', Same H H' → Q (numV (numIn z.cps.toList)) H'
theorem len_toListN (z : Str) : z.cps.toList.length = z.length := Array.length_toList
theorem all_mapN {f : Nat → Bool} : ∀ xs : List Nat, (xs.map f).all id = xs.all f
  | [] => rfl
  | x :: r => by rw [List.map_cons, List.all_cons, List.all_cons, all_mapN r]; rfl
theorem ok_number_in (T : Top w K mg) : FnOk P w K mg base CX0 1 T.a_number_in T.fd_number_in ["word"] spNumIn := by
  refine T.F_number_in.ok sc_number_in (fun vs H Q E h => ?_) (fun cdv A outer s H vs Q E hr h => ?_)
  · obtain ⟨z, rfl, _⟩ := h
    rfl
  · obtain ⟨z, rfl, hz, q⟩ := h
    refine ⟨_, (pss_cons (ps_if (PW.pt (pw_or (pt_not (pt_chain op_le op_le pe_int (pe_callB call_len_str (by rfl) T.m_len (by decide +kernel) (pa_cons (pv 0) pa_nil)) (pe_glob (v := .int 30) (by rfl) T.g_MOST_FIGURES.choose_spec ⟨_, rfl⟩))) (pw_or1 (pt_not (pt_val (pe_callB (cr_all rfl) (by rfl) T.m_all (by decide +kernel) (pa_cons (pe_lc (own := [("figure", 1)]) (g := gName 1) (by rfl) sc_number_in.nd (pi_str (pv 0)) (blkOk_by (own := [("figure", 1)]) (N := ["word", "figure"]) (sc := defScope s_number_in) (by decide +kernel)) (fun _ _ _ _ _ => (pg_name (i := 1) sc_number_in.nd rfl (Or.inl rfl))) (fun _ _ _ _ _ => pts_nil) (fun _ _ _ _ _ => (pe_cmpR op_in_sign (pv 1) (pe_glob (v := .str "0123456789") (by rfl) T.g_FIGURES.choose_spec ⟨_, rfl⟩) (by rfl)))) pa_nil))))))) (pss_one (ps_ret pe_non)) pss_nil)
      (pss_cons (ps_if (PW.pt (pw_and (pt_cmpR op_eq (pe_ix ix_str (pv 0) pe_int (fun _ _ => rfl)) pe_str (nomark _)) (pw_and1 (pt_cmpR op_gt (pe_callB call_len_str (by rfl) T.m_len (by decide +kernel) (pa_cons (pv 0) pa_nil)) pe_int (nomark _))))) (pss_one (ps_ret pe_non)) pss_nil)
      (pss_one (ps_ret (pe_callTy call_int_str (by rfl) T.m_int (by decide +kernel) (pa_cons (pv 0) pa_nil)))))), ?_⟩
    have hs : z.length ≤ sizeLine := Nat.le_trans hz (by decide)
    have lz : z.cps.toList.length = z.length := len_toListN z
    have no : numOk z.cps.toList = false → ∀ H', Same H H' → Q .non H' := fun e H' s => by
      have h := q H' s
      unfold numIn at h
      rw [e] at h
      exact h
    refine ⟨.str z, rfl, z, rfl, hs, _, _, rfl, rfl, _, rfl, ite2 (fun e1 => ?_) (fun e1 => ?_)⟩
    · refine ⟨_, _, rfl, rfl, _, rfl, ite2 (fun e2 => ?_) (fun e2 => ?_)⟩
      · refine no ?_ H (Same.refl _)
        unfold numOk
        rw [lz, show decide ((z.length : Int) ≤ 30) = false by cases h : decide ((z.length : Int) ≤ 30) with
          | false => rfl
          | true => rw [h] at e2; cases e2]
        simp
      have l30 : decide ((z.length : Int) ≤ 30) = true := by
        cases h : decide ((z.length : Int) ≤ 30) with
          | true => rfl
          | false => rw [h] at e2; exact absurd rfl e2
      refine ⟨.str z, rfl, z, rfl, fun D hD => lc_it walk_str (fun i H' => Same H H' ∧ H' D = some (.lst (((z.cps.toList.take i).map dgC).map V.bl))) ⟨same_upd hD, upd_same⟩ (fun _ _ _ _ => trivial) ?_ ?_⟩
      · rintro i x H1 H2 hi ⟨sm, eD⟩ ⟨rfl, c, hc, rfl⟩
        refine ⟨rfl, ?_⟩
        refine ⟨_, rfl, c, _, rfl, rfl, _, eD, ?_, ?_, ?_⟩
        · rw [List.length_map, List.length_map, List.length_take, lz]
          exact small1000 (by have := of_decide_eq_true l30; omega)
        · exact fun b' o e => by
            rw [upd_ne (ne_of_none e hD)]
            exact sm _ _ e
        · rw [upd_same, List.take_add_one, Array.getElem?_toList, hc, List.map_append, List.map_append]
          rfl
      · rintro H1 ⟨sm, eD⟩
        have e2 : z.cps.toList.take z.cps.size = z.cps.toList := List.take_of_length_le (by rw [Array.length_toList]; exact Nat.le_refl _)
        rw [e2] at eD
        refine ⟨_, z.cps.toList.map dgC, rfl, .inl (.inl eD), ?_⟩
        rw [all_mapN]
        refine ⟨_, rfl, ite2 (fun e3 => ?_) (fun e3 => ?_)⟩
        · refine no ?_ H1 sm
          unfold numOk
          rw [show z.cps.toList.all dgC = false by cases h : z.cps.toList.all dgC with
            | false => rfl
            | true => rw [h] at e3; cases e3]
          simp
        have ad : z.cps.toList.all dgC = true := by
          cases h : z.cps.toList.all dgC with
            | true => rfl
            | false => rw [h] at e3; exact absurd rfl e3
        obtain ⟨c, r, ez⟩ : ∃ c r, z.cps.toList = c :: r := by
          cases h : z.cps.toList with
          | nil =>
            rw [h] at lz
            have : (1 : Int) ≤ (z.length : Int) := of_decide_eq_true e1
            have : ([] : List Nat).length = 0 := rfl
            omega
          | cons c r => exact ⟨c, r, rfl⟩
        have hc : decide (V.str ⟨#[c]⟩ = V.str (PySem.Str.ofString "0")) = decide (c = 48) := by
          by_cases h : c = 48
          · subst h; decide +kernel
          · rw [decide_eq_false h]
            refine decide_eq_false fun z => h ?_
            have z2 := V.str.inj z
            have z3 := congrArg (fun s : Str => s.cps.toList) z2
            rw [show (PySem.Str.ofString "0").cps.toList = [48] by decide +kernel] at z3
            exact (List.cons.inj z3).1
        have ok0 : numOk z.cps.toList = !(decide (c = 48) && decide (1 < (z.length : Int))) := by
          unfold numOk
          rw [lz, ad, l30, show decide (1 ≤ (z.length : Int)) = true from e1, ez]
          show (true && true && (true && !(decide (some c = some 48) && _))) = _
          rw [show decide (some c = some 48) = decide (c = 48) by simp]
          simp
        have yes : numOk z.cps.toList = true → Q (.int (NumText.digitsVal z.cps.toList : Nat)) H1 := fun e => by
          have h := q H1 sm
          unfold numIn at h
          rw [e] at h
          exact h
        have fin : numOk z.cps.toList = true → ∃ a n, [V.str z] = [.str a] ∧ PySem.intText? a = some n ∧ a.length ≤ 640 ∧ Q (.int n) H1 := fun e => by
          have l3 := of_decide_eq_true l30
          exact ⟨z, _, rfl, intText_digits (num_all ad) (by rw [ez]; exact fun h => nomatch h) (by omega), by omega, yes e⟩
        refine ⟨.str z, rfl, z, 0, c, rfl, rfl, hs, by rw [ez]; exact atI_nat (j := 0) rfl, rfl, _, rfl, ?_⟩
        rw [hc]
        refine ite2 (fun e4 => ?_) (fun e4 => ?_)
        · refine ⟨.str z, rfl, z, rfl, hs, _, _, rfl, rfl, _, rfl, ite2 (fun e5 => ?_) (fun e5 => ?_)⟩
          · refine no ?_ H1 sm
            rw [ok0, e4, show decide (1 < (z.length : Int)) = true from e5]
            rfl
          · refine ⟨.str z, rfl, fin ?_⟩
            rw [ok0, show decide (1 < (z.length : Int)) = false from Bool.eq_false_iff.mpr e5]
            simp
        · refine ite2 (fun z => nomatch z) (fun _ => ⟨.str z, rfl, fin ?_⟩)
          rw [ok0, Bool.eq_false_iff.mpr e4]
          rfl
    · refine ⟨_, rfl, iteT (no ?_ H (Same.refl _))⟩
      unfold numOk
      rw [lz, show decide (1 ≤ (z.length : Int)) = false from Bool.eq_false_iff.mpr e1]
      rfl
/-! ### a number written -/
def figT (n : Nat) : Str := PySem.Str.ofString (toString ((n : Nat) : Int))
theorem tl_fig (n : Nat) : (figT n).cps.toList = TL.numL n := TL.tl_num n
theorem fig_len {n : Nat} (h : n < 10 ^ 30) : (figT n).length ≤ 30 := by
  rw [← len_toListN, tl_fig]
  exact TL.numL_len (by decide) h
theorem head0 : ∀ n : Nat, 10 ≤ n → (TL.numL n).head? ≠ some 48 := fun n => by
  induction n using Nat.strongRecOn with
  | _ n ih =>
    intro h
    rw [TL.numL_step h]
    by_cases h2 : n / 10 < 10
    · rw [TL.numL_lt h2]
      show some (48 + n / 10) ≠ some 48
      intro z
      have := Option.some.inj z
      omega
    · have := ih (n / 10) (by omega) (by omega)
      have ne := TL.numL_ne (n / 10)
      cases e : TL.numL (n / 10) with
      | nil => exact absurd e ne
      | cons c r =>
        rw [e] at this
        exact this
theorem numIn_fig {n : Nat} (h : n < 10 ^ 30) : numIn (figT n).cps.toList = some n := by
  have hl : (TL.numL n).length ≤ 30 := TL.numL_len (by decide) h
  have h1 : 1 ≤ (TL.numL n).length := List.length_pos_iff.mpr (TL.numL_ne n)
  have ok : numOk (TL.numL n) = true := by
    unfold numOk
    rw [decide_eq_true (show (1 : Int) ≤ ((TL.numL n).length : Int) by omega), decide_eq_true (show ((TL.numL n).length : Int) ≤ 30 by omega)]
    have ha : (TL.numL n).all dgC = true := List.all_eq_true.mpr fun c hc => (dg_iff c).mpr (by have := TL.numL_digits n c hc; omega)
    rw [ha]
    by_cases h10 : n < 10
    · rw [TL.numL_lt h10]
      simp
    · rw [decide_eq_false (head0 n (by omega))]
      rfl
  unfold numIn
  rw [tl_fig, ok, if_pos rfl, TL.numL_val]
--@@SPLIT
def spIsLot : Sp := fun vs H Q _ => ∃ i : Int, vs = [.int i] ∧ 0 ≤ i ∧ i ≤ 7 ∧ Q (.bl true) H
theorem ok_is_whole (T : Top w K mg) : FnOk P w K mg base CX0 1 T.a_is_whole T.fd_is_whole ["thing"] spWhole := by
  refine T.F_is_whole.ok sc_is_whole (fun vs H Q E h => ?_) (fun cdv A outer s H vs Q E hr h => ?_)
  · obtain ⟨i, rfl, _⟩ := h
    rfl
  · obtain ⟨i, rfl, q⟩ := h
    refine ⟨_, (pss_one (ps_ret (pe_and (pe_callB call_isi (by rfl) T.m_isinstance (by decide +kernel) (pa_cons (pv 0) (pa_cons (pe_bltn (v := .ty "int") (by rfl) T.m_int (by decide +kernel) rfl) pa_nil))) (pe_one (pe_not (pe_callB call_isi (by rfl) T.m_isinstance (by decide +kernel) (pa_cons (pv 0) (pa_cons (pe_bltn (v := .ty "bool") (by rfl) T.m_bool (by decide +kernel) rfl) pa_nil)))))))), ?_⟩
    refine ⟨.int i, rfl, _, _, _, _, true, rfl, .ty _, .base (.int i), kit_ty (by decide +kernel), _, rfl, iteT ?_⟩
    exact ⟨.int i, rfl, _, _, _, _, false, rfl, .ty _, .base (.int i), kit_ty (by decide +kernel), _, rfl, q⟩
theorem ok_is_lot (T : Top w K mg) : FnOk P w K mg base CX0 2 T.a_is_lot T.fd_is_lot ["thing"] spIsLot := by
  have G_is_whole := ok_is_whole (P := P) (w := w) (base := base) T
  refine T.F_is_lot.ok sc_is_lot (fun vs H Q E h => ?_) (fun cdv A outer s H vs Q E hr h => ?_)
  · obtain ⟨i, rfl, _⟩ := h
    rfl
  · obtain ⟨i, rfl, h0, h7, q⟩ := h
    refine ⟨_, (pss_one (ps_ret (pe_and (pe_call G_is_whole hr (by rfl) T.g_is_whole T.F_is_whole.kp T.b_is_whole .nil pass0 (pa_cons (pv 0) pa_nil)) (pe_one (pe_chain op_le op_le pe_int (pv 0) pe_int))))), ?_⟩
    refine ⟨.int i, rfl, i, rfl, _, rfl, iteT ?_⟩
    refine ⟨.int i, rfl, _, _, rfl, rfl, _, rfl, ite2 (fun e => ?_) (fun e => absurd (decide_eq_true h0) e)⟩
    refine ⟨_, _, rfl, rfl, ?_⟩
    show Q (.bl (decide (i ≤ 7))) H
    rw [decide_eq_true h7]
    exact q
def lotV (a : Fin 8) : V := .int (a.val : Nat)
theorem eight {r : Int} (h0 : 0 ≤ r) (h1 : r < 8) : ∃ a : Fin 8, V.int r = lotV a := ⟨⟨r.toNat, by omega⟩, by show V.int r = .int ((r.toNat : Nat) : Int); rw [Int.toNat_of_nonneg h0]⟩
/-! ### dealings as texts -/
abbrev blank : Str := PySem.Str.ofString " "
abbrev stroke : Str := PySem.Str.ofString "-"
def lotT (ls : List (Fin 8)) : List Str := ls.map fun a => figT a.val
def lotsJ (ls : List (Fin 8)) : Str := Txt.join blank (lotT ls)
def dealT (ls : List (Fin 8)) : Str := if ls.isEmpty = true then stroke else lotsJ ls
theorem blank_tl : blank.cps.toList = [32] := by decide +kernel
theorem fig8 (a : Fin 8) : (figT a.val).cps.toList = [48 + a.val] := by
  rw [tl_fig, TL.numL_lt (by omega)]
theorem fig8_len (a : Fin 8) : (figT a.val).length = 1 := by
  rw [← len_toListN, fig8]
  rfl
theorem joinL_len {n : Nat} : ∀ ps : List (List Nat), (∀ p ∈ ps, p.length = 1) → (TL.joinL [n] ps).length = 2 * ps.length - 1
  | [], _ => rfl
  | [p], h => h p (by simp)
  | p :: q :: r, h => by
    show (p ++ ([n] ++ TL.joinL [n] (q :: r))).length = _
    rw [List.length_append, List.length_append, joinL_len (q :: r) (fun x hx => h x (List.mem_cons_of_mem _ hx)), h p (by simp)]
    show 1 + (1 + (2 * (r.length + 1) - 1)) = 2 * (r.length + 1 + 1) - 1
    omega
theorem lotsJ_len (ls : List (Fin 8)) : (lotsJ ls).length = 2 * ls.length - 1 := by
  unfold lotsJ
  rw [TL.join_eq, ← len_toListN]
  have e := TL.tl_join blank (lotT ls)
  rw [show (Str.join blank (lotT ls)).cps.toList = TL.tl (Str.join blank (lotT ls)) from rfl, e, show TL.tl blank = [32] from blank_tl, joinL_len]
  · rw [List.length_map]
    unfold lotT
    rw [List.length_map]
  · intro p hp
    obtain ⟨z, hz, rfl⟩ := List.mem_map.mp hp
    obtain ⟨a, _, rfl⟩ := List.mem_map.mp hz
    show (figT a.val).cps.toList.length = 1
    rw [fig8]
    rfl
theorem lotT_sum (ls : List (Fin 8)) : ((lotT ls).map (·.length)).sum = ls.length := by
  unfold lotT
  induction ls with
  | nil => rfl
  | cons a r ih =>
    rw [List.map_cons, List.map_cons, List.sum_cons, ih, fig8_len, List.length_cons]
    omega
theorem lots_split (ls : List (Fin 8)) (h : ls ≠ []) : Txt.split (lotsJ ls) blank = lotT ls := by
  refine TL.split_join (s := 32) (S := []) blank_tl (by decide +kernel) (fun e => h (List.map_eq_nil_iff.mp e)) fun p hp => ?_
  obtain ⟨a, _, rfl⟩ := List.mem_map.mp hp
  show 32 ∉ (figT a.val).cps.toList
  rw [fig8]
  intro z
  have := List.mem_singleton.mp z
  omega
def spDealText (K : PySem.W.Frag) : Sp := fun vs H Q _ => ∃ (a : Addr) (ls : List (Fin 8)), vs = [.ref a] ∧ SqA K H a (ls.map lotV) ∧ ls.length ≤ 900 ∧ ∀ H', Same H H' → Q (.str (dealT ls)) H'
theorem ok_dealing_text (T : Top w K mg) : FnOk P w K mg base CX0 1 T.a_dealing_text T.fd_dealing_text ["dealing"] (spDealText K) := by
  refine T.F_dealing_text.ok sc_dealing_text (fun vs H Q E h => ?_) (fun cdv A outer s H vs Q E hr h => ?_)
  · obtain ⟨a, ls, rfl, _⟩ := h
    rfl
  · obtain ⟨a, ls, rfl, hs, hl, q⟩ := h
    refine ⟨_, (pss_one (ps_ret (pe_orT (pe_bm PySem.F.plainAttrs_str PySem.F.slot_str_join PySem.F.type_str_join mt_join pe_str (pa_cons (pe_lc (own := [("lot", 1)]) (g := gName 1) (by rfl) sc_dealing_text.nd (SeqW.pi_seq (pv 0)) (blkOk_by (own := [("lot", 1)]) (N := ["dealing", "lot"]) (sc := defScope s_dealing_text) (by decide +kernel)) (fun _ _ _ _ _ => (pg_name (i := 1) sc_dealing_text.nd rfl (Or.inl rfl))) (fun _ _ _ _ _ => pts_nil) (fun _ _ _ _ _ => (pe_callTy call_str_int (by rfl) T.m_str (by decide +kernel) (pa_cons (pv 1) pa_nil)))) pa_nil)) (pe_one (pe_glob (v := .str "-") (by rfl) T.g_NONE_AT_ALL.choose_spec ⟨_, rfl⟩))))), ?_⟩
    refine ⟨rfl, .ref a, rfl, a, ls.map lotV, rfl, (fun H' => Same H H'), kpA hs, Same.refl _, fun J G wk hG D hD => lc_it wk (fun i H' => Same H H' ∧ H' D = some (.lst ((lotT (ls.take i)).map V.str))) ⟨same_upd hD, upd_same⟩ (fun i H' _ h => hG _ h.1) ?_ ?_⟩
    · rintro i v H1 H2 hi ⟨sm, eD⟩ ⟨rfl, hx⟩
      rw [List.getElem?_map] at hx
      obtain ⟨x, fx, rfl⟩ : ∃ x, ls[i]? = some x ∧ lotV x = v := by
        cases e1 : ls[i]? with
        | none => rw [e1] at hx; cases hx
        | some x => rw [e1] at hx; exact ⟨x, rfl, Option.some.inj hx⟩
      refine ⟨rfl, _, rfl, _, rfl, ?_, _, eD, ?_, ?_, ?_⟩
      · have : ∀ a : Fin 8, (((a.val : Nat) : Int)).natAbs.log2 < 1920 := by decide +kernel
        exact this x
      · unfold lotT
        rw [List.length_map, List.length_map, List.length_take]
        exact small1000 (by omega)
      · exact fun b' o e => by
          rw [upd_ne (ne_of_none e hD)]
          exact sm _ _ e
      · unfold lotT
        rw [upd_same, List.take_add_one, fx, List.map_append, List.map_append]
        rfl
    · rintro H1 ⟨sm, eD⟩
      rw [List.length_map, List.take_length] at eD
      refine ⟨_, D, lotT ls, rfl, rfl, .inl (.inl (.inl eD)), ?_, ?_⟩
      · rw [lotT_sum]
        unfold lotT
        rw [List.length_map, show (PySem.Str.ofString " ").length = 1 by decide +kernel]
        omega
      · have ll := lotsJ_len ls
        refine ⟨_, ⟨by show (lotsJ ls).length ≤ sizeLine; exact Nat.le_trans (show (lotsJ ls).length ≤ 2000 by omega) (by decide), rfl⟩, ?_⟩
        have h := q H1 sm
        unfold dealT at h
        show if (((lotsJ ls).length : Int) != 0) = true then Q (.str (lotsJ ls)) H1 else _
        cases ls with
        | nil =>
          rw [ll]
          exact iteF h
        | cons x r =>
          rw [ll, show (((2 * (x :: r).length - 1 : Nat) : Int) != 0) = true by
            rw [bne_iff_ne]
            have : (x :: r).length = r.length + 1 := rfl
            omega]
          exact iteT h
def spReadDeal (K : PySem.W.Frag) : Sp := fun vs H Q _ => ∃ (ls : List (Fin 8)), vs = [.str (dealT ls)] ∧ ls.length ≤ 900 ∧ ∀ H' r, Same H H' → H' r = some (.tup (ls.map lotV)) → Q (.ref r) H'
theorem ok_read_dealing (T : Top w K mg) : FnOk P w K mg base CX0 3 T.a_read_dealing T.fd_read_dealing ["text"] (spReadDeal K) := by
  have G_number_in := ok_number_in (P := P) (w := w) (base := base) T
  have G_is_lot := ok_is_lot (P := P) (w := w) (base := base) T
  refine T.F_read_dealing.ok sc_read_dealing (fun vs H Q E h => ?_) (fun cdv A outer s H vs Q E hr h => ?_)
  · obtain ⟨ls, rfl, _⟩ := h
    rfl
  · obtain ⟨ls, rfl, hl, q⟩ := h
    refine ⟨_, (pss_cons (ps_if (pt_cmpR op_eq (pv 0) (pe_glob (v := .str "-") (by rfl) T.g_NONE_AT_ALL.choose_spec ⟨_, rfl⟩) (nomark _)) (pss_one (ps_ret (pe_tup pa_nil))) pss_nil)
      (pss_cons (ps_setLc (i := 1) (own := [("word", 4)]) (g := gName 4) (by rfl) sc_read_dealing.nd rfl rfl (sw_true rfl rfl rfl (by decide +kernel)) (pi_list (pe_bm PySem.F.plainAttrs_str PySem.F.slot_str_split PySem.F.type_str_split mt_split (pv 0) (pa_cons pe_str pa_nil))) (blkOk_by (own := [("word", 4)]) (N := ["text", "lots", "at", "lot", "word"]) (sc := defScope s_read_dealing) (by decide +kernel)) (fun _ _ _ _ _ => (pg_name (i := 4) sc_read_dealing.nd rfl (Or.inl rfl))) (fun _ _ _ _ _ => pts_nil) (fun _ _ _ _ _ => (pe_call G_number_in (hr.mono (by decide)) (by rfl) T.g_number_in T.F_number_in.kp T.b_number_in .nil pass0 (pa_cons (pv 4) pa_nil))))
      (pss_cons (ps_for PassesOwn.never rfl (pi_enum (by rfl) T.m_enumerate (pa_cons (pv 1) pa_nil)) (pg_tup rfl (pgs_cons (pg_name (i := 2) sc_read_dealing.nd rfl (.inl rfl)) (pgs_cons (pg_name (i := 3) sc_read_dealing.nd rfl (.inl rfl)) pgs_nil))) (pss_one (ps_if (pt_not (pt_val (pe_call G_is_lot hr (by rfl) T.g_is_lot T.F_is_lot.kp T.b_is_lot .nil pass0 (pa_cons (pv 3) pa_nil)))) (pss_one ps_never) pss_nil)))
      (pss_one (ps_ret (pe_callTy call_tuple_of (by rfl) T.m_tuple (by decide +kernel) (pa_cons (pv 1) pa_nil))))))), ?_⟩
    refine ⟨_, rfl, rfl, _, rfl, ?_⟩
    cases el : ls with
    | nil =>
      rw [show decide (V.str (dealT []) = V.str (PySem.Str.ofString "-")) = true by exact decide_eq_true rfl]
      refine iteT ⟨Nat.zero_le _, fun r nr => q _ r (same_upd nr) (by rw [el]; exact upd_same)⟩
    | cons x0 r0 =>
      have ne : ls ≠ [] := by rw [el]; exact fun h => nomatch h
      have ed : dealT (x0 :: r0) = lotsJ ls := by
        rw [el]
        rfl
      have ll := lotsJ_len ls
      have hd : decide (V.str (dealT (x0 :: r0)) = V.str (PySem.Str.ofString "-")) = false := by
        refine decide_eq_false fun z => ?_
        rw [ed] at z
        have z2 := V.str.inj z
        have z3 := lots_split ls ne
        rw [z2, show Txt.split (PySem.Str.ofString "-") blank = [PySem.Str.ofString "-"] by decide +kernel, el] at z3
        have z4 := (List.cons.inj z3).1
        have z5 := congrArg (fun s : Str => s.cps.toList) z4
        have z6 : [45] = (figT x0.val).cps.toList := z5
        rw [fig8] at z6
        have := (List.cons.inj z6).1
        omega
      rw [hd]
      refine iteF ⟨_, rfl, rfl, _, _, rfl, rfl, by decide +kernel, ?_, fun W nW => ?_⟩
      · rw [ed]
        exact Nat.le_trans (show (lotsJ ls).length + 2 ≤ 3000 by omega) (by decide)
      rw [ed, lots_split ls ne]
      have sW := same_upd (o := .lst ((lotT ls).map V.str)) nW
      refine ⟨W, rfl, ⟨_, .inl (.inl upd_same)⟩, fun D hD => lc_it (walk_list (xs := (lotT ls).map V.str)) (fun i H' => Same (upd H W (.lst ((lotT ls).map V.str))) H' ∧ H' D = some (.lst ((ls.take i).map lotV))) ⟨same_upd hD, upd_same⟩ (fun i H' _ h => .inl (.inl (h.1 _ _ upd_same))) ?_ ?_⟩
      · rintro i v H1 H2 hi ⟨sm, eD⟩ ⟨rfl, hx⟩
        unfold lotT at hx
        rw [List.map_map, List.getElem?_map] at hx
        obtain ⟨x, fx, rfl⟩ : ∃ x, ls[i]? = some x ∧ V.str (figT x.val) = v := by
          cases e1 : ls[i]? with
          | none => rw [e1] at hx; cases hx
          | some x => rw [e1] at hx; exact ⟨x, rfl, Option.some.inj hx⟩
        refine ⟨rfl, _, rfl, figT x.val, rfl, by rw [fig8_len]; decide, fun H3 s3 => ?_⟩
        rw [numIn_fig (Nat.lt_trans x.isLt (by decide))]
        refine ⟨_, s3 _ _ eD, ?_, ?_, ?_⟩
        · rw [List.length_map, List.length_take]
          exact small1000 (by omega)
        · exact fun b' o e => by
            rw [upd_ne (ne_of_none e hD)]
            exact s3 _ _ (sm _ _ e)
        · rw [upd_same, List.take_add_one, fx, List.map_append]
          rfl
      · rintro H1 ⟨sm, eD⟩
        have e9 : ls.take ((lotT ls).map V.str).length = ls := List.take_of_length_le (by unfold lotT; rw [List.length_map, List.length_map]; exact Nat.le_refl _)
        rw [e9] at eD
        refine ⟨.ref D, rfl, D, ls.map lotV, rfl, .inl (.inl eD), for_it walk_enum (fun i σ H' => Same H1 H' ∧ ∃ y2 y3 y4, σ = [some (.str (lotsJ ls)), some (.ref D), y2, y3, y4]) ⟨Same.refl _, _, _, _, rfl⟩ (fun i σ H' _ h => .inl (.inl (h.1 _ _ eD))) ?_ ?_⟩
        · rintro i v σ H2 H3 hi ⟨s2, y2, y3, y4, rfl⟩ ⟨t, u1, u2, rfl, nt, rfl, e1, e2⟩
          cases e1
          have e2 : (ls.map lotV)[i]? = some u2 := e2
          rw [List.getElem?_map] at e2
          obtain ⟨x, fx, rfl⟩ : ∃ x, ls[i]? = some x ∧ lotV x = u2 := by
            cases e1 : ls[i]? with
            | none => rw [e1] at e2; cases e2
            | some x => rw [e1] at e2; exact ⟨x, rfl, Option.some.inj e2⟩
          refine ⟨t, _, rfl, .inl (.inl upd_same), rfl, _, _, rfl, _, _, rfl, rfl, ?_⟩
          refine ⟨_, rfl, _, rfl, by omega, by omega, _, rfl, iteF ⟨s2.trans (same_upd nt), _, _, _, rfl⟩⟩
        · rintro σ H2 ⟨s2, y2, y3, y4, rfl⟩
          refine ⟨.ref D, rfl, D, ls.map lotV, rfl, .inl ⟨.inl (.inl (s2 _ _ eD)), fun r nr => q _ r ?_ upd_same⟩⟩
          exact (sW.trans (sm.trans s2)).trans (same_upd nr)
--@@SPLIT
def spLaw (K : PySem.W.Frag) : Sp := fun vs H Q _ => ∃ (a : Addr) (ns : List Int), vs = [.ref a] ∧ SqL K H a (ns.map V.int) ∧ ns.length ≤ 63 ∧ ∀ H', Q (.bl true) H'
def lotD (a : Fin 8) : PyData := .int ((a.val : Nat) : Int)
theorem lots_dp {K : PySem.W.Frag} {H : Hp} : ∀ ls : List (Fin 8), DpAll K H (ls.map lotV) (ls.map lotD)
  | [] => .nil
  | a :: r => .cons (.int _) (lots_dp r)
theorem lots_lay : ∀ ls : List (Fin 8), PyData.canLayAll0 (ls.map lotD) = true ∧ PyData.depthAll (ls.map lotD) ≤ 2
  | [] => ⟨rfl, Nat.zero_le _⟩
  | p :: r => by
    obtain ⟨i1, i2⟩ := lots_lay r
    refine ⟨?_, ?_⟩
    · show (true && PyData.canLayAll0 (r.map lotD)) = true
      rw [i1]
      rfl
    · show max _ (PyData.depthAll (r.map lotD)) ≤ 2
      exact Nat.max_le.mpr ⟨Nat.zero_le 2, i2⟩
theorem lots_sh (ls : List (Fin 8)) : SeqAt.shaped (.list (ls.map lotD)) = true := by
  obtain ⟨h1, h2⟩ := lots_lay ls
  refine Bool.and_eq_true_iff.mpr ⟨h1, decide_eq_true ?_⟩
  show PyData.depthAll _ + 1 ≤ 64
  omega
theorem lots_ok {n : Nat} (ls : List (Fin 8)) (h : ls.length ≤ 900) : okD (n + 1) (.tuple (ls.map lotD)) = true := by
  refine Bool.and_eq_true_iff.mpr ⟨decide_eq_true (by rw [List.length_map]; omega), ?_⟩
  refine List.all_eq_true.mpr fun d hd => ?_
  obtain ⟨a, _, rfl⟩ := List.mem_map.mp hd
  cases n <;> rfl
theorem ok_law (T : Top w K mg) : FnOk P w K mg base CX0 4 T.a_law T.fd_law ["_law_script"] (spLaw K) := by
  have G_Lpool := ok_Lpool (P := P) (w := w) (base := base) T
  have G_Ltake := ok_Ltake (P := P) (w := w) (base := base) T
  have G_Lsame := ok_Lsame (P := P) (w := w) (base := base) T 1
  have G_dealing_text := ok_dealing_text (P := P) (w := w) (base := base) T
  have G_read_dealing := ok_read_dealing (P := P) (w := w) (base := base) T
  refine T.F_law.ok sc_law (fun vs H Q E h => ?_) (fun cdv A outer s H vs Q E hr h => ?_)
  · obtain ⟨a, ns, rfl, _⟩ := h
    rfl
  · obtain ⟨a, ns, rfl, hS, hlen, q⟩ := h
    refine ⟨_, (pss_cons (ps_set (i := 1) sc_law.nd rfl (.inr rfl) (pe_call G_Lpool (hr.mono (by decide)) (by rfl) T.g_Lpool T.F_Lpool.kp T.b_Lpool .nil pass0 (pa_cons (pv 0) (pa_cons pe_int pa_nil))))
      (pss_cons (ps_for PassesOwn.never rfl (pi_range1 (by rfl) T.m_range (pa_cons (pe_op op_add pe_int (pe_call G_Ltake (hr.mono (by decide)) (by rfl) T.g_Ltake T.F_Ltake.kp T.b_Ltake .nil pass0 (pa_cons (pv 1) (pa_cons pe_int pa_nil)))) pa_nil)) (pg_name (i := 2) sc_law.nd rfl (.inl rfl)) (pss_cons (ps_setLc (i := 3) (own := [("_law_turn", 6)]) (g := gName 6) (by rfl) sc_law.nd rfl rfl (sw_true rfl rfl rfl (by decide +kernel)) (pi_range1 (by rfl) T.m_range (pa_cons (pe_call G_Ltake (hr.mono (by decide)) (by rfl) T.g_Ltake T.F_Ltake.kp T.b_Ltake .nil pass0 (pa_cons (pv 1) (pa_cons pe_int pa_nil))) pa_nil)) (blkOk_by (own := [("_law_turn", 6)]) (N := ["_law_script", "_law_pool_here", "_law_k", "_law_lots", "_law_due", "_law_handed", "_law_turn", "_law_lot"]) (sc := defScope s_law) (by decide +kernel)) (fun _ _ _ _ _ => (pg_name (i := 6) sc_law.nd rfl (Or.inl rfl))) (fun _ _ _ _ _ => pts_nil) (fun _ _ _ _ _ => (pe_call G_Ltake (hr.mono (by decide)) (by rfl) T.g_Ltake T.F_Ltake.kp T.b_Ltake .nil pass0 (pa_cons (pv 1) (pa_cons pe_int pa_nil)))))
      (pss_cons (ps_set (i := 4) sc_law.nd rfl (.inl rfl) (pe_bm PySem.F.plainAttrs_str PySem.F.slot_str_join PySem.F.type_str_join mt_join pe_str (pa_cons (pe_lc (own := [("_law_lot", 7)]) (g := gName 7) (by rfl) sc_law.nd (pi_list (pv 3)) (blkOk_by (own := [("_law_lot", 7)]) (N := ["_law_script", "_law_pool_here", "_law_k", "_law_lots", "_law_due", "_law_handed", "_law_turn", "_law_lot"]) (sc := defScope s_law) (by decide +kernel)) (fun _ _ _ _ _ => (pg_name (i := 7) sc_law.nd rfl (Or.inl rfl))) (fun _ _ _ _ _ => pts_nil) (fun _ _ _ _ _ => (pe_callTy call_str_int (by rfl) T.m_str (by decide +kernel) (pa_cons (pv 7) pa_nil)))) pa_nil)))
      (Evl.pss_cut (ps_if (pt_cmpR op_eq (pe_callB call_len_seq (by rfl) T.m_len (by decide +kernel) (pa_cons (pv 3) pa_nil)) pe_int (nomark _)) (pss_one (ps_set (i := 4) sc_law.nd rfl (.inl rfl) pe_str)) pss_nil)
      (pss_cons (ps_set (i := 5) sc_law.nd rfl (.inl rfl) (pe_callTy call_list_of (by rfl) T.m_list (by decide +kernel) (pa_cons (pv 3) pa_nil)))
      (pss_cons (ps_if (PW.pt (pw_or (pt_not (pt_val (pe_call G_Lsame hr (by rfl) T.g_Lsame T.F_Lsame.kp T.b_Lsame .nil pass0 (pa_cons (pe_call G_dealing_text (hr.mono (by decide)) (by rfl) T.g_dealing_text T.F_dealing_text.kp T.b_dealing_text .nil pass0 (pa_cons (pv 5) pa_nil)) (pa_cons (pv 4) pa_nil))))) (pw_or (pt_cmpR (op_neD hr.units) (pv 5) (pv 3) (nomark _)) (pw_or1 (pt_not (pt_val (pe_call G_Lsame hr (by rfl) T.g_Lsame T.F_Lsame.kp T.b_Lsame .nil pass0 (pa_cons (pe_call G_dealing_text (hr.mono (by decide)) (by rfl) T.g_dealing_text T.F_dealing_text.kp T.b_dealing_text .nil pass0 (pa_cons (pe_callTy call_tuple_of (by rfl) T.m_tuple (by decide +kernel) (pa_cons (pv 3) pa_nil)) pa_nil)) (pa_cons (pv 4) pa_nil))))))))) (pss_one (ps_ret pe_bl)) pss_nil)
      (pss_one (ps_if (pt_not (pt_val (pe_call G_Lsame hr (by rfl) T.g_Lsame T.F_Lsame.kp T.b_Lsame .nil pass0 (pa_cons (pe_call G_read_dealing hr (by rfl) T.g_read_dealing T.F_read_dealing.kp T.b_read_dealing .nil pass0 (pa_cons (pv 4) pa_nil)) (pa_cons (pe_callTy call_tuple_of (by rfl) T.m_tuple (by decide +kernel) (pa_cons (pv 3) pa_nil)) pa_nil))))) (pss_one (ps_ret pe_bl)) pss_nil))))))))
      (pss_one (ps_ret pe_bl)))), ?_⟩
    refine ⟨.ref a, rfl, a, ns, 0, rfl, hS, hlen, by decide, fun H1 p sm np hp => ?_⟩
    refine ⟨.ref p, rfl, p, 12, rfl, by decide, by decide, hp, fun H2 k b2 hp2 k0 k1 => ⟨_, _, rfl, rfl, ?_⟩⟩
    refine ⟨1 + k, rfl, by omega, by omega, for_range (n := (1 + k).toNat) (fun i σ H' => Pool H' p ∧ ∃ y2 y3 y4 y5 y6 y7, σ = [some (.ref a), some (.ref p), y2, y3, y4, y5, y6, y7]) ⟨hp2, _, _, _, _, _, _, rfl⟩ ?_ (fun σ H' _ => q H')⟩
    rintro i σ H3 hi ⟨hp3, y2, y3, y4, y5, y6, y7, rfl⟩
    refine ⟨.ref p, rfl, p, 13, rfl, by decide, by decide, hp3, fun H4 m b4 hp4 m0 m1 => ?_⟩
    refine ⟨m, rfl, by omega, by omega, fun D hD => lc_range (lo := 0) (n := m.toNat) (fun i H' => Pool H' p ∧ ∃ ls : List (Fin 8), ls.length = i ∧ H' D = some (.lst (ls.map lotV))) ⟨hp4.upd (hp4.ne_new hD), [], rfl, upd_same⟩ ?_ ?_⟩
    · rintro j H5 hj ⟨hp5, ls, hl, eD⟩
      have nD : D ≠ p := hp4.ne_new hD
      refine ⟨rfl, .ref p, rfl, p, 8, rfl, by decide, by decide, hp5, fun H6 r b6 hp6 r0 r1 => ?_⟩
      obtain ⟨x, ex⟩ := eight r0 r1
      rw [ex]
      refine ⟨_, b6 _ _ nD eD, small1000 (by rw [List.length_map]; omega), hp6.upd nD, ls ++ [x], by rw [List.length_append, hl]; rfl, ?_⟩
      rw [upd_same, List.map_append]
      rfl
    rintro H5 ⟨hp5, ls, hl, eD⟩
    have l12 : ls.length ≤ 12 := by omega
    have nD : D ≠ p := hp4.ne_new hD
    refine ⟨rfl, .ref D, rfl, D, rfl, ⟨_, .inl (.inl eD)⟩, fun D2 hD2 => lc_it (walk_list (xs := ls.map lotV)) (fun i H' => Same H5 H' ∧ H' D2 = some (.lst ((lotT (ls.take i)).map V.str))) ⟨same_upd hD2, upd_same⟩ (fun i H' _ h => .inl (.inl (h.1 _ _ eD))) ?_ ?_⟩
    · rintro i v H6 H7 hi ⟨sm, eD2⟩ ⟨rfl, hx⟩
      rw [List.getElem?_map] at hx
      obtain ⟨x, fx, rfl⟩ : ∃ x, ls[i]? = some x ∧ lotV x = v := by
        cases e1 : ls[i]? with
        | none => rw [e1] at hx; cases hx
        | some x => rw [e1] at hx; exact ⟨x, rfl, Option.some.inj hx⟩
      refine ⟨rfl, _, rfl, _, rfl, ?_, _, eD2, ?_, ?_, ?_⟩
      · have : ∀ a : Fin 8, (((a.val : Nat) : Int)).natAbs.log2 < 1920 := by decide +kernel
        exact this x
      · unfold lotT
        rw [List.length_map, List.length_map, List.length_take]
        exact small1000 (by omega)
      · exact fun b' o e => by
          rw [upd_ne (ne_of_none e hD2)]
          exact sm _ _ e
      · unfold lotT
        rw [upd_same, List.take_add_one, fx, List.map_append, List.map_append]
        rfl
    rintro H6 ⟨s6, eD2⟩
    rw [List.length_map, List.take_length] at eD2
    refine ⟨_, D2, lotT ls, rfl, rfl, .inl (.inl (.inl eD2)), ?_, ?_⟩
    · rw [lotT_sum]
      unfold lotT
      rw [List.length_map, show (PySem.Str.ofString " ").length = 1 by decide +kernel]
      omega
    have hp6 := hp5.same s6
    have eD6 := s6 _ _ eD
    refine ⟨fun σ H' => H6 = H' ∧ ∃ y2 y5 y6 y7, σ = [some (.ref a), some (.ref p), y2, some (.ref D), some (.str (dealT ls)), y5, y6, y7], ?_, ?_⟩
    · refine ⟨.ref D, rfl, D, _, rfl, .inl (.inl (.inl eD6)), rfl, _, rfl, ?_⟩
      rw [List.length_map]
      cases el : ls with
      | nil => exact iteT ⟨rfl, _, _, _, _, rfl⟩
      | cons x r =>
        refine iteDN (decide_eq_false (fun z => ?_)) ⟨rfl, _, _, _, _, rfl⟩
        have := V.int.inj z
        have : ((x :: r).length : Int) = (r.length : Int) + 1 := rfl
        omega
    rintro σ H7 ⟨rfl, y2, y5, y6, y7, rfl⟩
    refine ⟨.ref D, rfl, D, _, rfl, .inl (.inl (.inl eD6)), fun L nL => ?_⟩
    have s7 := same_upd (o := .lst (ls.map lotV)) nL
    have hp7 := hp6.same s7
    have eD7 := s7 _ _ eD6
    refine ⟨.ref L, rfl, L, ls, rfl, .inl (.inl (.inl upd_same)), by omega, fun H8 s8 => ?_⟩
    refine ⟨_, rfl, _, _, .str (dealT ls), rfl, .str _, .str _, rfl, fun H9 s9 => ⟨_, rfl, iteF ?_⟩⟩
    have s89 := s8.trans s9
    have eL9 := s89 _ _ (upd_same (H := H6) (a := L) (o := .lst (ls.map lotV)))
    have eD9 := s89 _ _ eD7
    refine ⟨.ref L, rfl, .ref D, rfl, .list (ls.map lotD), .list (ls.map lotD), .lst (.inl (.inl eL9)) (lots_dp ls), .lst (.inl (.inl eD9)) (lots_dp ls), lots_sh ls, lots_sh ls, _, rfl, iteNE rfl (lots_sh ls) ?_⟩
    refine ⟨.ref D, rfl, D, _, rfl, .inl ⟨.inl (.inl eD9), fun t nt => ?_⟩⟩
    have s10 := same_upd (o := .tup (ls.map lotV)) nt
    refine ⟨t, ls, rfl, .inr (.inl (.inl upd_same)), by omega, fun H11 s11 => ?_⟩
    refine ⟨_, rfl, _, _, .str (dealT ls), rfl, .str _, .str _, rfl, fun H12 s12 => ⟨_, rfl, iteF ?_⟩⟩
    have s9c := (s10.trans s11).trans s12
    refine ⟨_, rfl, ls, rfl, by omega, fun H13 r s13 er => ?_⟩
    refine ⟨.ref D, rfl, D, _, rfl, .inl ⟨.inl (.inl (s13 _ _ (s9c _ _ eD9))), fun t2 nt2 => ?_⟩⟩
    have s14 := same_upd (o := .tup (ls.map lotV)) nt2
    refine ⟨_, _, .tuple (ls.map lotD), rfl, .tup (.inl (.inl (s14 _ _ er))) (lots_dp ls), .tup (.inl (.inl upd_same)) (lots_dp ls), lots_ok ls (by omega), fun H15 s15 => ⟨_, rfl, iteF ?_⟩⟩
    exact ⟨(((((hp7.same s89).same s9c).same s13).same s14).same s15), _, _, _, _, _, _, rfl⟩
end
theorem all_mk {l : PySem.W.OpenLaw} {w : World} {K : PySem.W.Frag} {h : Heap} {mg : Str → Option Value} {fa : Addr} (X : K.In h) (G : h.Ns mainGlobals mg) (hfa : mg "law" = some (.ref fa))
    {f_is_whole : Addr} {od_is_whole an_is_whole : Option Addr} {sl_is_whole : Array (Option Value)} {oc_is_whole kV_is_whole dc_is_whole pm_is_whole cd_is_whole ct_is_whole : Value}
    {f_is_lot : Addr} {od_is_lot an_is_lot : Option Addr} {sl_is_lot : Array (Option Value)} {oc_is_lot kV_is_lot dc_is_lot pm_is_lot cd_is_lot ct_is_lot : Value}
    {f_dealing_text : Addr} {od_dealing_text an_dealing_text : Option Addr} {sl_dealing_text : Array (Option Value)} {oc_dealing_text kV_dealing_text dc_dealing_text pm_dealing_text cd_dealing_text ct_dealing_text : Value}
    {f_number_in : Addr} {od_number_in an_number_in : Option Addr} {sl_number_in : Array (Option Value)} {oc_number_in kV_number_in dc_number_in pm_number_in cd_number_in ct_number_in : Value}
    {f_read_dealing : Addr} {od_read_dealing an_read_dealing : Option Addr} {sl_read_dealing : Array (Option Value)} {oc_read_dealing kV_read_dealing dc_read_dealing pm_read_dealing cd_read_dealing ct_read_dealing : Value}
    {f_Lpool : Addr} {od_Lpool an_Lpool : Option Addr} {sl_Lpool : Array (Option Value)} {oc_Lpool kV_Lpool dc_Lpool pm_Lpool cd_Lpool ct_Lpool : Value}
    {f_Ltake : Addr} {od_Ltake an_Ltake : Option Addr} {sl_Ltake : Array (Option Value)} {oc_Ltake kV_Ltake dc_Ltake pm_Ltake cd_Ltake ct_Ltake : Value}
    {f_Lwhole : Addr} {od_Lwhole an_Lwhole : Option Addr} {sl_Lwhole : Array (Option Value)} {oc_Lwhole kV_Lwhole dc_Lwhole pm_Lwhole cd_Lwhole ct_Lwhole : Value}
    {f_Lsame : Addr} {od_Lsame an_Lsame : Option Addr} {sl_Lsame : Array (Option Value)} {oc_Lsame kV_Lsame dc_Lsame pm_Lsame cd_Lsame ct_Lsame : Value}
    {f_law : Addr} {od_law an_law : Option Addr} {sl_law : Array (Option Value)} {oc_law kV_law dc_law pm_law cd_law ct_law : Value}
    {t_FIGURES : Tok}
    {t_MOST_FIGURES : Tok}
    {t_NONE_AT_ALL : Tok}
    (A_is_whole : PySem.W.nsIn K mainGlobals "is_whole" = some (some (.ref f_is_whole))) (L_is_whole : K.lookup f_is_whole = some ⟨oc_is_whole, od_is_whole, .func (PySem.W.fnOf "is_whole" "is_whole" (defArgs s_is_whole) (defBody s_is_whole) (defScope s_is_whole) .none kV_is_whole dc_is_whole pm_is_whole an_is_whole cd_is_whole ct_is_whole), sl_is_whole⟩) (C_is_whole : PySem.W.codeIn K cd_is_whole "is_whole" = true) (K_is_whole : PySem.W.keepIn K (.ref f_is_whole) = true)
    (A_is_lot : PySem.W.nsIn K mainGlobals "is_lot" = some (some (.ref f_is_lot))) (L_is_lot : K.lookup f_is_lot = some ⟨oc_is_lot, od_is_lot, .func (PySem.W.fnOf "is_lot" "is_lot" (defArgs s_is_lot) (defBody s_is_lot) (defScope s_is_lot) .none kV_is_lot dc_is_lot pm_is_lot an_is_lot cd_is_lot ct_is_lot), sl_is_lot⟩) (C_is_lot : PySem.W.codeIn K cd_is_lot "is_lot" = true) (K_is_lot : PySem.W.keepIn K (.ref f_is_lot) = true)
    (A_dealing_text : PySem.W.nsIn K mainGlobals "dealing_text" = some (some (.ref f_dealing_text))) (L_dealing_text : K.lookup f_dealing_text = some ⟨oc_dealing_text, od_dealing_text, .func (PySem.W.fnOf "dealing_text" "dealing_text" (defArgs s_dealing_text) (defBody s_dealing_text) (defScope s_dealing_text) .none kV_dealing_text dc_dealing_text pm_dealing_text an_dealing_text cd_dealing_text ct_dealing_text), sl_dealing_text⟩) (C_dealing_text : PySem.W.codeIn K cd_dealing_text "dealing_text" = true) (K_dealing_text : PySem.W.keepIn K (.ref f_dealing_text) = true)
    (A_number_in : PySem.W.nsIn K mainGlobals "number_in" = some (some (.ref f_number_in))) (L_number_in : K.lookup f_number_in = some ⟨oc_number_in, od_number_in, .func (PySem.W.fnOf "number_in" "number_in" (defArgs s_number_in) (defBody s_number_in) (defScope s_number_in) .none kV_number_in dc_number_in pm_number_in an_number_in cd_number_in ct_number_in), sl_number_in⟩) (C_number_in : PySem.W.codeIn K cd_number_in "number_in" = true) (K_number_in : PySem.W.keepIn K (.ref f_number_in) = true)
    (A_read_dealing : PySem.W.nsIn K mainGlobals "read_dealing" = some (some (.ref f_read_dealing))) (L_read_dealing : K.lookup f_read_dealing = some ⟨oc_read_dealing, od_read_dealing, .func (PySem.W.fnOf "read_dealing" "read_dealing" (defArgs s_read_dealing) (defBody s_read_dealing) (defScope s_read_dealing) .none kV_read_dealing dc_read_dealing pm_read_dealing an_read_dealing cd_read_dealing ct_read_dealing), sl_read_dealing⟩) (C_read_dealing : PySem.W.codeIn K cd_read_dealing "read_dealing" = true) (K_read_dealing : PySem.W.keepIn K (.ref f_read_dealing) = true)
    (A_Lpool : PySem.W.nsIn K mainGlobals "_law_pool" = some (some (.ref f_Lpool))) (L_Lpool : K.lookup f_Lpool = some ⟨oc_Lpool, od_Lpool, .func (PySem.W.fnOf "_law_pool" "_law_pool" (defArgs s_Lpool) (defBody s_Lpool) (defScope s_Lpool) .none kV_Lpool dc_Lpool pm_Lpool an_Lpool cd_Lpool ct_Lpool), sl_Lpool⟩) (C_Lpool : PySem.W.codeIn K cd_Lpool "_law_pool" = true) (K_Lpool : PySem.W.keepIn K (.ref f_Lpool) = true)
    (A_Ltake : PySem.W.nsIn K mainGlobals "_law_take" = some (some (.ref f_Ltake))) (L_Ltake : K.lookup f_Ltake = some ⟨oc_Ltake, od_Ltake, .func (PySem.W.fnOf "_law_take" "_law_take" (defArgs s_Ltake) (defBody s_Ltake) (defScope s_Ltake) .none kV_Ltake dc_Ltake pm_Ltake an_Ltake cd_Ltake ct_Ltake), sl_Ltake⟩) (C_Ltake : PySem.W.codeIn K cd_Ltake "_law_take" = true) (K_Ltake : PySem.W.keepIn K (.ref f_Ltake) = true)
    (A_Lwhole : PySem.W.nsIn K mainGlobals "_law_whole" = some (some (.ref f_Lwhole))) (L_Lwhole : K.lookup f_Lwhole = some ⟨oc_Lwhole, od_Lwhole, .func (PySem.W.fnOf "_law_whole" "_law_whole" (defArgs s_Lwhole) (defBody s_Lwhole) (defScope s_Lwhole) .none kV_Lwhole dc_Lwhole pm_Lwhole an_Lwhole cd_Lwhole ct_Lwhole), sl_Lwhole⟩) (C_Lwhole : PySem.W.codeIn K cd_Lwhole "_law_whole" = true) (K_Lwhole : PySem.W.keepIn K (.ref f_Lwhole) = true)
    (A_Lsame : PySem.W.nsIn K mainGlobals "_law_same" = some (some (.ref f_Lsame))) (L_Lsame : K.lookup f_Lsame = some ⟨oc_Lsame, od_Lsame, .func (PySem.W.fnOf "_law_same" "_law_same" (defArgs s_Lsame) (defBody s_Lsame) (defScope s_Lsame) .none kV_Lsame dc_Lsame pm_Lsame an_Lsame cd_Lsame ct_Lsame), sl_Lsame⟩) (C_Lsame : PySem.W.codeIn K cd_Lsame "_law_same" = true) (K_Lsame : PySem.W.keepIn K (.ref f_Lsame) = true)
    (A_law : PySem.W.nsIn K mainGlobals "law" = some (some (.ref f_law))) (L_law : K.lookup f_law = some ⟨oc_law, od_law, .func (PySem.W.fnOf "law" "law" (defArgs s_law) (defBody s_law) (defScope s_law) .none kV_law dc_law pm_law an_law cd_law ct_law), sl_law⟩) (C_law : PySem.W.codeIn K cd_law "law" = true) (K_law : PySem.W.keepIn K (.ref f_law) = true)
    (A_FIGURES : PySem.W.nsIn K mainGlobals "FIGURES" = some (some (.str "0123456789" t_FIGURES)))
    (A_MOST_FIGURES : PySem.W.nsIn K mainGlobals "MOST_FIGURES" = some (some (.int 30 t_MOST_FIGURES)))
    (A_NONE_AT_ALL : PySem.W.nsIn K mainGlobals "NONE_AT_ALL" = some (some (.str "-" t_NONE_AT_ALL)))
    (Z_abs : PySem.W.nsIn K mainGlobals "abs" = some none)
    (Z_all : PySem.W.nsIn K mainGlobals "all" = some none)
    (Z_bool : PySem.W.nsIn K mainGlobals "bool" = some none)
    (Z_enumerate : PySem.W.nsIn K mainGlobals "enumerate" = some none)
    (Z_int : PySem.W.nsIn K mainGlobals "int" = some none)
    (Z_isinstance : PySem.W.nsIn K mainGlobals "isinstance" = some none)
    (Z_len : PySem.W.nsIn K mainGlobals "len" = some none)
    (Z_list : PySem.W.nsIn K mainGlobals "list" = some none)
    (Z_range : PySem.W.nsIn K mainGlobals "range" = some none)
    (Z_str : PySem.W.nsIn K mainGlobals "str" = some none)
    (Z_tuple : PySem.W.nsIn K mainGlobals "tuple" = some none)
    (Z_zip : PySem.W.nsIn K mainGlobals "zip" = some none) :
    ∃ fd : FuncData, (∀ (s : Shared) (v : Value), BindsTo s fd ⟨[v], []⟩ [("_law_script", v)]) ∧ ∀ base : Heap, K.In base → base.Ns mainGlobals mg → FnOk l.prog w K mg base CX0 4 fa fd ["_law_script"] (spLaw K) := by
  have e := hfa.symm.trans (PySem.W.mg_of X G A_law)
  cases e
  let T : Top w K mg := {
    a_is_whole := f_is_whole, fd_is_whole := _, F_is_whole := fun_mk (st := s_is_whole) L_is_whole C_is_whole K_is_whole,
    b_is_whole := (fun_mk (st := s_is_whole) L_is_whole C_is_whole K_is_whole).binds (ps := ["thing"]) fun _ _ _ _ _ _ us hl => match us, hl with | [_], _ => rfl,
    g_is_whole := PySem.W.mg_of X G A_is_whole,
    a_is_lot := f_is_lot, fd_is_lot := _, F_is_lot := fun_mk (st := s_is_lot) L_is_lot C_is_lot K_is_lot,
    b_is_lot := (fun_mk (st := s_is_lot) L_is_lot C_is_lot K_is_lot).binds (ps := ["thing"]) fun _ _ _ _ _ _ us hl => match us, hl with | [_], _ => rfl,
    g_is_lot := PySem.W.mg_of X G A_is_lot,
    a_dealing_text := f_dealing_text, fd_dealing_text := _, F_dealing_text := fun_mk (st := s_dealing_text) L_dealing_text C_dealing_text K_dealing_text,
    b_dealing_text := (fun_mk (st := s_dealing_text) L_dealing_text C_dealing_text K_dealing_text).binds (ps := ["dealing"]) fun _ _ _ _ _ _ us hl => match us, hl with | [_], _ => rfl,
    g_dealing_text := PySem.W.mg_of X G A_dealing_text,
    a_number_in := f_number_in, fd_number_in := _, F_number_in := fun_mk (st := s_number_in) L_number_in C_number_in K_number_in,
    b_number_in := (fun_mk (st := s_number_in) L_number_in C_number_in K_number_in).binds (ps := ["word"]) fun _ _ _ _ _ _ us hl => match us, hl with | [_], _ => rfl,
    g_number_in := PySem.W.mg_of X G A_number_in,
    a_read_dealing := f_read_dealing, fd_read_dealing := _, F_read_dealing := fun_mk (st := s_read_dealing) L_read_dealing C_read_dealing K_read_dealing,
    b_read_dealing := (fun_mk (st := s_read_dealing) L_read_dealing C_read_dealing K_read_dealing).binds (ps := ["text"]) fun _ _ _ _ _ _ us hl => match us, hl with | [_], _ => rfl,
    g_read_dealing := PySem.W.mg_of X G A_read_dealing,
    a_Lpool := f_Lpool, fd_Lpool := _, F_Lpool := fun_mk (st := s_Lpool) L_Lpool C_Lpool K_Lpool,
    b_Lpool := (fun_mk (st := s_Lpool) L_Lpool C_Lpool K_Lpool).binds (ps := ["_law_script", "_law_k"]) fun _ _ _ _ _ _ us hl => match us, hl with | [_, _], _ => rfl,
    g_Lpool := PySem.W.mg_of X G A_Lpool,
    a_Ltake := f_Ltake, fd_Ltake := _, F_Ltake := fun_mk (st := s_Ltake) L_Ltake C_Ltake K_Ltake,
    b_Ltake := (fun_mk (st := s_Ltake) L_Ltake C_Ltake K_Ltake).binds (ps := ["_law_pool_here", "_law_wide"]) fun _ _ _ _ _ _ us hl => match us, hl with | [_, _], _ => rfl,
    g_Ltake := PySem.W.mg_of X G A_Ltake,
    a_Lwhole := f_Lwhole, fd_Lwhole := _, F_Lwhole := fun_mk (st := s_Lwhole) L_Lwhole C_Lwhole K_Lwhole,
    b_Lwhole := (fun_mk (st := s_Lwhole) L_Lwhole C_Lwhole K_Lwhole).binds (ps := ["_law_thing"]) fun _ _ _ _ _ _ us hl => match us, hl with | [_], _ => rfl,
    g_Lwhole := PySem.W.mg_of X G A_Lwhole,
    a_Lsame := f_Lsame, fd_Lsame := _, F_Lsame := fun_mk (st := s_Lsame) L_Lsame C_Lsame K_Lsame,
    b_Lsame := (fun_mk (st := s_Lsame) L_Lsame C_Lsame K_Lsame).binds (ps := ["_law_found", "_law_due"]) fun _ _ _ _ _ _ us hl => match us, hl with | [_, _], _ => rfl,
    g_Lsame := PySem.W.mg_of X G A_Lsame,
    a_law := fa, fd_law := _, F_law := fun_mk (st := s_law) L_law C_law K_law,
    b_law := (fun_mk (st := s_law) L_law C_law K_law).binds (ps := ["_law_script"]) fun _ _ _ _ _ _ us hl => match us, hl with | [_], _ => rfl,
    g_law := PySem.W.mg_of X G A_law,
    g_FIGURES := ⟨_, PySem.W.mg_of X G A_FIGURES⟩,
    g_MOST_FIGURES := ⟨_, PySem.W.mg_of X G A_MOST_FIGURES⟩,
    g_NONE_AT_ALL := ⟨_, PySem.W.mg_of X G A_NONE_AT_ALL⟩,
    m_abs := PySem.W.mg_none_of X G Z_abs, m_all := PySem.W.mg_none_of X G Z_all, m_bool := PySem.W.mg_none_of X G Z_bool, m_enumerate := PySem.W.mg_none_of X G Z_enumerate, m_int := PySem.W.mg_none_of X G Z_int, m_isinstance := PySem.W.mg_none_of X G Z_isinstance, m_len := PySem.W.mg_none_of X G Z_len, m_list := PySem.W.mg_none_of X G Z_list, m_range := PySem.W.mg_none_of X G Z_range, m_str := PySem.W.mg_none_of X G Z_str, m_tuple := PySem.W.mg_none_of X G Z_tuple, m_zip := PySem.W.mg_none_of X G Z_zip }
  exact ⟨T.fd_law, fun s v => .of_eq rfl, fun base _ _ => ok_law T⟩
end M
open PySem PySem.W PyProof.Rows
set_option maxHeartbeats 0 in
theorem PySem.Challenge.cw_wayneedle_k83_dealings_written_holds : PySem.Challenge.rw_wayneedle_k83_dealings_written.Holds := by
  w_on; o_law; k_head; (case hw => w_witness2)
  k_fill
  refine L2.walk_of (l := PySem.Challenge.rw_wayneedle_k83_dealings_written) (n := 63) (k := 4) (x := "_law_script") (CX := fun _ => L2.CX0) (sp := fun w => M.spLaw _) rfl (by decide) rfl ⟨rfl, by decide, by decide⟩ (fun w h Y => PySem.W.kIn_of Y) ?F (fun _ _ a ns hl _ hS => ⟨a, ns, rfl, hS, hl, fun _ => rfl⟩) (fun _ _ _ _ _ h => h)
  case F =>
    intro w mg fa h KX G hmg
    refine' M.all_mk KX G hmg ?A_is_whole ?L_is_whole ?C_is_whole ?K_is_whole ?A_is_lot ?L_is_lot ?C_is_lot ?K_is_lot ?A_dealing_text ?L_dealing_text ?C_dealing_text ?K_dealing_text ?A_number_in ?L_number_in ?C_number_in ?K_number_in ?A_read_dealing ?L_read_dealing ?C_read_dealing ?K_read_dealing ?A_Lpool ?L_Lpool ?C_Lpool ?K_Lpool ?A_Ltake ?L_Ltake ?C_Ltake ?K_Ltake ?A_Lwhole ?L_Lwhole ?C_Lwhole ?K_Lwhole ?A_Lsame ?L_Lsame ?C_Lsame ?K_Lsame ?A_law ?L_law ?C_law ?K_law ?A_FIGURES ?A_MOST_FIGURES ?A_NONE_AT_ALL ?Z_abs ?Z_all ?Z_bool ?Z_enumerate ?Z_int ?Z_isinstance ?Z_len ?Z_list ?Z_range ?Z_str ?Z_tuple ?Z_zip
    (case A_is_whole => k_is); (case L_is_whole => k_is); (case C_is_whole => k_is); (case K_is_whole => k_is); (case A_is_lot => k_is); (case L_is_lot => k_is); (case C_is_lot => k_is); (case K_is_lot => k_is); (case A_dealing_text => k_is); (case L_dealing_text => k_is); (case C_dealing_text => k_is); (case K_dealing_text => k_is); (case A_number_in => k_is); (case L_number_in => k_is); (case C_number_in => k_is); (case K_number_in => k_is); (case A_read_dealing => k_is); (case L_read_dealing => k_is); (case C_read_dealing => k_is); (case K_read_dealing => k_is); (case A_Lpool => k_is); (case L_Lpool => k_is); (case C_Lpool => k_is); (case K_Lpool => k_is); (case A_Ltake => k_is); (case L_Ltake => k_is); (case C_Ltake => k_is); (case K_Ltake => k_is); (case A_Lwhole => k_is); (case L_Lwhole => k_is); (case C_Lwhole => k_is); (case K_Lwhole => k_is); (case A_Lsame => k_is); (case L_Lsame => k_is); (case C_Lsame => k_is); (case K_Lsame => k_is); (case A_law => k_is); (case L_law => k_is); (case C_law => k_is); (case K_law => k_is); (case A_FIGURES => k_is); (case A_MOST_FIGURES => k_is); (case A_NONE_AT_ALL => k_is); (case Z_abs => k_is); (case Z_all => k_is); (case Z_bool => k_is); (case Z_enumerate => k_is); (case Z_int => k_is); (case Z_isinstance => k_is); (case Z_len => k_is); (case Z_list => k_is); (case Z_range => k_is); (case Z_str => k_is); (case Z_tuple => k_is); (case Z_zip => k_is)
