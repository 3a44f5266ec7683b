import PyProof.Rows.All
import Wide.All
import OpenK.AllK
import Wide.FinOn
import HandS.ForMost
import HandS.ForExc
import HandS.HotCalls
import HandS.ExcIs
import HandS.ExcInit
import HandS.ExcField
import HandS.Defaults
import HandS.CallSlots
import HandS.Deep
import KE.GoesEnum
import KE.GoesNew
import HandS.IsInst
import HandS.Replace
import HandS.Wide
import HandS.NoneIn
import HandS.Walk
import HandS.Evl
import HandS.More
import HandS.Zip
import HandS.Conv
import KE.KxIndex
import PySem.Challenge.RW_wayneedle_k19_with_and_without
import HandS.TupMul
import HandS.Star
import HandS.TupAny
import HandS.Flow
import HandS.RaiseMore
import HandS.ListItems
import HandS.SortRule
import HandS.Strs
import KE.GoesEnumKw
import HandS.Iter
import HandS.OwnEq
import HandS.FStr
import KE.DataCmp
import HandS.SuiteRaise
import HandS.RaiseFrom
import HandS.ExcInitHot
import PyProof.ListStr
set_option Elab.async false
set_option linter.all false
set_option maxRecDepth 100000
set_option maxHeartbeats 4000000













namespace ExcM
open PySem PySem.W PySem.Spec PySem.Calls PyProof.Rows L2
section
variable {prog : Program} {w : World} {A : Around} {E : Value → Shared → Prop} {s : Shared} {K : PySem.W.Frag} {x D : Addr} {ox od : Obj}
/-- the way of a test that fails -/
theorem not_so {α : Type} {b : Bool} {x y : Sem α} {Q : α → Shared → Prop} (hb : b = false) (q : wpAny (model prog w) A y Q E s) : wpAny (model prog w) A (if b = true then x else y) Q E s := by
  subst hb
  exact q
/-- the class of an own exception that has a dict, asked of its instance -/
theorem asked_class {Q : Option Value → Shared → Prop} (C : ExcC K D) (X : K.In s.heap) (I : PySem.W.InstAt s.heap x ox D (some od)) (h : Q (some (.ref D)) { s with toks := s.toks + 1 }) :
    wpAny (model prog w) A (getAttr? (.ref x) "__class__") Q E s := by
  have found := findObj_data (K := K) (C := D) (od := od) (name := "__class__") (by obtain ⟨q, hq, _⟩ := any_some C.hd; rw [hq]; rfl) C.ha C.hn C.ht
  obtain ⟨hp, g, d, t, os⟩ := s
  have lType := I.type (M := model prog w)
  have lGa := looks_findIn (M := model prog w) X C.hg
  have lGt := looks_findIn (M := model prog w) X C.hk
  have lFind := looks_find (M := model prog w) X I found
  have isB : Looks (model prog w) hp (isInstance (.ref x) (.type "BaseException")) true := lType.andThen (looks_subIn X C.hs)
  have n1 : (false && onTheHeap (Value.builtin "BaseException.__getattribute__")) = false := rfl
  have n2 : (onTheHeap (Value.ref D) && Value.builtin "BaseException.__getattribute__" == Value.builtin "object.__getattribute__") = false := by
    rw [show (Value.builtin "BaseException.__getattribute__" == Value.builtin "object.__getattribute__") = false by decide +kernel]; rfl
  unfold getAttr? getAttrBy?; unfold getAttrBy
  refine wpAny_bind (wpAny_mkText (wpAny_bind (wpAny_attempt (wpAny_holding (wpAny_bind (lType.at (wpAny_bind (lGa.at ?_))))))))
  refine not_so n2 ?_; unfold getAttrByItsOwn hookBefore
  refine wpAny_bind ?_; rw [if_pos (show onTheHeap (Value.ref D) = true from rfl)]
  refine lGt.at ?_; refine wpAny_bind (wpAny_attempt (wpAny_holding ?_))
  unfold callGetattribute; rw [n1, if_neg Bool.false_ne_true]; unfold boundAndCalled
  rw [PySem.F.excAttr_ValueError.ga.bind (.ref x)]; refine wpAny_bind (wpAny_pure ?_)
  refine show wpAny _ _ (call (.builtin "BaseException.__getattribute__") [.ref x, .str "__class__" t]) _ _ _ from wpAny_call (codeAny_call_builtin PySem.F.excAttr_ValueError.ga.plain PySem.F.entry_bexc_ga ?_)
  refine @check_slot (model prog w) _ _ ⟨hp, g, d, t + 1, os⟩ "BaseException.__getattribute__" "BaseException" "__getattribute__" (.ref x) [.str "__class__" t] [] _ (by decide +kernel) (by decide +kernel) isB (PySem.F.args_bexc_ga (.ref x) (.str "__class__" t)) ?_
  unfold Builtin.«object.__getattribute__»; refine wpAny_bind (wpAny_of_eq (a := ((Value.ref x : Value), [Value.str "__class__" t])) (by first | rfl | (simp only [slotArgs]; rfl)) ?_)
  refine wpAny_bind (wpAny_pure (wpAny_bind (lType.at (wpAny_bind (lFind.at ?_)))))
  refine show wpAny _ _ (holding [Value.builtin "object.__class__"] (call (.builtin "getset_descriptor.__get__") [.builtin "object.__class__", .ref x, .ref D]) >>= ret) _ _ _ from wpAny_bind (wpAny_holding (wpAny_call (class_get (s := ⟨hp, g, d, t + 1, os⟩) (ox := ox) (od := some od) X I C.hm ?_)))
  refine wpAny_pure ?_; show wpAny _ _ (handedOut (.ref D)) _ _ _; rw [handedOut_of (v := .ref D) rfl]
  first | exact wpAny_pure (wpAny_pure h) | exact wpAny_pure h | exact wpAny_pure (wpAny_bind (wpAny_pure (wpAny_pure h)))
theorem kit_exc (C : ExcC K D) : KitX K (.ref x) (.ref D) (fun h => PySem.W.InstAt h x ox D (some od)) where
  ty := fun _ _ _ I => I.type
  it := fun _ _ X _ => by
    obtain ⟨q, hq, _⟩ := any_some C.hd
    unfold clsIn at hq; split at hq
    · rename_i c1 d1 q1 l1 ho
      intro A1 Q1 E1 s1 k z; unfold isType loadHead
      exact wpAny_bind (wpAny_loadPart (k _ _ (X _ _ ho)) (wpAny_pure z))
    · cases hq
  ne := fun hh tp tdd tis tn tsl X htp => by
    obtain ⟨q, hq, _⟩ := any_some C.hd
    refine Bool.eq_false_iff.mpr fun z => ?_
    have e : D = tp := Value.ref.inj (beq_iff_eq.mp z)
    subst e; unfold clsIn at hq; split at hq
    · rename_i c1 d1 q1 l1 ho
      cases (X _ _ ho).symm.trans htp
    · cases hq
  ca := fun X I k => asked_class C X I k
end
section
variable {X : Cx}
/-- isinstance of a pinned exception of the class at D, its dict tracked -/
theorem call_isP {D a : Addr} {oe : Obj} {d : Addr} (C : ExcC X.K D) (hp : (a, oe) ∈ X.pn) (hz : Zc (.ref D) (some d) oe) (hf : ∃ vs, oe.data = .fields vs) :
    CallR X (.builtin "isinstance") (fun xs H Q => ∃ (c : V) (cv : Value) (b : Bool) (fs : List (Str × V)), xs = [.ref a, c] ∧ (∀ u, RelV c u → u = cv) ∧ H d = some (.xd fs) ∧ PySem.W.kitOne X.K (.ref D) cv = some b ∧ Q (.bl b) H) := by
  intro pins s σ H xs us Q I rel ask
  obtain ⟨c, cv, b, fs, rfl, hcv, hd, e, q1⟩ := ask
  obtain ⟨w1, w2, rfl, l1, l2⟩ := vals2 rel
  cases (l1 : w1 = Value.ref a)
  cases hcv _ l2
  have P1 := I.pin (a, oe) (List.mem_append_left _ hp)
  obtain ⟨vs, hv⟩ := hf
  obtain ⟨mA, hns, _⟩ := (show ObjOk X.prog X.w H s.heap d (.xd fs) from I.hok d _ hd)
  obtain ⟨od, ho, _⟩ := lookIn_ns hns
  have J : PySem.W.InstAt s.heap a oe D (some od) := ⟨P1.1, hz.1, by unfold PySem.W.notCls; rw [hv] <;> rfl, by rw [hz.2]; exact ho⟩
  exact PySem.W.kia_one (kit_exc C) I.kIn J e (fun z => nomatch z) fun tk => ⟨.bl b, H, I.tok tk, rfl, q1⟩
end
end ExcM
namespace ExcM
open PySem PySem.W PySem.Spec PySem.Calls PyProof.Rows L2
/-! ### a def that is told of the exception that is handled -/
/-- what a def promises where p's object is pinned, whatever is handled -/
structure FnP (P : Program) (w : World) (K : PySem.W.Frag) (mg : Str → Option Value) (base : Heap) (p : Addr × Obj) (k : Nat) (f : Addr) (fd : FuncData) (ps : List Str) (sp : Sp) : Prop where
  len : ∀ (vs : List V) (H : Hp) (Q : VK) (E : XK), sp vs H Q E → vs.length = ps.length
  run : ∀ (A : Around) (outer : List Env) (s : Shared) (H : Hp) (args : Args) (us : List Value) (vs : List V) (Q : VK) (E : XK), L2H.RoomH k A → L2H.PinOk outer H s p → Env0 P w K mg base A outer s H →
    BindsTo s fd args (ps.zip us) → Vals vs us → sp vs H Q E → codeAny (model P w) A (.call (.ref f) args) (CR CX0 outer P w H s Q E) s
section
variable {P : Program} {w : World} {K : PySem.W.Frag} {mg : Str → Option Value} {base : Heap} {p : Addr × Obj}
theorem fun_okP {x qual : Str} {st : Stmt} {f : Addr} {fd : FuncData} {N ps : List Str} {k : Nat} {sp : Sp} (F : Fun K x qual st f fd) (S : FnScope N ps (defScope st)) (len : ∀ vs H Q E, sp vs H Q E → vs.length = ps.length)
    (hbody : ∀ (cdv : Value) (A : Around) (outer : List Env) (s : Shared) (H : Hp) (vs : List V) (Q : VK) (E : XK), L2H.RoomH k (A.deeper (envOfC qual (defScope st) s.heap.objs.size f cdv)) → sp vs H Q E →
      ∃ t, PSs (L2H.cxH CX0 P w K mg base N qual (defScope st) f cdv A outer s H E p) (defBody st) t ∧ t { nx := fun _ H' => Q .non H', rt := Q } (start N vs) H) : FnP P w K mg base p (k + 1) f fd ps sp := by
  obtain ⟨_, _, _, _, _, _, cdv, _, _, rfl, lk, hcd⟩ := F.ex
  refine ⟨len, fun A outer s H args us vs Q E hr hpin e0 hb r hsp => ?_⟩
  have KX : K.In s.heap := e0.mod.kin.keeps (fun b o e => (e0.bs b o e).1)
  have hk2 : ∀ y ∈ ps.zip us, (defScope st).names.lookup y.1 = some .local ∨ ((defScope st).names.lookup y.1 = some .cell ∧ ((cellsFrom (s.heap.objs.size + 1) (defScope st).names []).lookup y.1).isSome = true) := fun ⟨n, v⟩ hy =>
    (S.par n (List.of_mem_zip hy).1).elim .inl (fun q => .inr ⟨q, PySem.W.cellsFrom_some _ _ _ (.inl q)⟩)
  refine codeAny_call_function hr.depth (KX _ _ lk) rfl S.co S.gen rfl (PySem.W.codeRec_of KX hcd) (hb _ _ _ _ (wpAny_newFunctionEnv_cells S.kind hk2 fun env he s1 x => ?_))
  subst he
  refine ⟨(e0.mod.nolimit.keeps fun b o e => (e0.bs b o e).1).keeps x.toInCall.keep, codeAny_func ?_⟩
  obtain ⟨t, ht, hq⟩ := hbody cdv A outer s H vs Q E (hr.deeper _) hsp
  have I := L2H.inv_startH (CX := CX0) (E := E) S hpin e0 (len _ _ _ _ hsp) r x
  refine wpAny_mono (ht.run [] s1 (start N vs) H _ I hq) (fun fl s' hs => ?_) (fun e s' hs => hs)
  match fl, hs with
  | .ret u, ⟨v, σ', H', J, rv, q⟩ => exact ⟨v, H', J.os, J.bare, J.base, J.hok, rv, q⟩
  | .next, ⟨σ', H', J, q⟩ => exact ⟨.non, H', J.os, J.bare, J.base, J.hok, rfl, q⟩
  | .brk, ⟨_, _, _, q⟩ => exact q.elim
  | .cont, ⟨_, _, _, q⟩ => exact q.elim
end
section
variable {X : Cx} {k : Nat} {f : Addr} {fd : FuncData} {ps : List Str} {sp : Sp} {x : Str} {q pos : Pos} {e : Expr} {es : List Expr} {t : TA} {p : Addr × Obj}
theorem pe_callP (F : FnP X.prog X.w X.K X.mg X.base p k f fd ps sp) (hr : L2H.RoomH k X.A) (hp : p ∈ X.pn) (hg : Gl X x) (hm : X.mg x = some (.ref f)) (hk : PySem.W.keepIn X.K (.ref f) = true) (hb : Binds X.K fd ps [])
    (ha : PA X (e :: es) t) (hdb : (x == ("__debug__" : Str)) = false := by decide) (he : starEach (e :: es) X.env = (false, eval e X.env) :: starEach es X.env := by rfl)
    (hpl : (backTo pos (starEach es X.env)).any (·.1) = false := by rfl) : PE X (.Call (.Name x q) (e :: es) [] pos) (tCall sp [] E0 t) := by
  refine ⟨fun pins s σ H Q I h => wpAny_Call_Name_kw (ld_glob I hg hm ?_ hdb)⟩
  refine PySem.W.callWith_K (h₀ := X.base) I.ok.mod.kin hk (thn (ha.run pos pins s σ H _ I h) fun us s1 hh => ?_) he hpl
  obtain ⟨vs, H1, I1, r, q1⟩ := hh
  rw [List.append_nil] at q1
  refine ⟨I1.kIn, ?_⟩
  have hl : us.length = ps.length := by
    rw [← r.length]
    exact F.len _ _ _ _ q1
  have b := hb s1 us I1.kIn (by rw [List.append_nil]; exact hl)
  rw [List.append_nil] at b
  have P1 := I1.pin p (List.mem_append_left _ hp)
  have pin : L2H.PinOk X.stack H1 s1 p := ⟨P1.1, P1.2.1, (fun hm => (List.mem_cons.mp (I1.stkSub p.1 hm)).elim P1.2.2.1 P1.2.2.2.1), P1.2.2.2.2⟩
  refine wpAny_call (codeAny_mono (F.run X.A X.stack s1 H1 ⟨us, []⟩ us vs Q E0 hr pin I1.env0 b r q1) fun r s' hq => ?_)
  match r, hq with
  | .error _, hq => exact hq.elim
  | .ok (.ret u), hq => exact I1.after hq
  | .ok .next, hq => exact hq.elim
  | .ok .brk, hq => exact hq.elim
  | .ok .cont, hq => exact hq.elim
end
end ExcM
/-! ### iterators that hand out pairs (enumerate, zip), over what is a list or a tuple: one turn for all of them, by GoesN -/
namespace PairW
open PySem PySem.Spec PyProof.Rows L2
/-- a sequence and an iterator over it: a tuple (true) or a list (false) -/
def SqB (t : Bool) (h : Heap) (l : Addr) (xs : Array Value) : Prop := match t with
  | true => h.IsTuple l xs
  | false => h.IsList l xs
def ItB (t : Bool) (h : Heap) (it l : Addr) (k : Nat) : Prop := match t with
  | true => h.IsTupleIter it l k
  | false => h.IsListIter it l k
def SqV (t : Bool) (K : PySem.W.Frag) (H : Hp) (a : Addr) (xs : List V) : Prop := match t with
  | true => SqT K H a xs
  | false => SqL K H a xs
def itO (t : Bool) (l : Addr) : Obj := match t with
  | true => { cls := .type "tuple_iterator", data := .fields #[.ref l, .int 0 0] }
  | false => { cls := .type "list_iterator", data := .fields #[.ref l, .int 0 0] }
theorem SqB.lt {t : Bool} {h : Heap} {a : Addr} {xs : Array Value} (q : SqB t h a xs) : a < h.objs.size := by
  cases t <;> (obtain ⟨o, e, _⟩ := q; exact Heap.lt_size e)
theorem ItB.at {t : Bool} {h h' : Heap} {a l : Addr} {k : Nat} (x : ItB t h a l k) (e : ∀ o, h.get? a = some o → h'.get? a = some o) : ItB t h' a l k := by
  cases t
  · exact Heap.IsListIter.at x e
  · exact Heap.IsTupleIter.at x e
theorem ItB.obj {t : Bool} {h : Heap} {a l : Addr} {k : Nat} (x : ItB t h a l k) : ∃ o, h.get? a = some o ∧ ∀ v, o.data ≠ .cell v := by
  cases t <;> (obtain ⟨o, e, _, d⟩ := x; exact ⟨o, e, fun v q => by rw [d] at q; cases q⟩)
theorem itO_is {t : Bool} {h : Heap} {a l : Addr} (e : h.get? a = some (itO t l)) : ItB t h a l 0 := by
  cases t <;> exact ⟨_, e, rfl, rfl⟩
theorem sqv_get {X : Cx} {pins : List (Addr × Obj)} {σ : L2.St} {H : Hp} {s : Shared} {t : Bool} {a : Addr} {xs : List V} (I : Inv X pins σ H s) (h : SqV t X.K H a xs) : ∃ its, Vals xs its ∧ SqB t s.heap a its.toArray := by
  cases t
  · obtain ⟨its, rv, there, _⟩ := I.list h
    exact ⟨its, rv, there.isList⟩
  · obtain ⟨its, rv, there, _⟩ := I.tuple h
    exact ⟨its, rv, there⟩
theorem sqv_inj {X : Cx} {pins : List (Addr × Obj)} {σ : L2.St} {H : Hp} {s : Shared} {t : Bool} {a : Addr} {xs ys : List V} (I : Inv X pins σ H s) (h : SqV t X.K H a xs) (h' : SqV t X.K H a ys) : xs = ys := by
  cases t
  · exact I.list_inj h h'
  · exact I.tuple_inj h h'
theorem draws {prog : Program} {w : World} {A : Around} (hh : A.handled = none) (t : Bool) {it l : Addr} (ne : l ≠ it) (items : Array Value) :
    Draws prog w A it [it, l] items.size (fun i v => items[i]? = some v) (fun i h => ItB t h it l i ∧ SqB t h l items) := by
  cases t
  · exact Draws.list hh it l ne items
  · exact Draws.tuple hh it l ne items
theorem begins (t : Bool) (l : Addr) (items : Array Value) : Begins (.ref l) (itO t l) (fun h => SqB t h l items) := by
  cases t
  · exact begins_list l items
  · exact begins_tuple l items
/-- an iterator stands, made of new cells alone -/
theorem begun {X : Cx} {pins : List (Addr × Obj)} {σ : L2.St} {H : Hp} {s : Shared} {tg : Expr} {J : It} {fp : List Addr} {it : Addr} {tn : Nat → Heap → Prop} {R : It → Hp → Prop} {h' : Heap} (I : Inv X pins σ H s)
    (old : ∀ b o, s.heap.get? b = some o → h'.get? b = some o) (T : Turn X.prog X.w X.K tg J fp it tn) (st : tn 0 h') (new : ∀ b ∈ fp, s.heap.objs.size ≤ b) (q : R J H) : PIE X pins σ tg R (.ref it) { s with heap := h' } :=
  ⟨it, fp, tn, J, H, rfl, I.kept (t' := s.toks) old, T, st, fun b m => I.fpOk (new b m) (I.hok.fresh (new b m)), q⟩
/-- pairs: when there is one, of what it is, when there is none any more -/
structure Prs where
  go : Nat → Hp → Prop
  are : Nat → Hp → V → V → Prop
  stop : Nat → Hp → Prop
def Prs.it (p : Prs) : It where
  go := p.go
  yld := fun i H v H' => ∃ T x y, v = .ref T ∧ H T = none ∧ H' = upd H T (.tup [x, y]) ∧ p.are i H x y
  stop := p.stop
/-- what the iterator that stands at i over the sequences as they are now does: the library's GoesN, with what its pairs are -/
def Does (P : Program) (w : World) (X : Cx) (tg : Expr) (p : Prs) (it : Addr) (wr : List Addr) (tn : Nat → Heap → Prop) (i : Nat) (H : Hp) (s : Shared) : Prop :=
  ∃ (n : Nat) (fp : List Addr) (Y : Nat → Heap → Value → Heap → Prop) (St : Nat → Heap → Prop), GoesN P w X.A tg it fp wr n Y St ∧ St i s.heap ∧ (∀ h, St (i + 1) h → tn (i + 1) h) ∧ (p.stop i H → i = n) ∧
    (p.go i H → i < n ∧ ∀ h0 v h, Y i h0 v h → ∃ T a b x y, v = .ref T ∧ h0.objs.size ≤ T ∧ h.IsTuple T #[a, b] ∧ RelV x a ∧ RelV y b ∧ p.are i H x y)
theorem turn_prs {P : Program} {w : World} {K : PySem.W.Frag} {tg : Expr} {it : Addr} {fp wr : List Addr} {tn : Nat → Heap → Prop} (p : Prs) (mine : it ∈ fp) (hwr : ∀ b ∈ wr, b ∈ fp)
    (obj : ∀ i h, tn i h → ∀ b ∈ fp, ∃ o, h.get? b = some o ∧ ∀ v, o.data ≠ .cell v) (keep : ∀ i h h', tn i h → (∀ b ∈ fp, ∀ o, h.get? b = some o → h'.get? b = some o) → tn i h')
    (self : ∀ (A : Around) (i : Nat) (s : Shared) (Q : Value → Shared → Prop) (E : Value → Shared → Prop), tn i s.heap → Q (.ref it) s → wpAny (model P w) A (pyIter (.ref it)) Q E s)
    (does : ∀ (X : Cx), X.prog = P → X.w = w → X.K = K → X.calm = true → ∀ i pins s σ H, Inv X pins σ H s → tn i s.heap → (p.go i H ∨ p.stop i H) → Does P w X tg p it wr tn i H s) : Turn P w K tg p.it fp it tn where
  mem := mine
  obj := obj
  keep := keep
  self := self
  item := fun X e1 e2 e3 calm i pins s σ H E I free st more => by
    obtain ⟨n, fp', Y, St, W, here, next, _, far⟩ := does X e1 e2 e3 calm i pins s σ H I st (.inl more)
    obtain ⟨lt, pair⟩ := far more
    refine W.goes i s (fun u s2 => ∃ x H', Inv X pins σ H' s2 ∧ RelV x u ∧ p.it.yld i H x H' ∧ tn (i + 1) s2.heap ∧ ∀ b ∈ fp, H' b = none) E lt here fun v h' tk told st' old _ => ?_
    obtain ⟨T, a, b, x, y, rfl, new, tup, ra, rb, are⟩ := pair _ _ _ told
    refine ⟨.ref T, upd H T (.tup [x, y]), I.turnedNew (ch := wr) old (fun c m => free c (hwr c m)) new ⟨by show 2 ≤ sizeLine; decide, [a, b], .cons ra (.cons rb .nil), tup⟩, rfl, ⟨T, x, y, rfl, I.hok.fresh new, rfl, are⟩, next _ st', fun c m => ?_⟩
    obtain ⟨o, ho, _⟩ := obj i _ st c m
    exact (upd_ne (Nat.ne_of_lt (Nat.lt_of_lt_of_le (Heap.lt_size ho) new))).trans (free c m).1
  done := fun X e1 e2 e3 calm i pins s σ H E I free st none => by
    obtain ⟨n, fp', Y, St, W, here, _, last, _⟩ := does X e1 e2 e3 calm i pins s σ H I st (.inr none)
    rw [last none] at here
    exact W.stops s (fun s1 => Inv X pins σ H s1) E here fun h' tk old _ => I.turnedL (ch := wr) old fun c m => free c (hwr c m)
/-! enumerate, from k0 on -/
def PrE (t : Bool) (k0 : Int) (K : PySem.W.Frag) (a : Addr) : Prs where
  go := fun i H => ∃ xs : List V, SqV t K H a xs ∧ i < xs.length
  are := fun i H x y => x = .int (k0 + (i : Nat)) ∧ ∀ xs, SqV t K H a xs → xs[i]? = some y
  stop := fun i H => ∃ xs : List V, SqV t K H a xs ∧ i = xs.length
def TnE (t : Bool) (k0 : Int) (a e it : Addr) (i : Nat) (h : Heap) : Prop := (∃ old, IsEnum h e it (k0 + (i : Int)) old) ∧ ItB t h it a i
theorem turn_e {P : Program} {w : World} {K : PySem.W.Frag} {elts : List Expr} {kk : Nat} {tpos : Pos} {t : Bool} {k0 : Int} {a e it : Addr} (hai : a ≠ it) (hae : a ≠ e) (hei : e ≠ it) :
    Turn P w K (.Tuple elts kk tpos) (PrE t k0 K a).it [e, it] e (TnE t k0 a e it) := by
  refine turn_prs (wr := [e, it]) _ (by simp) (fun _ m => m) (fun i h st b m => ?_) (fun i h h' st k => ?_) (fun A i s Q E st q => ?_) fun X e1 e2 e3 calm i pins s σ H I st told => ?_
  · obtain ⟨⟨_, he⟩, hi⟩ := st
    rcases List.mem_cons.mp m with z | m
    · exact z ▸ ⟨_, he, fun _ q => nomatch q⟩
    · exact List.mem_singleton.mp m ▸ hi.obj
  · obtain ⟨⟨old, he⟩, hi⟩ := st
    exact ⟨⟨old, k e (by simp) _ he⟩, hi.at fun o => k it (by simp) o⟩
  · exact wpAny_pyIter_enum st.1.choose_spec q
  · subst e1 e2 e3
    obtain ⟨xs, hq⟩ : ∃ xs : List V, SqV t X.K H a xs := told.elim (fun ⟨xs, q, _⟩ => ⟨xs, q⟩) fun ⟨xs, q, _⟩ => ⟨xs, q⟩
    obtain ⟨its, rv, there⟩ := sqv_get I hq
    have many : xs.length = its.toArray.size := by rw [List.size_toArray]; exact rv.length
    have D := draws (prog := X.prog) (w := X.w) (A := X.A.in1) (I.ok.hd calm) t hai its.toArray
    refine ⟨_, _, _, _, GoesN.enumFrom k0 D e hei (by simp; exact ⟨hei, Ne.symm hae⟩) (by simp), ⟨st.1, st.2, there⟩, fun h q => ⟨q.1, q.2.1⟩, fun ⟨ys, q, n⟩ => by rw [n, sqv_inj I q hq, many], fun ⟨ys, q, n⟩ => ⟨?_, ?_⟩⟩
    · rw [sqv_inj I q hq, many] at n; exact n
    · rintro h0 v h ⟨T, tk, u, rfl, new, hu, tup⟩
      have ix : i < xs.length := by rw [← sqv_inj I q hq]; exact n
      obtain ⟨u', hu', ru⟩ := rv.get (List.getElem?_eq_getElem ix)
      have same : u' = u := Option.some.inj (hu'.symm.trans (by simpa using hu))
      exact ⟨T, _, u, .int (k0 + (i : Nat)), xs[i], rfl, new, tup, ⟨tk, rfl⟩, same ▸ ru, rfl, fun zs hz => by rw [sqv_inj I hz hq]; exact List.getElem?_eq_getElem ix⟩
theorem walk_e {t : Bool} {k0 : Int} {K : PySem.W.Frag} {a : Addr} {xs : List V} : Walk (PrE t k0 K a).it xs.length (fun H => SqV t K H a xs) (YPair (fun i => some (.int (k0 + (i : Nat)))) (fun i => xs[i]?)) where
  goes := fun i H lt q => ⟨xs, q, lt⟩
  stops := fun H q => ⟨xs, q, rfl⟩
  yields := fun i H v H' _ q ⟨T, x, y, e1, e2, e3, e4, e5⟩ => ⟨T, x, y, e1, e2, e3, by rw [e4], e5 xs q⟩
/-- the two cells of an enumerate that was made just now -/
theorem pie_e {X : Cx} {pins : List (Addr × Obj)} {σ : L2.St} {H : Hp} {s : Shared} {elts : List Expr} {kk : Nat} {tpos : Pos} {t : Bool} {k0 : Int} {a : Addr} {xs : List V} {R : It → Hp → Prop} {h' : Heap} (I : Inv X pins σ H s) (hq : SqV t X.K H a xs)
    (he : IsEnum h' (s.heap.objs.size + 1) s.heap.objs.size k0 .none) (hi : h'.get? s.heap.objs.size = some (itO t a)) (old : ∀ b o, s.heap.get? b = some o → h'.get? b = some o) (q : R (PrE t k0 X.K a).it H) :
    wpAny (model X.prog X.w) X.A (pyIter (.ref (s.heap.objs.size + 1))) (PIE X pins σ (.Tuple elts kk tpos) R) X.xe { s with heap := h' } := by
  obtain ⟨its, _, there⟩ := sqv_get I hq
  have lt := there.lt
  refine wpAny_pyIter_enum he (begun I old (turn_e (t := t) (k0 := k0) (Nat.ne_of_lt lt) (Nat.ne_of_lt (Nat.lt_succ_of_lt lt)) (Nat.succ_ne_self _)) ⟨⟨.none, ?_⟩, itO_is hi⟩ (fun b m => ?_) q)
  · show IsEnum h' _ _ (k0 + 0) _
    rw [Int.add_zero]; exact he
  · rcases List.mem_cons.mp m with z | m
    · exact z ▸ Nat.le_succ _
    · exact Nat.le_of_eq (List.mem_singleton.mp m).symm
/-- enumerate of one thing, whatever its iterator is -/
theorem made_one {v : Value} {o : Obj} {G : Heap → Prop} (B : Begins v o G) : Meets (Builtin.«enumerate.__new__» ⟨[.type "enumerate", v], []⟩) (fun _ R s => G s.heap ∧
    R (.ok (.ret (.ref (s.heap.push o).objs.size))) { s with heap := (s.heap.push o).push { cls := .type "enumerate", data := .fields #[.none, .bool false, .ref s.heap.objs.size, rawInt 0, .none, .none] } }) := .of_wp fun prog w A R ⟨hp, g, dr, tk, os⟩ ⟨stands, ends⟩ => by
  have known := sub_enumerate
  have first : ∀ {A' : Around} {E Q : Value → Shared → Prop}, Q (.ref hp.objs.size) ⟨hp.push o, g, dr, tk, os⟩ → wpAny (model prog w) A' (pyIter v) Q E ⟨hp, g, dr, tk, os⟩ := fun q => B.iter prog w _ _ ⟨hp, g, dr, tk, os⟩ _ stands q
  wp_walk using first
  refine wpAny_stack_any (fun _ => wpAny_pure ?_)
  split
  next c _ _ _ _ _ => cases (c == Value.type "enumerate") <;> (wp_walk using first; exact ⟨_, rfl, ends⟩)
  next => wp_walk using first; exact ⟨_, rfl, ends⟩
theorem call_one {prog : Program} {w : World} {A : Around} {E : Value → Shared → Prop} {s : Shared} {v : Value} {o : Obj} {G : Heap → Prop} {Q : Value → Shared → Prop} (B : Begins v o G) (stands : G s.heap)
    (then_ : ∀ h', IsEnum h' (s.heap.objs.size + 1) s.heap.objs.size 0 .none → h'.get? s.heap.objs.size = some o → (∀ b o, s.heap.get? b = some o → h'.get? b = some o) → Q (.ref (s.heap.objs.size + 1)) { s with heap := h' }) :
    wpAny (model prog w) A (call (.type "enumerate") [v]) Q E s := by
  refine callType_new F.called_enumerate (by decide) (F.typeCall_enumerate_1 _) (F.newCall_enumerate_1 _) (fun obj => F.args_object_init_2 obj _) F.entry_enumerate_new (made_one B) ⟨stands, ?_⟩
  have n1 := Heap.size_push s.heap o
  have last : IsEnum ((s.heap.push o).push { cls := .type "enumerate", data := .fields #[.none, .bool false, .ref s.heap.objs.size, rawInt 0, .none, .none] }) (s.heap.objs.size + 1) s.heap.objs.size 0 .none := n1 ▸ Heap.get?_push_size (s.heap.push o) rfl
  refine n1.symm ▸ ⟨⟨_, last, rfl⟩, then_ _ last ?_ fun b u z => ?_⟩
  · exact Heap.get?_push_of_some _ (Heap.get?_push_size _ B.free)
  · exact Heap.get?_push_of_some _ (Heap.get?_push_of_some _ z)
end PairW
namespace EnumT
open PySem PySem.Spec PyProof.Rows L2 PairW
theorem walk_enumT {K : PySem.W.Frag} {a : Addr} {xs : List V} : Walk (PrE true 0 K a).it xs.length (fun H => SqT K H a xs) (YPair (fun i => some (.int (i : Nat))) (fun i => xs[i]?)) := by
  have w := walk_e (t := true) (k0 := 0) (K := K) (a := a) (xs := xs)
  simp only [Int.zero_add] at w
  exact w
def iEnumT (K : PySem.W.Frag) (ta : TA) : TI := fun σ H R => ta σ H fun vs H1 => ∃ a xs, vs = [.ref a] ∧ SqT K H1 a xs ∧ R (PrE true 0 K a).it H1
theorem pi_enumT {X : Cx} {e : Expr} {ta : TA} {p pos tpos : Pos} {elts : List Expr} {kk : Nat} (hg : Gl X "enumerate") (hm : X.mg "enumerate" = none) (ha : PA X [e] ta)
    (hs : starEach [e] X.env = [(false, eval e X.env)] := by rfl) : PI X (.Tuple elts kk tpos) (.Call (.Name "enumerate" p) [e] [] pos) (iEnumT X.K ta) where
  run := fun pins s σ H R I h => Call_ (ld_blt I hg hm boot_enumerate (PyProof.Rows.callWith_type1 (thn (ha.run pos pins s σ H _ I h) fun us s1 ⟨vs, H1, I1, rv, a, xs, e, hq, q⟩ => by
    subst e
    obtain ⟨_, rfl, rfl⟩ := vals1 rv
    obtain ⟨its, _, there⟩ := sqv_get (t := true) I1 hq
    exact call_one (begins true a its.toArray) there fun h' he hi old => pie_e (t := true) (xs := xs) I1 hq he hi old q) hs rfl))
end EnumT
/-! ### walks over what is a list or a tuple -/
namespace SeqW
open PySem PySem.Spec PySem.Calls PyProof.Rows L2
/-- what stands at a is as it was -/
def Keeps (a : Addr) (H H' : Hp) : Prop := ∀ o, H a = some o → H' a = some o
theorem keeps_v {t : Bool} {K : PySem.W.Frag} {H H' : Hp} {a : Addr} {xs : List V} (k : Keeps a H H') (h : PairW.SqV t K H a xs) : PairW.SqV t K H' a xs := by
  cases t <;> exact h.elim (fun h => .inl (h.elim (fun h => .inl (k _ h)) fun ⟨o, h⟩ => .inr ⟨o, k _ h⟩)) .inr
theorem keeps_l {K : PySem.W.Frag} {H H' : Hp} {a : Addr} {xs : List V} (k : Keeps a H H') (h : SqL K H a xs) : SqL K H' a xs := keeps_v (t := false) k h
theorem keeps_t {K : PySem.W.Frag} {H H' : Hp} {a : Addr} {xs : List V} (k : Keeps a H H') (h : SqT K H a xs) : SqT K H' a xs := keeps_v (t := true) k h
theorem keeps_same {a : Addr} {H H' : Hp} (s : Same H H') : Keeps a H H' := fun o h => s a o h
theorem ix_seqK {X : Cx} {K : PySem.W.Frag} (h : X.K = K) : IxR X (rIx K) := by
  subst h
  exact ix_seq
def iSeq (K : PySem.W.Frag) (tl : TE) : TI := fun σ H R => tl σ H fun x H1 => ∃ a xs, x = .ref a ∧ ∃ Kp : Hp → Prop, ((∀ H', Kp H' → SqL K H' a xs) ∨ (∀ H', Kp H' → SqT K H' a xs)) ∧ Kp H1 ∧ ∀ (J : It) (G : Hp → Prop), Walk J xs.length G (YAt xs) → (∀ H', Kp H' → G H') → R J H1
theorem pi_seq {X : Cx} {tg l : Expr} {tl : TE} (hl : PE X l tl) : PI X tg l (iSeq X.K tl) where
  run := fun pins s σ H R I h => thn (hl.run pins s σ H _ I h) fun v s1 ⟨x, H1, I1, rv, a, xs, e, Kp, side, kp, q⟩ => by
    subst e
    cases rv
    have new : ∀ b ∈ [s1.heap.objs.size], s1.heap.objs.size ≤ b := fun b m => Nat.le_of_eq (List.mem_singleton.mp m).symm
    rcases side with is | is
    · obtain ⟨its, _, there, _⟩ := I1.list (is _ kp)
      exact wpAny_pyIter_list there.isList (PairW.begun I1 (fun _ _ => Heap.get?_push_of_some _) (turn_list a _) ⟨_, Heap.get?_push_size _ rfl, rfl, rfl⟩ new (q _ _ walk_list is))
    · obtain ⟨its, _, there, _⟩ := I1.tuple (is _ kp)
      exact wpAny_pyIter_tuple (show s1.heap.IsTuple a its.toArray from there) (PairW.begun I1 (fun _ _ => Heap.get?_push_of_some _) (turn_tuple a _) ⟨_, Heap.get?_push_size _ rfl, rfl, rfl⟩ new (q _ _ walk_tup is))
def iEnumA (K : PySem.W.Frag) (ta : TA) : TI := fun σ H R => ta σ H fun vs H1 => ∃ a xs, vs = [.ref a] ∧ ∃ Kp : Hp → Prop, ((∀ H', Kp H' → SqL K H' a xs) ∨ (∀ H', Kp H' → SqT K H' a xs)) ∧ Kp H1 ∧ ∀ (J : It) (G : Hp → Prop), Walk J xs.length G (YPair (fun i => some (.int (i : Nat))) (fun i => xs[i]?)) → (∀ H', Kp H' → G H') → R J H1
theorem pi_enumA {X : Cx} {e : Expr} {ta : TA} {p pos tpos : Pos} {elts : List Expr} {kk : Nat} (hg : Gl X "enumerate") (hm : X.mg "enumerate" = none) (ha : PA X [e] ta)
    (hs : starEach [e] X.env = [(false, eval e X.env)] := by rfl) : PI X (.Tuple elts kk tpos) (.Call (.Name "enumerate" p) [e] [] pos) (iEnumA X.K ta) where
  run := fun pins s σ H R I h => Call_ (ld_blt I hg hm boot_enumerate (PyProof.Rows.callWith_type1 (thn (ha.run pos pins s σ H _ I h) fun us s1 ⟨vs, H1, I1, rv, a, xs, e, Kp, side, kp, q⟩ => by
    subst e
    obtain ⟨_, rfl, rfl⟩ := vals1 rv
    have go : ∀ t : Bool, (∀ H', Kp H' → PairW.SqV t X.K H' a xs) → wpAny (model X.prog X.w) X.A (call (.type "enumerate") [.ref a]) (fun v s2 => wpAny (model X.prog X.w) X.A (pyIter v) (PIE X pins σ (.Tuple elts kk tpos) R) X.xe s2) X.xe s1 := fun t is => by
      obtain ⟨its, _, there⟩ := PairW.sqv_get I1 (is _ kp)
      have w := PairW.walk_e (t := t) (k0 := 0) (K := X.K) (a := a) (xs := xs)
      simp only [Int.zero_add] at w
      exact PairW.call_one (PairW.begins t a its.toArray) there fun h' he hi old => PairW.pie_e (xs := xs) I1 (is _ kp) he hi old (q _ _ w is)
    exact side.elim (go false) (go true)) hs rfl))
end SeqW
/-! ### len and == of an instance by its class's own methods -/
namespace OwnI
open PySem PySem.Spec PySem.Calls PyProof.Rows L2
section
variable {X : Cx} {CX : CXT} {k : Nat} {C f : Addr} {fd : FuncData} {ps : List Str} {sp : Sp} {E : XK}
theorem call_lenO (_c : Cls X.K C) (hm : Meth X.K C "__len__" f) (F : FnOk X.prog X.w X.K X.mg X.base CX0 k f fd ps sp) (hr : Room (k + 1) X.A) (hb : Binds X.K fd ps []) :
    CallR X (.builtin "len") (fun xs H Q => ∃ a dx fs, xs = [.ref a] ∧ H a = some (.ins C dx fs) ∧ sp [.ref a] H (fun v H' => ∃ n : Nat, v = .int n ∧ n ≤ sizeLine ∧ Q (.int n) H') E0) := by
  intro pins s σ H xs us Q I r h
  obtain ⟨a, dx, fs, rfl, ha, hsp⟩ := h
  obtain ⟨u, rfl, ru⟩ := vals1 r
  cases (show u = Value.ref a from ru)
  obtain ⟨mA, J, _⟩ := ins_get I.hok ha
  obtain ⟨od, J, _⟩ := J.look
  obtain ⟨m, hF⟩ := I.fr
  refine PySem.W.len_K hF I.ok.mod.kin J hm.at_ hm.fn ?_
  have hl := F.len _ _ _ _ hsp
  have r2 : Vals [V.ref a] [Value.ref a] := .cons rfl .nil
  refine wpAny_call (codeAny_mono (F.run X.A.in1 X.stack s H ⟨[.ref a], []⟩ [.ref a] [.ref a] _ E0 hr.in1 I.env0.in1 (by
    have := hb s [.ref a] I.kIn (by simpa using hl)
    simpa using this) r2 hsp) fun r s' hq => ?_)
  cases r with
  | error e => exact hq.elim
  | ok fl =>
    cases fl with
    | ret w =>
      obtain ⟨z, H', I', rz, n, ez, hn, q⟩ := I.after hq
      subst ez
      obtain ⟨t, rfl⟩ := rz
      have h63 : (n : Int) < 2 ^ 63 := by
        have : sizeLine = 16777216 := sizeLine_eq
        omega
      exact ⟨⟨Int.natCast_nonneg n, h63⟩, .int n, H', I'.tok _, ⟨_, rfl⟩, q⟩
    | next => exact False.elim hq
    | brk => exact False.elim hq
    | cont => exact False.elim hq
end
end OwnI
namespace OwnI
open PySem PySem.Spec PySem.Calls PyProof.Rows L2
theorem funD_ok {P : Program} {w : World} {K : PySem.W.Frag} {mg : Str → Option Value} {base : Heap} {x qual : Str} {params : Arguments} {body : List Stmt} {scope : Scope} {dvs : List V} {kws : List (Str × V)} {f : Addr} {fd : FuncData} {N ps : List Str} {k : Nat} {sp : Sp} (F : FunD K x qual params body scope dvs kws f fd) (S : FnScope N ps scope) (len : ∀ vs H Q E, sp vs H Q E → vs.length = ps.length)
    (hbody : ∀ (cdv : Value) (A : Around) (outer : List Env) (s : Shared) (H : Hp) (vs : List V) (Q : VK) (E : XK), Room k (A.deeper (envOfC qual scope s.heap.objs.size f cdv)) → sp vs H Q E →
      ∃ t, PSs (cxOf CX0 P w K mg base N qual scope f cdv A outer s H E).nox body t ∧ t { nx := fun _ H' => Q .non H', rt := Q } (start N vs) H) : FnOk P w K mg base CX0 (k + 1) f fd ps sp :=
  FunD.ok F S len fun cdv A outer s H vs Q E hr hsp => by
    obtain ⟨t, h, q⟩ := hbody cdv A outer s H vs Q E hr hsp
    exact ⟨t, h.nox, q⟩
end OwnI
/-! ### tuples whose object is known: their methods may be called -/
namespace OwnI
open PySem PySem.Spec PySem.Calls PyProof.Rows L2
def PlainT (o : Obj) : Prop := o.cls = .type "tuple" ∧ o.dict = none
section
variable {X : Cx}
def rTupFrz (K : PySem.W.Frag) : List V → Hp → VK → Prop := fun xs H Q => ∃ p ys, xs = [.ref p] ∧ SqL K H p ys ∧ ∀ l o, PlainT o → H l = none → Q (.ref l) (upd H l (.frz o (.tup ys)))
theorem call_tuple_frz : CallR X (.type "tuple") (rTupFrz X.K) := by
  intro pins s σ H xs us Q I r h
  obtain ⟨p, ys, rfl, hq, q⟩ := h
  obtain ⟨u, rfl, rx⟩ := vals1 r
  cases rx
  obtain ⟨its, r', pl, hz⟩ := I.list hq
  have hlen := r'.length
  refine call_tuple_list pl.isList (fun h' kp => ?_) (by simp only [List.size_toArray] <;> omega)
  have I1 : Inv X pins σ H { s with heap := h' } := I.kept (t' := s.toks) kp
  have I2 : Inv X pins σ (upd H h'.objs.size (.frz { cls := .type "tuple", data := .seq its.toArray } (.tup ys))) { s with heap := h'.push { cls := .type "tuple", data := .seq its.toArray } } :=
    I1.laid (t' := s.toks) (fun b o e => Heap.get?_push_of_some _ e) (Nat.le_refl _) (show ObjOk X.prog X.w _ _ _ (.frz _ (.tup ys)) from ⟨Heap.get?_push_size _ rfl, hz, its, r', IsTup.new _ _⟩)
  exact ⟨.ref h'.objs.size, _, I2, rfl, q _ _ ⟨rfl, rfl⟩ (I1.hok.fresh (Nat.le_refl _))⟩
def tBMF (r : V → List V → Hp → VK → Prop) (to : TE) (t : TA) : TE := fun σ H Q => to σ H fun x H1 => (∃ p o u, x = .ref p ∧ H1 p = some (.frz o u) ∧ PlainT o) ∧ t σ H1 fun xs H2 => r x xs H2 Q
variable {o e : Expr} {es : List Expr} {to : TE} {t : TA} {name : Str} {apos cpos : Pos} {id : String} {r : V → List V → Hp → VK → Prop}
theorem pe_bmF (pa : PlainAttrs "tuple") (slot : Slot "tuple" name id) (hty : typeOf (.builtin id) = pure (.type "method_descriptor")) (hm : MtR X id r) (ho : PE X o to) (ha : PA X (e :: es) t)
    (hbase : attributeBase o name X.env (eval o X.env) = eval o X.env := by rfl)
    (hfew : ((backTo cpos (starEach (e :: es) X.env)).all (fun x => !x.1) && (backToKw cpos (keywordEach [] X.env)).all (fun x => x.1.isSome)
      && decide ((e :: es).length + ([] : List Keyword).length + (if ([] : List Keyword).isEmpty then 0 else 1) < 30)) = true := by rfl)
    (hline : (apos.endLine == cpos.line) = true := by rfl) (hs : starEach (e :: es) X.env = (false, eval e X.env) :: starEach es X.env := by rfl) (hplain : (backTo cpos (starEach es X.env)).any (·.1) = false := by rfl) :
    PE X (.Call (.Attribute o name apos) (e :: es) [] cpos) (tBMF r to t) := by
  refine ⟨fun pins s σ H Q I h => ?_⟩
  refine wpAny_Call_method_late hbase hfew hline rfl (thn (ho.run pins s σ H _ I h) fun v s1 ⟨x, H1, I1, r1, ty, q1⟩ => ?_)
  obtain ⟨p, ob, u, rfl, hp, hc, hd⟩ := ty
  have ev : v = .ref p := r1
  subst ev
  have hg := (I1.hok p _ hp).1
  refine ⟨"tuple", id, pa, slot, hty, ⟨_, hg, hc⟩, (fun a e => by cases e; exact ⟨ob, hg, hd⟩), ?_⟩
  have hA := ha.run cpos pins s1 σ H1 _ I1 q1
  rw [hs] at hA ⊢
  refine Calls.callWith_builtin (by show (false || (backTo cpos (starEach es X.env)).any (·.1)) = false; rw [hplain] <;> rfl) (Calls.evalArgs_plain ?_)
  exact thn hA fun us s2 ⟨vs, H2, I2, r2, q2⟩ => hm pins s2 σ H2 _ vs _ us Q I2 r1 r2 q2
end
end OwnI
/-! ### names unpacked from a list or a tuple; comprehensions with two fors -/
namespace SeqW
open PySem PySem.Spec PySem.Calls PyProof.Rows L2
def gAny (K : PySem.W.Frag) (n : Nat) (t : TGs) : TG := fun v σ H Q => ∃ a xs, v = .ref a ∧ (SqL K H a xs ∨ SqT K H a xs) ∧ xs.length = n ∧ t xs σ H Q
theorem pg_any {X : Cx} {pos : Pos} {es : List Expr} {k : Nat} {t : TGs} {n : Nat} (hc : X.calm = true) (h : PGs X es t)
    (hn : (assignEach es X.env).length = n := by rfl) (hst : (assignEach es X.env).findIdx? (·.1) = none := by rfl) : PG X (.Tuple es k pos) (gAny X.K n t) := by
  refine ⟨fun pins s σ H v u Q I r hw => ?_⟩
  obtain ⟨a, xs, e1, hq, hl, hw⟩ := hw
  rcases hq with hq | hq
  · exact (pg_unl hc h hn hst).run pins s σ H v u Q I r ⟨a, xs, e1, hq, hl, hw⟩
  · exact (pg_tup hc h hn hst).run pins s σ H v u Q I r ⟨a, xs, e1, hq, hl, hw⟩
section
variable {J J1 : It} {n n1 : Nat} {G G1 : Hp → Prop} {Y Y1 : Nat → Hp → V → Hp → Prop} {g g1 : TG} {tt tt1 : TT} {te : TE} {wi1 : TI} {vs vs1 : List Nat} {σ σ2 : L2.St} {H1 H4 : Hp} {D : Addr} {Qd : Hp → Prop}
theorem lc2_it (w : Walk J n G Y) (Pv : Nat → Hp → Prop) (h0 : Pv 0 (upd H1 D (.lst []))) (hG : ∀ i H, i ≤ n → Pv i H → G H)
    (hs : ∀ i x H H', i < n → Pv i H → Y i H x H' → g x (wipe σ vs) H' fun σ2 H2 => wipe σ2 vs = wipe σ vs ∧ tt σ2 H2 fun b H3 =>
      if b = true then wi1 σ2 H3 fun J1 H4 => ∃ W1 : Nat → Nat → Hp → Prop, (∃ m, W1 0 m H4) ∧ ∀ j k H, W1 j k H →
      (J1.stop j H ∧ Pv (i + 1) H) ∨ (J1.go j H ∧ ∃ Nx1 : Hp → Prop, (∀ H', Nx1 H' → ∃ k', k' < k ∧ W1 (j + 1) k' H') ∧ ∀ x H', J1.yld j H x H' → g1 x (wipe σ2 vs1) H' fun σ3 H5 => wipe σ3 vs1 = wipe σ2 vs1 ∧ tt1 σ3 H5 fun b H6 =>
        if b = true then te σ3 H6 fun y H7 => ∃ acc, H7 D = some (.lst acc) ∧ acc.length < sizeLine ∧ Nx1 (upd H7 D (.lst (acc ++ [y]))) else Nx1 H6)
      else Pv (i + 1) H3) (hd : ∀ H, Pv n H → Qd H) :
    ∃ W : Nat → Nat → Hp → Prop, (∃ m, W 0 m (upd H1 D (.lst []))) ∧ ∀ i m H, W i m H →
  (J.stop i H ∧ Qd H) ∨ (J.go i H ∧ ∃ Nx : Hp → Prop, (∀ H', Nx H' → ∃ m', m' < m ∧ W (i + 1) m' H') ∧ ∀ x H', J.yld i H x H' → g x (wipe σ vs) H' fun σ2 H2 => wipe σ2 vs = wipe σ vs ∧ tt σ2 H2 fun b H3 =>
    if b = true then wi1 σ2 H3 fun J1 H4 => ∃ W1 : Nat → Nat → Hp → Prop, (∃ m, W1 0 m H4) ∧ ∀ j k H, W1 j k H →
      (J1.stop j H ∧ Nx H) ∨ (J1.go j H ∧ ∃ Nx1 : Hp → Prop, (∀ H', Nx1 H' → ∃ k', k' < k ∧ W1 (j + 1) k' H') ∧ ∀ x H', J1.yld j H x H' → g1 x (wipe σ2 vs1) H' fun σ3 H5 => wipe σ3 vs1 = wipe σ2 vs1 ∧ tt1 σ3 H5 fun b H6 =>
        if b = true then te σ3 H6 fun y H7 => ∃ acc, H7 D = some (.lst acc) ∧ acc.length < sizeLine ∧ Nx1 (upd H7 D (.lst (acc ++ [y]))) else Nx1 H6)
    else Nx H3) := by
  refine ⟨fun i m H => m = n - i ∧ i ≤ n ∧ Pv i H, ⟨n, by simp, Nat.zero_le _, h0⟩, ?_⟩
  rintro i m H ⟨rfl, hi, p⟩
  have q := hG i H hi p
  by_cases hlt : i < n
  · exact .inr ⟨w.goes i H hlt q, Pv (i + 1), fun H' p' => ⟨n - (i + 1), by omega, rfl, hlt, p'⟩, fun x H' y => hs i x H H' hlt p (w.yields i H x H' hlt q y)⟩
  · have e : i = n := by omega
    subst e
    exact .inl ⟨w.stops H q, hd H p⟩
theorem lc2_in (w : Walk J1 n1 G1 Y1) (Pv : Nat → Hp → Prop) (h0 : Pv 0 H4) (hG : ∀ i H, i ≤ n1 → Pv i H → G1 H)
    (hs : ∀ j x H H', j < n1 → Pv j H → Y1 j H x H' → g1 x (wipe σ2 vs1) H' fun σ3 H5 => wipe σ3 vs1 = wipe σ2 vs1 ∧ tt1 σ3 H5 fun b H6 =>
        if b = true then te σ3 H6 fun y H7 => ∃ acc, H7 D = some (.lst acc) ∧ acc.length < sizeLine ∧ Pv (j + 1) (upd H7 D (.lst (acc ++ [y]))) else Pv (j + 1) H6) (hd : ∀ H, Pv n1 H → Qd H) :
    ∃ W1 : Nat → Nat → Hp → Prop, (∃ m, W1 0 m H4) ∧ ∀ j k H, W1 j k H →
      (J1.stop j H ∧ Qd H) ∨ (J1.go j H ∧ ∃ Nx1 : Hp → Prop, (∀ H', Nx1 H' → ∃ k', k' < k ∧ W1 (j + 1) k' H') ∧ ∀ x H', J1.yld j H x H' → g1 x (wipe σ2 vs1) H' fun σ3 H5 => wipe σ3 vs1 = wipe σ2 vs1 ∧ tt1 σ3 H5 fun b H6 =>
        if b = true then te σ3 H6 fun y H7 => ∃ acc, H7 D = some (.lst acc) ∧ acc.length < sizeLine ∧ Nx1 (upd H7 D (.lst (acc ++ [y]))) else Nx1 H6) := by
  refine ⟨fun i m H => m = n1 - i ∧ i ≤ n1 ∧ Pv i H, ⟨n1, by simp, Nat.zero_le _, h0⟩, ?_⟩
  rintro i m H ⟨rfl, hi, p⟩
  have q := hG i H hi p
  by_cases hlt : i < n1
  · exact .inr ⟨w.goes i H hlt q, Pv (i + 1), fun H' p' => ⟨n1 - (i + 1), by omega, rfl, hlt, p'⟩, fun x H' y => hs i x H H' hlt p (w.yields i H x H' hlt q y)⟩
  · have e : i = n1 := by omega
    subst e
    exact .inl ⟨w.stops H q, hd H p⟩
end
end SeqW
namespace SeqW
open PySem PySem.Spec PySem.Calls PyProof.Rows L2
/-- xs[i], as xs[i] += e reads it -/
theorem get_list {X : Cx} : PGet X (fun x y H Q => ∃ p xs i v, x = .ref p ∧ y = .int (i : Nat) ∧ SqL X.K H p xs ∧ xs[i]? = some v ∧ Q v H) := by
  intro pins s σ H x y v u Q I rx ry h
  obtain ⟨p, xs, i, z, rfl, rfl, hq, he, q⟩ := h
  cases rx
  obtain ⟨t, rfl⟩ := ry
  obtain ⟨its, r, pl, hz⟩ := I.list hq
  obtain ⟨w, ew, rw'⟩ := r.get he
  have hl := r.length
  have hn := line63
  have hi := (List.getElem?_eq_some_iff.mp he).1
  exact wpAny_getItem_list pl.isList (Int.natCast_nonneg i) (by omega) (by rw [Int.toNat_natCast]; simpa using ew) ⟨z, H, I, rw', q⟩
end SeqW
namespace SeqW
open PySem PySem.Spec PySem.Calls PyProof.Rows L2
theorem notIn_K {X : Cx} {K : PySem.W.Frag} (h : X.K = K) : OpR X (compareOp .NotIn) (rIn K true) := by
  subst h
  exact op_notIn_seq
theorem in_K {X : Cx} {K : PySem.W.Frag} (h : X.K = K) : OpR X (compareOp .In) (rIn K false) := by
  subst h
  exact op_in_seq
end SeqW
/-! ### rules for what stands in a comprehension within another one -/
namespace SeqK
open PySem PySem.Spec PyProof.Rows L2
theorem pi_seqK {X : Cx} {K : PySem.W.Frag} {tg l : Expr} {tl : TE} (h : X.K = K) (hl : PE X l tl) : PI X tg l (SeqW.iSeq K tl) := by
  subst h
  exact SeqW.pi_seq hl
def rJoin (K : PySem.W.Frag) : V → List V → Hp → VK → Prop := fun x xs H Q => ∃ a p, ∃ ys : List Str, x = .str a ∧ xs = [.ref p] ∧ (SqL K H p (ys.map V.str) ∨ SqT K H p (ys.map V.str)) ∧ (ys.map (·.length)).sum + ys.length * a.length ≤ 16777216 ∧ Q (.str (Txt.join a ys)) H
theorem joinK {X : Cx} {K : PySem.W.Frag} (h : X.K = K) : MtR X "str.join" (rJoin K) := by
  subst h
  exact mt_join
section
variable {X : Cx} {K : PySem.W.Frag} {T id : String} {name : Str} {o e : Expr} {es : List Expr} {apos cpos : Pos} {r : V → List V → Hp → VK → Prop} {to : TE} {t : TA}
theorem pe_bmK (h : X.K = K) (pa : PlainAttrs T) (slot : Slot T name id) (hty : typeOf (.builtin id) = pure (.type "method_descriptor")) (hm : MtR X id r) (ho : PE X o to) (ha : PA X [e] t) (hbase : attributeBase o name X.env (eval o X.env) = eval o X.env := by rfl)
    (few : ((backTo cpos (starEach [e] X.env)).all (fun x => !x.1) && (backToKw cpos (keywordEach [] X.env)).all (fun x => x.1.isSome) && decide (([e] : List Expr).length + ([] : List Keyword).length + (if ([] : List Keyword).isEmpty then 0 else 1) < 30)) = true := by rfl)
    (line : (apos.endLine == cpos.line) = true := by rfl) (stars : starEach [e] X.env = (false, eval e X.env) :: starEach [] X.env := by rfl) (plain : (backTo cpos (starEach [] X.env)).any (·.1) = false := by rfl) : PE X (.Call (.Attribute o name apos) [e] [] cpos) (tBM K T r to t) := by
  subst h
  exact pe_bm pa slot hty hm ho ha hbase few line stars plain
end
end SeqK
/-! ### a clause 'except C as n' whose suite raises; a tuple unpacked while an exception is handled -/
namespace HotAs
open PySem PySem.Spec PyProof.Rows L2 HotX L2H
/-! #### unpacking: the iterator's end is raised while another exception is handled -/
section
variable {P : Program} {w : World} {A : Around} {px : Addr} {g : Shared}
theorem stop_raised {α : Type} {h0 : Heap} {Q : α → Shared → Prop} {E : Value → Shared → Prop} (hot : HotAt A px h0) (eh : g.heap = h0)
    (out : ∀ (hp : Heap) (e : Addr), (∀ b o, h0.get? b = some o → hp.get? b = some o) → Shared.TypeIs { g with heap := hp } (.ref e) "StopIteration" → E (.ref e) { g with heap := hp }) :
    wpAny (model P w) A (newExc (.type "StopIteration") [] >>= fun e => (raiseNew e : Sem α)) Q E g := by
  subst eh
  obtain ⟨hd, po, pf, pg, pd, pc⟩ := hot
  refine wpAny_bind ?_
  simp only [newExc, newTuple]
  refine wpAny_bind (wpAny_newObj_type (wpAny_bind (m := firstArgMember _ _) (wpAny_of_eq (a := Value.none) (by first | rfl | (simp only [firstArgMember]; rfl)) (wpAny_newObj_type ?_ (by size_fits)))) (by size_fits))
  have one : ∀ {b : Addr} {o : Obj}, g.heap.get? b = some o → (g.heap.push { cls := .type "tuple", data := .seq #[] }).get? b = some o := fun e => Heap.get?_push_of_some _ e
  refine raiseNew_hot ⟨hd, po, pf, Heap.get?_push_of_some _ (one pg), pd, pc⟩ (Nat.ne_of_lt (Heap.lt_size (one pg))) (Heap.get?_push_size _ rfl) rfl (by first | (simp; done) | (simp; omega) | (simp only [Array.size_append]; simp; omega)) ?_
  exact out _ _ (fun b o e => (Heap.get?_update_other _ _ (Nat.ne_of_gt (Heap.lt_size (one e)))).trans (Heap.get?_push_of_some _ (one e))) ⟨_, Heap.get?_update_self _ (Heap.get?_push_size _ rfl) rfl, rfl⟩
theorem next_ends {Q : Option Value → Shared → Prop} {E : Value → Shared → Prop} {ia ta : Addr} {j : Nat} {xs : Array Value} (hot : HotAt A px g.heap) (ii : IsTupIter g.heap ia ta j) (it : IsTup g.heap ta xs) (no : xs[j]? = none) (ne : px ≠ ia)
    (q : ∀ hp, Heap.ExtBut ia g.heap hp → Q none { g with heap := hp }) : wpAny (model P w) A (pyNext (.ref ia)) Q E g := by
  obtain ⟨io, ig, _, idt⟩ := id ii
  obtain ⟨tobj, tg, _, tn, td⟩ := it
  have pin : HotAt A px (g.heap.update ia (Obj.mapFields (·.setIfInBounds 0 Value.none))) := by
    obtain ⟨z1, z2, z3, z4, z5⟩ := hot
    exact ⟨z1, z2, z3, (Heap.get?_update_other _ _ (Ne.symm ne)).trans z4, z5⟩
  unfold pyNext
  refine wpAny_bind (wpAny_attempt (wpAny_callSpecial?_slot (name := Str.ofString "__next__") ii.typeIs slot_tupleiter_next (wpAny_call_entry slot_tupleiter_next ii.typeIs entry_tupleiter_next ?_ (args_tupleiter_next _))))
  show wpAny _ _ (field (.ref ia) 0 >>= _) _ _ g
  refine wpAny_bind (wpAny_field ig idt (x := .ref ta) rfl ?_)
  show wpAny _ _ (if (Value.ref ta == Value.none) = true then _ else _) _ _ g
  refine (if_neg (show ¬ (Value.ref ta == Value.none) = true from fun z => Bool.noConfusion z)).symm ▸ ?_
  show wpAny _ _ (field (.ref ia) 1 >>= _) _ _ g
  refine wpAny_bind (wpAny_field ig idt (x := .int j 0) rfl ?_)
  show wpAny _ _ (seqItems? (.ref ta) >>= _) _ _ g
  refine wpAny_bind (wpAny_seqItems tg td ?_)
  simp only [no, Int.toNat_natCast]
  refine wpAny_bind (wpAny_rule (wpAny_bind (wpAny_setField ig idt (by simp) ?_)))
  refine stop_raised (h0 := g.heap.update ia (Obj.mapFields (·.setIfInBounds 0 Value.none))) pin rfl fun hp e keep ty => ?_
  exact wpAny_bind (wpAny_isInstance (T := "StopIteration") (b := true) ty isSubtype_stop (wpAny_pure (q hp fun b o hb z => keep b o ((Heap.get?_update_other _ _ (Ne.symm hb)).trans z))))
theorem items_of {Q : List Value → Shared → Prop} {E : Value → Shared → Prop} {ta : Addr} {xs : Array Value} (hot : HotAt A px g.heap) (it : IsTup g.heap ta xs) (q : ∀ hp, Heap.ExtBut g.heap.objs.size g.heap hp → Q xs.toList { g with heap := hp }) :
    wpAny (model P w) A (unpackItems (.ref ta) xs.size none) Q E g := by
  obtain ⟨z1, z2, z3, z4, z5⟩ := hot
  have lp := Nat.ne_of_lt (Heap.lt_size z4)
  have lt : ta ≠ g.heap.objs.size := let ⟨_, e, _⟩ := it; Nat.ne_of_lt (Heap.lt_size e)
  unfold unpackItems notIterableAtAll
  refine wpAny_bind (wpAny_bind (wpAny_specialOf it.typeIs slot_tuple_iter.lookup (wpAny_pure ?_)))
  simp only [Bool.false_eq_true, ite_false]
  refine wpAny_bind (wpAny_holding (iter_tuple it (wpAny_bind (wpAny_holding (draw_tuple lt xs.size 0 _ _ ⟨_, Heap.get?_push_size _ rfl, rfl, rfl⟩ (it.push _) (Nat.le_of_eq (Nat.zero_add _)) fun h1 i1 s1 => ?_)))))
  have all : (xs.toList.drop 0).take xs.size = xs.toList := List.take_of_length_le (Nat.le_of_eq (by simp))
  rw [all, if_neg (by simp)]
  refine wpAny_bind (wpAny_holding (next_ends ⟨z1, z2, z3, s1.extBut px z2 lp (Heap.get?_push_of_some _ z4), z5⟩ i1 ((it.push _).extBut s1.extBut lt) (by simp) lp fun h2 k2 => ?_))
  simp only [Bool.false_eq_true, Option.isSome_none, ite_false]
  exact wpAny_pure (q h2 fun b o nb z => k2 b o nb (s1.extBut b o nb (Heap.get?_push_of_some _ z)))
end
theorem pg_tupH {X : Cx} {es : List Expr} {k n : Nat} {t : TGs} {pos : Pos} (hc : HotC X) (parts : PGs X es t) (many : (assignEach es X.env).length = n := by rfl) (plain : (assignEach es X.env).findIdx? (·.1) = none := by rfl) :
    PG X (.Tuple es k pos) (gTup X.K n t) := ⟨fun pins s σ H v u Q I rel ask => by
  obtain ⟨ta, xs, rfl, sq, len, ask⟩ := ask
  cases rel
  obtain ⟨us, vals, isT, _⟩ := I.tuple sq
  obtain ⟨px, hot⟩ := hc.at I
  have same : (assignEach es X.env).length = us.toArray.size := by simp [many, ← len, vals.length]
  rw [assign_Tuple]
  suffices go : wpAny (model X.prog X.w) X.A (unpack (.ref ta) (assignEach es X.env)) _ _ s from wpAny_bind (wpAny_standAt go)
  unfold unpack
  rw [same, plain]
  exact wpAny_bind (wpAny_holding (items_of hot isT fun hp k => parts.run pins _ σ H xs _ Q (I.kept (t' := s.toks) fun b o e => k b o (Nat.ne_of_lt (Heap.lt_size e)) e) (by simpa using vals) ask))⟩
/-! #### the suite's context -/
/-- within the suite of the exception at a; what leaves the suite is wished by xe -/
abbrev sx (X : Cx) (a : Addr) (pn : List (Addr × Obj)) (xe : Value → Shared → Prop) : Cx := { X with A := X.A.mark (some (.ref a)), calm := false, pn := pn, xe := xe }
theorem pe_sx {X : Cx} {a : Addr} {pn : List (Addr × Obj)} {xe : Value → Shared → Prop} {e : Expr} {t : TE} (h : PE (X.suite a pn) e t) : PE (sx X a pn xe) e t := PE.nox (X := sx X a pn xe) h
section
variable {X : Cx} {pins pr : List (Addr × Obj)} {σ : L2.St} {H : Hp} {g : Shared} {a : Addr}
theorem sx_of {pn : List (Addr × Obj)} {xe : Value → Shared → Prop} (I : Inv (X.suite a pn) pr σ H g) : Inv (sx X a pn xe) pr σ H g := Inv.unwish (X := sx X a pn xe) (E := fun _ _ => False) I
theorem sx_un {p : Addr × Obj} {xe : Value → Shared → Prop} (I : Inv (sx X a (p :: (X.pn ++ pins)) xe) pr σ H g) (ok : X.Ok) : Inv X pins σ H g :=
  Inv.unsuite (a := a) (q := p) (pn' := pr) (X := X) (I.wish fun _ _ => False : Inv (X.suite a (p :: (X.pn ++ pins))) pr σ H g) ok
/-- a local name's value goes: the invariant of what is left -/
theorem gone_inv {i tk : Nat} {n : Str} {hp : Heap} {m : Str → Option Value} {v : Option Value} (I : Inv X pins σ H g) (nd : X.N.Nodup) (at_ : X.N[i]? = some n) (old : g.heap.Ns X.env.locals m) (new : hp.Ns X.env.locals (fun x => if x = n then v else m x))
    (but : Heap.SameBut X.env.locals g.heap hp) : Inv X pins (σ.set i none) H { g with heap := hp, toks := tk } := by
  obtain ⟨m0, old0, look⟩ := id I.loc
  have eqm : m0 = m := funext fun y => by
    obtain ⟨o1, _, _, a1, b1, _, d1⟩ := old0
    obtain ⟨o2, _, _, a2, b2, _, d2⟩ := old
    cases a1.symm.trans a2
    cases b1.symm.trans b2
    exact (d1 y).symm.trans (d2 y)
  subst eqm
  have low : ∀ {b : Addr} {o u : Obj}, X.s_0.heap.get? b = some u → g.heap.get? b = some o → hp.get? b = some o := fun {b o u} z e => (but.2 b (Nat.ne_of_lt (Nat.lt_of_lt_of_le (Heap.lt_size z) I.ok.above))).trans e
  have B := I.base
  exact {
    ok := I.ok, os := I.os, bare := I.bare, free := I.free, freeC := I.freeC
    base := { keep := fun b o z n1 n2 n3 => low z (B.keep b o z n1 n2 n3), slot := fun b o z n1 n2 n3 => (B.slot b o z n1 n2 n3).imp fun _ e => low z e, free := B.free, there := fun b o z n1 => (B.there b o z n1).imp fun _ e => low z e, tups := B.tups, frzs := B.frzs, tbls := B.tbls }
    loc := ⟨_, new, fun j y x h1 h2 h3 => by
      have nj : j ≠ i := fun z => by
        subst z
        by_cases lj : j < σ.length
        · exact absurd (Option.some.inj ((List.getElem?_set_self lj).symm.trans h2)) (by intro q; cases q)
        · exact absurd ((List.getElem?_eq_none (by simpa using lj)).symm.trans h2) (by intro q; cases q)
      obtain ⟨u, ru, w⟩ := look j y x h1 ((List.getElem?_set_ne (Ne.symm nj)).symm.trans h2) h3
      refine ⟨u, ru, w.imp (fun w => ⟨w.1, ?_⟩) (fun ⟨k, c, e, z⟩ => ⟨k, c, e, z.sameBut but (I.cne y c e)⟩)⟩
      have ny : ¬ y = n := fun z => nj (nodup_ix nd h1 (z ▸ at_))
      show (if y = n then v else m0 y) = some u
      rw [if_neg ny]
      exact w.2⟩
    cell := fun y c e => (I.cell y c e).imp fun _ z => z.sameBut but (I.cne y c e)
    pin := fun p hm => let ⟨e, r⟩ := I.pin p hm; ⟨(but.2 p.1 r.2.1).trans e, r⟩
    hok := fun b u e => (I.hok b u e).stay (fun c o hc z => (but.2 c fun y => by
      have fr : H c = none := by rw [y]; exact I.free
      rcases hc with hc | hc
      · exact absurd (e.symm.trans (hc ▸ fr)) (by intro q; cases q)
      · exact absurd (hc.symm.trans fr) (by intro q; cases q)).trans z) (fun _ z => z) fun _ _ z => z
    len := (List.length_set ..).trans I.len }
end
theorem frames_but {h k B : Heap} {L : Addr} {m : Str → Option Value} (but : Heap.SameBut L h k) (ns : k.Ns L m) : ∀ {l : List Env}, h.FunFrames B l → k.FunFrames B l
  | [], _ => trivial
  | _ :: _, ⟨c1, ⟨F, o, e1, e2, e3, e4⟩, rest⟩ => ⟨c1, by
      by_cases z : F = L
      · obtain ⟨o2, _, _, g2, d2, _⟩ := ns
        exact ⟨F, o2, e1, e2, z ▸ g2, fun fs y => by cases d2.symm.trans y⟩
      · exact ⟨F, o, e1, e2, (but.2 F z).trans e3, e4⟩, frames_but but ns rest⟩
/-! #### the rule -/
section
variable {X : Cx} {pins : List (Addr × Obj)} {Wout : WX} {D : Ends}
/-- what flies is no frame -/
theorem no_frame {B h : Heap} {a : Addr} {o : Obj} {fs : Array Value} (ff : h.FunFrames B (X.env :: X.outer)) (e : h.get? a = some o) (d : o.data = .fields fs) (hf : X.env.frame = some X.env.locals) : a ≠ X.env.locals ∧ a ∉ X.fs := by
  have out : a ∉ frs (X.env :: X.outer) := fun mem => let ⟨_, _, e2, no⟩ := ff.mem mem; no fs (by cases e.symm.trans e2; exact d)
  refine ⟨fun z => out (List.mem_filterMap.mpr ⟨X.env, List.mem_cons_self, z ▸ hf⟩), fun mem => out ?_⟩
  obtain ⟨env, h1, h2⟩ := List.mem_filterMap.mp mem
  exact List.mem_filterMap.mpr ⟨env, List.mem_cons_of_mem _ h1, h2⟩
/-- the class that the clause names -/
theorem named {x : Str} {c : Value} {np : Pos} {a : Addr} {pn pr : List (Addr × Obj)} {σ : L2.St} {H : Hp} {g : Shared} {Q : Value → Shared → Prop} {E : Value → Shared → Prop} (hc : Names X x c) (S : Inv (X.suite a pn) pr σ H g) (q : Q c g) :
    wpAny (model X.prog X.w) (X.A.mark (some (.ref a))) (eval (.Name x np) X.env) Q E g := by
  obtain ⟨g1, g2, g3 | ⟨g4, g5, g6⟩⟩ := hc
  · exact ld_glob (X := X.suite a pn) S g1 g3 q g2
  · exact ld_blt (X := X.suite a pn) S g1 g4 g5 q g6 g2
/-- behind the frame's note the name goes, and the suite's exception goes on -/
theorem goes_on {A : Around} {n : Str} {i : Nat} {a : Addr} {B hp : Heap} {sI g : Shared} {σ : L2.St} {H : Hp} {cls : Value} {d : Option Addr} {pos : Pos} {what : String} {E1 E2 : Value → Shared → Prop} {Q : Flow → Shared → Prop}
    (hs : X.stack = X.env :: X.outer) (hf : X.env.frame = some X.env.locals) (nd : X.N.Nodup) (at_ : X.N[i]? = some n) (loc : X.env.kindOf n = some .local) (tk : L2.Takes X Wout) (hE : ∀ u, X.xe (.ref a) u → E1 (.ref a) u)
    (J : Inv X pins σ H sI) (nb : ∀ b o, sI.heap.get? b = some o → b ∉ frs X.stack → B.get? b = some o) (up : sI.heap.UpToSlots hp) (hl : HandSPX.HeldZ B (X.env :: X.outer) a (Zc cls d) X.env.locals hp) (na : H a = none) (os : g.os = sI.os) (ag : AllBare g.gens)
    (wish : Wout cls d (σ.set i none) H) :
    wpAny (model X.prog X.w) A (do bindName X.env n .none; unbindBehindTheSuite X.env n pos) (fun _ u => wpAny (model X.prog X.w) A (PySem.passOn what (.ref a) X.env : Sem Flow) Q E1 u) E2 { g with heap := hp } := by
  have mine : X.env.locals ∈ frs (X.env :: X.outer) := List.mem_filterMap.mpr ⟨X.env, List.mem_cons_self, hf⟩
  obtain ⟨m, ns, _⟩ := id J.loc
  obtain ⟨oL, es, ep, gL, dL, kL, mL⟩ := id ns
  obtain ⟨sl, gL2⟩ := up _ _ gL (fun fs z => by cases dL.symm.trans z)
  refine wpAny_nameGoes_keeps (s := { g with heap := hp }) loc ⟨_, es, ep, gL2, dL, kL, mL⟩ (by rw [J.ok.kind]; rfl) fun h2 v ns2 but => ?_
  obtain ⟨o2, es2, ep2, g2, d2, k2, m2⟩ := id ns2
  have put : (sI.heap.update X.env.locals (fun _ => o2)).get? X.env.locals = some o2 := Heap.get?_update_self (fun _ => o2) gL (Heap.get?_some_iff.mp g2).2
  have but0 : Heap.SameBut X.env.locals sI.heap (sI.heap.update X.env.locals (fun _ => o2)) := Heap.SameBut.update ..
  have J2 := gone_inv (tk := sI.toks) J nd at_ ns ⟨o2, es2, ep2, put, d2, k2, m2⟩ but0
  have rec_ : ∀ {b : Addr} {o : Obj} {fs : Array Value}, hp.get? b = some o → o.data = .fields fs → h2.get? b = some o := fun {b o fs} e y => (but.2 b fun z => by
    subst z
    cases e.symm.trans gL2
    cases dL.symm.trans (show oL.data = .fields fs from y)).trans e
  obtain ⟨st, nB, fr, oe, fs, T, oT, ts, e1, e2, e3, e4, e5, e6, e7, e8, e9⟩ := hl
  have tr : HandSPX.TracedZ h2 B a (Zc cls d) (rawInt X.env.locals) := ⟨oe, fs, T, oT, ts, rec_ e1 e3, e2, e3, e4, e5, e6, rec_ e7 e8, e8, e9⟩
  have st2 : B.StaysIn h2 := fun b o e => (but.2 b fun z => by cases ((fr.mem mine).1).symm.trans (z ▸ e)).trans (st b o e)
  unfold PySem.passOn
  refine wpAny_bind (wpAny_field (s := { g with heap := h2, toks := g.toks + 1 }) (rec_ e1 e3) e3 e4 ?_)
  refine (if_neg (show ¬ (Value.ref T == Value.none) = true from fun z => Bool.noConfusion z)).symm ▸ ?_
  have last : wpAny (model X.prog X.w) A (setFlight (.ref a) X.env.frame) (fun _ u => wpAny (model X.prog X.w) A (throw (.ref a) : Sem Flow) Q E1 u) E1 { g with heap := h2, toks := g.toks + 1 } := by
    rw [hf]
    refine HandSPX.setFlight_anyZ (s := { g with heap := h2, toks := g.toks + 1 }) st2 (frames_but but ns2 fr) tr fun h3 f1 f2 f3 f4 => wpAny_throw (hE _ (tk _ _ ⟨a, B, _, pins, σ.set i none, H, cls, d, rfl, J2, fun b o e no => ?_, fun b o e no => ?_, .inr (.inr (hs ▸ ⟨f1, nB, f2, f3⟩)), na, os, ag, wish⟩))
    · exact nb b o ((but0.2 b fun z => no (by rw [hs, z]; exact mine)).symm.trans e) no
    · by_cases z : b = X.env.locals
      · subst z
        cases put.symm.trans e
        exact f4 _ _ g2 no
      · obtain ⟨s1, y1⟩ := up b o ((but0.2 b z).symm.trans e) no
        have y2 : h2.get? b = some { o with slots := s1 } := (but.2 b z).trans y1
        obtain ⟨s2, y3⟩ := f4 b _ y2 no
        exact ⟨s2, y3⟩
  first
    | exact wpAny_bind (wpAny_pure (wpAny_bind last))
    | exact wpAny_bind last
/-- no clause names it: it goes on -/
theorem flies_on {a : Addr} {B hp : Heap} {sI g : Shared} {σ : L2.St} {H : Hp} {cls : Value} {d : Option Addr} (hs : X.stack = X.env :: X.outer) (hf : X.env.frame = some X.env.locals) (tk : L2.Takes X Wout)
    (J : Inv X pins σ H sI) (nb : ∀ b o, sI.heap.get? b = some o → b ∉ frs X.stack → B.get? b = some o) (up : sI.heap.UpToSlots hp) (fl : HandSPX.FlyingZ B (X.env :: X.outer) a (Zc cls d) hp) (na : H a = none) (os : g.os = sI.os) (ag : AllBare g.gens)
    (wish : Wout cls d σ H) : wpAny (model X.prog X.w) X.A (handleBy (.ref a) X.env []) (SP X pins D) X.xe { g with heap := hp } := by
  obtain ⟨f1, f2, f3, oe, fs, T, oT, ts, e1, e2, e3, e4, e5⟩ := id fl
  refine wpAny_handleBy_nil ?_
  unfold PySem.passOn
  refine wpAny_bind (wpAny_field e1 e3 e4 ?_)
  refine (if_neg (show ¬ (Value.ref T == Value.none) = true from fun z => Bool.noConfusion z)).symm ▸ ?_
  have last : wpAny (model X.prog X.w) X.A (setFlight (.ref a) X.env.frame) (fun _ u => wpAny (model X.prog X.w) X.A (throw (.ref a) : Sem Flow) (SP X pins D) X.xe u) X.xe { g with heap := hp } := by
    rw [hf]
    exact HandSPX.setFlight_upZ fl fun h2 hl up2 => wpAny_throw (tk _ _ ⟨a, B, sI, pins, σ, H, cls, d, rfl, J, nb, up.trans up2, .inr (.inr (hs ▸ hl)), na, os, ag, wish⟩)
  first
    | exact wpAny_bind (wpAny_pure (wpAny_bind last))
    | exact wpAny_bind last
theorem sp_back {pr : List (Addr × Obj)} {xe : Value → Shared → Prop} {f : Flow} {g : Shared} (ok : X.Ok) (h : SP (X.tr (X.pn ++ pins) xe) pr D f g) : SP X pins D f g := by
  cases f <;> (try (obtain ⟨u1, u2, J, q⟩ := h; exact ⟨u1, u2, J.ofTry ok, q⟩))
  obtain ⟨u0, u1, u2, J, q⟩ := h
  exact ⟨u0, u1, u2, J.ofTry ok, q⟩
variable {x n : Str} {c : Value} {i : Nat} {body suite : List Stmt} {b₀ : Stmt} {np pos pos2 : Pos} {tb : WX → TS} {ts : Addr → Value → Option Addr → TS}
theorem ps_try_asX (hs : X.stack = X.env :: X.outer) (hf : X.env.frame = some X.env.locals) (nd : X.N.Nodup) (at_ : X.N[i]? = some n) (loc : X.env.kindOf n = some .local) (hc : Names X x c)
    (hpa : ∀ hd : Option Value, PassesOwnAt (model X.prog X.w) (X.A.mark hd) X.A X.env X.xe) (tk : L2.Takes X Wout)
    (hb : ∀ (W : WX) (pn : List (Addr × Obj)) (xe : Value → Shared → Prop), L2N.Takes (X.tr pn xe) W → PassesOwn (model X.prog X.w) X.A X.env xe → PSs (X.tr pn xe) body (tb W))
    (hsu : ∀ (a : Addr) (oe : Obj) (cls : Value) (d : Option Addr) (pn : List (Addr × Obj)) (xe : Value → Shared → Prop), L2N.Zn cls d oe → (∃ fs, oe.data = .fields fs) → L2.Takes (sx X a ((a, oe) :: pn) xe) (fun cls d σ H => Wout cls d (σ.set i none) H) → HotC (sx X a ((a, oe) :: pn) xe) →
      PSs (sx X a ((a, oe) :: pn) xe) (b₀ :: suite) (ts a cls d)) :
    PS X (.Try body [.ExceptHandler (some (.Name x np)) (some n) (b₀ :: suite) pos2] [] [] pos) (fun D σ H => tb (wAs X.K c i ts Wout D) D σ H) := by
  refine ⟨fun pins s σ H D I ask => wpAny_Try_except ?_⟩
  have ok := I.ok
  have fra : X.A.frames = some (X.env :: X.outer) := ok.frames.trans (congrArg some hs)
  have tried : ∀ (E0 : Value → Shared → Prop), L2N.Takes (X.tr (X.pn ++ pins) E0) (wAs X.K c i ts Wout D) → PassesOwn (model X.prog X.w) X.A X.env E0 → _ := fun E0 t0 p0 => (hb _ (X.pn ++ pins) E0 t0 p0).run [] s σ H D (I.toTry _) ask
  refine wpAny_mono (tried _ ?land ?pass) (fun f g h => ?thru) (fun _ _ z => z)
  case pass => exact PassesOwn.looking
  case thru =>
    have h2 := sp_back ok h
    cases f <;> first | exact wpAny_execs_nil h2 | exact h2
  case land =>
    rintro u g xx
    obtain ⟨a, B, sI, pr, σ1, H1, cls, d, rfl, Jt, nb, up, sky, na, os, ag, b, isC, yes, no⟩ := xx
    have J : Inv X pins σ1 H1 sI := Jt.ofTry ok
    refine L2N.Sky.land (env := X.env) (outer := X.outer) L2N.Zn.steady fra hf (hs ▸ sky) fun h1 fl up1 => ?_
    have J1 : Inv X pins σ1 H1 { g with heap := h1 } := J.landed nb fl.1 (up.trans up1) os ag
    obtain ⟨oe, fs, e1, e2, e3⟩ := fl.there
    obtain ⟨nL, nF⟩ := no_frame fl.2.2.1 e1 e3 hf
    have ty : PySem.W.Looks (model X.prog X.w) h1 (typeOf (.ref a)) cls := fun _ _ _ _ keep q => wpAny_typeOf_ref (keep _ _ e1) (e2.1 ▸ q)
    refine wpAny_handleBy_cons (codeAny_handlers_test (named hc (J1.suite e1 e3 na nL nF) ((PySem.W.exm_one (M := model X.prog X.w) J1.kIn ty isC).here ?_))) (fun q => nomatch q)
    cases b with
    | false => exact flies_on hs hf tk J nb (up.trans up1) (flyingZ_imp (fun _ z => L2N.Zn.zc z) fl) na os ag (no rfl)
    | true =>
      refine codeAny_handlers_suite_as (HandSPX.lands_againZ fl fun h2 fl2 up2 => ?_)
      have J2 : Inv X pins σ1 H1 { g with heap := h2 } := J.landed nb fl2.1 ((up.trans up1).trans up2) os ag
      obtain ⟨oe2, fs2, y1, y2, y3⟩ := fl2.there
      refine store_ok (X := X.suite a ((a, oe2) :: (X.pn ++ pins))) (v := .ref a) (J2.suite y1 y3 na nL nF) nd at_ (.inl loc) rfl (fun g3 S3 => ?_) (.inr loc)
      have run : ∀ (E0 : Value → Shared → Prop), L2.Takes (sx X a ((a, oe2) :: (X.pn ++ pins)) E0) (fun cls d σ H => Wout cls d (σ.set i none) H) → _ := fun E0 tk0 =>
        (hsu a oe2 cls d (X.pn ++ pins) E0 y2 ⟨_, y3⟩ tk0 ⟨(a, oe2), ⟨rfl, fs2, y3, y2.2.2 fs2 y3⟩, List.mem_cons_self⟩).run [] g3 _ H1 _ (sx_of S3) (yes rfl a na)
      refine wpAny_mono (run _ ?tk) (fun f g4 h => ?q) (fun _ _ z => z)
      case q => cases f with
        | ret u => obtain ⟨v, σ4, H4, S4, r, q⟩ := h; exact gone_ok (sx_un S4 ok) nd at_ loc fun g5 J5 => ⟨v, _, H4, J5, r, q⟩
        | next => obtain ⟨σ4, H4, S4, q⟩ := h; exact gone_ok (sx_un S4 ok) nd at_ loc fun g5 J5 => ⟨_, H4, J5, q⟩
        | brk => obtain ⟨σ4, H4, S4, q⟩ := h; exact gone_ok (sx_un S4 ok) nd at_ loc fun g5 J5 => ⟨_, H4, J5, q⟩
        | cont => obtain ⟨σ4, H4, S4, q⟩ := h; exact gone_ok (sx_un S4 ok) nd at_ loc fun g5 J5 => ⟨_, H4, J5, q⟩
      case tk =>
        rintro u g4 ⟨a4, B4, s4, _, σ4, H4, c4, d4, rfl, I4, nb4, up4, sky4, na4, os4, ag4, w4⟩
        have J4 : Inv X pins σ4 H4 s4 := sx_un I4 ok
        have fin := fun (E2 : Value → Shared → Prop) (hp : Heap) (hl : HandSPX.HeldZ B4 (X.env :: X.outer) a4 (Zc c4 d4) X.env.locals hp) (up5 : g4.heap.UpToSlots hp) =>
          goes_on (E2 := E2) (A := X.A.mark (some (.ref a))) (pos := pos2) (what := "try.except-as") (Q := fun _ _ => False) hs hf nd at_ loc tk (fun u z => hpa (some (.ref a)) _ u z) J4 nb4 (up4.trans up5) hl na4 os4 ag4 w4
        have sky5 : Sky B4 (X.env :: X.outer) a4 (Zc c4 d4) X.env.locals g4.heap := hs ▸ sky4
        rcases sky5 with ⟨k1, k2, k3, o4, f4, k4, k5, k6, k7⟩ | fly | held
        · exact HandSPX.look_newZ Zc.steady fra k3 hf k4 k1 k2 k6 k7 k5 (fin _)
        · exact HandSPX.looks_onZ Zc.steady fra hf fly (fin _)
        · exact HandSPX.againZ hf held.2.2.2 (fin _ g4.heap held (Heap.UpToSlots.refl _))
end
/-! #### a def called while an exception is handled; a def whose exceptions have no context -/
section
variable {P : Program} {w : World} {K : PySem.W.Frag} {mg : Str → Option Value} {base : Heap} {x qual : Str} {st : Stmt} {f : Addr} {fd : FuncData} {N ps : List Str} {k : Nat} {sp : Sp}
theorem okH (F : Fun K x qual st f fd) (S : FnScope N ps (defScope st)) (len : ∀ vs H Q E, sp vs H Q E → vs.length = ps.length)
    (walk : ∀ (cd : Value) (A : Around) (outer : List Env) (s : Shared) (H : Hp) (vs : List V) (Q : VK) (E : XK) (p : Addr × Obj), RoomH k (A.deeper (envOfC qual (defScope st) s.heap.objs.size f cd)) → HotC (cxH CX0 P w K mg base N qual (defScope st) f cd A outer s H E p).nox → sp vs H Q E →
      ∃ t, PSs (cxH CX0 P w K mg base N qual (defScope st) f cd A outer s H E p).nox (defBody st) t ∧ t { nx := fun _ H2 => Q .non H2, rt := Q } (L2.start N vs) H) : FnH P w K mg base CX0 (k + 1) f fd ps sp := by
  obtain ⟨_, _, _, _, _, _, cd, _, _, rfl, here, code⟩ := F.ex
  exact fn_ofH here code S len fun A outer s H vs Q E p hot room ask => let ⟨t, body, q⟩ := walk cd A outer s H vs Q E p room ⟨p, hot, List.mem_singleton.mpr rfl⟩ ask; ⟨t, body.nox, q⟩
theorem okN (F : Fun K x qual st f fd) (S : FnScope N ps (defScope st)) (len : ∀ vs H Q E, sp vs H Q E → vs.length = ps.length)
    (walk : ∀ (cd : Value) (A : Around) (outer : List Env) (s : Shared) (H : Hp) (vs : List V) (Q : VK) (E : XK), Room k (A.deeper (envOfC qual (defScope st) s.heap.objs.size f cd)) → sp vs H Q E →
      ∃ t, PSs (cxOf (L2N.CX P w) P w K mg base N qual (defScope st) f cd A outer s H E) (defBody st) t ∧ t { nx := fun _ H2 => Q .non H2, rt := Q } (L2.start N vs) H) : FnOk P w K mg base (L2N.CX P w) (k + 1) f fd ps sp := by
  obtain ⟨_, _, _, _, _, _, cd, _, _, rfl, here, code⟩ := F.ex
  exact fn_of here code S len fun A outer s H vs Q E room ask => walk cd A outer s H vs Q E room ask
end
/-- C(e, ..): the exception that is made has no context -/
theorem pmk_oexN {X : Cx} {CX : CXT} {x : Str} {e : Expr} {es : List Expr} {ta : TA} {p pos : Pos} {C fI : Addr} {k : Nat} {fd : FuncData} {ps : List Str} {sp : Sp} (T : OexC X.K C) (iC : PySem.W.findIn X.K (.ref C) "__init__" = some (some (.ref fI)))
    (tI : PySem.W.typeIn X.K (.ref fI) = some (.type "function")) (G : FnOk X.prog X.w X.K X.mg X.base CX k fI fd ps sp) (room : Room (k + 1) X.A) (hb : Binds X.K fd ps []) (pass : Passes CX X (fun _ _ _ => False)) (hg : Gl X x) (hm : X.mg x = some (.ref C)) (ha : PA X (e :: es) ta) (hdb : (x == ("__debug__" : Str)) = false := by decide) (he : starEach (e :: es) X.env = (false, eval e X.env) :: starEach es X.env := by rfl) (hpl : (backTo pos (starEach es X.env)).any (·.1) = false := by rfl) :
    L2N.PMk X (.Call (.Name x p) (e :: es) [] pos) (tMkO C sp [] ta) := fun pins s σ H Q I ask => by
  obtain ⟨_, _, _, _, bm, _, _, _, _, _, _, _, _, _, _, cls, refs⟩ := T.cls
  refine wpAny_Call_Name_kw (ld_glob I hg hm (PySem.W.callWith_K (h₀ := X.base) I.ok.mod.kin T.kC (thn (ha.run pos pins s σ H _ I ask) fun us s1 ⟨vs, H1, I1, rel, few, q1⟩ => ⟨I1.kIn, ?_⟩) he hpl) hdb)
  obtain ⟨hp, gs, dr, tk, os⟩ := s1
  have above : hp.objs.size ≤ hp.objs.size + 1 := Nat.le_succ _
  have ask1 := q1 (hp.objs.size + 1) (I1.hok.fresh above)
  rw [List.append_nil] at ask1
  have keep : ∀ b o, hp.get? b = some o → ((hp.push (PySem.W.kdv_tup us)).push (PySem.HandSPX.excO C hp.objs.size)).get? b = some o := fun _ _ z => Heap.get?_push_of_some _ (Heap.get?_push_of_some _ z)
  have laid := I1.laid (t' := tk) (o := exo (hp.objs.size + 1) C none) (a := hp.objs.size + 1) keep above (exo_ok (t1 := hp.objs.size) (by heap_get))
  have rel2 : Vals (V.ref (hp.objs.size + 1) :: vs) (Value.ref (hp.objs.size + 1) :: us) := .cons rfl rel
  have bind := hb _ (Value.ref (hp.objs.size + 1) :: us) laid.kIn (by rw [List.append_nil]; exact rel2.length.symm.trans (G.len _ _ _ _ ask1))
  rw [List.append_nil] at bind
  refine show wpAny _ _ (call (.ref C) us) _ _ _ from wpAny_call (PySem.HandSPX.call_own F.excBase_ValueError (fun Y => PySem.HandSPX.refsVE_contains Y bm refs) (I1.kIn _ _ cls) (PySem.W.looks_findIn I1.kIn iC) (fun self => PySem.W.bind_fn I1.kIn self tI) (by rw [← Paired.length rel, sizeLine_eq]; omega)
    (codeAny_mono (G.run _ X.stack _ _ ⟨Value.ref (hp.objs.size + 1) :: us, []⟩ _ _ _ (fun _ _ _ => False) (room.make C us []) (laid.env0.make C us []) bind rel2 ask1) fun r s2 got => ?_))
  match r, got with
  | .error er, got => exact pass pins σ _ _ er s2 laid got
  | .ok (.ret u), got =>
    obtain ⟨v, H2, y1, y2, y3, y4, y5, rfl, d, fs, y6, y7, y8, y9⟩ := got
    obtain ⟨h2, g2, d2, t2, o2⟩ := s2
    obtain ⟨_, G0, J, kG, nG, hO, nA⟩ := mk_end0 (d2 := d2) (t2 := t2) I1 above keep y3 y4 y1 y2 y6 y7 y8
    exact ⟨y5, hp.objs.size + 1, _, _, ⟨G0, g2, d2, t2, o2⟩, _, .ref C, some d, rfl, J, kG, nG, hO, ⟨rfl, rfl, fun fs z => by cases z; rfl⟩, rfl, rfl, nA, rfl, y2, raises_own T.exC T.tyC, y9⟩
  | .ok .next, got => exact got.elim
  | .ok .brk, got => exact got.elim
  | .ok .cont, got => exact got.elim
end HotAs
/-! ### try with several clauses 'except C as n', all of one name -/
namespace TryAs
open PySem PySem.Spec PyProof.Rows L2
/-- how a suite ends: the name is gone -/
def ends (i : Nat) (D : Ends) : Ends := { nx := fun σ H => D.nx (σ.set i none) H, rt := D.rt, bk := fun σ H => D.bk (σ.set i none) H, ct := fun σ H => D.ct (σ.set i none) H }
abbrev Suites := List (Value × (Addr → Value → Option Addr → TS))
/-- what the clauses wish of an exception, one behind another -/
def wAll (K : PySem.W.Frag) (i : Nat) (Wout : WX) (D : Ends) : Suites → WX
  | [] => Wout
  | (c, ts) :: r => fun cls d σ H => ∃ b, PySem.W.exmOne K cls c = some b ∧ (b = true → ∀ a, H a = none → ts a cls d (ends i D) (σ.set i (some (.ref a))) H) ∧ (b = false → wAll K i Wout D r cls d σ H)
inductive Clauses (X : Cx) (n : Str) : List ExceptHandler → Suites → Prop
  | nil : Clauses X n [] []
  | cons {x : Str} {c : Value} {ts : Addr → Value → Option Addr → TS} {b₀ : Stmt} {suite : List Stmt} {np pos' : Pos} {hds : List ExceptHandler} {l : Suites} (hc : Names X x c)
      (hsu : ∀ (a : Addr) (oe : Obj) (cls : Value) (d : Option Addr) (pn : List (Addr × Obj)), Zc cls d oe → (∃ vs, oe.data = .fields vs) → PSs (X.suite a ((a, oe) :: pn)) (b₀ :: suite) (ts a cls d)) (r : Clauses X n hds l) :
      Clauses X n (.ExceptHandler (some (.Name x np)) (some n) (b₀ :: suite) pos' :: hds) ((c, ts) :: l)
section
variable {X : Cx} {n : Str} {i : Nat} {body : List Stmt} {h₀ : ExceptHandler} {hds : List ExceptHandler} {l : Suites} {pos : Pos} {tb : WX → TS} {Wout : WX}
/-- the clauses are asked one behind another of what flies -/
theorem asked {pins : List (Addr × Obj)} {D : Ends} {a : Addr} {B h1 : Heap} {sI g : Shared} {σ1 : L2.St} {H1 : Hp} {cls : Value} {d : Option Addr} (hs : X.stack = X.env :: X.outer) (hf : X.env.frame = some X.env.locals) (nd : X.N.Nodup) (at_ : X.N[i]? = some n) (loc : X.env.kindOf n = some .local)
    (tk : Takes X Wout) (J : Inv X pins σ1 H1 sI) (nb : ∀ b o, sI.heap.get? b = some o → b ∉ frs X.stack → B.get? b = some o) (up : sI.heap.UpToSlots h1) (fl : HandSPX.FlyingZ B (X.env :: X.outer) a (Zc cls d) h1) (na : H1 a = none) (os : g.os = sI.os) (ag : AllBare g.gens) {hs2 : List ExceptHandler} {l2 : Suites}
    (C : Clauses X n hs2 l2) (wish : wAll X.K i Wout D l2 cls d σ1 H1) : wpAny (model X.prog X.w) X.A (handleBy (.ref a) X.env hs2) (SP X pins D) X.xe { g with heap := h1 } := by
  have J1 : Inv X pins σ1 H1 { g with heap := h1 } := J.landed nb fl.1 up os ag
  obtain ⟨oe, fs, e1, e2, e3⟩ := fl.there
  obtain ⟨nL, nF⟩ := HotAs.no_frame fl.2.2.1 e1 e3 hf
  induction C with
  | nil => exact HotAs.flies_on hs hf tk J nb up fl na os ag wish
  | cons hc hsu _ ih =>
    obtain ⟨b, isC, yes, no⟩ := wish
    have ty : PySem.W.Looks (model X.prog X.w) h1 (typeOf (.ref a)) cls := fun _ _ _ _ keep q => wpAny_typeOf_ref (keep _ _ e1) (e2.1 ▸ q)
    refine wpAny_handleBy_cons (codeAny_handlers_test (HotAs.named hc (J1.suite e1 e3 na nL nF) ((PySem.W.exm_one (M := model X.prog X.w) J1.kIn ty isC).here ?_))) (fun q => nomatch q)
    cases b with
    | false => exact ih (no rfl)
    | true =>
      refine codeAny_handlers_suite_as (HandSPX.lands_againZ fl fun h2 fl2 up2 => ?_)
      have J2 : Inv X pins σ1 H1 { g with heap := h2 } := J.landed nb fl2.1 (up.trans up2) os ag
      obtain ⟨oe2, fs2, y1, y2, y3⟩ := fl2.there
      refine store_ok (X := X.suite a ((a, oe2) :: (X.pn ++ pins))) (v := .ref a) (J2.suite y1 y3 na nL nF) nd at_ (.inl loc) rfl (fun g3 S3 => ?_) (.inr loc)
      refine wpAny_mono ((hsu a oe2 cls d (X.pn ++ pins) y2 ⟨_, y3⟩).run [] g3 _ H1 _ S3 (yes rfl a na)) (fun f g4 h => ?_) (fun _ _ z => z.elim)
      cases f with
      | ret u => obtain ⟨v, σ4, H4, S4, r, q⟩ := h; exact gone_ok (S4.unsuite J.ok) nd at_ loc fun g5 J5 => ⟨v, _, H4, J5, r, q⟩
      | next => obtain ⟨σ4, H4, S4, q⟩ := h; exact gone_ok (S4.unsuite J.ok) nd at_ loc fun g5 J5 => ⟨_, H4, J5, q⟩
      | brk => obtain ⟨σ4, H4, S4, q⟩ := h; exact gone_ok (S4.unsuite J.ok) nd at_ loc fun g5 J5 => ⟨_, H4, J5, q⟩
      | cont => obtain ⟨σ4, H4, S4, q⟩ := h; exact gone_ok (S4.unsuite J.ok) nd at_ loc fun g5 J5 => ⟨_, H4, J5, q⟩
theorem ps_try_all (hs : X.stack = X.env :: X.outer) (hf : X.env.frame = some X.env.locals) (nd : X.N.Nodup) (at_ : X.N[i]? = some n) (loc : X.env.kindOf n = some .local) (tk : Takes X Wout)
    (hb : ∀ (W : WX) (pn : List (Addr × Obj)) (xe : Value → Shared → Prop), Takes (X.tr pn xe) W → PassesOwn (model X.prog X.w) X.A X.env xe → PSs (X.tr pn xe) body (tb W))
    (hh : Clauses X n (h₀ :: hds) l) : PS X (.Try body (h₀ :: hds) [] [] pos) (fun D σ H => tb (wAll X.K i Wout D l) D σ H) := by
  refine ⟨fun pins s σ H D I ask => wpAny_Try_except ?_⟩
  have tried : ∀ (E0 : Value → Shared → Prop), Takes (X.tr (X.pn ++ pins) E0) (wAll X.K i Wout D l) → PassesOwn (model X.prog X.w) X.A X.env E0 → _ := fun E0 t0 p0 => (hb _ (X.pn ++ pins) E0 t0 p0).run [] s σ H D (I.toTry _) ask
  refine wpAny_mono (tried _ ?land ?pass) (fun f g h => ?thru) (fun _ _ z => z)
  case pass => exact PassesOwn.looking
  case thru =>
    have h2 := HotAs.sp_back I.ok h
    cases f <;> first | exact wpAny_execs_nil h2 | exact h2
  case land =>
    rintro u g ⟨a, B, sI, _, σ1, H1, cls, d, rfl, Jt, nb, up, sky, na, os, ag, wish⟩
    exact Sky.land (env := X.env) (outer := X.outer) Zc.steady (I.ok.frames.trans (congrArg some hs)) hf (hs ▸ sky) fun h1 fl up1 => asked hs hf nd at_ loc tk (Jt.ofTry I.ok) nb (up.trans up1) fl na os ag hh wish
end
end TryAs
namespace OwnE
open PySem PySem.Spec PyProof.Rows L2
section
variable {X : Cx} {n : Nat}
/-- a def of the class, called on an object and any value -/
theorem run {CX : CXT} {f : Addr} {fd : FuncData} {ps : List Str} {sp : Sp} {E : XK} (F : FnOk X.prog X.w X.K X.mg X.base CX n f fd ps sp) (hb : Binds X.K fd ps []) (hx : Passes CX X E)
    {A : Around} {pins : List (Addr × Obj)} {s : Shared} {σ : L2.St} {H : Hp} {a : Addr} {y : V} {v : Value} (sb : Sub X n A) (I : Inv X pins σ H s) (ry : RelV y v) {Qv : VK} (hsp : sp [.ref a, y] H Qv E) {Q : Value → Shared → Prop}
    (hq : ∀ z H' u s', Inv X pins σ H' s' → RelV z u → Qv z H' → Q u s') : wpAny (model X.prog X.w) A (call (.ref f) [.ref a, v]) Q X.xe s := by
  have e0 : Env0 X.prog X.w X.K X.mg X.base A X.stack s H := by
    have e := I.env0
    exact ⟨by rw [sb.fr]; exact e.frames, e.mod, e.bs, e.bsz, e.funs, e.frf, e.hok, e.bare⟩
  have hl := F.len _ _ _ _ hsp
  have r2 : Vals [V.ref a, y] [Value.ref a, v] := .cons rfl (.cons ry .nil)
  refine wpAny_call (codeAny_mono (F.run A X.stack s H ⟨[.ref a, v], []⟩ [.ref a, v] [.ref a, y] _ E sb.room e0 (by
    have := hb s [.ref a, v] I.kIn (by simpa using hl)
    simpa using this) r2 hsp) fun r s' hq' => ?_)
  cases r with
  | error e => exact hx pins σ H s e s' I hq'
  | ok fl =>
    cases fl with
    | ret w =>
      obtain ⟨z, H', I', rz, hz⟩ := I.after hq'
      exact hq z H' w s' I' rz hz
    | next => exact False.elim hq'
    | brk => exact False.elim hq'
    | cont => exact False.elim hq'
/-- x == y, x of an own class with its own ==, whatever it answers -/
def rEqO (K : PySem.W.Frag) (C : Addr) (sp : Sp) (E : XK) : R2 := fun x y H Q => ∃ a dx fs t, x = .ref a ∧ H a = some (.ins C dx fs) ∧ TyX K H y t ∧ PySem.W.notFirst K C t = true ∧ sp [.ref a, y] H (fun z H' => ∃ b, z = .bl b ∧ Q (.bl b) H') E
theorem op_eqO {CX : CXT} {C f : Addr} {fd : FuncData} {ps : List Str} {sp : Sp} {E : XK} (F : FnOk X.prog X.w X.K X.mg X.base CX n f fd ps sp)
    (hs : PySem.W.findIn X.K (.ref C) "__eq__" = some (some (.ref f))) (hf : PySem.W.isFn X.K (.ref f) = true) (hb : Binds X.K fd ps []) (hx : Passes CX X E) (hr : Room n X.A) : OpR X (compareOp .Eq) (rEqO X.K C sp E) := by
  intro pins s σ H x y v u Q I rx ry hq
  obtain ⟨a, dx, fs, t, rfl, ha, ty, hn, hsp⟩ := hq
  show wpAny (model X.prog X.w) X.A (richCompare .Eq v u) (EP X pins σ Q) X.xe s
  cases (show v = Value.ref a from rx)
  obtain ⟨P, kx, hP, _⟩ := kit_of I ry ty
  obtain ⟨mA, J, _⟩ := ins_get I.hok ha
  obtain ⟨od, J, _⟩ := J.look
  obtain ⟨m, hF⟩ := I.fr
  refine PySem.W.cmp_K (op := .Eq) (tb := t) hr.units0 hF I.ok.mod.kin J (kx.ty _ _ I.kIn hP) hn hs hf ?_
  refine run F hb hx ⟨hr, rfl⟩ I ry hsp fun z H' w s' I' rz hz => ?_
  obtain ⟨b, rfl, q⟩ := hz
  cases rz
  exact ⟨.bl b, H', I', rfl, q⟩
end
section
variable {prog : Program} {w : World} {A : Around} {E : Value → Shared → Prop} {s : Shared} {K : PySem.W.Frag} {x C : Addr} {ox : Obj} {od : Option Obj}
theorem ifBoundB_K {M : Model} {name : Str} {id : String} {args : List Value} {Q : Option Value → Shared → Prop} (X : K.In s.heap) (I : PySem.W.InstAt s.heap x ox C od) (hs : PySem.W.findIn K (.ref C) name = some (some (.builtin id))) (hb : ∀ self, bindSpecial (.builtin id) self = pure (.builtin id, [self]))
    (h : wpAny M A (call (.builtin id) (.ref x :: args)) (fun v => Q (some v)) E s) : wpAny M A (callSpecialIfBound? (.ref x) name args) Q E s := by
  simp only [callSpecialIfBound?, bindSpecialIfBound?]
  refine wpAny_holding (wpAny_bind (wpAny_bind (wpAny_bind (I.type.here ((PySem.W.looks_findIn X hs).here ?_)))))
  simp only [hb]
  refine wpAny_bind (wpAny_askSetting (wpAny_ite ?_))
  have fin : wpAny M A (call (.builtin id) ([.ref x] ++ args) >>= fun v => pure (some v)) Q E s := wpAny_bind (wpAny_mono h (fun v s' h' => wpAny_pure h') fun _ _ h' => h')
  split
  · exact wpAny_bind (wpAny_pure (wpAny_pure fin))
  · exact wpAny_tryCatch (wpAny_bind (wpAny_pure (wpAny_pure fin)))
theorem check_slot_K {M : Model} {id owner n : String} {rest : List Value} {Q : Unit → Shared → Prop} (X : K.In s.heap) (I : PySem.W.InstAt s.heap x ox C od) (hk : builtinKind id = some .slot) (hs : splitId id = some (owner, n))
    (ha : argsOk id ⟨.ref x :: rest, []⟩) (hob : PySem.W.subIn K (.ref C) (.type owner) = some true) (hq : Q () s) :
    wpAny M A (checkBuiltinCall id ⟨.ref x :: rest, []⟩) Q E s := by
  have hx := I.at_
  have hc := I.cls
  simp only [checkBuiltinCall, hk, hs]
  refine wpAny_bind ?_
  · unfold isInstance
    repeat (first | (with_reducible refine wpAny_loadPart_at hx ?_; rw [hc]) | (with_reducible refine (PySem.W.looks_subIn X hob).here ?_) | wp_step)
    cases hsig : Manifest.signature? id with
    | none => exact wpAny_pure hq
    | some sig =>
      simp only [argsOk, hsig] at ha
      have h2 : Bind.checkArgs id sig ⟨.ref x :: rest, []⟩ = pure () := ha
      show wpAny M A (Bind.checkArgs id sig ⟨.ref x :: rest, []⟩) Q E _
      rw [h2]; exact wpAny_pure hq
theorem objNe_K {f : Addr} {v : Value} (X : K.In s.heap) (I : PySem.W.InstAt s.heap x ox C od) (hs : PySem.W.findIn K (.ref C) "__eq__" = some (some (.ref f))) (hf : PySem.W.isFn K (.ref f) = true) (hu : A.units < cLine) {Q : Fin → Shared → Prop}
    (hcall : wpAny (model prog w) A (call (.ref f) [.ref x, v]) (fun r s' => ∃ b, r = .bool b ∧ Q (.done (.ret (.bool (!b)))) s') E s) :
    wpAny (model prog w) A (Builtin.«object.__ne__» ⟨[.ref x, v], []⟩) Q E s := by
  unfold Builtin.«object.__ne__»
  repeat (first
    | with_reducible refine wpAny_cRoomFor hu ?_
    | (refine wpAny_bind (m := callSpecialIfBound? (.ref x) (Str.ofString "__eq__") [v])
        (PySem.W.ifBound_K X I hs hf (wpAny_mono hcall (fun r s' hr => by
          obtain ⟨b, rfl, hq⟩ := hr
          repeat (first | exact hq | exact wpAny_pure hq | exact wpAny_truthy_bool hq | (refine wpAny_bind (m := truthy (.bool _)) (wpAny_truthy_bool ?_)) | wp_step)) fun _ _ e => e)))
    | wp_step)
theorem richNe_K {f : Addr} {v : Value} (X : K.In s.heap) (I : PySem.W.InstAt s.heap x ox C od) (hb : PySem.W.Looks (model prog w) s.heap (typeOf v) (.ref C))
    (hn : PySem.W.findIn K (.ref C) "__ne__" = some (some (.builtin "object.__ne__"))) (hob : PySem.W.subIn K (.ref C) (.type "object") = some true)
    (hs : PySem.W.findIn K (.ref C) "__eq__" = some (some (.ref f))) (hf : PySem.W.isFn K (.ref f) = true) (hu : A.units + 1 < cLine) {Q : Value → Shared → Prop}
    (hcall : wpAny (model prog w) A.in1 (call (.ref f) [.ref x, v]) (fun r s' => ∃ b, r = .bool b ∧ Q (.bool (!b)) s') E s) :
    wpAny (model prog w) A (richCompare .NotEq (.ref x) v) Q E s := by
  have one : wpAny (model prog w) A (tryCompare (.ref x) "__ne__" v) (fun r s' => ∃ z, r = some z ∧ Q z s') E s := by
    unfold tryCompare
    refine wpAny_bind (ifBoundB_K X I hn F.cmp_object.ne.bind (wpAny_call (codeAny_call_builtin F.cmp_object.ne.plain F.cmpEntry_ne
      (check_slot_K (A := A.in1) X I F.cmpKind_ne F.cmpSplit_ne (F.cmpArgs_ne _ _) hob (objNe_K (A := A.in1) X I hs hf hu (wpAny_mono hcall (fun r s' hv => ?_) fun _ _ e => e))))))
    obtain ⟨b, rfl, hq⟩ := hv
    exact ⟨b, rfl, wpAny_pure ⟨_, rfl, hq⟩⟩
  unfold richCompare
  simp only [oneThing_ref]
  refine wpAny_holding (wpAny_bind (wpAny_cRoomFor (Nat.lt_of_succ_lt hu) ?_))
  rw [cmpInfo_NotEq]
  dsimp only
  refine wpAny_bind (I.type.here (wpAny_bind (hb.here ?_)))
  rw [show (Value.ref C != Value.ref C) = false from by simp]
  simp only [Bool.false_eq_true, if_false]
  refine wpAny_bind (wpAny_pure ?_)
  simp only [Bool.false_eq_true, if_false]
  refine wpAny_bind (wpAny_mono one (fun r s' z => ?_) fun _ _ e => e)
  obtain ⟨z, rfl, hq⟩ := z
  exact wpAny_pure hq
end
section
variable {prog : Program} {w : World} {A : Around} {E : Value → Shared → Prop} {s : Shared} {K : PySem.W.Frag} {x C : Addr} {ox : Obj} {od : Option Obj}
theorem tupleEq_K {M : Model} {l : Value} (X : K.In s.heap) (I : PySem.W.InstAt s.heap x ox C od) (hob : PySem.W.subIn K (.ref C) (.type "tuple") = some false) {Q : Fin → Shared → Prop} (hq : Q (.done (.ret .notImplemented)) s) :
    wpAny M A (Builtin.«tuple.__eq__» ⟨[l, .ref x], []⟩) Q E s := by
  have hx := I.at_
  have hc := I.cls
  have hi : ∀ {R : Bool → Shared → Prop}, R false s → wpAny M A (isInstance (.ref x) (.type "tuple")) R E s := fun h => by
    show wpAny M A (typeOf (.ref x) >>= fun t => isSubtype t (.type "tuple")) _ E s
    exact wpAny_bind (I.type.here ((PySem.W.looks_subIn X hob).here h))
  wp_walk using hi
  exact hq
theorem listEq_K {M : Model} {l : Value} (X : K.In s.heap) (I : PySem.W.InstAt s.heap x ox C od) (hob : PySem.W.subIn K (.ref C) (.type "list") = some false) {Q : Fin → Shared → Prop} (hq : Q (.done (.ret .notImplemented)) s) :
    wpAny M A (Builtin.«list.__eq__» ⟨[l, .ref x], []⟩) Q E s := by
  have hi : ∀ {R : Bool → Shared → Prop}, R false s → wpAny M A (isInstance (.ref x) (.type "list")) R E s := fun h => by
    show wpAny M A (typeOf (.ref x) >>= fun t => isSubtype t (.type "list")) _ E s
    exact wpAny_bind (I.type.here ((PySem.W.looks_subIn X hob).here h))
  wp_walk using hi
  exact hq
theorem intEq_K {M : Model} {i : Int} {t : Tok} {dx : Addr} (hl : s.heap.get? x = some (PySem.W.instObj C dx)) {Q : Fin → Shared → Prop} (hq : Q (.done (.ret .notImplemented)) s) :
    wpAny M A (Builtin.«int.__eq__» ⟨[.int i t, .ref x], []⟩) Q E s := by
  wp_walk using wpAny_loadPart' hl, wpAny_load hl
  exact hq
theorem boolEq_K {M : Model} {b : Bool} {dx : Addr} (hl : s.heap.get? x = some (PySem.W.instObj C dx)) {Q : Fin → Shared → Prop} (hq : Q (.done (.ret .notImplemented)) s) :
    wpAny M A (Builtin.«int.__eq__» ⟨[.bool b, .ref x], []⟩) Q E s := by
  wp_walk using wpAny_loadPart' hl, wpAny_load hl
  exact hq
theorem strEq_K {M : Model} {z : Str} {t : Tok} {dx : Addr} (hl : s.heap.get? x = some (PySem.W.instObj C dx)) {Q : Fin → Shared → Prop} (hq : Q (.done (.ret .notImplemented)) s) :
    wpAny M A (Builtin.«str.__eq__» ⟨[.str z t, .ref x], []⟩) Q E s := by
  wp_walk using wpAny_loadPart' hl, wpAny_load hl
  exact hq
theorem richEqR_K {f : Addr} {v : Value} {T id : String} (X : K.In s.heap) (I : PySem.W.InstAt s.heap x ox C od) (hv : s.TypeIs v T) (hsub : PySem.W.subIn K (.ref C) (.type T) = some false) (h1 : Slot T (cmpInfo .Eq).2.1 id)
    (hd : ∀ Q : Value → Shared → Prop, Q .notImplemented s → wpAny (model prog w) A (call (.builtin id) [v, .ref x]) Q E s)
    (hs : PySem.W.findIn K (.ref C) "__eq__" = some (some (.ref f))) (hf : PySem.W.isFn K (.ref f) = true) (hu : A.units < cLine) {Q : Value → Shared → Prop}
    (hcall : wpAny (model prog w) A (call (.ref f) [.ref x, v]) (PySem.W.CmpBack Q) E s) : wpAny (model prog w) A (richCompare .Eq v (.ref x)) Q E s := by
  have one : wpAny (model prog w) A (tryCompare (.ref x) "__eq__" v) (fun r s' => ∃ z, r = some z ∧ Q z s') E s := by
    unfold tryCompare
    refine wpAny_bind (PySem.W.ifBound_K X I hs hf (wpAny_mono hcall (fun v s' hv => ?_) fun _ _ e => e))
    cases v <;> first | exact hv.elim | exact wpAny_pure ⟨_, rfl, hv⟩
  simp only [richCompare, cmpInfo, hv.oneThing_none] at h1 ⊢
  refine wpAny_holding (wpAny_bind (wpAny_cRoomFor hu ?_))
  refine wpAny_bind (wpAny_typeOf hv (wpAny_bind (I.type.here ?_)))
  rw [show (Value.type T != Value.ref C) = true from rfl]
  simp only [if_true]
  refine wpAny_bind ((PySem.W.looks_subIn X hsub).here ?_)
  simp only [Bool.false_eq_true, if_false, Bool.not_false, if_true]
  refine wpAny_bind (m := tryCompare v _ (.ref x)) (wpAny_tryCompare_declines hv h1 (hd _ ⟨rfl, ?_⟩))
  refine wpAny_bind (m := tryCompare (.ref x) _ v) (wpAny_mono one (fun r s' z => ?_) fun _ _ e => e)
  obtain ⟨z, rfl, hq⟩ := z
  exact wpAny_pure hq
theorem dec_call {id T : String} {b : Builtin} {v : Value} {name : Str} (h1 : Slot T name id) (hb : entryFor table id = some b) (ha : argsOk id ⟨[v, .ref x], []⟩) (hv : s.TypeIs v T)
    (hd : ∀ Q : Fin → Shared → Prop, Q (.done (.ret .notImplemented)) s → wpAny (model prog w) A.in1 (b ⟨[v, .ref x], []⟩) Q E s) (Q : Value → Shared → Prop) (hq : Q .notImplemented s) :
    wpAny (model prog w) A (call (.builtin id) [v, .ref x]) Q E s := by
  refine wpAny_call (codeAny_call_builtin h1.plain hb (h1.check _ _ _ _ _ _ _ _ hv ha (hd _ ?_)))
  exact hq
end
/-- what declines to be compared with an own object -/
inductive DecK (K : PySem.W.Frag) (H : Hp) : V → String → Prop
  | non : DecK K H .non "NoneType"
  | bl (b : Bool) : DecK K H (.bl b) "bool"
  | int (i : Int) : DecK K H (.int i) "int"
  | str (z : Str) : DecK K H (.str z) "str"
  | lst {a : Addr} {xs : List V} (h : SqL K H a xs) : DecK K H (.ref a) "list"
  | tup {a : Addr} {xs : List V} (h : SqT K H a xs) : DecK K H (.ref a) "tuple"
section
variable {X : Cx} {n : Nat}
/-- x == y, y of an own class with its own ==, x of a kind that declines -/
def rEqR (K : PySem.W.Frag) (C : Addr) (sp : Sp) (E : XK) : R2 := fun x y H Q => ∃ b dx fs T, y = .ref b ∧ H b = some (.ins C dx fs) ∧ DecK K H x T ∧ PySem.W.subIn K (.ref C) (.type T) = some false ∧ sp [.ref b, x] H (fun z H' => ∃ k, z = .bl k ∧ Q (.bl k) H') E
theorem op_eqR {CX : CXT} {C f : Addr} {fd : FuncData} {ps : List Str} {sp : Sp} {E : XK} (F : FnOk X.prog X.w X.K X.mg X.base CX n f fd ps sp)
    (hs : PySem.W.findIn X.K (.ref C) "__eq__" = some (some (.ref f))) (hf : PySem.W.isFn X.K (.ref f) = true) (hb : Binds X.K fd ps []) (hx : Passes CX X E) (hr : Room n X.A) : OpR X (compareOp .Eq) (rEqR X.K C sp E) := by
  intro pins s σ H x y v u Q I rx ry hq
  obtain ⟨b, dx, fs, T, rfl, hb', dk, hsub, hsp⟩ := hq
  show wpAny (model X.prog X.w) X.A (richCompare .Eq v u) (EP X pins σ Q) X.xe s
  cases (show u = Value.ref b from ry)
  obtain ⟨mA, J, _⟩ := ins_get I.hok hb'
  obtain ⟨od, J, _⟩ := J.look
  have fin : wpAny (model X.prog X.w) X.A (call (.ref f) [.ref b, v]) (PySem.W.CmpBack (EP X pins σ Q)) X.xe s := by
    refine run F hb hx ⟨hr, rfl⟩ I rx hsp fun z H' w s' I' rz hz => ?_
    obtain ⟨k, rfl, q⟩ := hz
    cases rz
    exact ⟨.bl k, H', I', rfl, q⟩
  have hu := hr.units0
  cases dk with
  | non =>
    cases (show v = Value.none from rx)
    exact richEqR_K I.kIn J (PySem.typeIs_none s) hsub PySem.F.slot_NoneType_eq (dec_call PySem.F.slot_NoneType_eq PySem.F.entry_NoneType_eq (PySem.F.args_NoneType_eq_2 _ _) (PySem.typeIs_none s) (fun Q h => by wp_walk; exact h)) hs hf hu fin
  | bl k =>
    cases (show v = Value.bool k from rx)
    exact richEqR_K I.kIn J (PySem.typeIs_bool s k) hsub PySem.F.slot_bool_eq (dec_call PySem.F.slot_bool_eq PySem.F.entry_int_eq (PySem.F.args_int_eq_2 _ _) (PySem.typeIs_bool s k) (fun Q h => boolEq_K J.at_ h)) hs hf hu fin
  | int i =>
    obtain ⟨t, rfl⟩ := (show ∃ t, v = Value.int i t from rx)
    exact richEqR_K I.kIn J (PySem.typeIs_int s i t) hsub PySem.F.slot_int_eq (dec_call PySem.F.slot_int_eq PySem.F.entry_int_eq (PySem.F.args_int_eq_2 _ _) (PySem.typeIs_int s i t) (fun Q h => intEq_K J.at_ h)) hs hf hu fin
  | str z =>
    obtain ⟨t, rfl⟩ := (show ∃ t, v = Value.str z t from rx)
    exact richEqR_K I.kIn J (PySem.typeIs_str s z t) hsub PySem.F.slot_str_eq (dec_call PySem.F.slot_str_eq PySem.F.entry_str_eq (PySem.F.args_str_eq_2 _ _) (PySem.typeIs_str s z t) (fun Q h => strEq_K J.at_ h)) hs hf hu fin
  | @lst a xs h =>
    cases (show v = Value.ref a from rx)
    obtain ⟨its, rv, p, _⟩ := I.list h
    exact richEqR_K I.kIn J p.isList.typeIs hsub PySem.F.slot_list_eq (dec_call PySem.F.slot_list_eq PySem.F.entry_list_eq (PySem.F.args_list_eq_2 _ _) p.isList.typeIs (fun Q h => listEq_K I.kIn J hsub h)) hs hf hu fin
  | @tup a xs h =>
    cases (show v = Value.ref a from rx)
    obtain ⟨its, rv, p, _⟩ := I.tuple h
    exact richEqR_K I.kIn J p.typeIs hsub PySem.F.slot_tuple_eq (dec_call PySem.F.slot_tuple_eq PySem.F.entry_tuple_eq (PySem.F.args_tuple_eq_2 _ _) p.typeIs (fun Q h => tupleEq_K I.kIn J hsub h)) hs hf hu fin
/-- x != y of one own class with its own == -/
def rNeO (C : Addr) (sp : Sp) (E : XK) : R2 := fun x y H Q => ∃ a b dx dy fs gs, x = .ref a ∧ y = .ref b ∧ H a = some (.ins C dx fs) ∧ H b = some (.ins C dy gs) ∧ sp [.ref a, .ref b] H (fun z H' => ∃ k, z = .bl k ∧ Q (.bl (!k)) H') E
theorem op_neO {CX : CXT} {C f : Addr} {fd : FuncData} {ps : List Str} {sp : Sp} {E : XK} (F : FnOk X.prog X.w X.K X.mg X.base CX n f fd ps sp)
    (hn : PySem.W.findIn X.K (.ref C) "__ne__" = some (some (.builtin "object.__ne__"))) (hob : PySem.W.subIn X.K (.ref C) (.type "object") = some true)
    (hs : PySem.W.findIn X.K (.ref C) "__eq__" = some (some (.ref f))) (hf : PySem.W.isFn X.K (.ref f) = true) (hb : Binds X.K fd ps []) (hx : Passes CX X E) (hr : Room (n + 1) X.A) : OpR X (compareOp .NotEq) (rNeO C sp E) := by
  intro pins s σ H x y v u Q I rx ry hq
  obtain ⟨a, b, dx, dy, fs, gs, rfl, rfl, ha, hb', hsp⟩ := hq
  show wpAny (model X.prog X.w) X.A (richCompare .NotEq v u) (EP X pins σ Q) X.xe s
  cases (show v = Value.ref a from rx)
  cases (show u = Value.ref b from ry)
  obtain ⟨mA, J, _⟩ := ins_get I.hok ha
  obtain ⟨od, J, _⟩ := J.look
  obtain ⟨mB, J', _⟩ := ins_get I.hok hb'
  obtain ⟨od', J', _⟩ := J'.look
  have hu : X.A.units + 1 < cLine := hr.in1.units0
  refine richNe_K I.kIn J J'.type hn hob hs hf hu ?_
  refine run F hb hx (Sub.in1 ⟨hr, rfl⟩) I ry hsp fun z H' w s' I' rz hz => ?_
  obtain ⟨k, rfl, q⟩ := hz
  cases rz
  exact ⟨k, rfl, .bl (!k), H', I', rfl, q⟩
end
end OwnE
/-! ### zip of what are lists or tuples, each for itself -/
namespace ZipG
open PySem PySem.Spec PyProof.Rows L2
abbrev SqV := @PairW.SqV
def PrZ (t1 t2 : Bool) (K : PySem.W.Frag) (a b : Addr) : PairW.Prs where
  go := fun i H => ∃ xs ys : List V, SqV t1 K H a xs ∧ SqV t2 K H b ys ∧ i < min xs.length ys.length
  are := fun i H x y => (∀ xs, SqV t1 K H a xs → xs[i]? = some x) ∧ ∀ ys, SqV t2 K H b ys → ys[i]? = some y
  stop := fun i H => ∃ xs ys : List V, SqV t1 K H a xs ∧ SqV t2 K H b ys ∧ i = min xs.length ys.length
def TnZ (t1 t2 : Bool) (a b z TI TO i1 i2 : Addr) (i : Nat) (h : Heap) : Prop :=
  IsZip h z TI TO .none ∧ IsTupOf2 h TI (.ref i1) (.ref i2) ∧ (∃ x y, IsTupOf2 h TO x y) ∧ PairW.ItB t1 h i1 a i ∧ PairW.ItB t2 h i2 b i
theorem turn_z {P : Program} {w : World} {K : PySem.W.Frag} {elts : List Expr} {kk : Nat} {tpos : Pos} {t1 t2 : Bool} {a b z TI TO i1 i2 : Addr} (S : ZipSep2 z TI TO i1 i2 [i1, a] [i2, b]) (ha : a ≠ i1) (hb : b ≠ i2) :
    Turn P w K (.Tuple elts kk tpos) (PrZ t1 t2 K a b).it [z, TI, TO, i1, i2] z (TnZ t1 t2 a b z TI TO i1 i2) := by
  refine PairW.turn_prs (wr := [z, TO, i1, i2]) _ (by simp) (fun c m => ?_) (fun i h st c m => ?_) (fun i h h' st k => ?_) (fun A i s Q E st q => wpAny_pyIter_zip st.1 q) fun X e1 e2 e3 calm i pins s σ H I st told => ?_
  · simp only [List.mem_cons, List.not_mem_nil, or_false] at m ⊢
    rcases m with q | q | q | q <;> simp [q]
  · obtain ⟨hz, hI, ⟨x, y, hO⟩, g1, g2⟩ := st
    simp only [List.mem_cons, List.not_mem_nil, or_false] at m
    rcases m with q | q | q | q | q <;> subst q
    · exact ⟨_, hz, fun _ q => nomatch q⟩
    · exact ⟨_, hI, fun _ q => nomatch q⟩
    · exact ⟨_, hO, fun _ q => nomatch q⟩
    · exact g1.obj
    · exact g2.obj
  · obtain ⟨hz, hI, ⟨x, y, hO⟩, g1, g2⟩ := st
    exact ⟨k _ (by simp) _ hz, k _ (by simp) _ hI, ⟨x, y, k _ (by simp) _ hO⟩, g1.at fun o => k _ (by simp) o, g2.at fun o => k _ (by simp) o⟩
  · subst e1 e2 e3
    obtain ⟨xs, ys, hx, hy⟩ : ∃ xs ys : List V, SqV t1 X.K H a xs ∧ SqV t2 X.K H b ys := told.elim (fun ⟨xs, ys, p, q, _⟩ => ⟨xs, ys, p, q⟩) fun ⟨xs, ys, p, q, _⟩ => ⟨xs, ys, p, q⟩
    obtain ⟨its1, r1, th1⟩ := PairW.sqv_get I hx
    obtain ⟨its2, r2, th2⟩ := PairW.sqv_get I hy
    have many : min xs.length ys.length = min its1.toArray.size its2.toArray.size := by simp only [List.size_toArray]; rw [r1.length, r2.length]
    obtain ⟨hz, hI, hO, g1, g2⟩ := st
    have D1 := PairW.draws (prog := X.prog) (w := X.w) (A := X.A.in1) (I.ok.hd calm) t1 ha its1.toArray
    have D2 := PairW.draws (prog := X.prog) (w := X.w) (A := X.A.in1) (I.ok.hd calm) t2 hb its2.toArray
    refine ⟨_, _, _, _, GoesN.zip2 S D1 D2, ⟨hz, hI, hO, ⟨g1, th1⟩, ⟨g2, th2⟩⟩, fun h ⟨n1, n2, n3, n4, n5⟩ => ⟨n1, n2, n3, n4.1, n5.1⟩, ?_, ?_⟩
    · rintro ⟨xs', ys', p, q, n⟩
      rw [n, PairW.sqv_inj I p hx, PairW.sqv_inj I q hy, many]
    · rintro ⟨xs', ys', p, q, n⟩
      rw [PairW.sqv_inj I p hx, PairW.sqv_inj I q hy] at n
      refine ⟨many ▸ n, ?_⟩
      rintro h0 v h ⟨T, u1, u2, rfl, new, hu1, hu2, tup⟩
      have l1 : i < xs.length := by omega
      have l2 : i < ys.length := by omega
      obtain ⟨w1, hw1, rr1⟩ := r1.get (List.getElem?_eq_getElem l1)
      obtain ⟨w2, hw2, rr2⟩ := r2.get (List.getElem?_eq_getElem l2)
      have s1 : w1 = u1 := Option.some.inj (hw1.symm.trans (by simpa using hu1))
      have s2 : w2 = u2 := Option.some.inj (hw2.symm.trans (by simpa using hu2))
      exact ⟨T, u1, u2, xs[i], ys[i], rfl, new, tup, s1 ▸ rr1, s2 ▸ rr2, fun zs hz => by rw [PairW.sqv_inj I hz hx]; exact List.getElem?_eq_getElem l1, fun zs hz => by rw [PairW.sqv_inj I hz hy]; exact List.getElem?_eq_getElem l2⟩
def iZipG (K : PySem.W.Frag) (ta : TA) : TI := fun σ H R => ta σ H fun vs H1 => ∃ a b xs ys, vs = [.ref a, .ref b] ∧ ∃ (t1 t2 : Bool), SqV t1 K H1 a xs ∧ SqV t2 K H1 b ys ∧ R (PrZ t1 t2 K a b).it H1
theorem pi_zipG {X : Cx} {e e2 : Expr} {ta : TA} {p pos tpos : Pos} {elts : List Expr} {kk : Nat} (hg : Gl X "zip") (hm : X.mg "zip" = none) (ha : PA X [e, e2] ta)
    (hs : (starEach [e, e2] X.env = (false, eval e X.env) :: starEach [e2] X.env) := by rfl) (hpl : (backTo pos (starEach [e2] X.env)).any (·.1) = false := by rfl) :
    PI X (.Tuple elts kk tpos) (.Call (.Name "zip" p) [e, e2] [] pos) (iZipG X.K ta) where
  run := fun pins s σ H R I h => Call_ (ld_blt I hg hm PyProof.Rows.boot_zip (PyProof.Rows.callWith_type1 (thn (ha.run pos pins s σ H _ I h) fun us s1 ⟨vs, H1, I1, rv, a, b, xs, ys, ev, t1, t2, hx, hy, q⟩ => by
    subst ev
    obtain ⟨_, _, rfl, ru1, ru2⟩ := vals2 rv
    cases ru1
    cases ru2
    obtain ⟨its1, _, th1⟩ := PairW.sqv_get I1 hx
    obtain ⟨its2, _, th2⟩ := PairW.sqv_get I1 hy
    have below : ∀ {c d : Addr}, c < s1.heap.objs.size → d ∈ [c] → d < s1.heap.objs.size := fun l m => List.mem_singleton.mp m ▸ l
    refine zip_begins2 (PairW.begins t1 a its1.toArray) (PairW.begins t2 b its2.toArray) th1 th2 fun h' hz hI hO h1 h2 _ old => wpAny_pyIter_zip hz ?_
    refine PairW.begun I1 old (turn_z (zip_sep2 (fp1 := [a]) (fp2 := [b]) (fun _ => below th1.lt) fun _ => below th2.lt) (Nat.ne_of_lt th1.lt) (Nat.ne_of_lt (Nat.lt_succ_of_lt th2.lt))) ⟨hz, hI, ⟨_, _, hO⟩, PairW.itO_is h1, PairW.itO_is h2⟩ (fun c m => ?_) q
    simp only [List.mem_cons, List.not_mem_nil, or_false] at m
    rcases m with z | z | z | z | z <;> subst z <;> omega) hs hpl))
theorem walk_zipG {t1 t2 : Bool} {K : PySem.W.Frag} {a b : Addr} {xs ys : List V} {n : Nat} (hn : n = min xs.length ys.length) : Walk (PrZ t1 t2 K a b).it n (fun H => SqV t1 K H a xs ∧ SqV t2 K H b ys) (YPair (fun i => xs[i]?) (fun i => ys[i]?)) where
  goes := fun i H lt ⟨p, q⟩ => ⟨xs, ys, p, q, hn ▸ lt⟩
  stops := fun H ⟨p, q⟩ => ⟨xs, ys, p, q, hn⟩
  yields := fun i H v H' _ ⟨p, q⟩ ⟨T, x, y, e1, e2, e3, e4, e5⟩ => ⟨T, x, y, e1, e2, e3, e4 xs p, e5 ys q⟩
end ZipG
/-! ### zip of two sequences, each pair kept whole (one name takes it): the pair given out before may be there still, or be gone -/
namespace ZipW
open PySem PySem.Spec PyProof.Rows L2
/-- a zip of two, with the pair that it gave out last (nothing, or a number), and whether that was seen alive -/
def Zp (h : Heap) (z TI TO : Addr) (own fl : Value) : Prop := h.get? z = some { cls := .type "zip", dict := none, data := .fields #[own, fl, .bool false, .ref TI, .ref TO], slots := #[] }
/-- what it gave out: nothing yet, or the cell T -/
def Gave (own : Value) : Prop := own = .none ∨ ∃ T : Addr, own = rawInt T
section
variable {prog : Program} {w : World} {A : Around} {E : Value → Shared → Prop} {z TI TO i1 i2 : Addr} {fp1 fp2 : List Addr} {n1 n2 : Nat} {P1 P2 : Nat → Value → Prop} {St1 St2 : Nat → Heap → Prop}
theorem Zp.put {s : Shared} {own fl x : Value} {k : Nat} {Q : Unit → Shared → Prop} (hz : Zp s.heap z TI TO own fl) (hk : k < 5)
    (q : ∀ h', h'.get? z = some { cls := .type "zip", dict := none, data := .fields ((#[own, fl, .bool false, .ref TI, .ref TO] : Array Value).setIfInBounds k x), slots := #[] } → Heap.SameBut z s.heap h' → Q () { s with heap := h' }) : wpAny (model prog w) A (setField (.ref z) k x) Q E s :=
  wpAny_setField_rec hz hk q
theorem Zp.look {s : Shared} {own fl x : Value} {k : Nat} {Q : Value → Shared → Prop} (hz : Zp s.heap z TI TO own fl) (e : (#[own, fl, .bool false, .ref TI, .ref TO] : Array Value)[k]? = some x) (q : Q x s) : wpAny (model prog w) A (field (.ref z) k) Q E s :=
  wpAny_field hz rfl e q
/-- is the pair of its own free: yes, or no and that is noted -/
theorem is_free {s : Shared} {own : Value} {f : Bool} {Q : Bool → Shared → Prop} (hz : Zp s.heap z TI TO own (.bool f)) (g : Gave own)
    (yes : Q true s) (no : ∀ h', Zp h' z TI TO own (.bool true) → Heap.SameBut z s.heap h' → Q false { s with heap := h' }) : wpAny (model prog w) A (Builtin.SmallTypes.ownedTupleIsFree (.ref z)) Q E s := by
  rcases g with rfl | ⟨T, rfl⟩ <;> unfold Builtin.SmallTypes.ownedTupleIsFree
  · exact wpAny_bind (hz.look (k := 0) rfl (wpAny_pure yes))
  refine wpAny_bind (hz.look (k := 0) rfl ?_)
  change wpAny _ _ (loadIfAlive ((T : Int).toNat) >>= _) _ _ s
  rw [Int.toNat_natCast]
  have look : ∀ (Q' : Option Obj → Shared → Prop), Q' (s.heap.get? T) s → wpAny (model prog w) A (loadIfAlive T) Q' E s := fun Q' q _ _ _ => q
  refine wpAny_bind (look _ ?_)
  cases s.heap.get? T with
  | none => exact wpAny_pure yes
  | some o =>
    refine wpAny_bind (hz.look (k := 1) rfl ?_)
    cases f with
    | true => exact wpAny_pure (no s.heap hz (Heap.SameBut.refl _ _))
    | false => exact wpAny_bind (hz.put (by decide) fun h' hz' hs => wpAny_pure (no h' hz' hs))
/-- whatever is not of the zip stays -/
def Left (z TO i1 i2 : Addr) (h h' : Heap) : Prop := ∀ c o, c ≠ z → c ≠ TO → c ≠ i1 → c ≠ i2 → h.get? c = some o → h'.get? c = some o
/-- amid a turn that began at h0 -/
structure At (z TI TO i1 i2 : Addr) (St1 St2 : Nat → Heap → Prop) (h0 : Heap) (own fl a1 a2 : Value) (i j : Nat) (h : Heap) : Prop where
  zp : Zp h z TI TO own fl
  ins : IsTupOf2 h TI (.ref i1) (.ref i2)
  out : IsTupOf2 h TO a1 a2
  one : St1 i h
  two : St2 j h
  left : Left z TO i1 i2 h0 h
  size : h.objs.size = h0.objs.size
section
variable {own fl a1 a2 : Value} {i j : Nat} {h0 h h' : Heap} (S : ZipSep2 z TI TO i1 i2 fp1 fp2) (D1 : Draws prog w A i1 fp1 n1 P1 St1) (D2 : Draws prog w A i2 fp2 n2 P2 St2)
include S D1 D2
theorem At.atZ {own' fl' : Value} (a : At z TI TO i1 i2 St1 St2 h0 own fl a1 a2 i j h) (hs : Heap.SameBut z h h') (hz : Zp h' z TI TO own' fl') : At z TI TO i1 i2 St1 St2 h0 own' fl' a1 a2 i j h' where
  zp := hz
  ins := hs.extBut _ _ S.TIz a.ins
  out := hs.extBut _ _ S.TOz a.out
  one := D1.over a.one hs S.zf1
  two := D2.over a.two hs S.zf2
  left := fun c o p q r t e => hs.extBut _ _ p (a.left c o p q r t e)
  size := hs.1.trans a.size
theorem At.at1 (a : At z TI TO i1 i2 St1 St2 h0 own fl a1 a2 i j h) (hs : Heap.SameBut i1 h h') (st : St1 (i + 1) h') : At z TI TO i1 i2 St1 St2 h0 own fl a1 a2 (i + 1) j h' where
  zp := hs.extBut _ _ S.zi1 a.zp
  ins := hs.extBut _ _ S.TIi1 a.ins
  out := hs.extBut _ _ S.Ti1 a.out
  one := st
  two := D2.over a.two hs S.sep1_2
  left := fun c o p q r t e => hs.extBut _ _ r (a.left c o p q r t e)
  size := hs.1.trans a.size
theorem At.at2 (a : At z TI TO i1 i2 St1 St2 h0 own fl a1 a2 i j h) (hs : Heap.SameBut i2 h h') (st : St2 (j + 1) h') : At z TI TO i1 i2 St1 St2 h0 own fl a1 a2 i (j + 1) h' where
  zp := hs.extBut _ _ S.zi2 a.zp
  ins := hs.extBut _ _ S.TIi2 a.ins
  out := hs.extBut _ _ S.Ti2 a.out
  one := D1.over a.one hs S.sep2_1
  two := st
  left := fun c o p q r t e => hs.extBut _ _ t (a.left c o p q r t e)
  size := hs.1.trans a.size
theorem At.atO {b1 b2 : Value} (a : At z TI TO i1 i2 St1 St2 h0 own fl a1 a2 i j h) (hs : Heap.SameBut TO h h') (hT : IsTupOf2 h' TO b1 b2) : At z TI TO i1 i2 St1 St2 h0 own fl b1 b2 i j h' where
  zp := hs.extBut _ _ S.TOz.symm a.zp
  ins := hs.extBut _ _ S.TITO a.ins
  out := hT
  one := D1.over a.one hs S.Tf1
  two := D2.over a.two hs S.Tf2
  left := fun c o p q r t e => hs.extBut _ _ q (a.left c o p q r t e)
  size := hs.1.trans a.size
end
theorem drawn {s : Shared} {it : Addr} {fp : List Addr} {n i : Nat} {Pv : Nat → Value → Prop} {St : Nat → Heap → Prop} {Q : Value → Shared → Prop} (D : Draws prog w A it fp n Pv St) (le : i ≤ n) (st : St i s.heap)
    (got : i < n → ∀ x h' tk, Pv i x → St (i + 1) h' → Heap.SameBut it s.heap h' → Q x { s with heap := h', toks := tk })
    (ends : i = n → ∀ h' e, Heap.ExtBut it s.heap h' → (∃ o, h'.get? e = some o ∧ o.cls = .type "StopIteration") → E (.ref e) { s with heap := h' }) : wpAny (model prog w) A (Builtin.SmallTypes.nextOf (.ref it)) Q E s := by
  rcases Nat.lt_or_eq_of_le le with lt | eq
  · exact D.item i s Q E lt st fun x h' tk p st' hs => got lt x h' tk p st' hs
  · subst eq
    exact D.done s Q E st (ends rfl)
/-- where it stands between two turns -/
def Std (z TI TO i1 i2 : Addr) (St1 St2 : Nat → Heap → Prop) (i : Nat) (h : Heap) : Prop :=
  (∃ own f, Gave own ∧ Zp h z TI TO own (.bool f)) ∧ IsTupOf2 h TI (.ref i1) (.ref i2) ∧ (∃ x y, IsTupOf2 h TO x y) ∧ St1 i h ∧ St2 i h
/-- one turn -/
theorem turn_of {s : Shared} {i : Nat} {Q : Fin → Shared → Prop} (S : ZipSep2 z TI TO i1 i2 fp1 fp2) (D1 : Draws prog w A i1 fp1 n1 P1 St1) (D2 : Draws prog w A i2 fp2 n2 P2 St2) (st : Std z TI TO i1 i2 St1 St2 i s.heap) (h1 : i ≤ n1) (h2 : i ≤ n2)
    (more : i < n1 → i < n2 → ∀ x y h' tk, P1 i x → P2 i y → Std z TI TO i1 i2 St1 St2 (i + 1) h' → IsTupOf2 h' s.heap.objs.size x y → Left z TO i1 i2 s.heap h' → Q (.done (.ret (.ref s.heap.objs.size))) { s with heap := h', toks := tk })
    (last : (i = n1 ∨ i = n2) → ∀ h' tk e, Left z TO i1 i2 s.heap h' → (∃ o, h'.get? e = some o ∧ o.cls = .type "StopIteration") → E (.ref e) { s with heap := h', toks := tk }) :
    wpAny (model prog w) A (Builtin.«zip.__next__» ⟨[.ref z], []⟩) Q E s := by
  obtain ⟨hp, gl, dr, tk0, os⟩ := s
  obtain ⟨⟨own, f, gv, hz⟩, hI, ⟨a1, a2, hO⟩, st1, st2⟩ := st
  have began : ∀ fl, Zp hp z TI TO own fl → At z TI TO i1 i2 St1 St2 hp own fl a1 a2 i i hp := fun fl hz => ⟨hz, hI, hO, st1, st2, fun _ _ _ _ _ _ e => e, rfl⟩
  refine wpAny_bind (m := field (.ref z) 2) (hz.look (k := 2) rfl (wpAny_bind (m := field (.ref z) 3) (hz.look (k := 3) rfl (wpAny_bind (wpAny_seqItems hI rfl (wpAny_bind (m := Builtin.SmallTypes.ownedTupleIsFree (.ref z)) (is_free hz gv ?_ fun h0 hz0 hs0 => ?_)))))))
  · simp only [if_true]
    refine wpAny_bind (wpAny_rule (wpAny_bind (hz.look (k := 4) rfl (wpAny_bind (hz.put (by decide) fun g0 hz0 hs0 => ?_)))))
    have c0 := (began _ hz).atZ S D1 D2 (own' := .ellipsis) hs0 hz0
    refine wpAny_bind ?_
    simp only [List.zipIdx_cons, List.zipIdx_nil, List.forIn_cons, List.forIn_nil]
    refine wpAny_bind (wpAny_bind (wpAny_onRaise ?_))
    show wpAny _ _ (Builtin.SmallTypes.nextOf (.ref i1) >>= _) _ _ ⟨g0, gl, dr, tk0, os⟩
    refine wpAny_bind (drawn D1 h1 c0.one (fun lt1 x p1 tk1 hx t1 e1 => wpAny_pure ?_) fun eq p1 e e1 stop => ?_)
    rotate_left
    · obtain ⟨oe, he, hc⟩ := stop
      have zq : Zp p1 z TI TO .ellipsis (.bool f) := e1 _ _ S.zi1 c0.zp
      exact zq.put (s := ⟨p1, gl, dr, tk0, os⟩) (by decide) fun p2 _ e2 => last (.inl eq) p2 tk0 e (fun c o a b d g l => e2.extBut _ _ a (e1 c o d (c0.left c o a b d g l))) ⟨oe, e2.extBut _ _ (fun q => by rw [q] at he; have := he.symm.trans zq; cases this; simp at hc) he, hc⟩
    have c1 := c0.at1 S D1 D2 e1 t1
    refine wpAny_bind (wpAny_seqItems (s := ⟨p1, gl, dr, tk1, os⟩) c1.out rfl (wpAny_bind (updateSeq_IsTupOf2 (s := ⟨p1, gl, dr, tk1, os⟩) c1.out fun q1 o1 u1 => wpAny_bind (wpAny_letGo (wpAny_pure (wpAny_bind (wpAny_bind (wpAny_onRaise ?_))))))))
    have d1 := c1.atO S D1 D2 u1 (b1 := x) (b2 := a2) o1
    show wpAny _ _ (Builtin.SmallTypes.nextOf (.ref i2) >>= _) _ _ ⟨q1, gl, dr, tk1, os⟩
    refine wpAny_bind (drawn D2 h2 d1.two (fun lt2 y p2 tk2 hy t2 e2 => wpAny_pure ?_) fun eq p2 e e2 stop => ?_)
    rotate_left
    · obtain ⟨oe, he, hc⟩ := stop
      have zq : Zp p2 z TI TO .ellipsis (.bool f) := e2 _ _ S.zi2 d1.zp
      exact zq.put (s := ⟨p2, gl, dr, tk1, os⟩) (by decide) fun p3 _ e3 => last (.inr eq) p3 tk1 e (fun c o a b d g l => e3.extBut _ _ a (e2 c o g (d1.left c o a b d g l))) ⟨oe, e3.extBut _ _ (fun q => by rw [q] at he; have := he.symm.trans zq; cases this; simp at hc) he, hc⟩
    have c2 := d1.at2 S D1 D2 e2 t2
    refine wpAny_bind (wpAny_seqItems (s := ⟨p2, gl, dr, tk2, os⟩) c2.out rfl (wpAny_bind (updateSeq_IsTupOf2 (s := ⟨p2, gl, dr, tk2, os⟩) c2.out fun q2 o2 u2 => wpAny_bind (wpAny_letGo (wpAny_pure (wpAny_pure ?_))))))
    have d2 := c2.atO S D1 D2 u2 (b1 := x) (b2 := y) o2
    refine wpAny_bind (wpAny_seqItems (s := ⟨q2, gl, dr, tk2, os⟩) d2.out rfl (wpAny_bind (wpAny_newTuple ?_)))
    have up : ∀ c o, q2.get? c = some o → (q2.push { cls := .type "tuple", data := .seq #[x, y] }).get? c = some o := fun c o e => Heap.get?_push_of_some _ e
    have zlt : z < q2.objs.size := Heap.lt_size d2.zp
    show wpAny _ _ (Builtin.SmallTypes.ownedTupleHandOut (.ref z) (.ref q2.objs.size) >>= _) _ _ ⟨q2.push { cls := .type "tuple", data := .seq #[x, y] }, gl, dr, tk2, os⟩
    unfold Builtin.SmallTypes.ownedTupleHandOut
    refine wpAny_bind (wpAny_bind (Zp.put (s := ⟨_, gl, dr, tk2, os⟩) (up _ _ d2.zp) (by decide) fun r1 z1 v1 => Zp.put (s := ⟨r1, gl, dr, tk2, os⟩) z1 (by decide) fun r2 z2 v2 => wpAny_pure ?_))
    have on : ∀ c o, c ≠ z → q2.get? c = some o → r2.get? c = some o := fun c o n e => v2.extBut _ _ n (v1.extBut _ _ n (up _ _ e))
    have mine : IsTupOf2 r2 q2.objs.size x y := v2.extBut _ _ (Nat.ne_of_gt zlt) (v1.extBut _ _ (Nat.ne_of_gt zlt) (Heap.get?_push_size _ rfl))
    show Q (.done (.ret (.ref q2.objs.size))) _
    rw [d2.size] at mine z2 ⊢
    exact more lt1 lt2 x y r2 tk2 hx hy ⟨⟨_, false, .inr ⟨_, rfl⟩, z2⟩, on _ _ S.TIz d2.ins, ⟨_, _, on _ _ S.TOz d2.out⟩, D1.frame _ _ _ d2.one fun b m o e => on b o (fun q => S.zf1 (q ▸ m)) e, D2.frame _ _ _ d2.two fun b m o e => on b o (fun q => S.zf2 (q ▸ m)) e⟩ mine fun c o a b d g l => on c o a (d2.left c o a b d g l)
  · simp only [Bool.false_eq_true, if_false]
    have c0 := (began _ hz).atZ S D1 D2 hs0 hz0
    refine wpAny_bind ?_
    rw [← Array.forIn_toList]
    simp only [List.forIn_cons, List.forIn_nil]
    refine wpAny_bind (wpAny_bind (wpAny_holding ?_))
    show wpAny _ _ (Builtin.SmallTypes.nextOf (.ref i1) >>= _) _ _ ⟨h0, gl, dr, tk0, os⟩
    refine wpAny_bind (drawn D1 h1 c0.one (fun lt1 x p1 tk1 hx t1 e1 => wpAny_pure (wpAny_pure (wpAny_bind (wpAny_bind (wpAny_holding ?_))))) fun eq p1 e e1 stop => last (.inl eq) p1 tk0 e (fun c o a b d g l => e1 c o d (c0.left c o a b d g l)) stop)
    have c1 := c0.at1 S D1 D2 e1 t1
    show wpAny _ _ (Builtin.SmallTypes.nextOf (.ref i2) >>= _) _ _ ⟨p1, gl, dr, tk1, os⟩
    refine wpAny_bind (drawn D2 h2 c1.two (fun lt2 y p2 tk2 hy t2 e2 => wpAny_pure (wpAny_pure (wpAny_pure ?_))) fun eq p2 e e2 stop => last (.inr eq) p2 tk1 e (fun c o a b d g l => e2 c o g (c1.left c o a b d g l)) stop)
    have c2 := c1.at2 S D1 D2 e2 t2
    show wpAny _ _ (newTuple [x, y] >>= _) _ _ ⟨p2, gl, dr, tk2, os⟩
    refine wpAny_bind (wpAny_newTuple (wpAny_pure ?_))
    have up : ∀ c o, p2.get? c = some o → (p2.push { cls := .type "tuple", data := .seq #[x, y] }).get? c = some o := fun c o e => Heap.get?_push_of_some _ e
    show Q (.done (.ret (.ref p2.objs.size))) _
    rw [c2.size]
    exact more lt1 lt2 x y _ tk2 hx hy ⟨⟨own, true, gv, up _ _ c2.zp⟩, up _ _ c2.ins, ⟨_, _, up _ _ c2.out⟩, D1.frame _ _ _ c2.one fun b _ o e => up b o e, D2.frame _ _ _ c2.two fun b _ o e => up b o e⟩ (c2.size ▸ Heap.get?_push_size _ rfl) fun c o a b d g l => up c o (c2.left c o a b d g l)
theorem left_of {h h' : Heap} (l : Left z TO i1 i2 h h') : ∀ b o, b ∉ [z, TO, i1, i2] → h.get? b = some o → h'.get? b = some o := fun b o m e => l b o (fun q => m (by simp [q])) (fun q => m (by simp [q])) (fun q => m (by simp [q])) (fun q => m (by simp [q])) e
/-- zip of two whose pairs one name takes -/
theorem goes {x : Str} {pos : Pos} (S : ZipSep2 z TI TO i1 i2 fp1 fp2) (D1 : Draws prog w A.in1 i1 fp1 n1 P1 St1) (D2 : Draws prog w A.in1 i2 fp2 n2 P2 St2) :
    GoesN prog w A (.Name x pos) z (z :: TI :: TO :: (fp1 ++ fp2)) [z, TO, i1, i2] (min n1 n2) (fun i h₀ v h => ∃ T x y, v = .ref T ∧ h₀.objs.size ≤ T ∧ P1 i x ∧ P2 i y ∧ h.IsTuple T #[x, y]) (Std z TI TO i1 i2 St1 St2) where
  sub := fun c m => by
    have := S.mem1
    have := S.mem2
    simp only [List.mem_cons, List.not_mem_nil, or_false] at m
    rcases m with rfl | rfl | rfl | rfl <;> simp [*]
  frame := fun i h h' st k => by
    obtain ⟨⟨own, f, g, hz⟩, hI, ⟨a, b, hO⟩, s1, s2⟩ := st
    exact ⟨⟨own, f, g, k _ (by simp) _ hz⟩, k _ (by simp) _ hI, ⟨a, b, k _ (by simp) _ hO⟩, D1.frame _ _ _ s1 fun c m => k c (by simp [m]), D2.frame _ _ _ s2 fun c m => k c (by simp [m])⟩
  goes := fun i s Q E lt st q => by
    obtain ⟨own, f, _, hz⟩ := st.1
    have is : s.TypeIs (.ref z) "zip" := ⟨_, hz, rfl⟩
    refine wpAny_with_toks (n := s.toks) (Nat.le_refl _) ?_
    unfold pyNext
    refine wpAny_bind (wpAny_attempt (wpAny_callSpecial?_slot (name := Str.ofString "__next__") is F.slot_zip_next (wpAny_call_entry F.slot_zip_next is F.entry_zip_next (turn_of S D1 D2 st (by omega) (by omega) (fun _ _ x y h' tk hx hy st' hT l => ?_) fun e => absurd e (by omega)) (F.args_zip_next_1 _))))
    refine ⟨_, rfl, wpAny_pure ?_⟩
    exact fun le => ⟨_, rfl, wpAny_pure (q _ h' tk ⟨_, x, y, rfl, Nat.le_refl _, hx, hy, ⟨_, hT, rfl, _, rfl⟩⟩ st' (left_of l) le)⟩
  stops := fun s Q E st q => by
    obtain ⟨own, f, _, hz⟩ := st.1
    have is : s.TypeIs (.ref z) "zip" := ⟨_, hz, rfl⟩
    refine wpAny_with_toks (n := s.toks) (Nat.le_refl _) ?_
    unfold pyNext
    refine wpAny_bind (wpAny_attempt (wpAny_callSpecial?_slot (name := Str.ofString "__next__") is F.slot_zip_next (wpAny_call_entry F.slot_zip_next is F.entry_zip_next (turn_of S D1 D2 st (by omega) (by omega) (fun a b => absurd a (by omega)) fun _ h' tk e l stop => ?_) (F.args_zip_next_1 _))))
    obtain ⟨o, ho, hc⟩ := stop
    refine wpAny_bind (wpAny_isInstance (T := "StopIteration") (b := true) ⟨o, ho, hc⟩ isSubtype_stop ?_)
    refine wpAny_pure ?_
    exact fun le => ⟨rfl, q h' tk (left_of l) le⟩
  self := fun i s Q E st q => by
    obtain ⟨own, f, _, hz⟩ := st.1
    have is : s.TypeIs (.ref z) "zip" := ⟨_, hz, rfl⟩
    exact wpAny_pyIter_slot is F.slot_zip_iter (wpAny_call_entry F.slot_zip_iter is F.entry_zip_iter (wpAny_pure ⟨_, rfl, "zip", _, is, F.slot_zip_next.lookup, q⟩) (F.args_zip_iter_1 _))
end
open ZipG in
theorem turn_n {P : Program} {w : World} {K : PySem.W.Frag} {x : Str} {tpos : Pos} {t1 t2 : Bool} {a b z TI TO i1 i2 : Addr} (S : ZipSep2 z TI TO i1 i2 [i1, a] [i2, b]) (ha : a ≠ i1) (hb : b ≠ i2) :
    Turn P w K (.Name x tpos) (PrZ t1 t2 K a b).it [z, TI, TO, i1, i2] z (Std z TI TO i1 i2 (fun i h => PairW.ItB t1 h i1 a i) fun i h => PairW.ItB t2 h i2 b i) := by
  refine PairW.turn_prs (wr := [z, TO, i1, i2]) _ (by simp) (fun c m => ?_) (fun i h st c m => ?_) (fun i h h' st k => ?_) (fun A i s Q E st q => ?_) fun X e1 e2 e3 calm i pins s σ H I st told => ?_
  · simp only [List.mem_cons, List.not_mem_nil, or_false] at m ⊢
    rcases m with q | q | q | q <;> simp [q]
  · obtain ⟨⟨own, f, g, hz⟩, hI, ⟨x, y, hO⟩, g1, g2⟩ := st
    simp only [List.mem_cons, List.not_mem_nil, or_false] at m
    rcases m with q | q | q | q | q <;> subst q
    · exact ⟨_, hz, fun _ q => nomatch q⟩
    · exact ⟨_, hI, fun _ q => nomatch q⟩
    · exact ⟨_, hO, fun _ q => nomatch q⟩
    · exact g1.obj
    · exact g2.obj
  · obtain ⟨⟨own, f, g, hz⟩, hI, ⟨x, y, hO⟩, g1, g2⟩ := st
    exact ⟨⟨own, f, g, k _ (by simp) _ hz⟩, k _ (by simp) _ hI, ⟨x, y, k _ (by simp) _ hO⟩, g1.at fun o => k _ (by simp) o, g2.at fun o => k _ (by simp) o⟩
  · obtain ⟨own, f, _, hz⟩ := st.1
    have is : s.TypeIs (.ref z) "zip" := ⟨_, hz, rfl⟩
    exact wpAny_pyIter_slot is F.slot_zip_iter (wpAny_call_entry F.slot_zip_iter is F.entry_zip_iter (wpAny_pure ⟨_, rfl, "zip", _, is, F.slot_zip_next.lookup, q⟩) (F.args_zip_iter_1 _))
  · subst e1 e2 e3
    obtain ⟨xs, ys, hx, hy⟩ : ∃ xs ys : List V, SqV t1 X.K H a xs ∧ SqV t2 X.K H b ys := told.elim (fun ⟨xs, ys, p, q, _⟩ => ⟨xs, ys, p, q⟩) fun ⟨xs, ys, p, q, _⟩ => ⟨xs, ys, p, q⟩
    obtain ⟨its1, r1, th1⟩ := PairW.sqv_get I hx
    obtain ⟨its2, r2, th2⟩ := PairW.sqv_get I hy
    have many : min xs.length ys.length = min its1.toArray.size its2.toArray.size := by simp only [List.size_toArray]; rw [r1.length, r2.length]
    obtain ⟨hz, hI, hO, g1, g2⟩ := st
    have D1 := PairW.draws (prog := X.prog) (w := X.w) (A := X.A.in1) (I.ok.hd calm) t1 ha its1.toArray
    have D2 := PairW.draws (prog := X.prog) (w := X.w) (A := X.A.in1) (I.ok.hd calm) t2 hb its2.toArray
    refine ⟨_, _, _, _, goes S D1 D2, ⟨hz, hI, hO, ⟨g1, th1⟩, ⟨g2, th2⟩⟩, fun h ⟨n1, n2, n3, n4, n5⟩ => ⟨n1, n2, n3, n4.1, n5.1⟩, ?_, ?_⟩
    · rintro ⟨xs', ys', p, q, n⟩
      rw [n, PairW.sqv_inj I p hx, PairW.sqv_inj I q hy, many]
    · rintro ⟨xs', ys', p, q, n⟩
      rw [PairW.sqv_inj I p hx, PairW.sqv_inj I q hy] at n
      refine ⟨many ▸ n, ?_⟩
      rintro h0 v h ⟨T, u1, u2, rfl, new, hu1, hu2, tup⟩
      have l1 : i < xs.length := by omega
      have l2 : i < ys.length := by omega
      obtain ⟨w1, hw1, rr1⟩ := r1.get (List.getElem?_eq_getElem l1)
      obtain ⟨w2, hw2, rr2⟩ := r2.get (List.getElem?_eq_getElem l2)
      have s1 : w1 = u1 := Option.some.inj (hw1.symm.trans (by simpa using hu1))
      have s2 : w2 = u2 := Option.some.inj (hw2.symm.trans (by simpa using hu2))
      exact ⟨T, u1, u2, xs[i], ys[i], rfl, new, tup, s1 ▸ rr1, s2 ▸ rr2, fun zs hz => by rw [PairW.sqv_inj I hz hx]; exact List.getElem?_eq_getElem l1, fun zs hz => by rw [PairW.sqv_inj I hz hy]; exact List.getElem?_eq_getElem l2⟩
theorem pi_zipN {X : Cx} {e e2 : Expr} {ta : TA} {x : Str} {p pos tpos : Pos} (hg : Gl X "zip") (hm : X.mg "zip" = none) (ha : PA X [e, e2] ta)
    (hs : (starEach [e, e2] X.env = (false, eval e X.env) :: starEach [e2] X.env) := by rfl) (hpl : (backTo pos (starEach [e2] X.env)).any (·.1) = false := by rfl) :
    PI X (.Name x tpos) (.Call (.Name "zip" p) [e, e2] [] pos) (ZipG.iZipG X.K ta) where
  run := fun pins s σ H R I h => Call_ (ld_blt I hg hm PyProof.Rows.boot_zip (PyProof.Rows.callWith_type1 (thn (ha.run pos pins s σ H _ I h) fun us s1 ⟨vs, H1, I1, rv, a, b, xs, ys, ev, t1, t2, hx, hy, q⟩ => by
    subst ev
    obtain ⟨_, _, rfl, ru1, ru2⟩ := vals2 rv
    cases ru1
    cases ru2
    obtain ⟨its1, _, th1⟩ := PairW.sqv_get I1 hx
    obtain ⟨its2, _, th2⟩ := PairW.sqv_get I1 hy
    have below : ∀ {c d : Addr}, c < s1.heap.objs.size → d ∈ [c] → d < s1.heap.objs.size := fun l m => List.mem_singleton.mp m ▸ l
    refine zip_begins2 (PairW.begins t1 a its1.toArray) (PairW.begins t2 b its2.toArray) th1 th2 fun h' hz hI hO h1 h2 _ old => wpAny_pyIter_zip hz ?_
    refine PairW.begun I1 old (turn_n (zip_sep2 (fp1 := [a]) (fp2 := [b]) (fun _ => below th1.lt) fun _ => below th2.lt) (Nat.ne_of_lt th1.lt) (Nat.ne_of_lt (Nat.lt_succ_of_lt th2.lt))) ⟨⟨_, false, .inl rfl, hz⟩, hI, ⟨_, _, hO⟩, PairW.itO_is h1, PairW.itO_is h2⟩ (fun c m => ?_) q
    simp only [List.mem_cons, List.not_mem_nil, or_false] at m
    rcases m with z | z | z | z | z <;> subst z <;> omega) hs hpl))
end ZipW
/-! ### a method that may raise, within a try -/
namespace MethE
open PySem PySem.Spec PyProof.Rows L2
section
variable {X : Cx} {CX : CXT} {k : Nat} {C f : Addr} {fd : FuncData} {ps : List Str} {sp : Sp} {E : L2.St → XK} {o e : Expr} {es : List Expr} {m : Str} {apos pos : Pos} {ta : TE} {t : TA}
/-- the instance first, then the other arguments; what flies is asked at the names as they are -/
def tMethS (C : Addr) (m : Str) (sp : Sp) (E : L2.St → XK) (ta : TE) (t : TA) : TE := fun σ H Q => ta σ H fun x H1 => ∃ a dx fs, x = .ref a ∧ H1 a = some (.ins C dx fs) ∧ fs.lookup m = none ∧ t σ H1 fun vs H2 => sp (x :: vs) H2 Q (E σ)
theorem pe_methS {pl : Sem Bool} (he : PE X o ta) (c : Cls X.K C) (hm : Meth X.K C m f) (G : FnOk X.prog X.w X.K X.mg X.base CX k f fd ps sp) (room : Room k X.A) (hb : Binds X.K fd ps []) (pass : ∀ σ, PassesAt CX X σ (E σ)) (ha : PA X (e :: es) t)
    (hst : starEach (e :: es) X.env = (false, eval e X.env) :: starEach es X.env := by rfl) (hpl : (backTo pos (starEach es X.env)).any (·.1) = false := by rfl)
    (is : eval (.Call (.Attribute o m apos) (e :: es) [] pos) X.env = (eval o X.env >>= fun ov => standAt apos.atName >>= fun _ => holding [ov] (getMethod ov m pl) >>= fun r => callWith pos r.1 r.2 (backTo pos (starEach (e :: es) X.env)) (backToKw pos (keywordEach [] X.env))) := by rfl) :
    PE X (.Call (.Attribute o m apos) (e :: es) [] pos) (tMethS C m sp E ta t) where
  run := fun pins s σ H Q I h => by
    refine PySem.W.methodCall_KW (pl := pl) (thn (he.run pins s σ H _ I h) fun u s1 ⟨x, H1, I1, rx, a, dx, fs, ex, ea, off, q⟩ => ?_) is
    subst ex
    cases (show u = Value.ref a from rx)
    exact getmeth_ok I1 ea c hm off (PySem.W.callWith_K (first := [.ref a]) (h₀ := X.base) I.ok.mod.kin hm.kp (thn (ha.run pos pins s1 σ H1 _ I1 q) fun us s2 ⟨vs, H2, I2, r, q2⟩ => ⟨I2.kIn, run_fnS (us := .ref a :: us) (vs := .ref a :: vs) G room hb (pass σ) I2 (.cons rfl r) q2⟩) hst hpl)
end
end MethE
/-! ### C(..) whose __init__ may raise, within a try -/
namespace MakeS
open PySem PySem.Spec PyProof.Rows L2
section
variable {X : Cx} {CX : CXT} {k : Nat} {C f : Addr} {fd : FuncData} {ps : List Str} {sp : Sp} {E : L2.St → XK} {x : Str} {p pos : Pos} {e : Expr} {es : List Expr} {t : TA}
def tMakeS (C : Addr) (sp : Sp) (E : L2.St → XK) (t : TA) : TE := fun σ H Q => t σ H fun vs H1 => ∀ x dx, H1 x = none → H1 dx = none → dx ≠ x → sp (.ref x :: vs) (upd (upd H1 dx (.own x)) x (.ins C dx [])) (fun v H2 => v = .non ∧ Q (.ref x) H2) (E σ)
theorem pe_makeS (M : Mk X.K C f) (G : FnOk X.prog X.w X.K X.mg X.base CX k f fd ps sp) (room : Room (k + 1) X.A) (hg : Gl X x) (hm : X.mg x = some (.ref C)) (hb : Binds X.K fd ps []) (pass : ∀ σ, PassesAt CX X σ (E σ))
    (ha : PA X (e :: es) t) (hdb : (x == ("__debug__" : Str)) = false := by decide) (he : starEach (e :: es) X.env = (false, eval e X.env) :: starEach es X.env := by rfl) (hpl : (backTo pos (starEach es X.env)).any (·.1) = false := by rfl) : PE X (.Call (.Name x p) (e :: es) [] pos) (tMakeS C sp E t) := ⟨fun pins s σ H Q I ask => by
  refine wpAny_Call_Name_kw (ld_glob I hg hm (PySem.W.callWith_K (h₀ := X.base) I.ok.mod.kin M.kp (thn (ha.run pos pins s σ H _ I ask) fun us g ⟨vs, H1, J, rel, wish⟩ => ⟨J.kIn, ?_⟩) he hpl) hdb)
  have wish1 := wish (g.heap.objs.size + 1) g.heap.objs.size (J.hok.fresh (Nat.le_succ _)) (J.hok.fresh (Nat.le_refl _)) (Nat.ne_of_lt (Nat.lt_succ_self _))
  have made := Inv.made (C := C) J
  have rel1 : Vals (V.ref (g.heap.objs.size + 1) :: vs) (Value.ref (g.heap.objs.size + 1) :: us) := .cons rfl rel
  have bind := hb _ (Value.ref (g.heap.objs.size + 1) :: us) made.kIn (by rw [List.append_nil]; exact rel1.length.symm.trans (G.len _ _ _ _ wish1))
  rw [List.append_nil] at bind
  refine wpAny_call (make_map (f := f) J.kIn M.makes M.init (beq_iff_eq.mp M.fn) (codeAny_mono (G.run _ X.stack _ _ ⟨Value.ref (g.heap.objs.size + 1) :: us, []⟩ _ _ _ (E σ) (room.make C us []) (made.env0.make C us []) bind rel1 wish1) fun r g2 got => ?_))
  match r, got with
  | .error er, got => exact pass σ pins _ _ er g2 made got
  | .ok (.ret u), got =>
    obtain ⟨v, H2, J2, rv, rfl, q⟩ := made.after got
    exact ⟨rv, V.ref (g.heap.objs.size + 1), H2, J2, rfl, q⟩
  | .ok .next, got => exact got.elim
  | .ok .brk, got => exact got.elim
  | .ok .cont, got => exact got.elim⟩
end
end MakeS
namespace Rep01
open PySem PySem.Spec PyProof.Rows L2
/-! ### a tuple of something, taken once or not at all -/
abbrev tupO (its : Array Value) (n : Nat) (dd : Option Addr) (sl : Array (Option Value)) : Obj := { cls := .type "tuple", dict := dd, data := .seq its n, slots := sl }
theorem once {l : Addr} {its : Array Value} {n : Nat} {dd : Option Addr} {sl : Array (Option Value)} {u : Tok} :
    Meets (Builtin.«tuple.__mul__» ⟨[.ref l, .int 1 u], []⟩) (fun _ R s => s.heap.get? l = some (tupO its n dd sl) ∧ R (.ok (.ret (.ref l))) s) :=
  .of_wp fun prog w A R s h => by
    obtain ⟨hl, h⟩ := h
    obtain ⟨hp, g, d, tk, os⟩ := s
    have ix := AutoSeq1.idx_int
    have cy : (its.isEmpty || (1 : Int) == 1) = true := by rw [show ((1 : Int) == 1) = true from rfl, Bool.or_true]
    wp_walk using wpAny_loadPart' hl
    exact ⟨_, rfl, h⟩
theorem never {l : Addr} {its : Array Value} {n : Nat} {dd : Option Addr} {sl : Array (Option Value)} {u : Tok} (he : its.isEmpty = false) :
    Meets (Builtin.«tuple.__mul__» ⟨[.ref l, .int 0 u], []⟩) (fun _ R s => s.heap.get? l = some (tupO its n dd sl) ∧ R (.ok (.ret (.ref s.heap.objs.size))) { s with heap := s.heap.push { cls := .type "tuple", data := .seq #[] }, toks := s.toks }) :=
  .of_wp fun prog w A R s h => by
    obtain ⟨hl, h⟩ := h
    obtain ⟨hp, g, d, tk, os⟩ := s
    have ix := AutoSeq1.idx_int
    wp_walk using wpAny_loadPart' hl
    exact ⟨_, rfl, h⟩
def rTwo (K : PySem.W.Frag) : R2 := fun x y H Q => ∃ (l : Addr) (v : V) (k : Int), x = .ref l ∧ y = .int k ∧ SqT K H l [v] ∧ (k = 1 ∨ k = 0) ∧ (k = 1 → Q (.ref l) H) ∧ (k = 0 → ∀ p, H p = none → Q (.ref p) (upd H p (.tup [])))
theorem op_two {X : Cx} : OpR X (binaryOp .Mult) (rTwo X.K) := by
  intro pins s σ H x y v u Q I rx ry h
  obtain ⟨l, v1, k, rfl, rfl, hT, hk, q1, q0⟩ := h
  cases rx
  obtain ⟨t, rfl⟩ := ry
  obtain ⟨its, r, ⟨⟨cls, dd, data, sl⟩, ho, hc, n, hd⟩, _⟩ := I.tuple hT
  simp only at hc hd
  subst hc hd
  have he : its.toArray.isEmpty = false := by
    cases r with
    | cons _ _ => rfl
  refine wpAny_binaryOp_repeat_ref (T := "tuple") (by decide) ⟨_, ho, rfl⟩ (U := "int") (typeIs_int · k t) noFill_tuple_mul F.fills_int_mul F.slot_int_rmul repeat_tuple F.slot_int_index.lookup ?_
  refine call_meets F.slot_int_rmul (typeIs_int s k t) F.entry_int_rmul (F.args_int_rmul_2 _ _) (int_rmul_tuple k t l _ n dd sl) ⟨ho, rfl, ⟨_, ho, rfl⟩, ?_⟩
  rcases hk with rfl | rfl
  · exact call_meets F.slot_tuple_mul ⟨_, ho, rfl⟩ F.entry_tuple_mul (F.args_tuple_mul_2 _ _) once ⟨ho, .ref l, H, I, rfl, q1 rfl⟩
  · exact call_meets F.slot_tuple_mul ⟨_, ho, rfl⟩ F.entry_tuple_mul (F.args_tuple_mul_2 _ _) (never he) ⟨ho, .ref s.heap.objs.size, _, I.laid (t' := s.toks) (o := .tup []) (fun b ob q => Heap.get?_push_of_some _ q) (Nat.le_refl _) ⟨Nat.zero_le _, _, .nil, IsTup.new _ _⟩, rfl, q0 rfl _ (I.hok.fresh (Nat.le_refl _))⟩
end Rep01
namespace M
open PySem PySem.Spec PyProof.Rows L2
def topS (i : Nat) : Stmt := PySem.Challenge.pw_wayneedle_k19_with_and_without.main.body.getD i (.Pass ⟨0, 0, 0, 0⟩)
abbrev s_is_whole : Stmt := topS 1
theorem sc_is_whole : FnScope ["thing"] ["thing"] (defScope s_is_whole) := ⟨rfl, rfl, rfl, by decide +kernel, rfl, by decide +kernel, by decide +kernel⟩
abbrev s_is_row : Stmt := topS 2
theorem sc_is_row : FnScope ["thing"] ["thing"] (defScope s_is_row) := ⟨rfl, rfl, rfl, by decide +kernel, rfl, by decide +kernel, by decide +kernel⟩
abbrev s_laid_out : Stmt := topS 3
theorem sc_laid_out : FnScope ["thing", "things", "begins", "whole"] ["thing"] (defScope s_laid_out) := ⟨rfl, rfl, rfl, by decide +kernel, rfl, by decide +kernel, by decide +kernel⟩
abbrev s_kept : Stmt := topS 4
theorem sc_kept : FnScope ["thing", "things", "begins", "at", "anew", "whole", "begin", "end"] ["thing"] (defScope s_kept) := ⟨rfl, rfl, rfl, by decide +kernel, rfl, by decide +kernel, by decide +kernel⟩
abbrev s_is_letter : Stmt := topS 16
theorem sc_is_letter : FnScope ["thing"] ["thing"] (defScope s_is_letter) := ⟨rfl, rfl, rfl, by decide +kernel, rfl, by decide +kernel, by decide +kernel⟩
abbrev s_is_short_text : Stmt := topS 23
theorem sc_is_short_text : FnScope ["thing"] ["thing"] (defScope s_is_short_text) := ⟨rfl, rfl, rfl, by decide +kernel, rfl, by decide +kernel, by decide +kernel⟩
abbrev s_are_small : Stmt := topS 24
theorem sc_are_small : FnScope ["text", "letter"] ["text"] (defScope s_are_small) := ⟨rfl, rfl, rfl, by decide +kernel, rfl, by decide +kernel, by decide +kernel⟩
abbrev s_is_name : Stmt := topS 25
theorem sc_is_name : FnScope ["thing"] ["thing"] (defScope s_is_name) := ⟨rfl, rfl, rfl, by decide +kernel, rfl, by decide +kernel, by decide +kernel⟩
abbrev s_is_lone : Stmt := topS 26
theorem sc_is_lone : FnScope ["thing"] ["thing"] (defScope s_is_lone) := ⟨rfl, rfl, rfl, by decide +kernel, rfl, by decide +kernel, by decide +kernel⟩
abbrev s_is_sign : Stmt := topS 27
theorem sc_is_sign : FnScope ["thing"] ["thing"] (defScope s_is_sign) := ⟨rfl, rfl, rfl, by decide +kernel, rfl, by decide +kernel, by decide +kernel⟩
abbrev s_is_many : Stmt := topS 28
theorem sc_is_many : FnScope ["thing"] ["thing"] (defScope s_is_many) := ⟨rfl, rfl, rfl, by decide +kernel, rfl, by decide +kernel, by decide +kernel⟩
abbrev s_is_pair_entry : Stmt := topS 29
theorem sc_is_pair_entry : FnScope ["word", "part"] ["word", "part"] (defScope s_is_pair_entry) := ⟨rfl, rfl, rfl, by decide +kernel, rfl, by decide +kernel, by decide +kernel⟩
abbrev s_is_entry : Stmt := topS 30
theorem sc_is_entry : FnScope ["thing"] ["thing"] (defScope s_is_entry) := ⟨rfl, rfl, rfl, by decide +kernel, rfl, by decide +kernel, by decide +kernel⟩
abbrev s_held_log : Stmt := topS 31
theorem sc_held_log : FnScope ["entries", "faced", "log", "at", "thing"] ["entries"] (defScope s_held_log) := ⟨rfl, rfl, rfl, by decide +kernel, rfl, by decide +kernel, by decide +kernel⟩
abbrev s_held_box : Stmt := topS 35
theorem sc_held_box : FnScope ["box", "at", "thing"] ["box"] (defScope s_held_box) := ⟨rfl, rfl, rfl, by decide +kernel, rfl, by decide +kernel, by decide +kernel⟩
abbrev s_held_log_of : Stmt := topS 36
theorem sc_held_log_of : FnScope ["name", "log", "why"] ["name", "log"] (defScope s_held_log_of) := ⟨rfl, rfl, rfl, by decide +kernel, rfl, by decide +kernel, by decide +kernel⟩
abbrev s_Lany_entry : Stmt := topS 39
theorem sc_Lany_entry : FnScope ["_law_pool_here", "_law_looks", "_law_pick", "_law_sign_here"] ["_law_pool_here", "_law_looks"] (defScope s_Lany_entry) := ⟨rfl, rfl, rfl, by decide +kernel, rfl, by decide +kernel, by decide +kernel⟩
abbrev s_Lany_log : Stmt := topS 40
theorem sc_Lany_log : FnScope ["_law_pool_here", "_law_many", "_law_swaps", "_law_log", "_law_looks", "_law_left", "_law_k", "_law_entry"] ["_law_pool_here", "_law_many", "_law_swaps"] (defScope s_Lany_log) := ⟨rfl, rfl, rfl, by decide +kernel, rfl, by decide +kernel, by decide +kernel⟩
abbrev s_Lis_name : Stmt := topS 41
theorem sc_Lis_name : FnScope ["_law_thing", "_law_letter"] ["_law_thing"] (defScope s_Lis_name) := ⟨rfl, rfl, rfl, by decide +kernel, rfl, by decide +kernel, by decide +kernel⟩
abbrev s_Lis_sign : Stmt := topS 42
theorem sc_Lis_sign : FnScope ["_law_thing", "_law_first"] ["_law_thing"] (defScope s_Lis_sign) := ⟨rfl, rfl, rfl, by decide +kernel, rfl, by decide +kernel, by decide +kernel⟩
abbrev s_Lis_many : Stmt := topS 43
theorem sc_Lis_many : FnScope ["_law_thing"] ["_law_thing"] (defScope s_Lis_many) := ⟨rfl, rfl, rfl, by decide +kernel, rfl, by decide +kernel, by decide +kernel⟩
abbrev s_Lis_entry : Stmt := topS 44
theorem sc_Lis_entry : FnScope ["_law_thing"] ["_law_thing"] (defScope s_Lis_entry) := ⟨rfl, rfl, rfl, by decide +kernel, rfl, by decide +kernel, by decide +kernel⟩
abbrev s_Lbad_at : Stmt := topS 45
theorem sc_Lbad_at : FnScope ["_law_entries", "_law_looks", "_law_at", "_law_entry"] ["_law_entries"] (defScope s_Lbad_at) := ⟨rfl, rfl, rfl, by decide +kernel, rfl, by decide +kernel, by decide +kernel⟩
abbrev s_Lspoilt_text : Stmt := topS 46
theorem sc_Lspoilt_text : FnScope ["_law_pool_here", "_law_text", "_law_signs", "_law_sign_here", "_law_at", "_law_pick"] ["_law_pool_here", "_law_text"] (defScope s_Lspoilt_text) := ⟨rfl, rfl, rfl, by decide +kernel, rfl, by decide +kernel, by decide +kernel⟩
abbrev s_Lspoilt_entry : Stmt := topS 47
theorem sc_Lspoilt_entry : FnScope ["_law_pool_here", "_law_entry", "_law_pick", "_law_parts", "_law_at"] ["_law_pool_here", "_law_entry"] (defScope s_Lspoilt_entry) := ⟨rfl, rfl, rfl, by decide +kernel, rfl, by decide +kernel, by decide +kernel⟩
abbrev s_Lown : Stmt := topS 48
theorem sc_Lown : FnScope ["_law_e", "_law_some"] ["_law_e"] (defScope s_Lown) := ⟨rfl, rfl, rfl, by decide +kernel, rfl, by decide +kernel, by decide +kernel⟩
abbrev s_Lsmall_log : Stmt := topS 49
theorem sc_Lsmall_log : FnScope ["_law_pool_here", "_law_many", "_law_swaps", "_law_found", "_law_entry"] ["_law_pool_here", "_law_many", "_law_swaps"] (defScope s_Lsmall_log) := ⟨rfl, rfl, rfl, by decide +kernel, rfl, by decide +kernel, by decide +kernel⟩
abbrev s_Lsmall_box : Stmt := topS 50
theorem sc_Lsmall_box : FnScope ["_law_pool_here", "_law_legs", "_law_box", "_law_wide", "_law_k"] ["_law_pool_here", "_law_legs"] (defScope s_Lsmall_box) := ⟨rfl, rfl, rfl, by decide +kernel, rfl, by decide +kernel, by decide +kernel⟩
abbrev s_Lpool : Stmt := topS 51
theorem sc_Lpool : FnScope ["_law_script", "_law_k", "_law_cell", "_law_left"] ["_law_script", "_law_k"] (defScope s_Lpool) := ⟨rfl, rfl, rfl, by decide +kernel, rfl, by decide +kernel, by decide +kernel⟩
abbrev s_Ltake : Stmt := topS 52
theorem sc_Ltake : FnScope ["_law_pool_here", "_law_wide", "_law_found", "_law_primes", "_law_one", "_law_two"] ["_law_pool_here", "_law_wide"] (defScope s_Ltake) := ⟨rfl, rfl, rfl, by decide +kernel, rfl, by decide +kernel, by decide +kernel⟩
abbrev s_Lwhole : Stmt := topS 53
theorem sc_Lwhole : FnScope ["_law_thing"] ["_law_thing"] (defScope s_Lwhole) := ⟨rfl, rfl, rfl, by decide +kernel, rfl, by decide +kernel, by decide +kernel⟩
abbrev s_Lsame : Stmt := topS 54
theorem sc_Lsame : FnScope ["_law_found", "_law_due", "_law_one", "_law_other"] ["_law_found", "_law_due"] (defScope s_Lsame) := ⟨rfl, rfl, rfl, by decide +kernel, rfl, by decide +kernel, by decide +kernel⟩
abbrev s_Lanything : Stmt := topS 55
theorem sc_Lanything : FnScope ["_law_pool_here", "_law_some"] ["_law_pool_here"] (defScope s_Lanything) := ⟨rfl, rfl, rfl, by decide +kernel, rfl, by decide +kernel, by decide +kernel⟩
abbrev s_Lname : Stmt := topS 56
theorem sc_Lname : FnScope ["_law_pool_here", "_law_letters", "_law_k"] ["_law_pool_here"] (defScope s_Lname) := ⟨rfl, rfl, rfl, by decide +kernel, rfl, by decide +kernel, by decide +kernel⟩
abbrev s_Lnames : Stmt := topS 57
theorem sc_Lnames : FnScope ["_law_pool_here", "_law_many", "_law_found", "_law_k", "_law_name_here", "_law_letter"] ["_law_pool_here", "_law_many"] (defScope s_Lnames) := ⟨rfl, rfl, rfl, by decide +kernel, rfl, by decide +kernel, by decide +kernel⟩
abbrev s_Lsign : Stmt := topS 58
theorem sc_Lsign : FnScope ["_law_pool_here", "_law_lone", "_law_sign_here"] ["_law_pool_here", "_law_lone"] (defScope s_Lsign) := ⟨rfl, rfl, rfl, by decide +kernel, rfl, by decide +kernel, by decide +kernel⟩
abbrev s_Lasked : Stmt := topS 59
theorem sc_Lasked : FnScope ["_law_atlas", "_law_name_here", "_law_log", "_law_e"] ["_law_atlas", "_law_name_here", "_law_log"] (defScope s_Lasked) := ⟨rfl, rfl, rfl, by decide +kernel, rfl, by decide +kernel, by decide +kernel⟩
abbrev s_Lstep : Stmt := topS 60
theorem sc_Lstep : FnScope ["_law_pool_here", "_law_kept", "_law_names_here", "_law_name_here", "_law_odd", "_law_log", "_law_at", "_law_entry"] ["_law_pool_here", "_law_kept"] (defScope s_Lstep) := ⟨rfl, rfl, rfl, by decide +kernel, rfl, by decide +kernel, by decide +kernel⟩
abbrev s_Las_lists : Stmt := topS 61
theorem sc_Las_lists : FnScope ["_law_log", "_law_entry"] ["_law_log"] (defScope s_Las_lists) := ⟨rfl, rfl, rfl, by decide +kernel, rfl, by decide +kernel, by decide +kernel⟩
abbrev s_Llog_right : Stmt := topS 62
theorem sc_Llog_right : FnScope ["_law_atlas", "_law_kept", "_law_name_here", "_law_found", "_law_e"] ["_law_atlas", "_law_kept", "_law_name_here"] (defScope s_Llog_right) := ⟨rfl, rfl, rfl, by decide +kernel, rfl, by decide +kernel, by decide +kernel⟩
abbrev s_law : Stmt := topS 63
theorem sc_law : FnScope ["_law_script", "_law_pool_here", "_law_names_here", "_law_name_here", "_law_rows", "_law_box", "_law_atlas", "_law_kept", "_law_turn", "_law_log", "_law_due", "_law_found", "_law_entry"] ["_law_script"] (defScope s_law) := ⟨rfl, rfl, rfl, by decide +kernel, rfl, by decide +kernel, by decide +kernel⟩
abbrev s_Atlas_init : Stmt := inClass (topS 37) 0
theorem sc_Atlas_init : FnScope ["self", "box", "logs", "held", "name", "log"] ["self", "box", "logs"] (defScope s_Atlas_init) := ⟨rfl, rfl, rfl, by decide +kernel, rfl, by decide +kernel, by decide +kernel⟩
abbrev s_Atlas_log : Stmt := inClass (topS 37) 1
theorem sc_Atlas_log : FnScope ["self", "name"] ["self", "name"] (defScope s_Atlas_log) := ⟨rfl, rfl, rfl, by decide +kernel, rfl, by decide +kernel, by decide +kernel⟩
abbrev s_Atlas_with_log : Stmt := inClass (topS 37) 3
theorem sc_Atlas_with_log : FnScope ["self", "name", "log", "others", "pair"] ["self", "name", "log"] (defScope s_Atlas_with_log) := ⟨rfl, rfl, rfl, by decide +kernel, rfl, by decide +kernel, by decide +kernel⟩
abbrev s_Atlas_without : Stmt := inClass (topS 37) 4
theorem sc_Atlas_without : FnScope ["self", "name", "pair"] ["self", "name"] (defScope s_Atlas_without) := ⟨rfl, rfl, rfl, by decide +kernel, rfl, by decide +kernel, by decide +kernel⟩
abbrev s_Atlas_eq : Stmt := inClass (topS 37) 5
theorem sc_Atlas_eq : FnScope ["self", "other"] ["self", "other"] (defScope s_Atlas_eq) := ⟨rfl, rfl, rfl, by decide +kernel, rfl, by decide +kernel, by decide +kernel⟩
abbrev s_init : Stmt := inClass (topS 8) 0
theorem sc_init : FnScope ["self", "name", "at"] ["self", "name", "at"] (defScope s_init) := ⟨rfl, rfl, rfl, by decide +kernel, rfl, by decide +kernel, by decide +kernel⟩
abbrev s_init_BadBox : Stmt := inClass (topS 10) 0
theorem sc_init_BadBox : FnScope ["self", "at"] ["self", "at"] (defScope s_init_BadBox) := ⟨rfl, rfl, rfl, by decide +kernel, rfl, by decide +kernel, by decide +kernel⟩
abbrev s_init_NoName : Stmt := inClass (topS 11) 0
theorem sc_init_NoName : FnScope ["self", "name"] ["self", "name"] (defScope s_init_NoName) := ⟨rfl, rfl, rfl, by decide +kernel, rfl, by decide +kernel, by decide +kernel⟩
abbrev s_init_Twice : Stmt := inClass (topS 12) 0
theorem sc_init_Twice : FnScope ["self", "name"] ["self", "name"] (defScope s_init_Twice) := ⟨rfl, rfl, rfl, by decide +kernel, rfl, by decide +kernel, by decide +kernel⟩
abbrev s_init_NoWalker : Stmt := inClass (topS 13) 0
theorem sc_init_NoWalker : FnScope ["self", "name"] ["self", "name"] (defScope s_init_NoWalker) := ⟨rfl, rfl, rfl, by decide +kernel, rfl, by decide +kernel, by decide +kernel⟩
/-- what the top has left -/
structure Top (w : World) (K : PySem.W.Frag) (mg : Str → Option Value) where
  a_Atlas : Addr
  g_Atlas : mg "Atlas" = some (.ref a_Atlas)
  cl_Atlas : Cls K a_Atlas
  nf_Atlas_box : NoAttr K a_Atlas "box"
  nf_Atlas_names : NoAttr K a_Atlas "names"
  nf_Atlas_logs : NoAttr K a_Atlas "logs"
  a_is_whole : Addr
  fd_is_whole : FuncData
  F_is_whole : Fun K "is_whole" "is_whole" s_is_whole a_is_whole fd_is_whole
  b_is_whole : Binds K fd_is_whole ["thing"] []
  g_is_whole : mg "is_whole" = some (.ref a_is_whole)
  a_is_row : Addr
  fd_is_row : FuncData
  F_is_row : Fun K "is_row" "is_row" s_is_row a_is_row fd_is_row
  b_is_row : Binds K fd_is_row ["thing"] []
  g_is_row : mg "is_row" = some (.ref a_is_row)
  a_laid_out : Addr
  fd_laid_out : FuncData
  F_laid_out : Fun K "laid_out" "laid_out" s_laid_out a_laid_out fd_laid_out
  b_laid_out : Binds K fd_laid_out ["thing"] []
  g_laid_out : mg "laid_out" = some (.ref a_laid_out)
  a_kept : Addr
  fd_kept : FuncData
  F_kept : Fun K "kept" "kept" s_kept a_kept fd_kept
  b_kept : Binds K fd_kept ["thing"] []
  g_kept : mg "kept" = some (.ref a_kept)
  a_is_letter : Addr
  fd_is_letter : FuncData
  F_is_letter : Fun K "is_letter" "is_letter" s_is_letter a_is_letter fd_is_letter
  b_is_letter : Binds K fd_is_letter ["thing"] []
  g_is_letter : mg "is_letter" = some (.ref a_is_letter)
  a_is_short_text : Addr
  fd_is_short_text : FuncData
  F_is_short_text : Fun K "is_short_text" "is_short_text" s_is_short_text a_is_short_text fd_is_short_text
  b_is_short_text : Binds K fd_is_short_text ["thing"] []
  g_is_short_text : mg "is_short_text" = some (.ref a_is_short_text)
  a_are_small : Addr
  fd_are_small : FuncData
  F_are_small : Fun K "are_small" "are_small" s_are_small a_are_small fd_are_small
  b_are_small : Binds K fd_are_small ["text"] []
  g_are_small : mg "are_small" = some (.ref a_are_small)
  a_is_name : Addr
  fd_is_name : FuncData
  F_is_name : Fun K "is_name" "is_name" s_is_name a_is_name fd_is_name
  b_is_name : Binds K fd_is_name ["thing"] []
  g_is_name : mg "is_name" = some (.ref a_is_name)
  a_is_lone : Addr
  fd_is_lone : FuncData
  F_is_lone : Fun K "is_lone" "is_lone" s_is_lone a_is_lone fd_is_lone
  b_is_lone : Binds K fd_is_lone ["thing"] []
  g_is_lone : mg "is_lone" = some (.ref a_is_lone)
  a_is_sign : Addr
  fd_is_sign : FuncData
  F_is_sign : Fun K "is_sign" "is_sign" s_is_sign a_is_sign fd_is_sign
  b_is_sign : Binds K fd_is_sign ["thing"] []
  g_is_sign : mg "is_sign" = some (.ref a_is_sign)
  a_is_many : Addr
  fd_is_many : FuncData
  F_is_many : Fun K "is_many" "is_many" s_is_many a_is_many fd_is_many
  b_is_many : Binds K fd_is_many ["thing"] []
  g_is_many : mg "is_many" = some (.ref a_is_many)
  a_is_pair_entry : Addr
  fd_is_pair_entry : FuncData
  F_is_pair_entry : Fun K "is_pair_entry" "is_pair_entry" s_is_pair_entry a_is_pair_entry fd_is_pair_entry
  b_is_pair_entry : Binds K fd_is_pair_entry ["word", "part"] []
  g_is_pair_entry : mg "is_pair_entry" = some (.ref a_is_pair_entry)
  a_is_entry : Addr
  fd_is_entry : FuncData
  F_is_entry : Fun K "is_entry" "is_entry" s_is_entry a_is_entry fd_is_entry
  b_is_entry : Binds K fd_is_entry ["thing"] []
  g_is_entry : mg "is_entry" = some (.ref a_is_entry)
  a_held_log : Addr
  fd_held_log : FuncData
  F_held_log : Fun K "held_log" "held_log" s_held_log a_held_log fd_held_log
  b_held_log : Binds K fd_held_log ["entries"] []
  g_held_log : mg "held_log" = some (.ref a_held_log)
  a_held_box : Addr
  fd_held_box : FuncData
  F_held_box : Fun K "held_box" "held_box" s_held_box a_held_box fd_held_box
  b_held_box : Binds K fd_held_box ["box"] []
  g_held_box : mg "held_box" = some (.ref a_held_box)
  a_held_log_of : Addr
  fd_held_log_of : FuncData
  F_held_log_of : Fun K "held_log_of" "held_log_of" s_held_log_of a_held_log_of fd_held_log_of
  b_held_log_of : Binds K fd_held_log_of ["name", "log"] []
  g_held_log_of : mg "held_log_of" = some (.ref a_held_log_of)
  a_Lany_entry : Addr
  fd_Lany_entry : FuncData
  F_Lany_entry : Fun K "_law_any_entry" "_law_any_entry" s_Lany_entry a_Lany_entry fd_Lany_entry
  b_Lany_entry : Binds K fd_Lany_entry ["_law_pool_here", "_law_looks"] []
  g_Lany_entry : mg "_law_any_entry" = some (.ref a_Lany_entry)
  a_Lany_log : Addr
  fd_Lany_log : FuncData
  F_Lany_log : Fun K "_law_any_log" "_law_any_log" s_Lany_log a_Lany_log fd_Lany_log
  b_Lany_log : Binds K fd_Lany_log ["_law_pool_here", "_law_many", "_law_swaps"] []
  g_Lany_log : mg "_law_any_log" = some (.ref a_Lany_log)
  a_Lis_name : Addr
  fd_Lis_name : FuncData
  F_Lis_name : Fun K "_law_is_name" "_law_is_name" s_Lis_name a_Lis_name fd_Lis_name
  b_Lis_name : Binds K fd_Lis_name ["_law_thing"] []
  g_Lis_name : mg "_law_is_name" = some (.ref a_Lis_name)
  a_Lis_sign : Addr
  fd_Lis_sign : FuncData
  F_Lis_sign : Fun K "_law_is_sign" "_law_is_sign" s_Lis_sign a_Lis_sign fd_Lis_sign
  b_Lis_sign : Binds K fd_Lis_sign ["_law_thing"] []
  g_Lis_sign : mg "_law_is_sign" = some (.ref a_Lis_sign)
  a_Lis_many : Addr
  fd_Lis_many : FuncData
  F_Lis_many : Fun K "_law_is_many" "_law_is_many" s_Lis_many a_Lis_many fd_Lis_many
  b_Lis_many : Binds K fd_Lis_many ["_law_thing"] []
  g_Lis_many : mg "_law_is_many" = some (.ref a_Lis_many)
  a_Lis_entry : Addr
  fd_Lis_entry : FuncData
  F_Lis_entry : Fun K "_law_is_entry" "_law_is_entry" s_Lis_entry a_Lis_entry fd_Lis_entry
  b_Lis_entry : Binds K fd_Lis_entry ["_law_thing"] []
  g_Lis_entry : mg "_law_is_entry" = some (.ref a_Lis_entry)
  a_Lbad_at : Addr
  fd_Lbad_at : FuncData
  F_Lbad_at : Fun K "_law_bad_at" "_law_bad_at" s_Lbad_at a_Lbad_at fd_Lbad_at
  b_Lbad_at : Binds K fd_Lbad_at ["_law_entries"] []
  g_Lbad_at : mg "_law_bad_at" = some (.ref a_Lbad_at)
  a_Lspoilt_text : Addr
  fd_Lspoilt_text : FuncData
  F_Lspoilt_text : Fun K "_law_spoilt_text" "_law_spoilt_text" s_Lspoilt_text a_Lspoilt_text fd_Lspoilt_text
  b_Lspoilt_text : Binds K fd_Lspoilt_text ["_law_pool_here", "_law_text"] []
  g_Lspoilt_text : mg "_law_spoilt_text" = some (.ref a_Lspoilt_text)
  a_Lspoilt_entry : Addr
  fd_Lspoilt_entry : FuncData
  F_Lspoilt_entry : Fun K "_law_spoilt_entry" "_law_spoilt_entry" s_Lspoilt_entry a_Lspoilt_entry fd_Lspoilt_entry
  b_Lspoilt_entry : Binds K fd_Lspoilt_entry ["_law_pool_here", "_law_entry"] []
  g_Lspoilt_entry : mg "_law_spoilt_entry" = some (.ref a_Lspoilt_entry)
  a_Lown : Addr
  fd_Lown : FuncData
  F_Lown : Fun K "_law_own" "_law_own" s_Lown a_Lown fd_Lown
  b_Lown : Binds K fd_Lown ["_law_e"] []
  g_Lown : mg "_law_own" = some (.ref a_Lown)
  a_Lsmall_log : Addr
  fd_Lsmall_log : FuncData
  F_Lsmall_log : Fun K "_law_small_log" "_law_small_log" s_Lsmall_log a_Lsmall_log fd_Lsmall_log
  b_Lsmall_log : Binds K fd_Lsmall_log ["_law_pool_here", "_law_many", "_law_swaps"] []
  g_Lsmall_log : mg "_law_small_log" = some (.ref a_Lsmall_log)
  a_Lsmall_box : Addr
  fd_Lsmall_box : FuncData
  F_Lsmall_box : Fun K "_law_small_box" "_law_small_box" s_Lsmall_box a_Lsmall_box fd_Lsmall_box
  b_Lsmall_box : Binds K fd_Lsmall_box ["_law_pool_here", "_law_legs"] []
  g_Lsmall_box : mg "_law_small_box" = some (.ref a_Lsmall_box)
  a_Lpool : Addr
  fd_Lpool : FuncData
  F_Lpool : Fun K "_law_pool" "_law_pool" s_Lpool a_Lpool fd_Lpool
  b_Lpool : Binds K fd_Lpool ["_law_script", "_law_k"] []
  g_Lpool : mg "_law_pool" = some (.ref a_Lpool)
  a_Ltake : Addr
  fd_Ltake : FuncData
  F_Ltake : Fun K "_law_take" "_law_take" s_Ltake a_Ltake fd_Ltake
  b_Ltake : Binds K fd_Ltake ["_law_pool_here", "_law_wide"] []
  g_Ltake : mg "_law_take" = some (.ref a_Ltake)
  a_Lwhole : Addr
  fd_Lwhole : FuncData
  F_Lwhole : Fun K "_law_whole" "_law_whole" s_Lwhole a_Lwhole fd_Lwhole
  b_Lwhole : Binds K fd_Lwhole ["_law_thing"] []
  g_Lwhole : mg "_law_whole" = some (.ref a_Lwhole)
  a_Lsame : Addr
  fd_Lsame : FuncData
  F_Lsame : Fun K "_law_same" "_law_same" s_Lsame a_Lsame fd_Lsame
  b_Lsame : Binds K fd_Lsame ["_law_found", "_law_due"] []
  g_Lsame : mg "_law_same" = some (.ref a_Lsame)
  a_Lanything : Addr
  fd_Lanything : FuncData
  F_Lanything : Fun K "_law_anything" "_law_anything" s_Lanything a_Lanything fd_Lanything
  b_Lanything : Binds K fd_Lanything ["_law_pool_here"] []
  g_Lanything : mg "_law_anything" = some (.ref a_Lanything)
  a_Lname : Addr
  fd_Lname : FuncData
  F_Lname : Fun K "_law_name" "_law_name" s_Lname a_Lname fd_Lname
  b_Lname : Binds K fd_Lname ["_law_pool_here"] []
  g_Lname : mg "_law_name" = some (.ref a_Lname)
  a_Lnames : Addr
  fd_Lnames : FuncData
  F_Lnames : Fun K "_law_names" "_law_names" s_Lnames a_Lnames fd_Lnames
  b_Lnames : Binds K fd_Lnames ["_law_pool_here", "_law_many"] []
  g_Lnames : mg "_law_names" = some (.ref a_Lnames)
  a_Lsign : Addr
  fd_Lsign : FuncData
  F_Lsign : Fun K "_law_sign" "_law_sign" s_Lsign a_Lsign fd_Lsign
  b_Lsign : Binds K fd_Lsign ["_law_pool_here", "_law_lone"] []
  g_Lsign : mg "_law_sign" = some (.ref a_Lsign)
  a_Lasked : Addr
  fd_Lasked : FuncData
  F_Lasked : Fun K "_law_asked" "_law_asked" s_Lasked a_Lasked fd_Lasked
  b_Lasked : Binds K fd_Lasked ["_law_atlas", "_law_name_here", "_law_log"] []
  g_Lasked : mg "_law_asked" = some (.ref a_Lasked)
  a_Lstep : Addr
  fd_Lstep : FuncData
  F_Lstep : Fun K "_law_step" "_law_step" s_Lstep a_Lstep fd_Lstep
  b_Lstep : Binds K fd_Lstep ["_law_pool_here", "_law_kept"] []
  g_Lstep : mg "_law_step" = some (.ref a_Lstep)
  a_Las_lists : Addr
  fd_Las_lists : FuncData
  F_Las_lists : Fun K "_law_as_lists" "_law_as_lists" s_Las_lists a_Las_lists fd_Las_lists
  b_Las_lists : Binds K fd_Las_lists ["_law_log"] []
  g_Las_lists : mg "_law_as_lists" = some (.ref a_Las_lists)
  a_Llog_right : Addr
  fd_Llog_right : FuncData
  F_Llog_right : Fun K "_law_log_right" "_law_log_right" s_Llog_right a_Llog_right fd_Llog_right
  b_Llog_right : Binds K fd_Llog_right ["_law_atlas", "_law_kept", "_law_name_here"] []
  g_Llog_right : mg "_law_log_right" = some (.ref a_Llog_right)
  a_law : Addr
  fd_law : FuncData
  F_law : Fun K "law" "law" s_law a_law fd_law
  b_law : Binds K fd_law ["_law_script"] []
  g_law : mg "law" = some (.ref a_law)
  a_Atlas_init : Addr
  fd_Atlas_init : FuncData
  e_Atlas_init : Addr
  ee_Atlas_init : ∀ H, SqT K H e_Atlas_init []
  F_Atlas_init : FunD K "__init__" "Atlas.__init__" (defArgs s_Atlas_init) (defBody s_Atlas_init) (defScope s_Atlas_init) [.ref e_Atlas_init] [] a_Atlas_init fd_Atlas_init
  b1_Atlas_init : ∃ ds, Vals [.ref e_Atlas_init] ds ∧ Binds K fd_Atlas_init ["self", "box", "logs"] ds
  b_Atlas_init : Binds K fd_Atlas_init ["self", "box", "logs"] []
  mk_Atlas : Mk K a_Atlas a_Atlas_init
  a_Atlas_log : Addr
  fd_Atlas_log : FuncData
  F_Atlas_log : Fun K "log" "Atlas.log" s_Atlas_log a_Atlas_log fd_Atlas_log
  b_Atlas_log : Binds K fd_Atlas_log ["self", "name"] []
  me_Atlas_log : Meth K a_Atlas "log" a_Atlas_log
  a_Atlas_with_log : Addr
  fd_Atlas_with_log : FuncData
  F_Atlas_with_log : Fun K "with_log" "Atlas.with_log" s_Atlas_with_log a_Atlas_with_log fd_Atlas_with_log
  b_Atlas_with_log : Binds K fd_Atlas_with_log ["self", "name", "log"] []
  me_Atlas_with_log : Meth K a_Atlas "with_log" a_Atlas_with_log
  a_Atlas_without : Addr
  fd_Atlas_without : FuncData
  F_Atlas_without : Fun K "without" "Atlas.without" s_Atlas_without a_Atlas_without fd_Atlas_without
  b_Atlas_without : Binds K fd_Atlas_without ["self", "name"] []
  me_Atlas_without : Meth K a_Atlas "without" a_Atlas_without
  a_Atlas_eq : Addr
  fd_Atlas_eq : FuncData
  F_Atlas_eq : Fun K "__eq__" "Atlas.__eq__" s_Atlas_eq a_Atlas_eq fd_Atlas_eq
  b_Atlas_eq : Binds K fd_Atlas_eq ["self", "other"] []
  me_Atlas_eq : Meth K a_Atlas "__eq__" a_Atlas_eq
  a_STEPS : Addr
  g_STEPS : mg "STEPS" = some (.ref a_STEPS)
  es_STEPS : Array DictEntry
  n_STEPS : Nat
  kd_STEPS : KDict K w a_STEPS es_STEPS n_STEPS
  ns_STEPS : ∀ z : Str, ∃ r, PySem.W.nsIn K a_STEPS z = some r ∧ r.isSome = ((["n", "e", "s", "w"] : List Str).any fun s => s == z)
  v_STEPS_0 : ∃ q, KDct K w a_STEPS "n" (.ref q) ∧ ∀ H, SqT K H q [.int (0), .int (1)]
  v_STEPS_1 : ∃ q, KDct K w a_STEPS "e" (.ref q) ∧ ∀ H, SqT K H q [.int (1), .int (0)]
  v_STEPS_2 : ∃ q, KDct K w a_STEPS "s" (.ref q) ∧ ∀ H, SqT K H q [.int (0), .int (-1)]
  v_STEPS_3 : ∃ q, KDct K w a_STEPS "w" (.ref q) ∧ ∀ H, SqT K H q [.int (-1), .int (0)]
  g_SMALL : ∃ t, mg "SMALL" = some (.str "abcdefghijklmnopqrstuvwxyz" t)
  g_GREAT : ∃ t, mg "GREAT" = some (.str "ABCDEFGHIJKLMNOPQRSTUVWXYZ" t)
  g_LONGEST : ∃ t, mg "LONGEST" = some (.int 8 t)
  a_WORDS_ALONE : Addr
  g_WORDS_ALONE : mg "WORDS_ALONE" = some (.ref a_WORDS_ALONE)
  v_WORDS_ALONE : ∀ H, SqT K H a_WORDS_ALONE [.str "left", .str "right", .str "back", .str "bump", .str "bare", .str "swap"]
  a_WORDS_BEHIND_A_FACE : Addr
  g_WORDS_BEHIND_A_FACE : mg "WORDS_BEHIND_A_FACE" = some (.ref a_WORDS_BEHIND_A_FACE)
  v_WORDS_BEHIND_A_FACE : ∀ H, SqT K H a_WORDS_BEHIND_A_FACE [.str "left", .str "right", .str "back", .str "go", .str "bump", .str "spy"]
  g_HOW_MANY_LOTS : ∃ t, mg "HOW_MANY_LOTS" = some (.int 8 t)
  m_abs : mg "abs" = none
  m_all : mg "all" = none
  m_any : mg "any" = none
  m_bool : mg "bool" = none
  m_dict : mg "dict" = none
  m_enumerate : mg "enumerate" = none
  m_int : mg "int" = none
  m_isinstance : mg "isinstance" = none
  m_len : mg "len" = none
  m_list : mg "list" = none
  m_range : mg "range" = none
  m_sorted : mg "sorted" = none
  m_str : mg "str" = none
  m_tuple : mg "tuple" = none
  m_zip : mg "zip" = none
  a_NoLot : Addr
  g_NoLot : mg "NoLot" = some (.ref a_NoLot)
  a_BadLog : Addr
  g_BadLog : mg "BadLog" = some (.ref a_BadLog)
  a_NoDealing : Addr
  g_NoDealing : mg "NoDealing" = some (.ref a_NoDealing)
  a_BadBox : Addr
  g_BadBox : mg "BadBox" = some (.ref a_BadBox)
  a_NoName : Addr
  g_NoName : mg "NoName" = some (.ref a_NoName)
  a_Twice : Addr
  g_Twice : mg "Twice" = some (.ref a_Twice)
  a_NoWalker : Addr
  g_NoWalker : mg "NoWalker" = some (.ref a_NoWalker)
  a_NeedleError : Addr
  g_NeedleError : mg "NeedleError" = some (.ref a_NeedleError)
  kit_NoLot : PySem.W.kitOne K (.ref a_BadLog) (.ref a_NoLot) = some false
  kit_BadLog : PySem.W.kitOne K (.ref a_BadLog) (.ref a_BadLog) = some true
  kit_NoDealing : PySem.W.kitOne K (.ref a_BadLog) (.ref a_NoDealing) = some false
  kit_BadBox : PySem.W.kitOne K (.ref a_BadLog) (.ref a_BadBox) = some false
  kit_NoName : PySem.W.kitOne K (.ref a_BadLog) (.ref a_NoName) = some false
  kit_Twice : PySem.W.kitOne K (.ref a_BadLog) (.ref a_Twice) = some false
  kit_NoWalker : PySem.W.kitOne K (.ref a_BadLog) (.ref a_NoWalker) = some false
  kit_NeedleError : PySem.W.kitOne K (.ref a_BadLog) (.ref a_NeedleError) = some true
  kit_BadBox_NoLot : PySem.W.kitOne K (.ref a_BadBox) (.ref a_NoLot) = some false
  kit_BadBox_BadLog : PySem.W.kitOne K (.ref a_BadBox) (.ref a_BadLog) = some false
  kit_BadBox_NoDealing : PySem.W.kitOne K (.ref a_BadBox) (.ref a_NoDealing) = some false
  kit_BadBox_BadBox : PySem.W.kitOne K (.ref a_BadBox) (.ref a_BadBox) = some true
  kit_BadBox_NoName : PySem.W.kitOne K (.ref a_BadBox) (.ref a_NoName) = some false
  kit_BadBox_Twice : PySem.W.kitOne K (.ref a_BadBox) (.ref a_Twice) = some false
  kit_BadBox_NoWalker : PySem.W.kitOne K (.ref a_BadBox) (.ref a_NoWalker) = some false
  kit_BadBox_NeedleError : PySem.W.kitOne K (.ref a_BadBox) (.ref a_NeedleError) = some true
  kit_NoName_NoLot : PySem.W.kitOne K (.ref a_NoName) (.ref a_NoLot) = some false
  kit_NoName_BadLog : PySem.W.kitOne K (.ref a_NoName) (.ref a_BadLog) = some false
  kit_NoName_NoDealing : PySem.W.kitOne K (.ref a_NoName) (.ref a_NoDealing) = some false
  kit_NoName_BadBox : PySem.W.kitOne K (.ref a_NoName) (.ref a_BadBox) = some false
  kit_NoName_NoName : PySem.W.kitOne K (.ref a_NoName) (.ref a_NoName) = some true
  kit_NoName_Twice : PySem.W.kitOne K (.ref a_NoName) (.ref a_Twice) = some false
  kit_NoName_NoWalker : PySem.W.kitOne K (.ref a_NoName) (.ref a_NoWalker) = some false
  kit_NoName_NeedleError : PySem.W.kitOne K (.ref a_NoName) (.ref a_NeedleError) = some true
  kit_Twice_NoLot : PySem.W.kitOne K (.ref a_Twice) (.ref a_NoLot) = some false
  kit_Twice_BadLog : PySem.W.kitOne K (.ref a_Twice) (.ref a_BadLog) = some false
  kit_Twice_NoDealing : PySem.W.kitOne K (.ref a_Twice) (.ref a_NoDealing) = some false
  kit_Twice_BadBox : PySem.W.kitOne K (.ref a_Twice) (.ref a_BadBox) = some false
  kit_Twice_NoName : PySem.W.kitOne K (.ref a_Twice) (.ref a_NoName) = some false
  kit_Twice_Twice : PySem.W.kitOne K (.ref a_Twice) (.ref a_Twice) = some true
  kit_Twice_NoWalker : PySem.W.kitOne K (.ref a_Twice) (.ref a_NoWalker) = some false
  kit_Twice_NeedleError : PySem.W.kitOne K (.ref a_Twice) (.ref a_NeedleError) = some true
  kit_NoWalker_NoLot : PySem.W.kitOne K (.ref a_NoWalker) (.ref a_NoLot) = some false
  kit_NoWalker_BadLog : PySem.W.kitOne K (.ref a_NoWalker) (.ref a_BadLog) = some false
  kit_NoWalker_NoDealing : PySem.W.kitOne K (.ref a_NoWalker) (.ref a_NoDealing) = some false
  kit_NoWalker_BadBox : PySem.W.kitOne K (.ref a_NoWalker) (.ref a_BadBox) = some false
  kit_NoWalker_NoName : PySem.W.kitOne K (.ref a_NoWalker) (.ref a_NoName) = some false
  kit_NoWalker_Twice : PySem.W.kitOne K (.ref a_NoWalker) (.ref a_Twice) = some false
  kit_NoWalker_NoWalker : PySem.W.kitOne K (.ref a_NoWalker) (.ref a_NoWalker) = some true
  kit_NoWalker_NeedleError : PySem.W.kitOne K (.ref a_NoWalker) (.ref a_NeedleError) = some true
  m_ValueError : mg "ValueError" = none
  kit_VE : PySem.W.kitOne K (.ref a_BadLog) (.type "ValueError") = some true
  oex : OexC K a_BadLog
  a_init : Addr
  fd_init : FuncData
  F_init : Fun K "__init__" "BadLog.__init__" s_init a_init fd_init
  b_init : Binds K fd_init ["self", "name", "at"] []
  iC : PySem.W.findIn K (.ref a_BadLog) "__init__" = some (some (.ref a_init))
  tI : PySem.W.typeIn K (.ref a_init) = some (.type "function")
  xf : XfC K a_BadLog
  exc : ExcC K a_BadLog
  exm : PySem.W.exmOne K (.ref a_BadLog) (.ref a_BadLog) = some true
  no_name : PySem.W.findIn K (.ref a_BadLog) "name" = some none
  no_at : PySem.W.findIn K (.ref a_BadLog) "at" = some none
  kit_VE_BadBox : PySem.W.kitOne K (.ref a_BadBox) (.type "ValueError") = some true
  oex_BadBox : OexC K a_BadBox
  a_init_BadBox : Addr
  fd_init_BadBox : FuncData
  F_init_BadBox : Fun K "__init__" "BadBox.__init__" s_init_BadBox a_init_BadBox fd_init_BadBox
  b_init_BadBox : Binds K fd_init_BadBox ["self", "at"] []
  iC_BadBox : PySem.W.findIn K (.ref a_BadBox) "__init__" = some (some (.ref a_init_BadBox))
  tI_BadBox : PySem.W.typeIn K (.ref a_init_BadBox) = some (.type "function")
  xf_BadBox : XfC K a_BadBox
  exc_BadBox : ExcC K a_BadBox
  exm_BadBox : PySem.W.exmOne K (.ref a_BadBox) (.ref a_BadBox) = some true
  no_BadBox_at : PySem.W.findIn K (.ref a_BadBox) "at" = some none
  kit_VE_NoName : PySem.W.kitOne K (.ref a_NoName) (.type "ValueError") = some true
  oex_NoName : OexC K a_NoName
  a_init_NoName : Addr
  fd_init_NoName : FuncData
  F_init_NoName : Fun K "__init__" "NoName.__init__" s_init_NoName a_init_NoName fd_init_NoName
  b_init_NoName : Binds K fd_init_NoName ["self", "name"] []
  iC_NoName : PySem.W.findIn K (.ref a_NoName) "__init__" = some (some (.ref a_init_NoName))
  tI_NoName : PySem.W.typeIn K (.ref a_init_NoName) = some (.type "function")
  xf_NoName : XfC K a_NoName
  exc_NoName : ExcC K a_NoName
  exm_NoName : PySem.W.exmOne K (.ref a_NoName) (.ref a_NoName) = some true
  no_NoName_name : PySem.W.findIn K (.ref a_NoName) "name" = some none
  kit_VE_Twice : PySem.W.kitOne K (.ref a_Twice) (.type "ValueError") = some true
  oex_Twice : OexC K a_Twice
  a_init_Twice : Addr
  fd_init_Twice : FuncData
  F_init_Twice : Fun K "__init__" "Twice.__init__" s_init_Twice a_init_Twice fd_init_Twice
  b_init_Twice : Binds K fd_init_Twice ["self", "name"] []
  iC_Twice : PySem.W.findIn K (.ref a_Twice) "__init__" = some (some (.ref a_init_Twice))
  tI_Twice : PySem.W.typeIn K (.ref a_init_Twice) = some (.type "function")
  xf_Twice : XfC K a_Twice
  exc_Twice : ExcC K a_Twice
  exm_Twice : PySem.W.exmOne K (.ref a_Twice) (.ref a_Twice) = some true
  no_Twice_name : PySem.W.findIn K (.ref a_Twice) "name" = some none
  kit_VE_NoWalker : PySem.W.kitOne K (.ref a_NoWalker) (.type "ValueError") = some true
  oex_NoWalker : OexC K a_NoWalker
  a_init_NoWalker : Addr
  fd_init_NoWalker : FuncData
  F_init_NoWalker : Fun K "__init__" "NoWalker.__init__" s_init_NoWalker a_init_NoWalker fd_init_NoWalker
  b_init_NoWalker : Binds K fd_init_NoWalker ["self", "name"] []
  iC_NoWalker : PySem.W.findIn K (.ref a_NoWalker) "__init__" = some (some (.ref a_init_NoWalker))
  tI_NoWalker : PySem.W.typeIn K (.ref a_init_NoWalker) = some (.type "function")
  xf_NoWalker : XfC K a_NoWalker
  exc_NoWalker : ExcC K a_NoWalker
  exm_NoWalker : PySem.W.exmOne K (.ref a_NoWalker) (.ref a_NoWalker) = some true
  no_NoWalker_name : PySem.W.findIn K (.ref a_NoWalker) "name" = some none
  exn_BadLog_BadBox : PySem.W.exmOne K (.ref a_BadLog) (.ref a_BadBox) = some false
  exn_BadLog_NoName : PySem.W.exmOne K (.ref a_BadLog) (.ref a_NoName) = some false
  exn_BadLog_Twice : PySem.W.exmOne K (.ref a_BadLog) (.ref a_Twice) = some false
  exn_BadLog_NoWalker : PySem.W.exmOne K (.ref a_BadLog) (.ref a_NoWalker) = some false
  exn_BadBox_BadLog : PySem.W.exmOne K (.ref a_BadBox) (.ref a_BadLog) = some false
  exn_BadBox_NoName : PySem.W.exmOne K (.ref a_BadBox) (.ref a_NoName) = some false
  exn_BadBox_Twice : PySem.W.exmOne K (.ref a_BadBox) (.ref a_Twice) = some false
  exn_BadBox_NoWalker : PySem.W.exmOne K (.ref a_BadBox) (.ref a_NoWalker) = some false
  exn_NoName_BadLog : PySem.W.exmOne K (.ref a_NoName) (.ref a_BadLog) = some false
  exn_NoName_BadBox : PySem.W.exmOne K (.ref a_NoName) (.ref a_BadBox) = some false
  exn_NoName_Twice : PySem.W.exmOne K (.ref a_NoName) (.ref a_Twice) = some false
  exn_NoName_NoWalker : PySem.W.exmOne K (.ref a_NoName) (.ref a_NoWalker) = some false
  exn_Twice_BadLog : PySem.W.exmOne K (.ref a_Twice) (.ref a_BadLog) = some false
  exn_Twice_BadBox : PySem.W.exmOne K (.ref a_Twice) (.ref a_BadBox) = some false
  exn_Twice_NoName : PySem.W.exmOne K (.ref a_Twice) (.ref a_NoName) = some false
  exn_Twice_NoWalker : PySem.W.exmOne K (.ref a_Twice) (.ref a_NoWalker) = some false
  exn_NoWalker_BadLog : PySem.W.exmOne K (.ref a_NoWalker) (.ref a_BadLog) = some false
  exn_NoWalker_BadBox : PySem.W.exmOne K (.ref a_NoWalker) (.ref a_BadBox) = some false
  exn_NoWalker_NoName : PySem.W.exmOne K (.ref a_NoWalker) (.ref a_NoName) = some false
  exn_NoWalker_Twice : PySem.W.exmOne K (.ref a_NoWalker) (.ref a_Twice) = some false
  ty_Atlas : PySem.W.findIn K (.ref a_Atlas) (PySem.Str.ofString "__class__") = some (some (.builtin "object.__class__")) ∧ PySem.W.specialIn K (.builtin "object.__class__") (PySem.Str.ofString "__get__") = some (some (.builtin "getset_descriptor.__get__")) ∧ PySem.W.takesIn K (.builtin "object.__class__") = some true ∧ PySem.W.mroIn K a_Atlas (.type "object") = some true
  ne_Atlas : PySem.W.findIn K (.ref a_Atlas) (PySem.Str.ofString "__ne__") = some (some (.builtin "object.__ne__")) ∧ PySem.W.subIn K (.ref a_Atlas) (.type "object") = some true
  no_Atlas_NoneType : PySem.W.subIn K (.ref a_Atlas) (.type "NoneType") = some false ∧ PySem.W.subIn K (.type "NoneType") (.ref a_Atlas) = some false ∧ PySem.W.kitOne K (.type "NoneType") (.ref a_Atlas) = some false
  no_Atlas_bool : PySem.W.subIn K (.ref a_Atlas) (.type "bool") = some false ∧ PySem.W.subIn K (.type "bool") (.ref a_Atlas) = some false ∧ PySem.W.kitOne K (.type "bool") (.ref a_Atlas) = some false
  no_Atlas_int : PySem.W.subIn K (.ref a_Atlas) (.type "int") = some false ∧ PySem.W.subIn K (.type "int") (.ref a_Atlas) = some false ∧ PySem.W.kitOne K (.type "int") (.ref a_Atlas) = some false
  no_Atlas_str : PySem.W.subIn K (.ref a_Atlas) (.type "str") = some false ∧ PySem.W.subIn K (.type "str") (.ref a_Atlas) = some false ∧ PySem.W.kitOne K (.type "str") (.ref a_Atlas) = some false
  no_Atlas_list : PySem.W.subIn K (.ref a_Atlas) (.type "list") = some false ∧ PySem.W.subIn K (.type "list") (.ref a_Atlas) = some false ∧ PySem.W.kitOne K (.type "list") (.ref a_Atlas) = some false
  no_Atlas_tuple : PySem.W.subIn K (.ref a_Atlas) (.type "tuple") = some false ∧ PySem.W.subIn K (.type "tuple") (.ref a_Atlas) = some false ∧ PySem.W.kitOne K (.type "tuple") (.ref a_Atlas) = some false
/-! ### heaps, pools -/
/-- all but what stands at p is as it was -/
def But (p : Addr) (H H' : Hp) : Prop := ∀ b o, b ≠ p → H b = some o → H' b = some o
theorem But.refl (p : Addr) (H : Hp) : But p H H := fun _ _ _ h => h
theorem But.trans {p : Addr} {H H1 H2 : Hp} (a : But p H H1) (b : But p H1 H2) : But p H H2 := fun c o hc h => b c o hc (a c o hc h)
theorem But.of {p : Addr} {H H' : Hp} (a : Same H H') : But p H H' := fun b o _ h => a b o h
theorem But.upd {p : Addr} {H H' : Hp} {o : HO} (a : But p H H') : But p H (upd H' p o) := fun b u hb h => by
  rw [upd_ne hb]
  exact a b u hb h
theorem same_upd {H : Hp} {p : Addr} {o : HO} (h : H p = none) : Same H (upd H p o) := fun b x e => by
  rw [upd_ne (ne_of_none e h)]
  exact e
/-- changed at a new place alone -/
theorem But.same {p : Addr} {H H1 H2 : Hp} (n : H p = none) (a : Same H H1) (b : But p H1 H2) : Same H H2 := fun c o h => b c o (ne_of_none h n) (a c o h)
theorem But.free {p l : Addr} {H H1 : Hp} (a : But p H H1) (n : l ≠ p) (h : H1 l = none) : H l = none := by
  cases e : H l with
  | none => rfl
  | some o =>
    rw [a l o n e] at h
    cases h
/-- a change at a place that H doesn't know -/
theorem But.mut {p l : Addr} {H H1 : Hp} {o : HO} (a : But p H H1) (n : H l = none) : But p H (L2.upd H1 l o) := fun b u hb h => by
  rw [upd_ne (ne_of_none h n)]
  exact a b u hb h
/-- the spring of draws: four whole numbers, the first not below nought -/
def Pool (H : Hp) (p : Addr) : Prop := ∃ l c k n : Int, 0 ≤ l ∧ H p = some (.lst [.int l, .int c, .int k, .int n])
theorem Pool.same {H H' : Hp} {p : Addr} (h : Pool H p) (e : Same H H') : Pool H' p := by
  obtain ⟨l, c, k, n, h0, h1⟩ := h
  exact ⟨l, c, k, n, h0, e _ _ h1⟩
theorem Pool.ne_tup {H : Hp} {p q : Addr} {xs : List V} (h : Pool H p) (e : H q = some (.tup xs)) : q ≠ p := by
  obtain ⟨l, c, k, n, h0, h1⟩ := h
  exact ne_of e h1 (by intro z; cases z)
theorem Pool.ne_new {H : Hp} {p q : Addr} (h : Pool H p) (e : H q = none) : q ≠ p := by
  obtain ⟨l, c, k, n, h0, h1⟩ := h
  intro z
  rw [z, h1] at e
  cases e
theorem Pool.upd {H : Hp} {p q : Addr} {o : HO} (h : Pool H p) (e : q ≠ p) : Pool (L2.upd H q o) p := by
  obtain ⟨l, c, k, n, h0, h1⟩ := h
  refine ⟨l, c, k, n, h0, ?_⟩
  rw [upd_ne (Ne.symm e)]
  exact h1
theorem seq_but {K : PySem.W.Frag} {H H' : Hp} {p a : Addr} {xs : List V} (e : But p H H') (n : a ≠ p) (h : SqL K H a xs) : SqL K H' a xs := by
  rcases h with (h | ⟨o, h⟩) | h
  · exact .inl (.inl (e _ _ n h))
  · exact .inl (.inr ⟨o, e _ _ n h⟩)
  · exact .inr h
theorem abs_if (n : Int) : 0 ≤ (if n < 0 then -n else n) := by
  split <;> omega
local macro_rules | `(tactic| walk_at "go") => `(tactic| repeat (first
  | (with_reducible exact rfl)
  | (refine ⟨_, _, rfl, rfl, ?_⟩)
  | (refine ⟨_, rfl, ?_⟩)
  | (refine ⟨rfl, ?_⟩)))
def spPool (K : PySem.W.Frag) : Sp := fun vs H Q _ => ∃ (a : Addr) (ns : List Int) (k : Int), vs = [.ref a, .int k] ∧ SqL K H a (ns.map V.int) ∧ ns.length ≤ 63 ∧ 0 ≤ k ∧ ∀ H' p, Same H H' → H p = none → Pool H' p → Q (.ref p) H'
def spTake : Sp := fun vs H Q _ => ∃ (p : Addr) (m : Int), vs = [.ref p, .int m] ∧ 0 < m ∧ m < 2 ^ 200 ∧ Pool H p ∧ ∀ H' (r : Int), But p H H' → Pool H' p → 0 ≤ r → r < m → Q (.int r) H'
theorem iteY {c A B : Prop} [Decidable c] (hc : c) (h : A) : if decide c = true then A else B := by
  rw [if_pos (decide_eq_true hc)]
  exact h
theorem iteYn {c A B : Prop} [Decidable c] (hc : c) (h : B) : if (!decide c) = true then A else B := by
  rw [decide_eq_true hc]
  exact h
theorem iteDN {b : Bool} {A B : Prop} (hb : b = false) (h : B) : if b = true then A else B := by
  rw [hb]
  exact h
theorem iteDY {b : Bool} {A B : Prop} (hb : b = true) (h : A) : if b = true then A else B := by
  rw [hb]
  exact h
theorem iteNE {d e : PyData} {A B : Prop} (h : d = e) (hs : SeqAt.shaped d = true) (hB : B) : if (!PyData.eqv d e) = true then A else B := by
  subst h
  rw [SeqAt.eqv_refl d (SeqAt.canLay_of_shaped hs)]
  exact hB
theorem ne_no {x y : V} (e : x = y) : (!decide (x = y)) = false := by
  rw [decide_eq_true e]
  rfl
theorem iteN {x y : V} {A B : Prop} (e : x = y) (h : B) : if (!decide (x = y)) = true then A else B := by
  rw [ne_no e, if_neg Bool.false_ne_true]
  exact h
section
variable {P : Program} {w : World} {K : PySem.W.Frag} {mg : Str → Option Value} {base : Heap}
theorem ok_Lpool (T : Top w K mg) : FnOk P w K mg base CX0 1 T.a_Lpool T.fd_Lpool ["_law_script", "_law_k"] (spPool K) := by
  refine T.F_Lpool.ok sc_Lpool (fun vs H Q E h => ?_) (fun cdv A outer s H vs Q E hr h => ?_)
  · obtain ⟨a, ns, k, rfl, _⟩ := h
    rfl
  · obtain ⟨a, ns, k, rfl, hS, hlen, hk, q⟩ := h
    refine ⟨_, (pss_cons (ps_set (i := 2) sc_Lpool.nd rfl (.inl rfl) pe_int)
      (Evl.pss_cut (ps_if (pt_cmpR op_gt (pe_callB call_len_seq (by rfl) T.m_len (by decide +kernel) (pa_cons (pv 0) pa_nil)) pe_int (nomark _)) (pss_one (ps_set (i := 2) sc_Lpool.nd rfl (.inl rfl) (pe_ix ix_list (pv 0) (pe_op op_mod (pv 1) (pe_callB call_len_seq (by rfl) T.m_len (by decide +kernel) (pa_cons (pv 0) pa_nil))) (fun _ _ => rfl)))) pss_nil)
      (pss_cons (ps_set (i := 3) sc_Lpool.nd rfl (.inl rfl) pe_int)
      (pss_cons (ps_if (PW.pt (pw_and (pt_cmpR op_lt (pv 1) (pe_callB call_len_seq (by rfl) T.m_len (by decide +kernel) (pa_cons (pv 0) pa_nil)) (nomark _)) (pw_and1 (pt_cmpR op_ge (pe_callB call_abs (by rfl) T.m_abs (by decide +kernel) (pa_cons (pv 2) pa_nil)) (pe_op op_pow pe_int pe_int) (nomark _))))) (pss_one (ps_set (i := 3) sc_Lpool.nd rfl (.inl rfl) (pe_callB call_abs (by rfl) T.m_abs (by decide +kernel) (pa_cons (pv 2) pa_nil)))) pss_nil)
      (pss_one (ps_ret (pe_lst (pa_cons (pv 3) (pa_cons (pv 2) (pa_cons (pv 1) (pa_cons pe_int pa_nil))))))))))), ?_⟩
    have hL : ((ns.map V.int).length : Int) = ns.length := by rw [List.length_map]
    have fin : ∀ (l c : Int), 0 ≤ l → ∀ p, H p = none → Q (.ref p) (upd H p (.lst [.int l, .int c, .int k, .int 0])) := fun l c hl p hp =>
      q _ p (same_upd hp) hp ⟨l, c, k, 0, hl, upd_same⟩
    refine ⟨fun σ H' => H' = H ∧ ∃ c : Int, σ = [some (.ref a), some (.int k), some (.int c), none], ?_, ?_⟩
    · refine ⟨.ref a, rfl, a, ns.map V.int, rfl, .inl hS, _, _, rfl, rfl, _, rfl, ite2 (fun e => ?_) (fun e => ?_)⟩
      · have e0 : (0 : Int) < ((ns.map V.int).length : Int) := of_decide_eq_true e
        refine ⟨.ref a, rfl, .int k, rfl, .ref a, rfl, a, ns.map V.int, rfl, .inl hS, k, _, rfl, rfl, e0, ?_⟩
        have h1 := Int.emod_nonneg k (show ((ns.map V.int).length : Int) ≠ 0 by omega)
        have h2 := Int.emod_lt_of_pos k e0
        obtain ⟨j, hj⟩ : ∃ j : Nat, k % ((ns.map V.int).length : Int) = j := ⟨(k % ((ns.map V.int).length : Int)).toNat, by omega⟩
        have hj2 : j < ns.length := by omega
        have g : (ns.map V.int)[j]? = some (.int ns[j]) := by
          rw [List.getElem?_map, List.getElem?_eq_getElem hj2]
          rfl
        have gi : atI (ns.map V.int) (k % ((ns.map V.int).length : Int)) = some (.int ns[j]) := by
          rw [hj]
          exact atI_nat g
        exact ⟨a, _, _, _, rfl, rfl, hS, gi, rfl, _, rfl⟩
      · exact ⟨rfl, 0, rfl⟩
    · rintro σ H' ⟨rfl, c, rfl⟩
      refine ⟨.int k, rfl, .ref a, rfl, a, ns.map V.int, rfl, .inl hS, _, _, rfl, rfl, _, rfl, ite2 (fun e => ?_) (fun e => ?_)⟩
      · refine ⟨.int c, rfl, c, rfl, _, _, rfl, rfl, ⟨by decide, by decide, by decide⟩, _, _, rfl, rfl, _, rfl, ite2 (fun e => ?_) (fun e => ?_)⟩
        · exact ⟨.int c, rfl, c, rfl, _, rfl, _, rfl, _, rfl, by show 4 ≤ sizeLine; decide, fin _ c (abs_if c)⟩
        · exact ⟨_, rfl, _, rfl, _, rfl, by show 4 ≤ sizeLine; decide, fin 0 c (by decide)⟩
      · refine ite2 (fun e2 => by cases e2) (fun _ => ?_)
        exact ⟨_, rfl, _, rfl, _, rfl, by show 4 ≤ sizeLine; decide, fin 0 c (by decide)⟩
def primes : List Int := [2147483629, 2147483587, 2147483579, 2147483563, 2147483549, 2147483543, 2147483497, 2147483489]
theorem primes_at {i : Int} (h0 : 0 ≤ i) (h1 : i < 8) : ∃ p : Int, atI (primes.map V.int) i = some (.int p) ∧ 0 < p ∧ p < 2147483647 := by
  obtain rfl | rfl | rfl | rfl | rfl | rfl | rfl | rfl : i = 0 ∨ i = 1 ∨ i = 2 ∨ i = 3 ∨ i = 4 ∨ i = 5 ∨ i = 6 ∨ i = 7 := by omega
  all_goals exact ⟨_, rfl, by decide, by decide⟩
theorem pow_ok (a : Int) : CPow (a % 2147483647) 5 := by
  have h1 := Int.emod_nonneg a (show (2147483647 : Int) ≠ 0 by decide)
  have h2 := Int.emod_lt_of_pos a (show (0 : Int) < 2147483647 by decide)
  exact ⟨by decide, by decide, by omega⟩
theorem ok_Ltake (T : Top w K mg) : FnOk P w K mg base CX0 1 T.a_Ltake T.fd_Ltake ["_law_pool_here", "_law_wide"] spTake := by
  refine T.F_Ltake.ok sc_Ltake (fun vs H Q E h => ?_) (fun cdv A outer s H vs Q E hr h => ?_)
  · obtain ⟨p, m, rfl, _⟩ := h
    rfl
  · obtain ⟨p, m, rfl, hm, hb, ⟨l, c, k, n, hl, hp⟩, q⟩ := h
    refine ⟨_, (pss_cons (ps_if (pt_cmpR op_gt (pe_ix ix_list (pv 0) pe_int (fun _ _ => rfl)) pe_int (nomark _)) (pss_cons (ps_set (i := 2) sc_Ltake.nd rfl (.inl rfl) (pe_op op_mod (pe_ix ix_list (pv 0) pe_int (fun _ _ => rfl)) (pv 1)))
      (pss_cons (ps_asg (pe_op op_fdivW (pe_ix ix_list (pv 0) pe_int (fun _ _ => rfl)) (pv 1)) (pg_sub (pv 0) pe_int set_list))
      (pss_one (ps_ret (pv 2))))) pss_nil)
      (pss_cons (ps_asg (pe_op op_add (pe_ix ix_list (pv 0) pe_int (fun _ _ => rfl)) pe_int) (pg_sub (pv 0) pe_int set_list))
      (pss_cons (ps_set (i := 3) sc_Ltake.nd rfl (.inl rfl) (pe_lst (pa_cons pe_int (pa_cons pe_int (pa_cons pe_int (pa_cons pe_int (pa_cons pe_int (pa_cons pe_int (pa_cons pe_int (pa_cons pe_int pa_nil))))))))))
      (pss_cons (ps_set (i := 4) sc_Ltake.nd rfl (.inl rfl) (pe_op op_mod (pe_op op_add (pe_op op_add (pe_op op_add (pe_ix ix_list (pv 0) pe_int (fun _ _ => rfl)) (pe_op op_mul pe_int (pe_ix ix_list (pv 0) pe_int (fun _ _ => rfl)))) (pe_op op_mul pe_int (pe_ix ix_list (pv 0) pe_int (fun _ _ => rfl)))) pe_int) pe_int))
      (pss_cons (ps_set (i := 4) sc_Ltake.nd rfl (.inl rfl) (pe_op op_mod (pe_op op_pow (pv 4) pe_int) (pe_ix ix_list (pv 3) (pe_op op_mod (pe_ix ix_list (pv 0) pe_int (fun _ _ => rfl)) pe_int) (fun _ _ => rfl))))
      (pss_cons (ps_set (i := 5) sc_Ltake.nd rfl (.inl rfl) (pe_op op_mod (pe_op op_add (pe_op op_add (pv 4) (pe_op op_mul pe_int (pe_ix ix_list (pv 0) pe_int (fun _ _ => rfl)))) (pe_ix ix_list (pv 0) pe_int (fun _ _ => rfl))) pe_int))
      (pss_one (ps_ret (pe_op op_mod (pe_op op_add (pe_op op_mul (pe_op op_mod (pe_op op_pow (pv 5) pe_int) pe_int) pe_int) (pv 4)) (pv 1)))))))))), ?_⟩
    refine ⟨.ref p, rfl, p, _, 0, .int l, rfl, rfl, .inl (.inl hp), rfl, _, _, rfl, rfl, _, rfl, ite2 (fun e => ?_) (fun e => ?_)⟩
    · refine ⟨.ref p, rfl, p, _, 0, .int l, rfl, rfl, .inl (.inl hp), rfl, .int m, rfl, l, m, rfl, rfl, hm, ?_⟩
      refine ⟨.ref p, rfl, p, _, 0, .int l, rfl, rfl, .inl (.inl hp), rfl, .int m, rfl, l, m, rfl, rfl, wide_div (b := 200) hm (by omega) (by decide) (by decide), ?_⟩
      refine ⟨.ref p, rfl, p, _, 0, 0, rfl, rfl, hp, rfl, ?_⟩
      refine ⟨_, rfl, q _ _ (But.refl p H).upd ⟨l / m, c, k, n, Int.ediv_nonneg hl (by omega), ?_⟩ (Int.emod_nonneg l (by omega)) (Int.emod_lt_of_pos l hm)⟩
      exact upd_same
    · refine ⟨.ref p, rfl, p, _, 3, .int n, rfl, rfl, .inl (.inl hp), rfl, n, 1, rfl, rfl, .ref p, rfl, p, _, 3, 3, rfl, rfl, hp, rfl, ?_⟩
      refine ⟨by show 8 ≤ sizeLine; decide, fun o no => ?_⟩
      have hop : o ≠ p := fun z => by
        rw [z, upd_same] at no
        cases no
      have h3 : (upd (upd H p (.lst [.int l, .int c, .int k, .int (n + 1)])) o (.lst (primes.map V.int))) p = some (.lst [.int l, .int c, .int k, .int (n + 1)]) := by
        rw [upd_ne (Ne.symm hop), upd_same]
      have h4 : (upd (upd H p (.lst [.int l, .int c, .int k, .int (n + 1)])) o (.lst (primes.map V.int))) o = some (.lst (primes.map V.int)) := upd_same
      have bt : But p H (upd (upd H p (.lst [.int l, .int c, .int k, .int (n + 1)])) o (.lst (primes.map V.int))) := fun b u hb h => by
        have nb : b ≠ o := fun z => by
          have : (upd H p (.lst [.int l, .int c, .int k, .int (n + 1)])) b = some u := by
            rw [upd_ne hb]
            exact h
          rw [z] at this
          exact absurd (this.symm.trans no) (by intro z; cases z)
        rw [upd_ne nb, upd_ne hb]
        exact h
      have i8 : 0 ≤ (n + 1) % 8 := Int.emod_nonneg _ (by decide)
      have j8 : (n + 1) % 8 < 8 := Int.emod_lt_of_pos _ (by decide)
      obtain ⟨pr, hpr, pr0, pr1⟩ := primes_at i8 j8
      refine ⟨.ref p, rfl, p, _, 1, .int c, rfl, rfl, .inl (.inl h3), rfl, .ref p, rfl, p, _, 2, .int k, rfl, rfl, .inl (.inl h3), rfl, 7919, k, rfl, rfl, .inl ⟨by decide, by decide⟩, _, _, rfl, rfl, .ref p, rfl, p, _, 3, .int (n + 1), rfl, rfl, .inl (.inl h3), rfl, 104729, n + 1, rfl, rfl, .inl ⟨by decide, by decide⟩, _, _, rfl, rfl, _, _, rfl, rfl, _, _, rfl, rfl, (by show (0 : Int) < 2147483647; decide), ?_⟩
      refine ⟨_, rfl, _, _, rfl, rfl, pow_ok _, .ref o, rfl, .ref p, rfl, p, _, 3, .int (n + 1), rfl, rfl, .inl (.inl h3), rfl, _, _, rfl, rfl, (by show (0 : Int) < 8; decide), o, _, _, .int pr, rfl, rfl, .inl (.inl h4), hpr, _, _, rfl, rfl, pr0, ?_⟩
      refine ⟨_, rfl, .ref p, rfl, p, _, 2, .int k, rfl, rfl, .inl (.inl h3), rfl, 40692, k, rfl, rfl, .inl ⟨by decide, by decide⟩, _, _, rfl, rfl, .ref p, rfl, p, _, 3, .int (n + 1), rfl, rfl, .inl (.inl h3), rfl, _, _, rfl, rfl, _, _, rfl, rfl, (by show (0 : Int) < 2147483647; decide), ?_⟩
      refine ⟨_, rfl, _, _, rfl, rfl, pow_ok _, _, _, rfl, rfl, (by show (0 : Int) < 2147483647; decide), _, _, rfl, rfl, .inr ⟨by decide, by decide⟩, _, rfl, _, _, rfl, rfl, .int m, rfl, _, _, rfl, rfl, hm, ?_⟩
      exact q _ _ bt ⟨l, c, k, n + 1, hl, h3⟩ (Int.emod_nonneg _ (by omega)) (Int.emod_lt_of_pos _ hm)
/-! ### data alike -/
theorem sqt_same {K : PySem.W.Frag} {H H' : Hp} {a : Addr} {xs : List V} (e : Same H H') (h : SqT K H a xs) : SqT K H' a xs := Evl.ex_t (show Evl.Ex H H' from e) h
mutual
theorem dp_same {K : PySem.W.Frag} {H H' : Hp} (e : Same H H') : ∀ (d : PyData) (v : V), Dp K H v d → Dp K H' v d
  | .none, _, h => by cases h; exact .non
  | .bool b, _, h => by cases h; exact .bl b
  | .int i, _, h => by cases h; exact .int i
  | .str x, _, h => by cases h; exact .str x
  | .list ds, _, h => by
    cases h with
    | lst hs ha => exact .lst (e.seq hs) (dpa_same e ds _ ha)
  | .tuple ds, _, h => by
    cases h with
    | tup hs ha => exact .tup (sqt_same e hs) (dpa_same e ds _ ha)
  | .dict _, _, h => by cases h
theorem dpa_same {K : PySem.W.Frag} {H H' : Hp} (e : Same H H') : ∀ (ds : List PyData) (vs : List V), DpAll K H vs ds → DpAll K H' vs ds
  | [], _, h => by cases h; exact .nil
  | d :: ds, _, h => by
    cases h with
    | cons h1 h2 => exact .cons (dp_same e d _ h1) (dpa_same e ds _ h2)
end
theorem dpa_len {K : PySem.W.Frag} {H : Hp} : ∀ (ds : List PyData) (vs : List V), DpAll K H vs ds → vs.length = ds.length
  | [], _, h => by cases h; rfl
  | d :: ds, _, h => by
    cases h with
    | cons h1 h2 =>
      rw [List.length_cons, List.length_cons, dpa_len ds _ h2]
theorem dpa_at {K : PySem.W.Frag} {H : Hp} : ∀ (ds : List PyData) (vs : List V), DpAll K H vs ds → ∀ (i : Nat) (v : V), vs[i]? = some v → ∃ d, ds[i]? = some d ∧ Dp K H v d
  | [], _, h, i, v, e => by cases h; cases e
  | d :: ds, _, h, i, v, e => by
    cases h with
    | cons h1 h2 =>
      cases i with
      | zero =>
        cases e
        exact ⟨d, rfl, h1⟩
      | succ j => exact dpa_at ds _ h2 j v e
theorem ty_tup {K : PySem.W.Frag} {H : Hp} {a : Addr} {xs : List V} (h : SqT K H a xs) : TyX K H (.ref a) (.type "tuple") := by
  rcases h with (h | ⟨o, h⟩) | ⟨o, its, n, lk, hc, _⟩
  · exact .base (.tup h)
  · exact .fTuple h
  · exact .kTuple lk hc
/-- none, truths, whole numbers, texts, and tuples of these, at most n deep -/
def okD : Nat → PyData → Bool
  | _, .none => true
  | _, .bool _ => true
  | _, .int _ => true
  | _, .str _ => true
  | n + 1, .tuple ds => decide (ds.length ≤ 1000) && ds.all fun d => okD n d
  | _, _ => false
theorem walk_zipT {K : PySem.W.Frag} {a b : Addr} {xs ys : List V} {n : Nat} (hn : n = min xs.length ys.length) : Walk (RZ.ItzT K a b) n (fun H => SqT K H a xs ∧ SqT K H b ys) (YPair (fun i => xs[i]?) (fun i => ys[i]?)) where
  goes := fun i H lt ⟨p, q⟩ => ⟨xs, ys, _, _, p, q, List.getElem?_eq_getElem (by omega), List.getElem?_eq_getElem (by omega)⟩
  stops := fun H ⟨p, q⟩ => ⟨xs, ys, p, q, by omega⟩
  yields := fun i H v H' _ ⟨p, q⟩ ⟨T, x, y, e1, e2, e3, e4, e5⟩ => ⟨T, x, y, e1, e2, e3, e4 xs p, e5 ys q⟩
theorem all_true : ∀ n : Nat, (List.replicate n true).all id = true
  | 0 => rfl
  | n + 1 => by rw [List.replicate_succ, List.all_cons, all_true n]; rfl
def spWhole : Sp := fun vs H Q _ => ∃ i : Int, vs = [.int i] ∧ Q (.bl true) H
/-! ### data, whatever else stands in the heap -/
def isSeq : HO → Bool
  | .lst _ => true
  | .tup _ => true
  | .frz _ _ => true
  | _ => false
/-- all lists and tuples as they were -/
def Seqs (H H' : Hp) : Prop := ∀ b o, isSeq o = true → H b = some o → H' b = some o
theorem Seqs.of {H H' : Hp} (e : Same H H') : Seqs H H' := fun b o _ h => e b o h
theorem Seqs.trans {H H1 H2 : Hp} (a : Seqs H H1) (b : Seqs H1 H2) : Seqs H H2 := fun c o z h => b c o z (a c o z h)
theorem Seqs.upd {H : Hp} {a : Addr} {o u : HO} (e : H a = some u) (n : isSeq u = false) : Seqs H (L2.upd H a o) := fun b v z h => by
  rw [upd_ne (fun y => by rw [y, e] at h; cases h; rw [n] at z; cases z)]
  exact h
theorem Seqs.new {H : Hp} {a : Addr} {o : HO} (e : H a = none) : Seqs H (L2.upd H a o) := Seqs.of (same_upd e)
theorem seqs_l {K : PySem.W.Frag} {H H' : Hp} {a : Addr} {xs : List V} (e : Seqs H H') (h : SqL K H a xs) : SqL K H' a xs := by
  rcases h with (h | ⟨o, h⟩) | h
  · exact .inl (.inl (e _ _ rfl h))
  · exact .inl (.inr ⟨o, e _ _ rfl h⟩)
  · exact .inr h
theorem seqs_t {K : PySem.W.Frag} {H H' : Hp} {a : Addr} {xs : List V} (e : Seqs H H') (h : SqT K H a xs) : SqT K H' a xs := by
  rcases h with (h | ⟨o, h⟩) | h
  · exact .inl (.inl (e _ _ rfl h))
  · exact .inl (.inr ⟨o, e _ _ rfl h⟩)
  · exact .inr h
mutual
theorem dp_seqs {K : PySem.W.Frag} {H H' : Hp} (e : Seqs H H') : ∀ (d : PyData) (v : V), Dp K H v d → Dp K H' v d
  | .none, _, h => by cases h; exact .non
  | .bool b, _, h => by cases h; exact .bl b
  | .int i, _, h => by cases h; exact .int i
  | .str x, _, h => by cases h; exact .str x
  | .list ds, _, h => by
    cases h with
    | lst hs ha => exact .lst (seqs_l e hs) (dpa_seqs e ds _ ha)
  | .tuple ds, _, h => by
    cases h with
    | tup hs ha => exact .tup (seqs_t e hs) (dpa_seqs e ds _ ha)
  | .dict _, _, h => by cases h
theorem dpa_seqs {K : PySem.W.Frag} {H H' : Hp} (e : Seqs H H') : ∀ (ds : List PyData) (vs : List V), DpAll K H vs ds → DpAll K H' vs ds
  | [], _, h => by cases h; exact .nil
  | d :: ds, _, h => by
    cases h with
    | cons h1 h2 => exact .cons (dp_seqs e d _ h1) (dpa_seqs e ds _ h2)
end
theorem dpa_snoc {K : PySem.W.Frag} {H : Hp} {v : V} {d : PyData} (h : Dp K H v d) : ∀ (ds : List PyData) (vs : List V), DpAll K H vs ds → DpAll K H (vs ++ [v]) (ds ++ [d])
  | [], _, a => by cases a; exact .cons h .nil
  | x :: ds, _, a => by
    cases a with
    | cons h1 h2 => exact .cons h1 (dpa_snoc h ds _ h2)
/-- the heap without the places of X -/
noncomputable def wo (H : Hp) (X : Addr → Prop) : Hp := fun b => by
  classical
  exact if X b then none else H b
theorem wo_in {H : Hp} {X : Addr → Prop} {b : Addr} (h : ¬ X b) : wo H X b = H b := by
  unfold wo
  exact if_neg h
theorem wo_some {H : Hp} {X : Addr → Prop} {b : Addr} {o : HO} (h : wo H X b = some o) : ¬ X b ∧ H b = some o := by
  unfold wo at h
  by_cases hx : X b
  · rw [if_pos hx] at h
    cases h
  · rw [if_neg hx] at h
    exact ⟨hx, h⟩
theorem wo_same {H : Hp} {X : Addr → Prop} : Same (wo H X) H := fun b o h => (wo_some h).2
theorem wo_none {H : Hp} : wo H (fun _ => False) = H := by
  funext b
  exact wo_in (fun h => h)
--@@SPLIT
/-! ### kinds of things -/
theorem ty_lst {K : PySem.W.Frag} {H : Hp} {a : Addr} {xs : List V} (h : SqL K H a xs) : TyX K H (.ref a) (.type "list") := by
  rcases h with (h | ⟨o, h⟩) | ⟨o, its, n, lk, hc, _⟩
  · exact .base (.lst h)
  · exact .base (.frz h)
  · exact .kList lk hc
theorem kit_any2 {K : PySem.W.Frag} {t a b : String} {x y : Bool} (h1 : kitB t a = some x) (h2 : kitB t b = some y) : PySem.W.kitAny K (.type t) [.type a, .type b] = some (x || y) := by
  unfold PySem.W.kitAny
  rw [kit_ty h1]
  cases x with
  | true => rfl
  | false =>
    unfold PySem.W.kitAny
    rw [kit_ty h2]
    cases y <;> rfl
/-- the type's name -/
def tyD : PyData → String
  | .none => "NoneType"
  | .bool _ => "bool"
  | .int _ => "int"
  | .str _ => "str"
  | .list _ => "list"
  | .tuple _ => "tuple"
  | .dict _ => "dict"
theorem ty_dp {K : PySem.W.Frag} {H : Hp} {v : V} {d : PyData} (h : Dp K H v d) : TyX K H v (.type (tyD d)) := by
  cases h with
  | non => exact .base .non
  | bl b => exact .base (.bl b)
  | int i => exact .base (.int i)
  | str z => exact .base (.str z)
  | lst h _ => exact ty_lst h
  | tup h _ => exact ty_tup h
def seqD : PyData → Option (List PyData)
  | .list ds => some ds
  | .tuple ds => some ds
  | _ => none
def strD : PyData → Bool
  | .str _ => true
  | _ => false
theorem kit_seq (d : PyData) : ∃ x y, kitB (tyD d) "tuple" = some x ∧ kitB (tyD d) "list" = some y ∧ (x || y) = (seqD d).isSome := by
  cases d with
  | list ds => exact ⟨false, true, by show kitB "list" "tuple" = some false; decide +kernel, by show kitB "list" "list" = some true; decide +kernel, rfl⟩
  | tuple ds => exact ⟨true, false, by show kitB "tuple" "tuple" = some true; decide +kernel, by show kitB "tuple" "list" = some false; decide +kernel, rfl⟩
  | none => exact ⟨false, false, by show kitB "NoneType" "tuple" = some false; decide +kernel, by show kitB "NoneType" "list" = some false; decide +kernel, rfl⟩
  | bool b => exact ⟨false, false, by show kitB "bool" "tuple" = some false; decide +kernel, by show kitB "bool" "list" = some false; decide +kernel, rfl⟩
  | int i => exact ⟨false, false, by show kitB "int" "tuple" = some false; decide +kernel, by show kitB "int" "list" = some false; decide +kernel, rfl⟩
  | str z => exact ⟨false, false, by show kitB "str" "tuple" = some false; decide +kernel, by show kitB "str" "list" = some false; decide +kernel, rfl⟩
  | dict z => exact ⟨false, false, by show kitB "dict" "tuple" = some false; decide +kernel, by show kitB "dict" "list" = some false; decide +kernel, rfl⟩
theorem kit_str (d : PyData) : kitB (tyD d) "str" = some (strD d) := by
  cases d with
  | list ds => show kitB "list" "str" = some false; decide +kernel
  | tuple ds => show kitB "tuple" "str" = some false; decide +kernel
  | none => show kitB "NoneType" "str" = some false; decide +kernel
  | bool b => show kitB "bool" "str" = some false; decide +kernel
  | int i => show kitB "int" "str" = some false; decide +kernel
  | str z => show kitB "str" "str" = some true; decide +kernel
  | dict z => show kitB "dict" "str" = some false; decide +kernel
def SqA (K : PySem.W.Frag) (H : Hp) (a : Addr) (xs : List V) : Prop := SqL K H a xs ∨ SqT K H a xs
theorem SqA.same {K : PySem.W.Frag} {H H' : Hp} {a : Addr} {xs : List V} (e : Same H H') (h : SqA K H a xs) : SqA K H' a xs := h.elim (fun h => .inl (e.seq h)) (fun h => .inr (sqt_same e h))
theorem seq_dp {K : PySem.W.Frag} {H : Hp} {v : V} {d : PyData} {ds : List PyData} (h : Dp K H v d) (e : seqD d = some ds) : ∃ a xs, v = .ref a ∧ SqA K H a xs ∧ DpAll K H xs ds := by
  cases h with
  | lst h a => cases e; exact ⟨_, _, rfl, .inl h, a⟩
  | tup h a => cases e; exact ⟨_, _, rfl, .inr h, a⟩
  | _ => cases e
theorem ixA {K : PySem.W.Frag} {H : Hp} {a : Addr} {xs : List V} {j : Nat} {v : V} {Q : VK} (h : SqA K H a xs) (hj : xs[j]? = some v) (q : Q v H) : rIx K (.ref a) (.int (j : Int)) H Q :=
  h.elim (fun h => .inl ⟨a, xs, j, v, rfl, rfl, h, atI_nat hj, q⟩) (fun h => .inr (.inl ⟨a, xs, j, v, rfl, rfl, h, atI_nat hj, q⟩))
theorem kpA {K : PySem.W.Frag} {H : Hp} {a : Addr} {xs : List V} (h : SqA K H a xs) : (∀ H', Same H H' → SqL K H' a xs) ∨ (∀ H', Same H H' → SqT K H' a xs) := h.elim (fun h => .inl fun _ s => s.seq h) (fun h => .inr fun _ s => sqt_same s h)
/-! ### what is kept: things laid out, then made anew from the end on -/
mutual
def siz : PyData → Nat
  | .list ds => 1 + sizs ds
  | .tuple ds => 1 + sizs ds
  | _ => 1
def sizs : List PyData → Nat
  | [] => 0
  | d :: ds => siz d + sizs ds
end
theorem siz_pos : ∀ d : PyData, 1 ≤ siz d
  | .list ds => by unfold siz; omega
  | .tuple ds => by unfold siz; omega
  | .none => by unfold siz; omega
  | .bool _ => by unfold siz; omega
  | .int _ => by unfold siz; omega
  | .str _ => by unfold siz; omega
  | .dict _ => by unfold siz; omega
theorem sizs_len : ∀ ds : List PyData, ds.length ≤ sizs ds
  | [] => by unfold sizs; exact Nat.le_refl _
  | d :: ds => by
    have := siz_pos d
    have := sizs_len ds
    unfold sizs
    rw [List.length_cons]
    omega
theorem sizs_app : ∀ (a b : List PyData), sizs (a ++ b) = sizs a + sizs b
  | [], b => by
    show sizs b = sizs [] + sizs b
    have : sizs [] = 0 := by unfold sizs; rfl
    omega
  | d :: a, b => by
    have := sizs_app a b
    show sizs (d :: (a ++ b)) = sizs (d :: a) + sizs b
    have e1 : sizs (d :: (a ++ b)) = siz d + sizs (a ++ b) := by rw [sizs]
    have e2 : sizs (d :: a) = siz d + sizs a := by rw [sizs]
    omega
theorem siz_seq {d : PyData} {cs : List PyData} (h : seqD d = some cs) : siz d = 1 + sizs cs := by
  cases d with
  | list ds => cases h; rw [siz]
  | tuple ds => cases h; rw [siz]
  | _ => cases h
theorem siz_flat {d : PyData} (h : seqD d = none) : siz d = 1 := by
  cases d with
  | list ds => cases h
  | tuple ds => cases h
  | _ => simp [siz]
theorem siz_int (i : Int) : siz (.int i) ≤ 1000 := by simp [siz]
theorem siz_str (z : Str) : siz (.str z) ≤ 1000 := by simp [siz]
theorem dpa_app {K : PySem.W.Frag} {H : Hp} : ∀ (ds es : List PyData) (xs ys : List V), DpAll K H xs ds → DpAll K H ys es → DpAll K H (xs ++ ys) (ds ++ es)
  | [], _, _, _, h, g => by cases h; exact g
  | d :: ds, es, _, ys, h, g => by
    cases h with
    | cons h1 h2 => exact .cons h1 (dpa_app ds es _ ys h2 g)
theorem dpa_dropK {K : PySem.W.Frag} {H : Hp} : ∀ (n : Nat) (ds : List PyData) (xs : List V), DpAll K H xs ds → DpAll K H (xs.drop n) (ds.drop n)
  | 0, _, _, h => h
  | n + 1, [], _, h => by cases h; exact .nil
  | n + 1, d :: ds, _, h => by
    cases h with
    | cons h1 h2 => exact dpa_dropK n ds _ h2
theorem dpa_takeK {K : PySem.W.Frag} {H : Hp} : ∀ (n : Nat) (ds : List PyData) (xs : List V), DpAll K H xs ds → DpAll K H (xs.take n) (ds.take n)
  | 0, _, _, _ => .nil
  | n + 1, [], _, h => by cases h; exact .nil
  | n + 1, d :: ds, _, h => by
    cases h with
    | cons h1 h2 => exact .cons h1 (dpa_takeK n ds _ h2)
theorem dpa_setK {K : PySem.W.Frag} {H : Hp} {v : V} {d : PyData} (hv : Dp K H v d) : ∀ (n : Nat) (ds : List PyData) (xs : List V), DpAll K H xs ds → ds[n]? = some d → DpAll K H (xs.set n v) ds
  | _, [], _, h, e => by cases e
  | 0, d' :: ds, _, h, e => by
    cases e
    cases h with
    | cons h1 h2 => exact .cons hv h2
  | n + 1, d' :: ds, _, h, e => by
    cases h with
    | cons h1 h2 => exact .cons h1 (dpa_setK hv n ds _ h2 e)
/-- where the parts of each of the first ones begin -/
def LaidTo (i : Nat) (ds : List PyData) (bs : List Int) : Prop := ∀ (j : Nat) (d : PyData) (cs : List PyData), j < i → ds[j]? = some d → seqD d = some cs → ∃ b : Nat, bs[j]? = some (b : Int) ∧ (ds.drop b).take cs.length = cs
theorem laid_more {i : Nat} {ds : List PyData} {bs : List Int} (hi : i ≤ ds.length) (h : LaidTo i ds bs) (es : List PyData) : LaidTo i (ds ++ es) bs := fun j d cs hj hd hs => by
  have l : j < ds.length := by omega
  · rw [List.getElem?_append_left l] at hd
    obtain ⟨b, h1, h2⟩ := h j d cs hj hd hs
    refine ⟨b, h1, ?_⟩
    have hl : cs.length ≤ (ds.drop b).length := by
      have := congrArg List.length h2
      rw [List.length_take] at this
      omega
    by_cases hb : b ≤ ds.length
    · rw [List.drop_append_of_le_length hb, List.take_append_of_le_length hl]
      exact h2
    · have h0 : (ds.drop b).length = 0 := by rw [List.length_drop]; omega
      have : cs = [] := List.eq_nil_of_length_eq_zero (by omega)
      rw [this]
      rfl
def spRowD (K : PySem.W.Frag) : Sp := fun vs H Q _ => ∃ (v : V) (d : PyData), vs = [v] ∧ Dp K H v d ∧ ∀ H', Same H H' → Q (.bl (seqD d).isSome) H'
theorem ok_is_row (T : Top w K mg) : FnOk P w K mg base CX0 1 T.a_is_row T.fd_is_row ["thing"] (spRowD K) := by
  refine T.F_is_row.ok sc_is_row (fun vs H Q E h => ?_) (fun cdv A outer s H vs Q E hr h => ?_)
  · obtain ⟨v, d, rfl, _⟩ := h
    rfl
  · obtain ⟨v, d, rfl, hd, q⟩ := h
    refine ⟨_, (pss_one (ps_ret (pe_callB call_isiT (by rfl) T.m_isinstance (by decide +kernel) (pa_cons (pv 0) (pa_cons (pe_tup (pa_cons (pe_bltn (v := .ty "tuple") (by rfl) T.m_tuple (by decide +kernel) rfl) (pa_cons (pe_bltn (v := .ty "list") (by rfl) T.m_list (by decide +kernel) rfl) pa_nil))) pa_nil))))), ?_⟩
    obtain ⟨x, y, k1, k2, exy⟩ := kit_seq d
    refine ⟨v, rfl, by show 2 ≤ sizeLine; decide, fun tp np => ⟨v, tp, _, _, _, _, rfl, upd_same, .cons (.ty _) (.cons (.ty _) .nil), ty_dp (dp_same (same_upd np) d v hd), kit_any2 k1 k2, ?_⟩⟩
    rw [exy]
    exact q _ (same_upd np)
theorem cut_nat (xs : List V) (b n : Nat) (h : b + n ≤ xs.length) : cutV xs (some (b : Int)) (some ((b : Int) + (n : Int))) = (xs.drop b).take n := by
  unfold cutV
  have e1 : HT.sIx xs.length 0 (some (b : Int)) = b := by
    unfold HT.sIx
    simp only []
    split <;> omega
  have e2 : HT.sIx xs.length xs.length (some ((b : Int) + (n : Int))) = b + n := by
    unfold HT.sIx
    simp only []
    split <;> omega
  rw [e1, e2, Nat.add_sub_cancel_left]
theorem cut_bl (as : List Bool) (lo hi : Option Int) : ∃ cs : List Bool, cutV (as.map V.bl) lo hi = cs.map V.bl := by
  unfold cutV
  exact ⟨_, by rw [← List.map_drop, ← List.map_take]⟩
def spKept (K : PySem.W.Frag) : Sp := fun vs H Q _ => ∃ (v : V) (d : PyData), vs = [v] ∧ siz d ≤ 1000 ∧ Dp K H v d ∧ ∀ H' v', Same H H' → Dp K H' v' d → Q v' H'
def spLaid (K : PySem.W.Frag) : Sp := fun vs H Q _ => ∃ (v : V) (d : PyData), vs = [v] ∧ siz d ≤ 1000 ∧ Dp K H v d ∧
  ∀ H' r t b xs ds bs, Same H H' → H t = none → H b = none → t ≠ b → H' t = some (.lst xs) → H' b = some (.lst (bs.map V.int)) → H' r = some (.tup [.ref t, .ref b]) → DpAll K H xs ds → LaidTo ds.length ds bs → bs.length = ds.length → ds[0]? = some d → ds.length ≤ 1000 → Q (.ref r) H'
theorem ok_laid_out (T : Top w K mg) : FnOk P w K mg base CX0 2 T.a_laid_out T.fd_laid_out ["thing"] (spLaid K) := by
  have G_is_row := ok_is_row (P := P) (w := w) (base := base) T
  refine T.F_laid_out.ok sc_laid_out (fun vs H Q E h => ?_) (fun cdv A outer s H vs Q E hr h => ?_)
  · obtain ⟨v, d, rfl, _⟩ := h
    rfl
  · obtain ⟨v, d, rfl, hz, hd, q⟩ := h
    refine ⟨_, (pss_cons (ps_set (i := 1) sc_laid_out.nd rfl (.inl rfl) (pe_lst (pa_cons (pv 0) pa_nil)))
      (pss_cons (ps_set (i := 2) sc_laid_out.nd rfl (.inl rfl) (pe_lst pa_nil))
      (pss_cons (ps_while PassesOwn.never (pt_cmpR op_lt (pe_callB call_len_seq (by rfl) T.m_len (by decide +kernel) (pa_cons (pv 2) pa_nil)) (pe_callB call_len_seq (by rfl) T.m_len (by decide +kernel) (pa_cons (pv 1) pa_nil)) (nomark _)) (pss_cons (ps_set (i := 3) sc_laid_out.nd rfl (.inl rfl) (pe_ix ix_list (pv 1) (pe_callB call_len_seq (by rfl) T.m_len (by decide +kernel) (pa_cons (pv 2) pa_nil)) (fun _ _ => rfl)))
      (pss_cons (ps_expr (pe_bm PySem.F.plainAttrs_list PySem.F.slot_list_append PySem.F.type_list_append mt_append (pv 2) (pa_cons (pe_callB call_len_seq (by rfl) T.m_len (by decide +kernel) (pa_cons (pv 1) pa_nil)) pa_nil)))
      (pss_one (ps_if (pt_val (pe_call G_is_row hr (by rfl) T.g_is_row T.F_is_row.kp T.b_is_row .nil pass0 (pa_cons (pv 3) pa_nil))) (pss_one (ps_expr (pe_bm PySem.F.plainAttrs_list PySem.F.slot_list_extend PySem.F.type_list_extend mt_extend (pv 1) (pa_cons (pe_callTy call_list_of (by rfl) T.m_list (by decide +kernel) (pa_cons (pv 3) pa_nil)) pa_nil)))) pss_nil)))))
      (pss_one (ps_ret (pe_tup (pa_cons (pv 1) (pa_cons (pv 2) pa_nil)))))))), ?_⟩
    refine ⟨v, rfl, by show 1 ≤ sizeLine; decide, fun t nt => ?_⟩
    refine ⟨Nat.zero_le _, fun b nb => ?_⟩
    have s1 := same_upd (o := .lst [v]) nt
    have s2 := same_upd (o := .lst []) nb
    have tb : t ≠ b := fun z => by
      rw [← z, upd_same] at nb
      cases nb
    have nb0 : H b = none := s1.free nb
    refine ⟨fun m σ H1 => ∃ xs ds bs y, σ = [some v, some (.ref t), some (.ref b), y] ∧ Same H H1 ∧ H1 t = some (.lst xs) ∧ H1 b = some (.lst (bs.map V.int)) ∧ DpAll K H xs ds ∧ bs.length ≤ ds.length ∧ LaidTo bs.length ds bs ∧ ds[0]? = some d ∧ m = sizs (ds.drop bs.length) ∧ bs.length + m = siz d, ⟨siz d, [v], [d], [], none, rfl, s1.trans s2, s2 _ _ upd_same, upd_same, .cons hd .nil, Nat.zero_le _, (fun j d cs hj => absurd hj (Nat.not_lt_zero j)), rfl, ?_, Nat.zero_add _⟩, ?_⟩
    · show siz d = sizs [d]
      rw [sizs, sizs]
      rfl
    · rintro m σ H1 ⟨xs, ds, bs, y, rfl, sm, et, eb, ha, hl, hlaid, h0, hm, hsum⟩
      have lx := dpa_len ds xs ha
      refine ⟨.ref b, rfl, b, _, rfl, .inl (.inl (.inl eb)), .ref t, rfl, t, _, rfl, .inl (.inl (.inl et)), _, _, rfl, rfl, _, rfl, ite2 (fun e => ?_) (fun e => ?_)⟩
      · have hi : bs.length < ds.length := by
          have := of_decide_eq_true e
          rw [List.length_map] at this
          omega
        obtain ⟨di, fi⟩ : ∃ di, ds[bs.length]? = some di := ⟨_, List.getElem?_eq_getElem hi⟩
        obtain ⟨x, gx⟩ : ∃ x, xs[bs.length]? = some x := ⟨_, List.getElem?_eq_getElem (by omega)⟩
        have hx : Dp K H x di := by
          obtain ⟨d', e1, e2⟩ := dpa_at ds xs ha _ x gx
          rw [fi] at e1
          cases e1
          exact e2
        have dr : ds.drop bs.length = di :: ds.drop (bs.length + 1) := by
          obtain ⟨h1, h2⟩ := List.getElem?_eq_some_iff.mp fi
          rw [List.drop_eq_getElem_cons h1, h2]
        have m1 : m = siz di + sizs (ds.drop (bs.length + 1)) := by rw [hm, dr, sizs]
        have lds : ds.length ≤ siz d := by
          have := sizs_len (ds.drop bs.length)
          rw [List.length_drop] at this
          omega
        refine ⟨fun σ' H' => ∃ m', m' < m ∧ _, fun _ _ h => h, ?_⟩
        refine ⟨.ref t, rfl, .ref b, rfl, b, _, rfl, .inl (.inl (.inl eb)), t, xs, _, x, rfl, rfl, .inl (.inl et), atI_nat (by rw [List.length_map]; exact gx), ?_⟩
        refine ⟨.ref b, rfl, .inl ⟨rfl, _, .inl (.inl eb)⟩, .ref t, rfl, t, _, rfl, .inl (.inl (.inl et)), b, _, _, rfl, rfl, eb, small1000 (by rw [List.length_map]; omega), ?_⟩
        have sb := same_upd (o := .lst (bs.map V.int ++ [.int (xs.length : Nat)])) nb0
        have s3 : Same H (upd H1 b (.lst (bs.map V.int ++ [.int (xs.length : Nat)]))) := fun c o h => by
          rw [upd_ne (ne_of_none h nb0)]
          exact sm _ _ h
        have eb2 : (bs ++ [((xs.length : Nat) : Int)]).map V.int = bs.map V.int ++ [.int (xs.length : Nat)] := by rw [List.map_append]; rfl
        have lb2 : (bs ++ [((xs.length : Nat) : Int)]).length = bs.length + 1 := by rw [List.length_append]; rfl
        have old : ∀ es, LaidTo bs.length (ds ++ es) (bs ++ [((xs.length : Nat) : Int)]) := fun es j d' cs hj h1 h2 => by
          obtain ⟨b0, g1, g2⟩ := laid_more hl hlaid es j d' cs hj h1 h2
          exact ⟨b0, by rw [List.getElem?_append_left hj]; exact g1, g2⟩
        refine ⟨x, rfl, x, di, rfl, dp_same s3 di x hx, fun H4 s4 => ⟨_, rfl, ?_⟩⟩
        cases e : seqD di with
        | none =>
          refine iteF ⟨sizs (ds.drop (bs.length + 1)), by have := siz_pos di; omega, xs, ds, bs ++ [((xs.length : Nat) : Int)], _, rfl, s3.trans s4, s4 _ _ (by rw [upd_ne tb]; exact et), s4 _ _ (by rw [eb2]; exact upd_same), ha, by omega, fun j d' cs hj h1 h2 => ?_, h0, by rw [lb2], ?_⟩
          · rw [lb2] at hj
            by_cases ej : j = bs.length
            · rw [ej, fi] at h1
              cases h1
              rw [e] at h2
              cases h2
            · have := old [] j d' cs (by omega) (by rw [List.append_nil]; exact h1) h2
              rw [List.append_nil] at this
              exact this
          · have := siz_flat e
            omega
        | some cs =>
          obtain ⟨p, ys, rfl, hs, hc⟩ := seq_dp hx e
          have lc := dpa_len cs ys hc
          have zc := siz_seq e
          have lcs := sizs_len cs
          have ldr := sizs_len (ds.drop (bs.length + 1))
          rw [List.length_drop] at ldr
          refine iteT ⟨.ref t, rfl, .inl ⟨rfl, _, .inl (.inl (s4 _ _ (by rw [upd_ne tb]; exact et)))⟩, .ref p, rfl, p, ys, rfl, hs.elim (fun h => .inl ((s3.trans s4).seq h)) (fun h => .inr (sqt_same (s3.trans s4) h)), fun l nl => ?_⟩
          have et4 := s4 _ _ (show upd H1 b (.lst (bs.map V.int ++ [.int (xs.length : Nat)])) t = some (.lst xs) by rw [upd_ne tb]; exact et)
          have eb4 := s4 b _ upd_same
          have lt : t ≠ l := ne_of_none et4 nl
          have lb : b ≠ l := ne_of_none eb4 nl
          refine ⟨t, l, xs, ys, rfl, rfl, by rw [upd_ne lt]; exact et4, upd_same, Nat.le_of_lt (small1000 (by omega)), ?_⟩
          refine ⟨sizs ((ds ++ cs).drop (bs.length + 1)), ?_, xs ++ ys, ds ++ cs, bs ++ [((xs.length : Nat) : Int)], _, rfl, fun c o h => ?_, upd_same, ?_, dpa_app ds cs xs ys ha hc, ?_, fun j d' cs' hj h1 h2 => ?_, ?_, by rw [lb2], ?_⟩
          · rw [List.drop_append_of_le_length (by omega), sizs_app]
            omega
          · rw [upd_ne (ne_of_none h nt), upd_ne (ne_of_none ((s3.trans s4) _ _ h) nl)]
            exact (s3.trans s4) _ _ h
          · rw [upd_ne (Ne.symm tb), upd_ne lb, eb2]
            exact eb4
          · rw [lb2, List.length_append]
            omega
          · rw [lb2] at hj
            by_cases ej : j = bs.length
            · rw [ej, List.getElem?_append_left hi, fi] at h1
              cases h1
              rw [e] at h2
              cases h2
              refine ⟨ds.length, ?_, ?_⟩
              · rw [ej, List.getElem?_append_right (Nat.le_refl _), Nat.sub_self, lx]
                rfl
              · rw [List.drop_left, List.take_of_length_le (Nat.le_refl _)]
            · exact old cs j d' cs' (by omega) h1 h2
          · rw [List.getElem?_append_left (by omega)]
            exact h0
          · rw [List.drop_append_of_le_length (by omega), sizs_app]
            omega
      · have hi : bs.length = ds.length := by
          have : ¬ ((bs.map V.int).length : Int) < (xs.length : Int) := fun z => e (decide_eq_true z)
          rw [List.length_map] at this
          omega
        refine ⟨.ref t, rfl, .ref b, rfl, by show 2 ≤ sizeLine; decide, fun r nr => ?_⟩
        have sr := same_upd (o := .tup [.ref t, .ref b]) nr
        exact q _ r t b xs ds bs (sm.trans sr) nt nb0 tb (sr _ _ et) (sr _ _ eb) upd_same ha (by rw [← hi]; exact hlaid) hi h0 (by omega)
theorem ok_kept (T : Top w K mg) : FnOk P w K mg base CX0 3 T.a_kept T.fd_kept ["thing"] (spKept K) := by
  have G_is_row := ok_is_row (P := P) (w := w) (base := base) T
  have G_laid_out := ok_laid_out (P := P) (w := w) (base := base) T
  refine T.F_kept.ok sc_kept (fun vs H Q E h => ?_) (fun cdv A outer s H vs Q E hr h => ?_)
  · obtain ⟨v, d, rfl, _⟩ := h
    rfl
  · obtain ⟨v, d, rfl, hz, hd, q⟩ := h
    refine ⟨_, (pss_cons (ps_asg (pe_call G_laid_out hr (by rfl) T.g_laid_out T.F_laid_out.kp T.b_laid_out .nil pass0 (pa_cons (pv 0) pa_nil)) (pg_tup rfl (pgs_cons (pg_name (i := 1) sc_kept.nd rfl (.inl rfl)) (pgs_cons (pg_name (i := 2) sc_kept.nd rfl (.inl rfl)) pgs_nil))))
      (pss_cons (ps_set (i := 3) sc_kept.nd rfl (.inl rfl) (pe_callB call_len_seq (by rfl) T.m_len (by decide +kernel) (pa_cons (pv 1) pa_nil)))
      (pss_cons (ps_set (i := 4) sc_kept.nd rfl (.inl rfl) (pe_op op_rep (pe_lst (pa_cons pe_bl pa_nil)) (pv 3)))
      (pss_cons (ps_while PassesOwn.never (pt_cmpR op_gt (pv 3) pe_int (nomark _)) (pss_cons (ps_aug (i := 3) sc_kept.nd rfl (.inl rfl) pe_int ip_sub)
      (pss_cons (ps_set (i := 5) sc_kept.nd rfl (.inl rfl) (pe_ix ix_list (pv 1) (pv 3) (fun _ _ => rfl)))
      (pss_one (ps_if (pt_val (pe_call G_is_row (hr.mono (by decide)) (by rfl) T.g_is_row T.F_is_row.kp T.b_is_row .nil pass0 (pa_cons (pv 5) pa_nil))) (pss_cons (ps_par (i := 6) (j := 7) (by rfl) sc_kept.nd rfl rfl (by decide) rfl rfl (pa_cons (pe_ix ix_list (pv 2) (pv 3) (fun _ _ => rfl)) (pa_cons (pe_op op_add (pe_ix ix_list (pv 2) (pv 3) (fun _ _ => rfl)) (pe_callB call_len_seq (by rfl) T.m_len (by decide +kernel) (pa_cons (pv 5) pa_nil))) pa_nil)) (by rfl))
      (Evl.pss_cut (ps_asg (pe_or (pe_callB call_isi (by rfl) T.m_isinstance (by decide +kernel) (pa_cons (pv 5) (pa_cons (pe_bltn (v := .ty "list") (by rfl) T.m_list (by decide +kernel) rfl) pa_nil))) (pe_one (pe_callB (cr_any rfl) (by rfl) T.m_any (by decide +kernel) (pa_cons (pe_slice sl_list (pv 4) (po_some (pv 6)) (po_some (pv 7))) pa_nil)))) (pg_sub (pv 4) (pv 3) set_list))
      (pss_one (ps_if (pt_val (pe_ix ix_list (pv 4) (pv 3) (fun _ _ => rfl))) (pss_one (ps_asg (pe_ifExp (pt_val (pe_callB call_isi (by rfl) T.m_isinstance (by decide +kernel) (pa_cons (pv 5) (pa_cons (pe_bltn (v := .ty "list") (by rfl) T.m_list (by decide +kernel) rfl) pa_nil)))) (pe_slice sl_list (pv 1) (po_some (pv 6)) (po_some (pv 7))) (pe_callTy call_tuple_of (by rfl) T.m_tuple (by decide +kernel) (pa_cons (pe_slice sl_list (pv 1) (po_some (pv 6)) (po_some (pv 7))) pa_nil))) (pg_sub (pv 1) (pv 3) set_list))) pss_nil)))) pss_nil)))))
      (pss_one (ps_ret (pe_ix ix_list (pv 1) pe_int (fun _ _ => rfl)))))))), ?_⟩
    refine ⟨v, rfl, v, d, rfl, hz, hd, fun H1 r t b xs ds bs sm nt nb tb et eb er ha hlaid hlb h0 hl => ?_⟩
    have lx := dpa_len ds xs ha
    refine ⟨r, _, rfl, .inl (.inl er), rfl, _, _, rfl, _, _, rfl, rfl, ?_⟩
    refine ⟨.ref t, rfl, t, xs, rfl, .inl (.inl (.inl et)), ?_⟩
    have sl : xs.length ≤ sizeLine := Nat.le_of_lt (small1000 (by omega))
    refine ⟨by show 1 ≤ sizeLine; decide, fun l nl => ?_⟩
    have s1 := same_upd (o := .lst [.bl false]) nl
    refine ⟨.int (xs.length : Nat), rfl, l, _, _, rfl, rfl, upd_same, by omega, by have : sizeLine < 2 ^ 63 := by decide
                                                                                   omega, ?_, fun a na => ?_⟩
    · show 1 * (xs.length : Int).toNat ≤ sizeLine
      omega
    have s2 := same_upd (o := .lst (List.replicate (xs.length : Int).toNat [V.bl false]).flatten) na
    have ea : ∃ as : List Bool, (List.replicate (xs.length : Int).toNat [V.bl false]).flatten = as.map V.bl ∧ as.length = ds.length := ⟨List.replicate ds.length false, by simp [lx], by simp⟩
    obtain ⟨as, ea1, ea2⟩ := ea
    have ma : upd (upd H1 l (.lst [.bl false])) a (.lst (List.replicate (xs.length : Int).toNat [V.bl false]).flatten) a = some (.lst (as.map V.bl)) := by rw [upd_same, ea1]
    have ta : t ≠ a := ne_of_none (s1 _ _ et) na
    have ba : b ≠ a := ne_of_none (s1 _ _ eb) na
    have na0 : H a = none := sm.free (s1.free na)
    refine ⟨fun m σ H2 => ∃ xs as y5 y6 y7, σ = [some v, some (.ref t), some (.ref b), some (.int (m : Nat)), some (.ref a), y5, y6, y7] ∧ m ≤ ds.length ∧ Same H H2 ∧ H2 t = some (.lst xs) ∧ H2 b = some (.lst (bs.map V.int)) ∧ H2 a = some (.lst (as.map V.bl)) ∧ as.length = ds.length ∧ DpAll K (wo H2 (fun c => c = t ∨ c = b ∨ c = a)) xs ds, ⟨ds.length, xs, as, none, none, none, by rw [lx]; rfl, Nat.le_refl _, (sm.trans s1).trans s2, (s1.trans s2) _ _ et, (s1.trans s2) _ _ eb, ma, ea2, ?_⟩, ?_⟩
    · refine dpa_same (fun c o h => ?_) _ _ ha
      rw [wo_in (fun z => by
        rcases z with z | z | z
        · rw [z, nt] at h; cases h
        · rw [z, nb] at h; cases h
        · rw [z, na0] at h; cases h)]
      exact ((sm.trans s1).trans s2) _ _ h
    · rintro m σ H2 ⟨xs, as, y5, y6, y7, rfl, hm, sm2, et2, eb2, ea2, la, ha2⟩
      have lx := dpa_len ds xs ha2
      refine ⟨.int (m : Nat), rfl, _, _, rfl, rfl, _, rfl, ite2 (fun e => ?_) (fun e => ?_)⟩
      · have mp : 0 < m := by
          have := of_decide_eq_true e
          omega
        obtain ⟨j, rfl⟩ : ∃ j, m = j + 1 := ⟨m - 1, by omega⟩
        refine ⟨fun σ' H' => ∃ m', m' < j + 1 ∧ _, fun _ _ h => h, ?_⟩
        refine ⟨_, rfl, _, _, rfl, rfl, ?_⟩
        have ej : ((j + 1 : Nat) : Int) - 1 = (j : Nat) := by omega
        obtain ⟨dj, fj⟩ : ∃ dj, ds[j]? = some dj := ⟨_, List.getElem?_eq_getElem (by omega)⟩
        obtain ⟨x, gx⟩ : ∃ x, xs[j]? = some x := ⟨_, List.getElem?_eq_getElem (by omega)⟩
        have hx : Dp K (wo H2 (fun c => c = t ∨ c = b ∨ c = a)) x dj := by
          obtain ⟨d', e1, e2⟩ := dpa_at ds xs ha2 _ x gx
          rw [fj] at e1
          cases e1
          exact e2
        have hx2 := dp_same wo_same dj x hx
        have atj : ∀ {α : Type} {l : List α} {y : α}, l[j]? = some y → atI l (((j + 1 : Nat) : Int) - 1) = some y := fun h => by
          rw [ej]
          exact atI_nat h
        refine ⟨.ref t, rfl, _, rfl, t, xs, _, x, rfl, rfl, .inl (.inl et2), atj gx, ?_⟩
        refine ⟨x, rfl, x, dj, rfl, hx2, fun H3 s3 => ⟨_, rfl, ?_⟩⟩
        have keep : ∀ {H4 : Hp}, Same H2 H4 → Same (wo H2 (fun c => c = t ∨ c = b ∨ c = a)) (wo H4 (fun c => c = t ∨ c = b ∨ c = a)) := fun {H4} s4 c o h => by
          have h2 := wo_some h
          rw [wo_in h2.1]
          exact s4 _ _ h2.2
        cases e : seqD dj with
        | none => exact iteF ⟨j, Nat.lt_succ_self j, xs, as, some x, y6, y7, by rw [← ej]; rfl, by omega, sm2.trans s3, s3 _ _ et2, s3 _ _ eb2, s3 _ _ ea2, la, dpa_same (keep s3) _ _ ha2⟩
        | some cs =>
          obtain ⟨p, ys, rfl, hs, hc⟩ := seq_dp hx2 e
          have lc := dpa_len cs ys hc
          obtain ⟨b0, g1, g2⟩ := hlaid j dj cs (by omega) fj e
          have lcs : b0 + cs.length ≤ ds.length ∨ cs.length = 0 := by
            have := congrArg List.length g2
            rw [List.length_take, List.length_drop] at this
            omega
          have gb : (bs.map V.int)[j]? = some (.int (b0 : Int)) := by rw [List.getElem?_map, g1]; rfl
          have ty3 := ty_dp (dp_same s3 dj _ hx2)
          obtain ⟨x1, y1, k1, k2, exy⟩ := kit_seq dj
          refine iteT ⟨.ref b, rfl, _, rfl, b, _, _, _, rfl, rfl, .inl (.inl (s3 _ _ eb2)), atj gb, .ref b, rfl, _, rfl, b, _, _, _, rfl, rfl, .inl (.inl (s3 _ _ eb2)), atj gb, .ref p, rfl, p, ys, rfl, hs.elim (fun h => .inl (s3.seq h)) (fun h => .inr (sqt_same s3 h)), _, _, rfl, rfl, _, _, rfl, ?_⟩
          refine ⟨fun σ' H4 => ∃ as' : List Bool, σ' = [some v, some (.ref t), some (.ref b), some (.int (((j + 1 : Nat) : Int) - 1)), some (.ref a), some (.ref p), some (.int (b0 : Int)), some (.int ((b0 : Int) + (ys.length : Nat)))] ∧ as'.length = ds.length ∧ H4 a = some (.lst (as'.map V.bl)) ∧ ∀ c o, c ≠ a → H2 c = some o → H4 c = some o, ?_, ?_⟩
          · have put : ∀ (z : Bool) (H4 : Hp), Same H3 H4 → ∃ p xs k j', V.ref a = .ref p ∧ V.int (((j + 1 : Nat) : Int) - 1) = .int k ∧ H4 p = some (.lst xs) ∧ ixN xs.length k = some j' ∧ ∃ as' : List Bool, as'.length = ds.length ∧ upd H4 p (.lst (xs.set j' (.bl z))) a = some (.lst (as'.map V.bl)) ∧ ∀ c o, c ≠ a → H2 c = some o → upd H4 p (.lst (xs.set j' (.bl z))) c = some o := fun z H4 s4 => by
              refine ⟨a, as.map V.bl, _, j, rfl, rfl, s4 _ _ (s3 _ _ ea2), by rw [ej]; exact Evl.ixN_nat (by rw [List.length_map]; omega), as.set j z, by rw [List.length_set]; exact la, by rw [upd_same, List.map_set], fun c o hc h => ?_⟩
              rw [upd_ne hc]
              exact s4 _ _ (s3 _ _ h)
            refine ⟨.ref p, rfl, _, _, _, _, y1, rfl, .ty _, ty3, kit_ty k2, _, rfl, ?_⟩
            cases y1 with
            | true =>
              refine iteT ⟨.ref a, rfl, _, rfl, ?_⟩
              obtain ⟨p', xs', k', j', h1, h2, h3, h4, as', h5, h6, h7⟩ := put true H3 (Same.refl _)
              exact ⟨p', xs', k', j', h1, h2, h3, h4, as', rfl, h5, h6, h7⟩
            | false =>
              obtain ⟨cs', ec⟩ := cut_bl as (some (b0 : Int)) (some ((b0 : Int) + (ys.length : Nat)))
              refine iteF ⟨.ref a, rfl, _, rfl, _, rfl, _, rfl, _, rfl, a, _, rfl, .inl (.inl (s3 _ _ ea2)), fun c nc => ⟨c, cs', rfl, .inl (.inl (by rw [upd_same, ec])), .ref a, rfl, _, rfl, ?_⟩⟩
              obtain ⟨p', xs', k', j', h1, h2, h3, h4, as', h5, h6, h7⟩ := put (cs'.any id) _ (same_upd nc)
              exact ⟨p', xs', k', j', h1, h2, h3, h4, as', rfl, h5, h6, h7⟩
          · rintro σ' H4 ⟨as', rfl, la', ea4, k4⟩
            have na2 : H a = none := na0
            have sm4 : Same H H4 := fun c o h => k4 _ _ (ne_of_none h na0) (sm2 _ _ h)
            have et4 := k4 t _ ta et2
            have eb4 := k4 b _ ba eb2
            have keep4 : Same (wo H2 (fun c => c = t ∨ c = b ∨ c = a)) (wo H4 (fun c => c = t ∨ c = b ∨ c = a)) := fun c o h => by
              have h2 := wo_some h
              rw [wo_in h2.1]
              exact k4 _ _ (fun z => h2.1 (.inr (.inr z))) h2.2
            obtain ⟨z, gz⟩ : ∃ z, as'[j]? = some z := ⟨_, List.getElem?_eq_getElem (by omega)⟩
            refine ⟨.ref a, rfl, _, rfl, a, _, _, .bl z, rfl, rfl, .inl (.inl ea4), atj (by rw [List.getElem?_map, gz]; rfl), z, rfl, ?_⟩
            cases z with
            | false => exact iteF ⟨j, Nat.lt_succ_self j, xs, as', some (.ref p), _, _, by rw [← ej], by omega, sm4, et4, eb4, ea4, la', dpa_same keep4 _ _ ha2⟩
            | true =>
              refine iteT ⟨.ref p, rfl, _, _, _, _, y1, rfl, .ty _, ty_dp (dp_same keep4 dj _ hx |> dp_same wo_same dj _), kit_ty k2, _, rfl, ?_⟩
              have hcut : DpAll K (wo H4 (fun c => c = t ∨ c = b ∨ c = a)) (cutV xs (some (b0 : Int)) (some ((b0 : Int) + (ys.length : Nat)))) cs := by
                have h1 := dpa_takeK cs.length _ _ (dpa_dropK b0 _ _ (dpa_same keep4 _ _ ha2))
                rw [g2] at h1
                rcases lcs with h | h
                · rw [cut_nat xs b0 ys.length (by omega), lc]
                  exact h1
                · have e0 : cs = [] := List.eq_nil_of_length_eq_zero h
                  have e1 : ys.length = 0 := by omega
                  have e2 : cutV xs (some (b0 : Int)) (some ((b0 : Int) + (ys.length : Nat))) = [] := by
                    rw [e1]
                    unfold cutV
                    rw [show ((b0 : Int) + ((0 : Nat) : Int)) = (b0 : Int) by omega]
                    apply List.eq_nil_of_length_eq_zero
                    rw [List.length_take, List.length_drop]
                    unfold HT.sIx
                    simp only []
                    split <;> omega
                  rw [e2, e0]
                  exact .nil
              have fin : ∀ (H6 : Hp) (y' : V), Same H4 H6 → Dp K (wo H6 (fun c => c = t ∨ c = b ∨ c = a)) y' dj → Same H (upd H6 t (.lst (xs.set j y'))) ∧ upd H6 t (.lst (xs.set j y')) b = some (.lst (bs.map V.int)) ∧ upd H6 t (.lst (xs.set j y')) a = some (.lst (as'.map V.bl)) ∧ DpAll K (wo (upd H6 t (.lst (xs.set j y'))) (fun c => c = t ∨ c = b ∨ c = a)) (xs.set j y') ds := fun H6 y' s6 hy => by
                have k6 : Same (wo H6 (fun c => c = t ∨ c = b ∨ c = a)) (wo (upd H6 t (.lst (xs.set j y'))) (fun c => c = t ∨ c = b ∨ c = a)) := fun c o h => by
                  have h2 := wo_some h
                  rw [wo_in h2.1, upd_ne (fun z => h2.1 (.inl z))]
                  exact h2.2
                have k46 : Same (wo H4 (fun c => c = t ∨ c = b ∨ c = a)) (wo H6 (fun c => c = t ∨ c = b ∨ c = a)) := fun c o h => by
                  have h2 := wo_some h
                  rw [wo_in h2.1]
                  exact s6 _ _ h2.2
                refine ⟨fun c o h => ?_, ?_, ?_, dpa_setK (dp_same k6 dj y' hy) j ds xs (dpa_same (keep4.trans (k46.trans k6)) _ _ ha2) fj⟩
                · rw [upd_ne (ne_of_none h nt)]
                  exact s6 _ _ (sm4 _ _ h)
                · rw [upd_ne (Ne.symm tb)]
                  exact s6 _ _ eb4
                · rw [upd_ne (Ne.symm ta)]
                  exact s6 _ _ ea4
              have newX : ∀ {H6 : Hp} {c : Addr}, Same H4 H6 → H6 c = none → ¬ (c = t ∨ c = b ∨ c = a) := fun {H6 c} s6 nc z => by
                rcases z with z | z | z
                · rw [z, s6 _ _ et4] at nc; cases nc
                · rw [z, s6 _ _ eb4] at nc; cases nc
                · rw [z, s6 _ _ ea4] at nc; cases nc
              have keep6 : ∀ {H6 : Hp}, Same H4 H6 → Same (wo H4 (fun c => c = t ∨ c = b ∨ c = a)) (wo H6 (fun c => c = t ∨ c = b ∨ c = a)) := fun {H6} s6 c o h => by
                have h2 := wo_some h
                rw [wo_in h2.1]
                exact s6 _ _ h2.2
              have hk : (y1 = true → dj = .list cs) ∧ (y1 = false → dj = .tuple cs) := by
                cases dj with
                | list ds =>
                  cases e
                  have : kitB (tyD (.list cs)) "list" = some true := by show kitB "list" "list" = some true; decide +kernel
                  rw [this] at k2
                  cases k2
                  exact ⟨fun _ => rfl, fun z => by cases z⟩
                | tuple ds =>
                  cases e
                  have : kitB (tyD (.tuple cs)) "list" = some false := by show kitB "tuple" "list" = some false; decide +kernel
                  rw [this] at k2
                  cases k2
                  exact ⟨fun z => (by cases z), fun _ => rfl⟩
                | _ => cases e
              have ixj : ixN xs.length (((j + 1 : Nat) : Int) - 1) = some j := by rw [ej]; exact Evl.ixN_nat (by omega)
              cases y1 with
              | true =>
                refine iteT ⟨.ref t, rfl, _, rfl, _, rfl, _, rfl, _, rfl, t, xs, rfl, .inl (.inl et4), fun c nc => ?_⟩
                have sc := same_upd (o := .lst (cutV xs (some (b0 : Int)) (some ((b0 : Int) + (ys.length : Nat))))) nc
                obtain ⟨h1, h2, h3, h4⟩ := fin _ (.ref c) sc (by
                  rw [hk.1 rfl]
                  exact .lst (.inl (.inl (by rw [wo_in (newX (Same.refl _) nc)]; exact upd_same))) (dpa_same (keep6 sc) _ _ hcut))
                exact ⟨.ref t, rfl, _, rfl, t, xs, _, j, rfl, rfl, sc _ _ et4, ixj, j, Nat.lt_succ_self j, xs.set j (.ref c), as', some (.ref p), _, _, by rw [← ej], by omega, h1, upd_same, h2, h3, la', h4⟩
              | false =>
                refine iteF ⟨.ref t, rfl, _, rfl, _, rfl, _, rfl, _, rfl, t, xs, rfl, .inl (.inl et4), fun c nc => ⟨c, _, rfl, .inl ⟨.inl (.inl upd_same), fun l nl => ?_⟩⟩⟩
                have sc := same_upd (o := .lst (cutV xs (some (b0 : Int)) (some ((b0 : Int) + (ys.length : Nat))))) nc
                have sl := sc.trans (same_upd (o := .tup (cutV xs (some (b0 : Int)) (some ((b0 : Int) + (ys.length : Nat))))) nl)
                obtain ⟨h1, h2, h3, h4⟩ := fin _ (.ref l) sl (by
                  rw [hk.2 rfl]
                  exact .tup (.inl (.inl (by rw [wo_in (newX sc nl)]; exact upd_same))) (dpa_same (keep6 sl) _ _ hcut))
                exact ⟨.ref t, rfl, _, rfl, t, xs, _, j, rfl, rfl, sl _ _ et4, ixj, j, Nat.lt_succ_self j, xs.set j (.ref l), as', some (.ref p), _, _, by rw [← ej], by omega, h1, upd_same, h2, h3, la', h4⟩
      · have m0 : m = 0 := by
          have : ¬ (0 : Int) < (m : Int) := fun z => e (decide_eq_true z)
          omega
        subst m0
        cases xs with
        | nil => cases ha2; cases h0
        | cons x xs' =>
          obtain ⟨d', e1, e2⟩ := dpa_at ds _ ha2 0 x rfl
          rw [h0] at e1
          cases e1
          exact ⟨.ref t, rfl, t, _, 0, x, rfl, rfl, .inl (.inl et2), atI_nat (j := 0) rfl, q H2 x sm2 (dp_same wo_same _ x e2)⟩
--@@SPLIT
/-! ### what is kept while an exception is handled: flat things alone -/
theorem okH_is_row (T : Top w K mg) : L2H.FnH P w K mg base CX0 1 T.a_is_row T.fd_is_row ["thing"] (spRowD K) := by
  refine HotAs.okH T.F_is_row sc_is_row (fun vs H Q E h => ?_) (fun cdv A outer s H vs Q E p hr hc h => ?_)
  · obtain ⟨v, d, rfl, _⟩ := h
    rfl
  · obtain ⟨v, d, rfl, hd, q⟩ := h
    refine ⟨_, (pss_one (ps_ret (pe_callB call_isiT (by rfl) T.m_isinstance (by decide +kernel) (pa_cons (pv 0) (pa_cons (pe_tup (pa_cons (pe_bltn (v := .ty "tuple") (by rfl) T.m_tuple (by decide +kernel) rfl) (pa_cons (pe_bltn (v := .ty "list") (by rfl) T.m_list (by decide +kernel) rfl) pa_nil))) pa_nil))))), ?_⟩
    obtain ⟨x, y, k1, k2, exy⟩ := kit_seq d
    refine ⟨v, rfl, by show 2 ≤ sizeLine; decide, fun tp np => ⟨v, tp, _, _, _, _, rfl, upd_same, .cons (.ty _) (.cons (.ty _) .nil), ty_dp (dp_same (same_upd np) d v hd), kit_any2 k1 k2, ?_⟩⟩
    rw [exy]
    exact q _ (same_upd np)
def spLaidH (K : PySem.W.Frag) : Sp := fun vs H Q _ => ∃ (v : V) (d : PyData), vs = [v] ∧ seqD d = none ∧ Dp K H v d ∧
  ∀ H' r t b, Same H H' → H t = none → H b = none → t ≠ b → H' t = some (.lst [v]) → H' b = some (.lst [.int 1]) → H' r = some (.tup [.ref t, .ref b]) → Q (.ref r) H'
theorem okH_laid_out (T : Top w K mg) : L2H.FnH P w K mg base CX0 2 T.a_laid_out T.fd_laid_out ["thing"] (spLaidH K) := by
  have GH_is_row := okH_is_row (P := P) (w := w) (base := base) T
  refine HotAs.okH T.F_laid_out sc_laid_out (fun vs H Q E h => ?_) (fun cdv A outer s H vs Q E p hr hc h => ?_)
  · obtain ⟨v, d, rfl, _⟩ := h
    rfl
  · obtain ⟨v, d, rfl, fl, hd, q⟩ := h
    refine ⟨_, (pss_cons (ps_set (i := 1) sc_laid_out.nd rfl (.inl rfl) (pe_lst (pa_cons (pv 0) pa_nil)))
      (pss_cons (ps_set (i := 2) sc_laid_out.nd rfl (.inl rfl) (pe_lst pa_nil))
      (pss_cons (ps_while PassesOwn.never (pt_cmpR op_lt (pe_callB call_len_seq (by rfl) T.m_len (by decide +kernel) (pa_cons (pv 2) pa_nil)) (pe_callB call_len_seq (by rfl) T.m_len (by decide +kernel) (pa_cons (pv 1) pa_nil)) (nomark _)) (pss_cons (ps_set (i := 3) sc_laid_out.nd rfl (.inl rfl) (pe_ix ix_list (pv 1) (pe_callB call_len_seq (by rfl) T.m_len (by decide +kernel) (pa_cons (pv 2) pa_nil)) (fun _ _ => rfl)))
      (pss_cons (ps_expr (pe_bm PySem.F.plainAttrs_list PySem.F.slot_list_append PySem.F.type_list_append mt_append (pv 2) (pa_cons (pe_callB call_len_seq (by rfl) T.m_len (by decide +kernel) (pa_cons (pv 1) pa_nil)) pa_nil)))
      (pss_one (ps_if (pt_val (L2H.pe_callH (E := fun _ _ _ _ => False) GH_is_row hr hc (by rfl) T.g_is_row T.F_is_row.kp T.b_is_row (fun _ _ _ _ _ _ _ z => z.elim) (pa_cons (pv 3) pa_nil))) pss_never pss_nil)))))
      (pss_one (ps_ret (pe_tup (pa_cons (pv 1) (pa_cons (pv 2) pa_nil)))))))), ?_⟩
    refine ⟨v, rfl, by show 1 ≤ sizeLine; decide, fun t nt => ⟨Nat.zero_le _, fun b nb => ?_⟩⟩
    have s1 := same_upd (o := .lst [v]) nt
    have s2 := same_upd (o := .lst []) nb
    have tb : t ≠ b := ne_of_none (upd_same (H := H) (a := t) (o := .lst [v])) nb
    have nb0 : H b = none := s1.free nb
    refine ⟨fun m σ H1 => ∃ (bs : List V) (y : Option V), σ = [some v, some (.ref t), some (.ref b), y] ∧ Same H H1 ∧ H1 t = some (.lst [v]) ∧ H1 b = some (.lst bs) ∧ (m = 1 ∧ bs = [] ∨ m = 0 ∧ bs = [.int 1]), ⟨1, [], none, rfl, s1.trans s2, s2 _ _ upd_same, upd_same, .inl ⟨rfl, rfl⟩⟩, ?_⟩
    rintro m σ H1 ⟨bs, y, rfl, sm, et, eb, hm⟩
    refine ⟨.ref b, rfl, b, _, rfl, .inl (.inl (.inl eb)), .ref t, rfl, t, _, rfl, .inl (.inl (.inl et)), _, _, rfl, rfl, _, rfl, ?_⟩
    rcases hm with ⟨rfl, rfl⟩ | ⟨rfl, rfl⟩
    · refine iteDY rfl ⟨fun σ' H' => ∃ m', m' < 1 ∧ _, fun _ _ h => h, ?_⟩
      refine ⟨.ref t, rfl, .ref b, rfl, b, _, rfl, .inl (.inl (.inl eb)), t, _, _, v, rfl, rfl, .inl (.inl et), rfl, ?_⟩
      refine ⟨.ref b, rfl, .inl ⟨rfl, _, .inl (.inl eb)⟩, .ref t, rfl, t, _, rfl, .inl (.inl (.inl et)), b, _, _, rfl, rfl, eb, by decide, ?_⟩
      have s3 : Same H (upd H1 b (.lst [.int 1])) := fun c o h => by
        rw [upd_ne (ne_of_none h nb0)]
        exact sm _ _ h
      refine ⟨v, rfl, v, d, rfl, dp_same s3 d v hd, fun H4 s4 => ⟨_, rfl, ?_⟩⟩
      rw [fl]
      exact iteF ⟨0, Nat.zero_lt_one, [.int 1], _, rfl, s3.trans s4, s4 _ _ ((upd_ne tb).trans et), s4 _ _ upd_same, .inr ⟨rfl, rfl⟩⟩
    · refine iteDN rfl ⟨.ref t, rfl, .ref b, rfl, by show 2 ≤ sizeLine; decide, fun r nr => ?_⟩
      have sr := same_upd (o := .tup [.ref t, .ref b]) nr
      exact q _ r t b (sm.trans sr) nt nb0 tb (sr _ _ et) (sr _ _ eb) upd_same
def spKeptH (K : PySem.W.Frag) : Sp := fun vs H Q _ => ∃ (v : V) (d : PyData), vs = [v] ∧ seqD d = none ∧ Dp K H v d ∧ ∀ H', Same H H' → Q v H'
theorem okH_kept (T : Top w K mg) : L2H.FnH P w K mg base CX0 3 T.a_kept T.fd_kept ["thing"] (spKeptH K) := by
  have GH_is_row := okH_is_row (P := P) (w := w) (base := base) T
  have GH_laid_out := okH_laid_out (P := P) (w := w) (base := base) T
  refine HotAs.okH T.F_kept sc_kept (fun vs H Q E h => ?_) (fun cdv A outer s H vs Q E p hr hc h => ?_)
  · obtain ⟨v, d, rfl, _⟩ := h
    rfl
  · obtain ⟨v, d, rfl, fl, hd, q⟩ := h
    refine ⟨_, (pss_cons (ps_asg (L2H.pe_callH (E := fun _ _ _ _ => False) GH_laid_out hr hc (by rfl) T.g_laid_out T.F_laid_out.kp T.b_laid_out (fun _ _ _ _ _ _ _ z => z.elim) (pa_cons (pv 0) pa_nil)) (HotAs.pg_tupH hc (pgs_cons (pg_name (i := 1) sc_kept.nd rfl (.inl rfl)) (pgs_cons (pg_name (i := 2) sc_kept.nd rfl (.inl rfl)) pgs_nil))))
      (pss_cons (ps_set (i := 3) sc_kept.nd rfl (.inl rfl) (pe_callB call_len_seq (by rfl) T.m_len (by decide +kernel) (pa_cons (pv 1) pa_nil)))
      (pss_cons (ps_set (i := 4) sc_kept.nd rfl (.inl rfl) (pe_op op_rep (pe_lst (pa_cons pe_bl pa_nil)) (pv 3)))
      (pss_cons (ps_while PassesOwn.never (pt_cmpR op_gt (pv 3) pe_int (nomark _)) (pss_cons (ps_aug (i := 3) sc_kept.nd rfl (.inl rfl) pe_int ip_sub)
      (pss_cons (ps_set (i := 5) sc_kept.nd rfl (.inl rfl) (pe_ix ix_list (pv 1) (pv 3) (fun _ _ => rfl)))
      (pss_one (ps_if (pt_val (L2H.pe_callH (E := fun _ _ _ _ => False) GH_is_row (hr.mono (by decide)) hc (by rfl) T.g_is_row T.F_is_row.kp T.b_is_row (fun _ _ _ _ _ _ _ z => z.elim) (pa_cons (pv 5) pa_nil))) pss_never pss_nil)))))
      (pss_one (ps_ret (pe_ix ix_list (pv 1) pe_int (fun _ _ => rfl)))))))), ?_⟩
    refine ⟨v, rfl, v, d, rfl, fl, hd, fun H1 r t b sm nt nb tb et eb er => ?_⟩
    refine ⟨r, _, rfl, .inl (.inl er), rfl, _, _, rfl, _, _, rfl, rfl, ?_⟩
    refine ⟨.ref t, rfl, t, _, rfl, .inl (.inl (.inl et)), by show 1 ≤ sizeLine; decide, fun l nl => ?_⟩
    have s1 := same_upd (o := .lst [.bl false]) nl
    refine ⟨.int 1, rfl, l, _, _, rfl, rfl, upd_same, by decide, by decide, by decide, fun a na => ?_⟩
    have s2 := same_upd (o := .lst (List.replicate (1 : Int).toNat [V.bl false]).flatten) na
    have s02 := (sm.trans s1).trans s2
    refine ⟨fun m σ H2 => ∃ y5 y6 y7, σ = [some v, some (.ref t), some (.ref b), some (.int (m : Nat)), some (.ref a), y5, y6, y7] ∧ m ≤ 1 ∧ Same H H2 ∧ H2 t = some (.lst [v]), ⟨1, none, none, none, rfl, Nat.le_refl _, s02, (s1.trans s2) _ _ et⟩, ?_⟩
    rintro m σ H2 ⟨y5, y6, y7, rfl, hm, sm2, et2⟩
    refine ⟨.int (m : Nat), rfl, _, _, rfl, rfl, _, rfl, ?_⟩
    match m, hm with
    | 1, _ =>
      refine iteDY (by decide) ⟨fun σ' H' => ∃ m', m' < 1 ∧ _, fun _ _ h => h, ?_⟩
      refine ⟨_, rfl, _, _, rfl, rfl, .ref t, rfl, _, rfl, t, _, _, v, rfl, rfl, .inl (.inl et2), rfl, ?_⟩
      refine ⟨v, rfl, v, d, rfl, dp_same sm2 d v hd, fun H3 s3 => ⟨_, rfl, ?_⟩⟩
      rw [fl]
      exact iteF ⟨0, Nat.zero_lt_one, _, _, _, rfl, Nat.zero_le _, sm2.trans s3, s3 _ _ et2⟩
    | 0, _ => exact iteDN (by decide) ⟨.ref t, rfl, t, _, 0, v, rfl, rfl, .inl (.inl et2), rfl, q H2 sm2⟩
--@@SPLIT
/-! ### texts -/
abbrev SMALLs : Str := PySem.Str.ofString "abcdefghijklmnopqrstuvwxyz"
abbrev GREATs : Str := PySem.Str.ofString "ABCDEFGHIJKLMNOPQRSTUVWXYZ"
def smC (c : Nat) : Bool := decide (c ∈ SMALLs.cps.toList)
def grC (c : Nat) : Bool := decide (c ∈ GREATs.cps.toList)
def shL (cs : List Nat) : Bool := decide (1 ≤ (cs.length : Int)) && decide ((cs.length : Int) ≤ 8)
def nmL (cs : List Nat) : Bool := shL cs && cs.all smC
def loL : List Nat → Bool
  | [] => false
  | c :: r => shL (c :: r) && (grC c && r.all smC)
def nmV : V → Bool
  | .str z => nmL z.cps.toList
  | _ => false
def loV : V → Bool
  | .str z => loL z.cps.toList
  | _ => false
def sgV (v : V) : Bool := nmV v || loV v
def shV : V → Bool
  | .str z => shL z.cps.toList
  | _ => false
/-- a thing: a text that is not too long, or no text -/
def Th (K : PySem.W.Frag) (H : Hp) (v : V) : Prop := (∃ z : Str, v = .str z ∧ z.length ≤ 1000) ∨ ((∀ z, v ≠ .str z) ∧ ∃ t, TyX K H v (.type t) ∧ kitB t "str" = some false)
theorem tyx_same {K : PySem.W.Frag} {H H' : Hp} {v : V} {t : Value} (e : Same H H') (h : TyX K H v t) : TyX K H' v t := by
  cases h with
  | base b =>
    cases b with
    | non => exact .base .non
    | bl x => exact .base (.bl x)
    | int i => exact .base (.int i)
    | str x => exact .base (.str x)
    | flt x => exact .base (.flt x)
    | lst h => exact .base (.lst (e _ _ h))
    | frz h => exact .base (.frz (e _ _ h))
    | tup h => exact .base (.tup (e _ _ h))
    | dK h => exact .base (.dK (e _ _ h))
    | dT h => exact .base (.dT (e _ _ h))
    | ins h a b c d f => exact .base (.ins (e _ _ h) a b c d f)
  | byt b => exact .byt b
  | set h => exact .set (e _ _ h)
  | kList h c => exact .kList h c
  | kTuple h c => exact .kTuple h c
  | kDict h c => exact .kDict h c
  | fTuple h => exact .fTuple (e _ _ h)
  | fDict h => exact .fDict (e _ _ h)
theorem Th.same {K : PySem.W.Frag} {H H' : Hp} {v : V} (e : Same H H') (h : Th K H v) : Th K H' v := by
  rcases h with h | ⟨n, t, ty, k⟩
  · exact .inl h
  · exact .inr ⟨n, t, tyx_same e ty, k⟩
theorem nmV_no {v : V} (h : ∀ z, v ≠ .str z) : nmV v = false ∧ loV v = false ∧ shV v = false := by
  cases v with
  | str z => exact absurd rfl (h z)
  | _ => exact ⟨rfl, rfl, rfl⟩
theorem len_toList (z : Str) : z.cps.toList.length = z.length := Array.length_toList
theorem thou {n : Nat} (h : n ≤ 1000) : n ≤ sizeLine := Nat.le_trans h (by decide)
def spShort (K : PySem.W.Frag) : Sp := fun vs H Q _ => ∃ v, vs = [v] ∧ Th K H v ∧ Q (.bl (shV v)) H
theorem s0 : PySem.Str.ofString "" = (⟨#[]⟩ : Str) := by decide +kernel
theorem ok_is_short_text (T : Top w K mg) : FnOk P w K mg base CX0 1 T.a_is_short_text T.fd_is_short_text ["thing"] (spShort K) := by
  refine T.F_is_short_text.ok sc_is_short_text (fun vs H Q E h => ?_) (fun cdv A outer s H vs Q E hr h => ?_)
  · obtain ⟨v, rfl, _⟩ := h
    rfl
  · obtain ⟨v, rfl, hv, q⟩ := h
    refine ⟨_, (pss_one (ps_ret (pe_and (pe_callB call_isi (by rfl) T.m_isinstance (by decide +kernel) (pa_cons (pv 0) (pa_cons (pe_bltn (v := .ty "str") (by rfl) T.m_str (by decide +kernel) rfl) pa_nil))) (pe_one (pe_chain op_le op_le pe_int (pe_callB call_len_str (by rfl) T.m_len (by decide +kernel) (pa_cons (pv 0) pa_nil)) (pe_glob (v := .int 8) (by rfl) T.g_LONGEST.choose_spec ⟨_, rfl⟩)))))), ?_⟩
    rcases hv with ⟨z, rfl, hz⟩ | ⟨no, t, ty, k⟩
    · refine ⟨.str z, rfl, _, _, _, _, true, rfl, .ty _, .base (.str z), kit_ty (by decide +kernel), _, rfl, iteT ?_⟩
      have q' : Q (.bl (decide (1 ≤ (z.length : Int)) && decide ((z.length : Int) ≤ 8))) H := by
        have e : shV (.str z) = (decide (1 ≤ (z.length : Int)) && decide ((z.length : Int) ≤ 8)) := by
          show (decide (1 ≤ (z.cps.toList.length : Int)) && decide ((z.cps.toList.length : Int) ≤ 8)) = _
          rw [len_toList]
        rw [← e]
        exact q
      refine ⟨.str z, rfl, z, rfl, thou hz, _, _, rfl, rfl, _, rfl, ite2 (fun e => ?_) (fun e => ?_)⟩
      · refine ⟨_, _, rfl, rfl, ?_⟩
        rw [e] at q'
        exact q'
      · rw [Bool.eq_false_iff.mpr e] at q'
        exact q'
    · rw [(nmV_no no).2.2] at q
      exact ⟨v, rfl, _, _, _, _, false, rfl, .ty _, ty, kit_ty k, _, rfl, iteF q⟩
def spSmall : Sp := fun vs H Q _ => ∃ z : Str, vs = [.str z] ∧ z.length ≤ 1000 ∧ ∀ H', Same H H' → Q (.bl (z.cps.toList.all smC)) H'
theorem all_map {f : Nat → Bool} : ∀ xs : List Nat, (xs.map f).all id = xs.all f
  | [] => rfl
  | x :: r => by rw [List.map_cons, List.all_cons, List.all_cons, all_map r]; rfl
theorem ok_are_small (T : Top w K mg) : FnOk P w K mg base CX0 1 T.a_are_small T.fd_are_small ["text"] spSmall := by
  refine T.F_are_small.ok sc_are_small (fun vs H Q E h => ?_) (fun cdv A outer s H vs Q E hr h => ?_)
  · obtain ⟨z, rfl, _⟩ := h
    rfl
  · obtain ⟨z, rfl, hz, q⟩ := h
    refine ⟨_, (pss_one (ps_ret (pe_callB (cr_all rfl) (by rfl) T.m_all (by decide +kernel) (pa_cons (pe_lc (own := [("letter", 1)]) (g := gName 1) (by rfl) sc_are_small.nd (pi_str (pv 0)) (blkOk_by (own := [("letter", 1)]) (N := ["text", "letter"]) (sc := defScope s_are_small) (by decide +kernel)) (fun _ _ _ _ _ => (pg_name (i := 1) sc_are_small.nd rfl (Or.inl rfl))) (fun _ _ _ _ _ => pts_nil) (fun _ _ _ _ _ => (pe_cmpR op_in_sign (pv 1) (pe_glob (v := .str "abcdefghijklmnopqrstuvwxyz") (by rfl) T.g_SMALL.choose_spec ⟨_, rfl⟩) (by rfl)))) pa_nil)))), ?_⟩
    refine ⟨.str z, rfl, z, rfl, fun D hD => lc_it walk_str (fun i H' => Same H H' ∧ H' D = some (.lst (((z.cps.toList.take i).map smC).map V.bl))) ⟨same_upd hD, upd_same⟩ (fun _ _ _ _ => trivial) ?_ ?_⟩
    · rintro i x H1 H2 hi ⟨sm, eD⟩ ⟨rfl, c, hc, rfl⟩
      refine ⟨rfl, ?_⟩
      refine ⟨_, rfl, c, _, rfl, rfl, _, eD, ?_, ?_, ?_⟩
      · rw [List.length_map, List.length_map, List.length_take, len_toList]
        exact small1000 (by omega)
      · exact fun b' o e => by
          rw [upd_ne (ne_of_none e hD)]
          exact sm _ _ e
      · rw [upd_same, List.take_add_one, Array.getElem?_toList, hc, List.map_append, List.map_append]
        rfl
    · rintro H1 ⟨sm, eD⟩
      have e2 : z.cps.toList.take z.cps.size = z.cps.toList := List.take_of_length_le (by rw [Array.length_toList]; exact Nat.le_refl _)
      rw [e2] at eD
      refine ⟨_, z.cps.toList.map smC, rfl, .inl (.inl eD), ?_⟩
      rw [all_map]
      exact q _ sm
def spIsV (K : PySem.W.Frag) (f : V → Bool) : Sp := fun vs H Q _ => ∃ v, vs = [v] ∧ Th K H v ∧ ∀ H', Same H H' → Q (.bl (f v)) H'
theorem ok_is_name (T : Top w K mg) : FnOk P w K mg base CX0 2 T.a_is_name T.fd_is_name ["thing"] (spIsV K nmV) := by
  have G_is_short_text := ok_is_short_text (P := P) (w := w) (base := base) T
  have G_are_small := ok_are_small (P := P) (w := w) (base := base) T
  refine T.F_is_name.ok sc_is_name (fun vs H Q E h => ?_) (fun cdv A outer s H vs Q E hr h => ?_)
  · obtain ⟨v, rfl, _⟩ := h
    rfl
  · obtain ⟨v, rfl, hv, q⟩ := h
    refine ⟨_, (pss_one (ps_ret (pe_and (pe_call G_is_short_text hr (by rfl) T.g_is_short_text T.F_is_short_text.kp T.b_is_short_text .nil pass0 (pa_cons (pv 0) pa_nil)) (pe_one (pe_call G_are_small hr (by rfl) T.g_are_small T.F_are_small.kp T.b_are_small .nil pass0 (pa_cons (pv 0) pa_nil)))))), ?_⟩
    refine ⟨v, rfl, v, rfl, hv, _, rfl, ite2 (fun e => ?_) (fun e => ?_)⟩
    · rcases hv with ⟨z, rfl, hz⟩ | ⟨no, _⟩
      · refine ⟨.str z, rfl, z, rfl, hz, fun H' sm => ?_⟩
        have h := q H' sm
        have e2 : nmV (.str z) = z.cps.toList.all smC := by
          show (shV (.str z) && z.cps.toList.all smC) = _
          rw [e]
          rfl
        rw [e2] at h
        exact h
      · rw [(nmV_no no).2.2] at e
        cases e
    · have h := q H (Same.refl H)
      have e2 : nmV v = false := by
        rcases hv with ⟨z, rfl, hz⟩ | ⟨no, _⟩
        · show (shV (.str z) && z.cps.toList.all smC) = _
          rw [Bool.eq_false_iff.mpr e]
          rfl
        · exact (nmV_no no).1
      rw [e2] at h
      exact h
theorem cut_tail (c : Nat) (r : List Nat) : cutS ⟨⟨c :: r⟩⟩ (some 1) none = ⟨⟨r⟩⟩ := by
  unfold cutS
  have e1 : HT.sIx (Str.length ⟨⟨c :: r⟩⟩) 0 (some 1) = 1 := by
    rw [show HT.sIx (Str.length ⟨⟨c :: r⟩⟩) 0 (some 1) = min 1 (Str.length ⟨⟨c :: r⟩⟩) from HT.sIx_nat _ 0 1]
    show min 1 (r.length + 1) = 1
    omega
  rw [e1, HT.sIx_none]
  show (⟨(List.take ((c :: r).length - 1) r).toArray⟩ : Str) = ⟨⟨r⟩⟩
  rw [List.length_cons, Nat.add_sub_cancel, List.take_length]
theorem ok_is_lone (T : Top w K mg) : FnOk P w K mg base CX0 2 T.a_is_lone T.fd_is_lone ["thing"] (spIsV K loV) := by
  have G_is_short_text := ok_is_short_text (P := P) (w := w) (base := base) T
  have G_are_small := ok_are_small (P := P) (w := w) (base := base) T
  refine T.F_is_lone.ok sc_is_lone (fun vs H Q E h => ?_) (fun cdv A outer s H vs Q E hr h => ?_)
  · obtain ⟨v, rfl, _⟩ := h
    rfl
  · obtain ⟨v, rfl, hv, q⟩ := h
    refine ⟨_, (pss_one (ps_ret (pe_and (pe_call G_is_short_text hr (by rfl) T.g_is_short_text T.F_is_short_text.kp T.b_is_short_text .nil pass0 (pa_cons (pv 0) pa_nil)) (pe_and (pe_cmpR op_in_sign (pe_ix ix_str (pv 0) pe_int (fun _ _ => rfl)) (pe_glob (v := .str "ABCDEFGHIJKLMNOPQRSTUVWXYZ") (by rfl) T.g_GREAT.choose_spec ⟨_, rfl⟩) (by rfl)) (pe_one (pe_call G_are_small hr (by rfl) T.g_are_small T.F_are_small.kp T.b_are_small .nil pass0 (pa_cons (pe_slice sl_str (pv 0) (po_some pe_int) po_none) pa_nil))))))), ?_⟩
    refine ⟨v, rfl, v, rfl, hv, _, rfl, ite2 (fun e => ?_) (fun e => ?_)⟩
    · rcases hv with ⟨⟨⟨cs⟩⟩, rfl, hz⟩ | ⟨no, _⟩
      · match cs, hz, e, q with
        | [], _, e, _ => cases e
        | c :: r, hz, e, q =>
          have hz2 : r.length + 1 ≤ 1000 := hz
          refine ⟨_, rfl, _, 0, c, rfl, rfl, thou hz, atI_nat (j := 0) rfl, c, _, rfl, rfl, _, rfl, ite2 (fun e3 => ?_) (fun e3 => ?_)⟩
          · refine ⟨_, rfl, 1, rfl, _, rfl, thou hz, ?_⟩
            rw [cut_tail]
            refine ⟨_, rfl, by show r.length ≤ 1000; omega, fun H' sm => ?_⟩
            have h := q H' sm
            have e2 : loV (.str ⟨⟨c :: r⟩⟩) = r.all smC := by
              show (shL (c :: r) && (grC c && r.all smC)) = _
              rw [show shL (c :: r) = true from e, show grC c = true from e3]
              rfl
            rw [e2] at h
            exact h
          · have h := q H (Same.refl H)
            have e2 : loV (.str ⟨⟨c :: r⟩⟩) = false := by
              show (shL (c :: r) && (grC c && r.all smC)) = _
              rw [show grC c = false from Bool.eq_false_iff.mpr e3, Bool.false_and, Bool.and_false]
            rw [e2] at h
            exact h
      · rw [(nmV_no no).2.2] at e
        cases e
    · have h := q H (Same.refl H)
      have e2 : loV v = false := by
        rcases hv with ⟨⟨⟨cs⟩⟩, rfl, hz⟩ | ⟨no, _⟩
        · match cs, e with
          | [], _ => rfl
          | c :: r, e =>
            show (shL (c :: r) && (grC c && r.all smC)) = _
            rw [show shL (c :: r) = false from Bool.eq_false_iff.mpr e]
            rfl
        · exact (nmV_no no).2.1
      rw [e2] at h
      exact h
theorem ok_is_sign (T : Top w K mg) : FnOk P w K mg base CX0 3 T.a_is_sign T.fd_is_sign ["thing"] (spIsV K sgV) := by
  have G_is_name := ok_is_name (P := P) (w := w) (base := base) T
  have G_is_lone := ok_is_lone (P := P) (w := w) (base := base) T
  refine T.F_is_sign.ok sc_is_sign (fun vs H Q E h => ?_) (fun cdv A outer s H vs Q E hr h => ?_)
  · obtain ⟨v, rfl, _⟩ := h
    rfl
  · obtain ⟨v, rfl, hv, q⟩ := h
    refine ⟨_, (pss_one (ps_ret (pe_or (pe_call G_is_name hr (by rfl) T.g_is_name T.F_is_name.kp T.b_is_name .nil pass0 (pa_cons (pv 0) pa_nil)) (pe_one (pe_call G_is_lone hr (by rfl) T.g_is_lone T.F_is_lone.kp T.b_is_lone .nil pass0 (pa_cons (pv 0) pa_nil)))))), ?_⟩
    refine ⟨v, rfl, v, rfl, hv, fun H1 s1 => ⟨_, rfl, ite2 (fun e => ?_) (fun e => ?_)⟩⟩
    · have h := q H1 s1
      rw [show sgV v = true by unfold sgV; rw [e]; rfl] at h
      exact h
    · refine ⟨v, rfl, v, rfl, hv.same s1, fun H2 s2 => ?_⟩
      have h := q H2 (s1.trans s2)
      rw [show sgV v = loV v by unfold sgV; rw [Bool.eq_false_iff.mpr e]; rfl] at h
      exact h
/-! ### parts of entries -/
theorem units65 {k : Nat} {A : Around} (hr : Room k A) : A.units + 65 < cLine := by
  have := hr.un
  omega
def rEqA (K : PySem.W.Frag) : R2 := fun x y H Q => rEq x y H Q ∨ rEqD K x y H Q
theorem op_eqA {X : Cx} (hu : X.A.units + 64 < cLine) : OpR X (compareOp .Eq) (rEqA X.K) := by
  intro pins s σ H x y v u Q I rx ry h
  rcases h with h | h
  · exact op_eq pins s σ H x y v u Q I rx ry h
  · exact op_eqD hu pins s σ H x y v u Q I rx ry h
def rInTD (K : PySem.W.Frag) : R2 := fun x y H Q => ∃ d ds, Dp K H x d ∧ Dp K H y (.tuple ds) ∧ SeqAt.shaped d = true ∧ SeqAt.shaped (.tuple ds) = true ∧ Q (.bl (ds.any fun z => PyData.eqv z d)) H
def rInA (K : PySem.W.Frag) : R2 := fun x y H Q => rIn K false x y H Q ∨ rInTD K x y H Q
theorem op_inA {X : Cx} (hu : X.A.units + 65 < cLine) : OpR X (compareOp .In) (rInA X.K) := by
  intro pins s σ H x y v u Q I rx ry h
  rcases h with h | ⟨d, ds, hd, he, sd, se, q⟩
  · exact op_in_seq pins s σ H x y v u Q I rx ry h
  · obtain ⟨as, r1⟩ := Dp.reads I d x v hd rx
    obtain ⟨bs, r2⟩ := Dp.reads I (.tuple ds) y u he ry
    exact SeqAt.in_tuple_reads r2 r1 (SeqAt.canLay_of_shaped se) (SeqAt.canLay_of_shaped sd) (room_in_shaped sd hu) ⟨.bl _, H, I, rfl, q⟩
/-- a part of an entry: no text too long; what is nested is of the kind that can be compared -/
def gp : PyData → Bool
  | .none => true
  | .bool _ => true
  | .int _ => true
  | .str z => decide (z.length ≤ 1000)
  | .list ds => SeqAt.shaped (.list ds)
  | .tuple ds => SeqAt.shaped (.tuple ds)
  | .dict _ => false
/-- equal to a text -/
def eqS : PyData → Str → Bool
  | .str z, s => s == z
  | _, _ => false
def inW (d : PyData) (ws : List Str) : Bool := ws.any fun s => eqS d s
theorem dec_str (z s : Str) : decide (V.str z = V.str s) = (s == z) := by
  by_cases h : s = z
  · subst h
    rw [decide_eq_true rfl, beq_self_eq_true]
  · rw [decide_eq_false (fun e => h (V.str.inj e).symm), beq_eq_false_iff_ne.mpr h]
theorem eqA_of {K : PySem.W.Frag} {H : Hp} {v : V} {d : PyData} {s : Str} {Q : VK} (hd : Dp K H v d) (g : gp d = true) (hs : SeqAt.shaped (.str s) = true) (q : Q (.bl (eqS d s)) H) : rEqA K v (.str s) H Q := by
  cases hd with
  | non => exact .inl ⟨rfl, by rw [decide_eq_false (fun h => nomatch h)]; exact q⟩
  | bl b => exact .inl ⟨rfl, by rw [decide_eq_false (fun h => nomatch h)]; exact q⟩
  | int i => exact .inl ⟨rfl, by rw [decide_eq_false (fun h => nomatch h)]; exact q⟩
  | str z => exact .inl ⟨rfl, by rw [dec_str]; exact q⟩
  | lst h a => exact .inr ⟨_, _, .lst h a, .str s, g, hs, q⟩
  | tup h a => exact .inr ⟨_, _, .tup h a, .str s, g, hs, q⟩
theorem dpa_strs {K : PySem.W.Frag} {H : Hp} : ∀ ws : List Str, DpAll K H (ws.map V.str) (ws.map PyData.str)
  | [] => .nil
  | w :: r => .cons (.str w) (dpa_strs r)
theorem flat_strs : ∀ ws : List Str, (ws.map V.str).all flatV = true
  | [] => rfl
  | w :: r => by rw [List.map_cons, List.all_cons, flat_strs r]; rfl
theorem inW_flat {v : V} {d : PyData} (h : ∀ s : Str, eqV (.str s) v = eqS d s) : ∀ ws : List Str, inV v (ws.map V.str) = inW d ws
  | [] => rfl
  | w :: r => by
    have ih := inW_flat h r
    unfold inV inW at ih ⊢
    rw [List.map_cons, List.any_cons, List.any_cons, ih, h w]
theorem inW_deep {d : PyData} (h : ∀ s : Str, PyData.eqv (.str s) d = eqS d s) : ∀ ws : List Str, ((ws.map PyData.str).any fun z => PyData.eqv z d) = inW d ws
  | [] => rfl
  | w :: r => by
    have ih := inW_deep h r
    unfold inW at ih ⊢
    rw [List.map_cons, List.any_cons, List.any_cons, ih, h w]
theorem inA_of {K : PySem.W.Frag} {H : Hp} {v : V} {d : PyData} {p : Addr} {ws : List Str} {Q : VK} (hd : Dp K H v d) (g : gp d = true) (hp : SqT K H p (ws.map V.str)) (hs : SeqAt.shaped (.tuple (ws.map PyData.str)) = true) (q : Q (.bl (inW d ws)) H) : rInA K v (.ref p) H Q := by
  cases hd with
  | non => exact .inl ⟨p, _, rfl, .inr hp, rfl, flat_strs ws, by rw [← inW_flat (v := .non) (d := .none) (fun s => rfl)] at q; exact q⟩
  | bl b => exact .inl ⟨p, _, rfl, .inr hp, rfl, flat_strs ws, by rw [← inW_flat (v := .bl b) (d := .bool b) (fun s => rfl)] at q; exact q⟩
  | int i => exact .inl ⟨p, _, rfl, .inr hp, rfl, flat_strs ws, by rw [← inW_flat (v := .int i) (d := .int i) (fun s => rfl)] at q; exact q⟩
  | str z => exact .inl ⟨p, _, rfl, .inr hp, rfl, flat_strs ws, by rw [← inW_flat (v := .str z) (d := .str z) (fun s => rfl)] at q; exact q⟩
  | lst h a => exact .inr ⟨_, _, .lst h a, .tup hp (dpa_strs ws), g, hs, by rw [inW_deep (fun s => by simp [PyData.eqv, eqS])]; exact q⟩
  | tup h a => exact .inr ⟨_, _, .tup h a, .tup hp (dpa_strs ws), g, hs, by rw [inW_deep (fun s => by simp [PyData.eqv, eqS])]; exact q⟩
theorem th_dp {K : PySem.W.Frag} {H : Hp} {v : V} {d : PyData} (h : Dp K H v d) (g : gp d = true) : Th K H v := by
  cases h with
  | str z => exact .inl ⟨z, rfl, of_decide_eq_true g⟩
  | non => exact .inr ⟨(fun z e => nomatch e), _, .base .non, by decide +kernel⟩
  | bl b => exact .inr ⟨(fun z e => nomatch e), _, .base (.bl b), by decide +kernel⟩
  | int i => exact .inr ⟨(fun z e => nomatch e), _, .base (.int i), by decide +kernel⟩
  | lst h _ => exact .inr ⟨(fun z e => nomatch e), _, ty_lst h, by decide +kernel⟩
  | tup h _ => exact .inr ⟨(fun z e => nomatch e), _, ty_tup h, by decide +kernel⟩
def sgD : PyData → Bool
  | .str z => sgV (.str z)
  | _ => false
theorem sg_dp {K : PySem.W.Frag} {H : Hp} {v : V} {d : PyData} (h : Dp K H v d) : sgV v = sgD d := by
  cases h <;> rfl
/-! ### entries -/
def manyD : PyData → Bool
  | .int i => decide (1 ≤ i) && decide (i ≤ 9)
  | _ => false
abbrev lets : List Str := [PySem.Str.ofString "n", PySem.Str.ofString "e", PySem.Str.ofString "s", PySem.Str.ofString "w"]
def letD (d : PyData) : Bool := inW d lets
abbrev wAlone : List Str := [PySem.Str.ofString "left", PySem.Str.ofString "right", PySem.Str.ofString "back", PySem.Str.ofString "bump", PySem.Str.ofString "bare", PySem.Str.ofString "swap"]
abbrev wFace : List Str := [PySem.Str.ofString "left", PySem.Str.ofString "right", PySem.Str.ofString "back", PySem.Str.ofString "go", PySem.Str.ofString "bump", PySem.Str.ofString "spy"]
def pairD (w p : PyData) : Bool := if eqS w "face" = true then letD p else if eqS w "go" = true then manyD p else eqS w "sign" && sgD p
def entL : List PyData → Bool
  | [a] => inW a wAlone
  | [a, b] => pairD a b
  | [a, b, c] => eqS a "spy" && (manyD b && sgD c)
  | _ => false
def entD (d : PyData) : Bool := match seqD d with
  | some ds => entL ds
  | none => false
/-- a thing in the place of an entry -/
def ge (d : PyData) : Bool := match seqD d with
  | some ds => decide (ds.length ≤ 20) && ds.all gp
  | none => gp d
/-! ### letters, steps -/
def cd : Fin 4 → Nat
  | 0 => 110
  | 1 => 101
  | 2 => 115
  | 3 => 119
def Lt (l : Fin 4) : Str := ⟨#[cd l]⟩
abbrev nesw : Str := PySem.Str.ofString "nesw"
theorem lt0 : PySem.Str.ofString "n" = Lt 0 := by decide +kernel
theorem lt1 : PySem.Str.ofString "e" = Lt 1 := by decide +kernel
theorem lt2 : PySem.Str.ofString "s" = Lt 2 := by decide +kernel
theorem lt3 : PySem.Str.ofString "w" = Lt 3 := by decide +kernel
theorem ltd : ∀ l m : Fin 4, decide (V.str (Lt l) = V.str (Lt m)) = decide (l = m) := by decide +kernel
theorem occ : ∀ l : Fin 4, Builtin.Str.occurrences nesw (Lt l) 0 nesw.length 1 = [l.val] := by decide +kernel
theorem nesw_len : nesw.length ≤ sizeLine := by decide +kernel
theorem nesw_at : ∀ (i : Nat) (h : i < 4) (c : Nat), nesw.cps[i]? = some c → (⟨#[c]⟩ : Str) = Lt ⟨i, h⟩
  | 0, _, c, e => by cases e; rfl
  | 1, _, c, e => by cases e; rfl
  | 2, _, c, e => by cases e; rfl
  | 3, _, c, e => by cases e; rfl
def dx : Fin 4 → Int
  | 0 => 0
  | 1 => 1
  | 2 => 0
  | 3 => -1
def dy : Fin 4 → Int
  | 0 => 1
  | 1 => 0
  | 2 => -1
  | 3 => 0
theorem dxb : ∀ l : Fin 4, -(2 ^ 64) < dx l ∧ dx l < 2 ^ 64 := by decide +kernel
theorem dyb : ∀ l : Fin 4, -(2 ^ 64) < dy l ∧ dy l < 2 ^ 64 := by decide +kernel
/-! ### lots -/
def tr (a : Fin 8) (l : Fin 4) : Fin 4 := if a.val < 4 then ⟨(a.val + l.val) % 4, by omega⟩ else ⟨(a.val + 4 - l.val) % 4, by omega⟩
def un (a : Fin 8) : Fin 8 := if a.val < 4 then ⟨(4 - a.val) % 4, by omega⟩ else a
def bo (a b : Fin 8) : Fin 8 :=
  let q := if a.val < 4 then (a.val + b.val) % 4 else (a.val + 8 - b.val) % 4
  if (decide (a.val < 4)) = (decide (b.val < 4)) then ⟨q % 4, by omega⟩ else ⟨q % 4 + 4, by omega⟩
theorem at_mir : ∀ (a : Fin 8) (l : Fin 4), (4 : Int) ≤ a.val → atI nesw.cps.toList (((a.val : Int) - (l.val : Int)) % 4) = some (cd (tr a l)) := by decide +kernel
theorem at_tur : ∀ (a : Fin 8) (l : Fin 4), ¬ (4 : Int) ≤ a.val → atI nesw.cps.toList (((a.val : Int) + (l.val : Int)) % 4) = some (cd (tr a l)) := by decide +kernel
theorem un_mir : ∀ a : Fin 8, (4 : Int) ≤ a.val → ((un a).val : Int) = a.val := by decide +kernel
theorem un_tur : ∀ a : Fin 8, ¬ (4 : Int) ≤ a.val → ((un a).val : Int) = (-(a.val : Int)) % 4 := by decide +kernel
theorem bo_1 : ∀ a b : Fin 8, (4 : Int) ≤ a.val → (4 : Int) ≤ b.val → ((bo a b).val : Int) = ((a.val : Int) - b.val) % 4 := by decide +kernel
theorem bo_2 : ∀ a b : Fin 8, (4 : Int) ≤ a.val → ¬ (4 : Int) ≤ b.val → ((bo a b).val : Int) = ((a.val : Int) - b.val) % 4 + 4 := by decide +kernel
theorem bo_3 : ∀ a b : Fin 8, ¬ (4 : Int) ≤ a.val → (4 : Int) ≤ b.val → ((bo a b).val : Int) = ((a.val : Int) + b.val) % 4 + 4 := by decide +kernel
theorem bo_4 : ∀ a b : Fin 8, ¬ (4 : Int) ≤ a.val → ¬ (4 : Int) ≤ b.val → ((bo a b).val : Int) = ((a.val : Int) + b.val) % 4 := by decide +kernel
/-! ### entries that are right -/
inductive Ent where
  | face (l : Fin 4)
  | turn (q : Fin 3)
  | go (n : Fin 9)
  | bump
  | sign (z : Str)
  | bare
  | spy (n : Fin 9) (z : Str)
  | swap
def ws : Fin 10 → Str
  | 0 => PySem.Str.ofString "face"
  | 1 => PySem.Str.ofString "left"
  | 2 => PySem.Str.ofString "right"
  | 3 => PySem.Str.ofString "back"
  | 4 => PySem.Str.ofString "go"
  | 5 => PySem.Str.ofString "bump"
  | 6 => PySem.Str.ofString "sign"
  | 7 => PySem.Str.ofString "bare"
  | 8 => PySem.Str.ofString "spy"
  | 9 => PySem.Str.ofString "swap"
theorem wsd : ∀ i j : Fin 10, decide (V.str (ws i) = V.str (ws j)) = decide (i = j) := by decide +kernel
theorem ws_ok : ∀ i : Fin 10, PyData.strOk (ws i) = true ∧ (ws i).length ≤ 12 := by decide +kernel
namespace Ent
def kind : Ent → Fin 10
  | face _ => 0
  | turn q => ⟨q.val + 1, by omega⟩
  | go _ => 4
  | bump => 5
  | sign _ => 6
  | bare => 7
  | spy _ _ => 8
  | swap => 9
def rest : Ent → List PyData
  | face l => [.str (Lt l)]
  | go n => [.int ((n.val : Int) + 1)]
  | sign z => [.str z]
  | spy n z => [.int ((n.val : Int) + 1), .str z]
  | _ => []
def parts (e : Ent) : List PyData := .str (ws e.kind) :: e.rest
def tup (e : Ent) : PyData := .tuple e.parts
def lst (e : Ent) : PyData := .list e.parts
def need : Ent → Bool
  | turn _ => true
  | go _ => true
  | bump => true
  | spy _ _ => true
  | _ => false
def isFace : Ent → Bool
  | face _ => true
  | _ => false
def isSwap : Ent → Bool
  | swap => true
  | _ => false
def sgS (z : Str) : Bool := nmL z.cps.toList || loL z.cps.toList
def ok : Ent → Prop
  | sign z => z.length ≤ 12 ∧ PyData.strOk z = true ∧ sgS z = true
  | spy _ z => z.length ≤ 12 ∧ PyData.strOk z = true ∧ sgS z = true
  | _ => True
theorem face_iff (e : Ent) : e.isFace = decide (e.kind = 0) := by
  cases e with
  | turn q => match q with
    | 0 => rfl
    | 1 => rfl
    | 2 => rfl
  | _ => rfl
theorem swap_iff (e : Ent) : e.isSwap = decide (e.kind = 9) := by
  cases e with
  | turn q => match q with
    | 0 => rfl
    | 1 => rfl
    | 2 => rfl
  | _ => rfl
end Ent
/-- what comes ahead has a face where one is needed -/
def Right (es : List Ent) : Prop := ∀ (i : Nat) (e : Ent), es[i]? = some e → e.need = true → (es.take i).any Ent.isFace = true
theorem Right.nil : Right [] := fun i e h => by cases h
theorem Right.snoc {es : List Ent} {e : Ent} (h : Right es) (he : e.need = true → es.any Ent.isFace = true) : Right (es ++ [e]) := fun i x hx hn => by
  by_cases hi : i < es.length
  · rw [List.getElem?_append_left hi] at hx
    rw [List.take_append_of_le_length (Nat.le_of_lt hi)]
    exact h i x hx hn
  · have hl := (List.getElem?_eq_some_iff.mp hx).1
    rw [List.length_append] at hl
    have : i = es.length := by
      have : [e].length = 1 := rfl
      omega
    rw [this, List.getElem?_append_right (Nat.le_refl _), Nat.sub_self] at hx
    cases hx
    rw [this, List.take_left]
    exact he hn
def swaps (es : List Ent) : Nat := (es.filter Ent.isSwap).length
theorem swaps_snoc (es : List Ent) (e : Ent) : swaps (es ++ [e]) = swaps es + (if e.isSwap = true then 1 else 0) := by
  unfold swaps
  rw [List.filter_append, List.length_append, List.filter_cons, List.filter_nil]
  split <;> rfl
theorem swaps_le (es : List Ent) : swaps es ≤ es.length := List.length_filter_le _ _
/-! ### where a walker stands -/
structure Wk where
  leg : Nat
  x : Int
  y : Int
  look : Option (Fin 4)
def W0 : Wk := ⟨0, 0, 0, none⟩
def tq : Fin 3 → Fin 4
  | 0 => 3
  | 1 => 1
  | 2 => 2
def nlook (a : Fin 8) (look : Option (Fin 4)) : Ent → Option (Fin 4)
  | .face l => some (tr a l)
  | .turn q => look.map (fun l => l + tq q)
  | _ => look
def nx (p : Int) (look : Option (Fin 4)) : Ent → Int
  | .go n => match look with
    | some l => p + ((n.val : Int) + 1) * dx l
    | none => p
  | _ => p
def ny (p : Int) (look : Option (Fin 4)) : Ent → Int
  | .go n => match look with
    | some l => p + ((n.val : Int) + 1) * dy l
    | none => p
  | _ => p
def nleg (n : Nat) (e : Ent) : Nat := if e.isSwap = true then n + 1 else n
def next (lots : List (Fin 8)) (p : Wk) (e : Ent) : Wk := ⟨nleg p.leg e, nx p.x p.look e, ny p.y p.look e, nlook (lots.getD (nleg p.leg e) 0) p.look e⟩
@[irreducible] def wat (lots : List (Fin 8)) (es : List Ent) (i : Nat) : Wk := (es.take i).foldl (next lots) W0
theorem wat_zero (lots : List (Fin 8)) (es : List Ent) : wat lots es 0 = W0 := by
  unfold wat
  rfl
theorem wat_succ {lots : List (Fin 8)} {es : List Ent} {i : Nat} {e : Ent} (h : es[i]? = some e) : wat lots es (i + 1) = next lots (wat lots es i) e := by
  unfold wat
  rw [List.take_add_one, h, List.foldl_append]
  rfl
theorem wat_look (lots : List (Fin 8)) (es : List Ent) : ∀ i, (wat lots es i).look.isSome = (es.take i).any Ent.isFace
  | 0 => by rw [wat_zero]; rfl
  | i + 1 => by
    by_cases hi : i < es.length
    · have h : es[i]? = some es[i] := List.getElem?_eq_getElem hi
      rw [wat_succ h, List.take_add_one, h, List.any_append, ← wat_look lots es i]
      show (nlook _ (wat lots es i).look es[i]).isSome = ((wat lots es i).look.isSome || (es[i].isFace || false))
      cases es[i] with
      | face l => cases (wat lots es i).look <;> rfl
      | turn q => cases (wat lots es i).look <;> rfl
      | _ => cases (wat lots es i).look <;> rfl
    · have e1 : es.take (i + 1) = es.take i := by rw [List.take_of_length_le (by omega), List.take_of_length_le (by omega)]
      have := wat_look lots es i
      unfold wat at this ⊢
      rw [e1]
      exact this
theorem wat_leg (lots : List (Fin 8)) (es : List Ent) : ∀ i, (wat lots es i).leg = swaps (es.take i)
  | 0 => by rw [wat_zero]; rfl
  | i + 1 => by
    by_cases hi : i < es.length
    · have h : es[i]? = some es[i] := List.getElem?_eq_getElem hi
      rw [wat_succ h, List.take_add_one, h]
      show nleg (wat lots es i).leg es[i] = swaps (es.take i ++ [es[i]])
      rw [swaps_snoc, wat_leg lots es i]
      unfold nleg
      split <;> rfl
    · have e1 : es.take (i + 1) = es.take i := by rw [List.take_of_length_le (by omega), List.take_of_length_le (by omega)]
      have := wat_leg lots es i
      unfold wat at this ⊢
      rw [e1]
      exact this
theorem swaps_take (es : List Ent) (i : Nat) : swaps (es.take i) ≤ swaps es := by
  unfold swaps
  exact List.Sublist.length_le ((List.take_sublist i es).filter _)
def lk : Option (Fin 4) → Str
  | some l => Lt l
  | none => PySem.Str.ofString ""
def plD (p : Wk) : PyData := .tuple [.int p.x, .int p.y]
def posD (p : Wk) : PyData := .tuple [plD p, .str (lk p.look)]
def trackL (lots : List (Fin 8)) (es : List Ent) (n : Nat) : List PyData := (List.range n).map fun i => posD (wat lots es (i + 1))
theorem trackL_succ (lots : List (Fin 8)) (es : List Ent) (n : Nat) : trackL lots es (n + 1) = trackL lots es n ++ [posD (wat lots es (n + 1))] := by
  unfold trackL
  rw [List.range_succ, List.map_append]
  rfl
def trackD (lots : List (Fin 8)) (es : List Ent) : PyData := .tuple (trackL lots es es.length)
/-- rows of entries, each a list or a tuple -/
def Rows (K : PySem.W.Frag) (H : Hp) (xs : List V) (es : List Ent) : Prop := ∃ ds, DpAll K H xs ds ∧ ds.map seqD = es.map fun e => some e.parts
theorem Rows.same {K : PySem.W.Frag} {H H' : Hp} {xs : List V} {es : List Ent} (h : Rows K H xs es) (s : Same H H') : Rows K H' xs es := by
  obtain ⟨ds, h1, h2⟩ := h
  exact ⟨ds, dpa_same s _ _ h1, h2⟩
theorem Rows.len {K : PySem.W.Frag} {H : Hp} {xs : List V} {es : List Ent} (h : Rows K H xs es) : xs.length = es.length := by
  obtain ⟨ds, h1, h2⟩ := h
  have := congrArg List.length h2
  rw [List.length_map, List.length_map] at this
  rw [dpa_len ds xs h1, this]
/-- one entry, a list or a tuple -/
def EntAt (K : PySem.W.Frag) (H : Hp) (v : V) (e : Ent) : Prop := ∃ a xs, v = .ref a ∧ SqA K H a (.str (ws e.kind) :: xs) ∧ DpAll K H xs e.rest
theorem ent_at {K : PySem.W.Frag} {H : Hp} {v : V} {d : PyData} {e : Ent} (h : Dp K H v d) (hs : seqD d = some e.parts) : EntAt K H v e := by
  obtain ⟨a, xs, rfl, hq, ha⟩ := seq_dp h hs
  cases ha with
  | cons h1 h2 =>
    cases h1
    exact ⟨a, _, rfl, hq, h2⟩
theorem EntAt.same {K : PySem.W.Frag} {H H' : Hp} {v : V} {e : Ent} (h : EntAt K H v e) (s : Same H H') : EntAt K H' v e := by
  obtain ⟨a, xs, h1, h2, h3⟩ := h
  exact ⟨a, xs, h1, h2.elim (fun h => .inl (s.seq h)) (fun h => .inr (sqt_same s h)), dpa_same s _ _ h3⟩
theorem Rows.at_ {K : PySem.W.Frag} {H : Hp} {xs : List V} {es : List Ent} (h : Rows K H xs es) {i : Nat} {v : V} (hv : xs[i]? = some v) : ∃ e, es[i]? = some e ∧ EntAt K H v e := by
  obtain ⟨ds, h1, h2⟩ := h
  obtain ⟨d, fd, gd⟩ := dpa_at ds xs h1 i v hv
  have e1 : (ds.map seqD)[i]? = some (seqD d) := by rw [List.getElem?_map, fd]; rfl
  rw [h2, List.getElem?_map] at e1
  cases e2 : es[i]? with
  | none => rw [e2] at e1; cases e1
  | some e =>
    rw [e2] at e1
    exact ⟨e, rfl, ent_at gd (Option.some.inj e1).symm⟩
theorem rows_tup {K : PySem.W.Frag} {H : Hp} {xs : List V} {es : List Ent} (h : DpAll K H xs (es.map Ent.tup)) : Rows K H xs es := ⟨_, h, by rw [List.map_map]; rfl⟩
--@@SPLIT
def whD : PyData → Bool
  | .int _ => true
  | _ => false
def spWholeD (K : PySem.W.Frag) : Sp := fun vs H Q _ => ∃ (v : V) (d : PyData), vs = [v] ∧ Dp K H v d ∧ Q (.bl (whD d)) H
theorem ok_is_wholeD (T : Top w K mg) : FnOk P w K mg base CX0 1 T.a_is_whole T.fd_is_whole ["thing"] (spWholeD K) := by
  refine T.F_is_whole.ok sc_is_whole (fun vs H Q E h => ?_) (fun cdv A outer s H vs Q E hr h => ?_)
  · obtain ⟨v, d, rfl, _⟩ := h
    rfl
  · obtain ⟨v, d, rfl, hd, q⟩ := h
    refine ⟨_, (pss_one (ps_ret (pe_and (pe_callB call_isi (by rfl) T.m_isinstance (by decide +kernel) (pa_cons (pv 0) (pa_cons (pe_bltn (v := .ty "int") (by rfl) T.m_int (by decide +kernel) rfl) pa_nil))) (pe_one (pe_not (pe_callB call_isi (by rfl) T.m_isinstance (by decide +kernel) (pa_cons (pv 0) (pa_cons (pe_bltn (v := .ty "bool") (by rfl) T.m_bool (by decide +kernel) rfl) pa_nil)))))))), ?_⟩
    cases hd with
    | non => exact ⟨.non, rfl, _, _, _, _, false, rfl, .ty _, .base .non, kit_ty (by decide +kernel), _, rfl, iteF q⟩
    | bl b => exact ⟨.bl b, rfl, _, _, _, _, true, rfl, .ty _, .base (.bl b), kit_ty (by decide +kernel), _, rfl, iteT ⟨.bl b, rfl, _, _, _, _, true, rfl, .ty _, .base (.bl b), kit_ty (by decide +kernel), _, rfl, q⟩⟩
    | int i => exact ⟨.int i, rfl, _, _, _, _, true, rfl, .ty _, .base (.int i), kit_ty (by decide +kernel), _, rfl, iteT ⟨.int i, rfl, _, _, _, _, false, rfl, .ty _, .base (.int i), kit_ty (by decide +kernel), _, rfl, q⟩⟩
    | str z => exact ⟨.str z, rfl, _, _, _, _, false, rfl, .ty _, .base (.str z), kit_ty (by decide +kernel), _, rfl, iteF q⟩
    | lst h _ => exact ⟨_, rfl, _, _, _, _, false, rfl, .ty _, ty_lst h, kit_ty (by decide +kernel), _, rfl, iteF q⟩
    | tup h _ => exact ⟨_, rfl, _, _, _, _, false, rfl, .ty _, ty_tup h, kit_ty (by decide +kernel), _, rfl, iteF q⟩
/-! ### the program's reading of an entry -/
def Keys : List DictEntry → List Str → Prop
  | [], [] => True
  | e :: r, k :: ks => (∃ t, e.key = .str k t) ∧ Keys r ks
  | _, _ => False
theorem find_keys (z : Str) : ∀ (l : List DictEntry) (ks : List Str), Keys l ks → (l.find? (·.key.isStr z)).isSome = (ks.any fun s => s == z) ∧ l.any (·.refKey) = false
  | [], [], _ => ⟨rfl, rfl⟩
  | e :: r, k :: ks, h => by
    obtain ⟨⟨t, hk⟩, hr⟩ := h
    obtain ⟨i1, i2⟩ := find_keys z r ks hr
    have e1 : e.key.isStr z = (k == z) := by rw [hk]; rfl
    have e2 : e.refKey = false := by unfold DictEntry.refKey; rw [hk]
    constructor
    · rw [List.find?_cons, e1, List.any_cons]
      cases k == z with
      | true => rfl
      | false => exact i1
    · rw [List.any_cons, e2, i2]
      rfl
  | [], _ :: _, h => h.elim
  | _ :: _, [], h => h.elim
theorem ns_keys {K : PySem.W.Frag} {a : Addr} {es : Array DictEntry} {n : Nat} {ks : List Str} (h : K.lookup a = some ⟨.type "dict", none, .dict es n, #[]⟩) (hk : Keys es.toList ks) (z : Str) : ∃ r, PySem.W.nsIn K a z = some r ∧ r.isSome = (ks.any fun s => s == z) := by
  obtain ⟨i1, i2⟩ := find_keys z es.toList ks hk
  unfold PySem.W.nsIn
  rw [h]
  cases e : es.toList.find? (·.key.isStr z) with
  | some x =>
    rw [e] at i1
    refine ⟨some x.val, ?_, i1⟩
    simp only [e]
  | none =>
    rw [e] at i1
    refine ⟨none, ?_, i1⟩
    simp only [e, i2]
    rfl
def spPart (K : PySem.W.Frag) (f : PyData → Bool) : Sp := fun vs H Q _ => ∃ (v : V) (d : PyData), vs = [v] ∧ gp d = true ∧ Dp K H v d ∧ ∀ H', Same H H' → Q (.bl (f d)) H'
theorem ok_is_letter (T : Top w K mg) : FnOk P w K mg base CX0 1 T.a_is_letter T.fd_is_letter ["thing"] (spPart K letD) := by
  refine T.F_is_letter.ok sc_is_letter (fun vs H Q E h => ?_) (fun cdv A outer s H vs Q E hr h => ?_)
  · obtain ⟨v, d, rfl, _⟩ := h
    rfl
  · obtain ⟨v, d, rfl, g, hd, q⟩ := h
    refine ⟨_, (pss_one (ps_ret (pe_and (pe_callB call_isi (by rfl) T.m_isinstance (by decide +kernel) (pa_cons (pv 0) (pa_cons (pe_bltn (v := .ty "str") (by rfl) T.m_str (by decide +kernel) rfl) pa_nil))) (pe_one (pe_cmpR (op_in_kd T.kd_STEPS) (pv 0) (pe_glob (v := .ref T.a_STEPS) (by rfl) T.g_STEPS rfl) (by rfl)))))), ?_⟩
    refine ⟨v, rfl, _, _, _, _, _, rfl, .ty _, ty_dp hd, kit_ty (kit_str d), _, rfl, ?_⟩
    have q := q H (Same.refl H)
    cases hd with
    | str z =>
      obtain ⟨r, h1, h2⟩ := T.ns_STEPS z
      refine iteT ⟨.str z, rfl, z, r, rfl, rfl, h1, ?_⟩
      rw [h2]
      exact q
    | non => exact iteF q
    | bl b => exact iteF q
    | int i => exact iteF q
    | lst h _ => exact iteF q
    | tup h _ => exact iteF q
theorem ok_is_many (T : Top w K mg) : FnOk P w K mg base CX0 2 T.a_is_many T.fd_is_many ["thing"] (spPart K manyD) := by
  have G_is_whole := ok_is_wholeD (P := P) (w := w) (base := base) T
  refine T.F_is_many.ok sc_is_many (fun vs H Q E h => ?_) (fun cdv A outer s H vs Q E hr h => ?_)
  · obtain ⟨v, d, rfl, _⟩ := h
    rfl
  · obtain ⟨v, d, rfl, g, hd, q⟩ := h
    refine ⟨_, (pss_one (ps_ret (pe_and (pe_call G_is_whole hr (by rfl) T.g_is_whole T.F_is_whole.kp T.b_is_whole .nil pass0 (pa_cons (pv 0) pa_nil)) (pe_one (pe_chain op_le op_le pe_int (pv 0) pe_int))))), ?_⟩
    refine ⟨v, rfl, v, d, rfl, hd, _, rfl, ?_⟩
    have q := q H (Same.refl H)
    cases hd with
    | int i =>
      refine iteT ⟨.int i, rfl, _, _, rfl, rfl, _, rfl, ite2 (fun e => ?_) (fun e => ?_)⟩
      · refine ⟨_, _, rfl, rfl, ?_⟩
        have e2 : manyD (.int i) = decide (i ≤ 9) := by
          show (decide (1 ≤ i) && decide (i ≤ 9)) = _
          rw [e]
          rfl
        rw [e2] at q
        exact q
      · have e2 : manyD (.int i) = false := by
          show (decide (1 ≤ i) && decide (i ≤ 9)) = _
          rw [Bool.eq_false_iff.mpr e]
          rfl
        rw [e2] at q
        exact q
    | non => exact iteF q
    | bl b => exact iteF q
    | str z => exact iteF q
    | lst h _ => exact iteF q
    | tup h _ => exact iteF q
def spPair (K : PySem.W.Frag) : Sp := fun vs H Q _ => ∃ (v u : V) (d c : PyData), vs = [v, u] ∧ gp d = true ∧ gp c = true ∧ Dp K H v d ∧ Dp K H u c ∧ ∀ H', Same H H' → Q (.bl (pairD d c)) H'
theorem ok_is_pair_entry (T : Top w K mg) : FnOk P w K mg base CX0 4 T.a_is_pair_entry T.fd_is_pair_entry ["word", "part"] (spPair K) := by
  have G_is_letter := ok_is_letter (P := P) (w := w) (base := base) T
  have G_is_many := ok_is_many (P := P) (w := w) (base := base) T
  have G_is_sign := ok_is_sign (P := P) (w := w) (base := base) T
  refine T.F_is_pair_entry.ok sc_is_pair_entry (fun vs H Q E h => ?_) (fun cdv A outer s H vs Q E hr h => ?_)
  · obtain ⟨v, u, d, c, rfl, _⟩ := h
    rfl
  · obtain ⟨v, u, d, c, rfl, gd, gc, hd, hc, q⟩ := h
    refine ⟨_, (pss_cons (ps_if (pt_cmpR (op_eqA hr.units) (pv 0) pe_str (nomark _)) (pss_one (ps_ret (pe_call G_is_letter (hr.mono (by decide)) (by rfl) T.g_is_letter T.F_is_letter.kp T.b_is_letter .nil pass0 (pa_cons (pv 1) pa_nil)))) pss_nil)
      (pss_cons (ps_if (pt_cmpR (op_eqA hr.units) (pv 0) pe_str (nomark _)) (pss_one (ps_ret (pe_call G_is_many (hr.mono (by decide)) (by rfl) T.g_is_many T.F_is_many.kp T.b_is_many .nil pass0 (pa_cons (pv 1) pa_nil)))) pss_nil)
      (pss_one (ps_ret (pe_and (pe_cmpR (op_eqA hr.units) (pv 0) pe_str (nomark _)) (pe_one (pe_call G_is_sign hr (by rfl) T.g_is_sign T.F_is_sign.kp T.b_is_sign .nil pass0 (pa_cons (pv 1) pa_nil)))))))), ?_⟩
    refine ⟨v, rfl, eqA_of hd gd (by decide +kernel) ⟨_, rfl, ite2 (fun e1 => ?_) (fun e1 => ?_)⟩⟩
    · rw [show pairD d c = letD c from if_pos e1] at q
      exact ⟨u, rfl, u, c, rfl, gc, hc, q⟩
    refine ⟨v, rfl, eqA_of hd gd (by decide +kernel) ⟨_, rfl, ite2 (fun e2 => ?_) (fun e2 => ?_)⟩⟩
    · rw [show pairD d c = manyD c by unfold pairD; rw [if_neg e1, if_pos e2]] at q
      exact ⟨u, rfl, u, c, rfl, gc, hc, q⟩
    rw [show pairD d c = (eqS d "sign" && sgD c) by unfold pairD; rw [if_neg e1, if_neg e2]] at q
    refine ⟨v, rfl, eqA_of hd gd (by decide +kernel) ⟨_, rfl, ite2 (fun e3 => ?_) (fun e3 => ?_)⟩⟩
    · rw [e3] at q
      refine ⟨u, rfl, u, rfl, th_dp hc gc, fun H' sm => ?_⟩
      rw [sg_dp hc]
      exact q H' sm
    · rw [Bool.eq_false_iff.mpr e3] at q
      exact q H (Same.refl H)
theorem ge_parts {d : PyData} {ds : List PyData} (h : ge d = true) (e : seqD d = some ds) : ds.length ≤ 20 ∧ ∀ x ∈ ds, gp x = true := by
  unfold ge at h
  rw [e] at h
  obtain ⟨h1, h2⟩ := Bool.and_eq_true_iff.mp h
  exact ⟨of_decide_eq_true h1, List.all_eq_true.mp h2⟩
/-- the parts of a list or tuple, whichever it is -/
theorem len1 {α : Type} : ∀ l : List α, l.length = 1 → ∃ a, l = [a]
  | [a], _ => ⟨a, rfl⟩
  | [], h => by cases h
  | _ :: _ :: _, h => by simp at h
theorem len2 {α : Type} : ∀ l : List α, l.length = 2 → ∃ a b, l = [a, b]
  | [a, b], _ => ⟨a, b, rfl⟩
  | [], h => by cases h
  | [_], h => by simp at h
  | _ :: _ :: _ :: _, h => by simp at h
theorem len3 {α : Type} : ∀ l : List α, l.length = 3 → ∃ a b c, l = [a, b, c]
  | [a, b, c], _ => ⟨a, b, c, rfl⟩
  | [], h => by cases h
  | [_], h => by simp at h
  | [_, _], h => by simp at h
  | _ :: _ :: _ :: _ :: _, h => by simp at h
theorem ent_else : ∀ ds : List PyData, ¬ ds.length = 1 → ¬ ds.length = 2 → ¬ ds.length = 3 → entL ds = false
  | [], _, _, _ => rfl
  | [_], h, _, _ => absurd rfl h
  | [_, _], _, h, _ => absurd rfl h
  | [_, _, _], _, _, h => absurd rfl h
  | _ :: _ :: _ :: _ :: _, _, _, _ => rfl
theorem dpa1 {K : PySem.W.Frag} {H : Hp} {xs : List V} {a : PyData} (h : DpAll K H xs [a]) : ∃ x, xs = [x] ∧ Dp K H x a := by
  cases h with
  | cons h1 h2 => cases h2; exact ⟨_, rfl, h1⟩
theorem dpa2 {K : PySem.W.Frag} {H : Hp} {xs : List V} {a b : PyData} (h : DpAll K H xs [a, b]) : ∃ x y, xs = [x, y] ∧ Dp K H x a ∧ Dp K H y b := by
  cases h with
  | cons h1 h2 =>
    obtain ⟨y, rfl, h3⟩ := dpa1 h2
    exact ⟨_, y, rfl, h1, h3⟩
theorem dpa3 {K : PySem.W.Frag} {H : Hp} {xs : List V} {a b c : PyData} (h : DpAll K H xs [a, b, c]) : ∃ x y z, xs = [x, y, z] ∧ Dp K H x a ∧ Dp K H y b ∧ Dp K H z c := by
  cases h with
  | cons h1 h2 =>
    obtain ⟨y, z, rfl, h3, h4⟩ := dpa2 h2
    exact ⟨_, y, z, rfl, h1, h3, h4⟩
def spEntry (K : PySem.W.Frag) : Sp := fun vs H Q _ => ∃ (v : V) (d : PyData), vs = [v] ∧ ge d = true ∧ Dp K H v d ∧ ∀ H', Same H H' → Q (.bl (entD d)) H'
theorem ok_is_entry (T : Top w K mg) : FnOk P w K mg base CX0 5 T.a_is_entry T.fd_is_entry ["thing"] (spEntry K) := by
  have G_is_pair_entry := ok_is_pair_entry (P := P) (w := w) (base := base) T
  have G_is_many := ok_is_many (P := P) (w := w) (base := base) T
  have G_is_sign := ok_is_sign (P := P) (w := w) (base := base) T
  refine T.F_is_entry.ok sc_is_entry (fun vs H Q E h => ?_) (fun cdv A outer s H vs Q E hr h => ?_)
  · obtain ⟨v, d, rfl, _⟩ := h
    rfl
  · obtain ⟨v, d, rfl, g, hd, q⟩ := h
    refine ⟨_, (pss_cons (ps_if (pt_not (pt_val (pe_callB call_isiT (by rfl) T.m_isinstance (by decide +kernel) (pa_cons (pv 0) (pa_cons (pe_tup (pa_cons (pe_bltn (v := .ty "tuple") (by rfl) T.m_tuple (by decide +kernel) rfl) (pa_cons (pe_bltn (v := .ty "list") (by rfl) T.m_list (by decide +kernel) rfl) pa_nil))) pa_nil))))) (pss_one (ps_ret pe_bl)) pss_nil)
      (pss_cons (ps_if (pt_cmpR op_eq (pe_callB call_len_seq (by rfl) T.m_len (by decide +kernel) (pa_cons (pv 0) pa_nil)) pe_int (nomark _)) (pss_one (ps_ret (pe_cmpR (op_inA (units65 hr)) (pe_ix ix_seq (pv 0) pe_int (fun _ _ => rfl)) (pe_glob (v := .ref T.a_WORDS_ALONE) (by rfl) T.g_WORDS_ALONE rfl) (by rfl)))) pss_nil)
      (pss_cons (ps_if (pt_cmpR op_eq (pe_callB call_len_seq (by rfl) T.m_len (by decide +kernel) (pa_cons (pv 0) pa_nil)) pe_int (nomark _)) (pss_one (ps_ret (pe_call G_is_pair_entry hr (by rfl) T.g_is_pair_entry T.F_is_pair_entry.kp T.b_is_pair_entry .nil pass0 (pa_cons (pe_ix ix_seq (pv 0) pe_int (fun _ _ => rfl)) (pa_cons (pe_ix ix_seq (pv 0) pe_int (fun _ _ => rfl)) pa_nil))))) pss_nil)
      (pss_one (ps_ret (pe_and (pe_cmpR op_eq (pe_callB call_len_seq (by rfl) T.m_len (by decide +kernel) (pa_cons (pv 0) pa_nil)) pe_int (nomark _)) (pe_and (pe_cmpR (op_eqA hr.units) (pe_ix ix_seq (pv 0) pe_int (fun _ _ => rfl)) pe_str (nomark _)) (pe_and (pe_call G_is_many (hr.mono (by decide)) (by rfl) T.g_is_many T.F_is_many.kp T.b_is_many .nil pass0 (pa_cons (pe_ix ix_seq (pv 0) pe_int (fun _ _ => rfl)) pa_nil)) (pe_one (pe_call G_is_sign (hr.mono (by decide)) (by rfl) T.g_is_sign T.F_is_sign.kp T.b_is_sign .nil pass0 (pa_cons (pe_ix ix_seq (pv 0) pe_int (fun _ _ => rfl)) pa_nil))))))))))), ?_⟩
    obtain ⟨x, y, k1, k2, exy⟩ := kit_seq d
    refine ⟨v, rfl, by show 2 ≤ sizeLine; decide, fun tp np => ⟨v, tp, _, _, _, _, rfl, upd_same, .cons (.ty _) (.cons (.ty _) .nil), ty_dp (dp_same (same_upd np) d v hd), kit_any2 k1 k2, _, rfl, ?_⟩⟩
    rw [exy]
    have s0 := same_upd (o := .tup [.ty "tuple", .ty "list"]) np
    have hd0 := dp_same s0 d v hd
    cases e : seqD d with
    | none =>
      rw [show entD d = false by unfold entD; rw [e]] at q
      exact iteT (q _ s0)
    | some ds =>
      rw [show entD d = entL ds by unfold entD; rw [e]] at q
      refine iteF ?_
      obtain ⟨hlen, hgp⟩ := ge_parts g e
      obtain ⟨a, xs, rfl, hs, ha⟩ := seq_dp hd0 e
      have lx := dpa_len ds xs ha
      refine ⟨.ref a, rfl, a, xs, rfl, hs, rfl, _, rfl, ?_⟩
      by_cases n1 : ds.length = 1
      · obtain ⟨d1, rfl⟩ := len1 ds n1
        obtain ⟨x1, rfl, h1⟩ := dpa1 ha
        · refine iteDY (decide_eq_true rfl) ⟨.ref a, rfl, ixA (j := 0) hs rfl (inA_of (ws := wAlone) h1 (hgp d1 (by simp)) (T.v_WORDS_ALONE _) (by decide +kernel) (q _ s0))⟩
      refine iteDN (decide_eq_false (fun z => n1 (by have := V.int.inj z; omega))) ?_
      refine ⟨.ref a, rfl, a, xs, rfl, hs, rfl, _, rfl, ?_⟩
      by_cases n2 : ds.length = 2
      · obtain ⟨d1, d2, rfl⟩ := len2 ds n2
        obtain ⟨x1, x2, rfl, h1, h2⟩ := dpa2 ha
        · refine iteDY (decide_eq_true rfl) ⟨.ref a, rfl, ixA (j := 0) hs rfl ⟨.ref a, rfl, ixA (j := 1) hs rfl ⟨x1, x2, d1, d2, rfl, hgp d1 (by simp), hgp d2 (by simp), h1, h2, fun H' sm => q _ (s0.trans sm)⟩⟩⟩
      refine iteDN (decide_eq_false (fun z => n2 (by have := V.int.inj z; omega))) ?_
      refine ⟨.ref a, rfl, a, xs, rfl, hs, rfl, _, rfl, ?_⟩
      by_cases n3 : ds.length = 3
      · obtain ⟨d1, d2, d3, rfl⟩ := len3 ds n3
        obtain ⟨x1, x2, x3, rfl, h1, h2, h3⟩ := dpa3 ha
        · have q : ∀ H', Same H H' → Q (.bl (eqS d1 "spy" && (manyD d2 && sgD d3))) H' := q
          refine iteDY (decide_eq_true rfl) ⟨.ref a, rfl, ixA (j := 0) hs rfl (eqA_of h1 (hgp d1 (by simp)) (by decide +kernel) ⟨_, rfl, ite2 (fun e1 => ?_) (fun e1 => ?_)⟩)⟩
          · rw [e1] at q
            refine ⟨.ref a, rfl, ixA (j := 1) hs rfl ⟨x2, d2, rfl, hgp d2 (by simp), h2, fun H2 s2 => ⟨_, rfl, ite2 (fun e2 => ?_) (fun e2 => ?_)⟩⟩⟩
            · rw [e2] at q
              refine ⟨.ref a, rfl, ixA (j := 2) (hs.same s2) rfl ⟨x3, rfl, th_dp (dp_same s2 _ _ h3) (hgp d3 (by simp)), fun H3 s3 => ?_⟩⟩
              rw [sg_dp h3]
              exact q _ ((s0.trans s2).trans s3)
            · rw [Bool.eq_false_iff.mpr e2] at q
              exact q _ (s0.trans s2)
          · rw [Bool.eq_false_iff.mpr e1] at q
            exact q _ s0
      refine iteDN (decide_eq_false (fun z => n3 (by have := V.int.inj z; omega))) ?_
      rw [ent_else ds n1 n2 n3] at q
      exact q _ s0
theorem many_fin : ∀ n : Fin 9, manyD (.int ((n.val : Int) + 1)) = true := by decide
theorem let_fin : ∀ l : Fin 4, letD (.str (Lt l)) = true := by decide +kernel
theorem ent_L {e : Ent} (h : e.ok) : entL e.parts = true := by
  cases e with
  | face l =>
    show pairD (.str (ws 0)) (.str (Lt l)) = true
    unfold pairD
    rw [if_pos (by decide +kernel)]
    exact let_fin l
  | go n =>
    show pairD (.str (ws 4)) (.int ((n.val : Int) + 1)) = true
    unfold pairD
    rw [if_neg (by decide +kernel), if_pos (by decide +kernel)]
    exact many_fin n
  | sign z =>
    show pairD (.str (ws 6)) (.str z) = true
    unfold pairD
    rw [if_neg (by decide +kernel), if_neg (by decide +kernel)]
    show (eqS (.str (ws 6)) "sign" && Ent.sgS z) = true
    rw [h.2.2, show eqS (.str (ws 6)) "sign" = true by decide +kernel]
    rfl
  | spy n z =>
    show (eqS (.str (ws 8)) "spy" && (manyD (.int ((n.val : Int) + 1)) && Ent.sgS z)) = true
    rw [h.2.2, many_fin n, show eqS (.str (ws 8)) "spy" = true by decide +kernel]
    rfl
  | turn q =>
    have : ∀ q : Fin 3, entL (Ent.turn q).parts = true := by decide +kernel
    exact this q
  | bump => show inW (.str (ws 5)) wAlone = true; decide +kernel
  | bare => show inW (.str (ws 7)) wAlone = true; decide +kernel
  | swap => show inW (.str (ws 9)) wAlone = true; decide +kernel
--@@SPLIT
theorem kit_same {K : PySem.W.Frag} {C : Addr} : PySem.W.kitOne K (.ref C) (.ref C) = some true := by
  unfold PySem.W.kitOne
  rw [if_pos (beq_self_eq_true _)]
theorem kit_other {K : PySem.W.Frag} {D C : Addr} {b : Bool} (hn : (Value.ref D == Value.ref C) = false) (h1 : PySem.W.isClsIn K C = true) (h2 : PySem.W.typeIn K (.ref C) = some (.type "type")) (h3 : PySem.W.subIn K (.ref D) (.ref C) = some b) : PySem.W.kitOne K (.ref D) (.ref C) = some b := by
  unfold PySem.W.kitOne
  rw [hn, if_neg Bool.false_ne_true]
  show (if ((PySem.W.clsIn K C).isSome && PySem.W.typeIn K (.ref C) == some (.type "type")) = true then PySem.W.subIn K (.ref D) (.ref C) else none) = some b
  rw [if_pos (by rw [show (PySem.W.clsIn K C).isSome = true from h1, h2]; rfl)]
  exact h3
theorem kit_ve {K : PySem.W.Frag} {D : Addr} (h : PySem.W.subIn K (.ref D) (.type "ValueError") = some true) : PySem.W.kitOne K (.ref D) (.type "ValueError") = some true := by
  unfold PySem.W.kitOne
  rw [show (Value.ref D == Value.type "ValueError") = false from rfl, if_neg Bool.false_ne_true]
  show (if PySem.W.kitMeta "ValueError" = true then PySem.W.subIn K (.ref D) (.type "ValueError") else none) = some true
  rw [if_pos (by decide +kernel)]
  exact h
/-! ### the refusal of a log -/
def spInit (K : PySem.W.Frag) (C : Addr) : Sp := fun vs H Q _ => ∃ (a : Addr) (z : Str) (i : Int), vs = [.ref a, .str z, .int i] ∧ H a = some (exo a C none) ∧
  ∀ H' dx, (∀ b o, b ≠ a → H b = some o → H' b = some o) → H dx = none → dx ≠ a → H' a = some (exo a C (some dx)) → H' dx = some (exd dx [("at", .int i), ("name", .str z)]) → Q .non H'
theorem ok_init (T : Top w K mg) : FnOk P w K mg base CX0 4 T.a_init T.fd_init ["self", "name", "at"] (spInit K T.a_BadLog) := by
  have G_kept := ok_kept (P := P) (w := w) (base := base) T
  refine T.F_init.ok sc_init (fun vs H Q E h => ?_) (fun cdv A outer s H vs Q E hr h => ?_)
  · obtain ⟨a, z, i, rfl, _⟩ := h
    rfl
  · obtain ⟨a, z, i, rfl, ha, q⟩ := h
    refine ⟨_, (pss_cons (ps_ost (pv 0) (pe_call G_kept (hr.mono (by decide)) (by rfl) T.g_kept T.F_kept.kp T.b_kept .nil pass0 (pa_cons (pv 1) pa_nil)))
      (pss_one (ps_ost (pv 0) (pe_call G_kept (hr.mono (by decide)) (by rfl) T.g_kept T.F_kept.kp T.b_kept .nil pass0 (pa_cons (pv 2) pa_nil))))), ?_⟩
    refine ⟨_, rfl, .str z, .str z, rfl, siz_str _, .str z, fun H1 v' s1 hv' => ?_⟩
    cases hv'
    refine ⟨.ref a, rfl, a, T.a_BadLog, rfl, T.oex, T.no_name, .inl ⟨s1 _ _ ha, fun dx ndx ne => ?_⟩⟩
    refine ⟨_, rfl, .int i, .int i, rfl, siz_int _, .int i, fun H2 v' s2 hv' => ?_⟩
    cases hv'
    have ea := s2 _ _ (upd_same (H := upd H1 dx (exd dx [("name", .str z)])) (a := a) (o := exo a T.a_BadLog (some dx)))
    have ed := s2 dx (exd dx [("name", .str z)]) (by rw [upd_ne ne]; exact upd_same)
    refine ⟨.ref a, rfl, a, T.a_BadLog, rfl, T.oex, T.no_at, .inr ⟨dx, _, ea, ed, by show 1 ≤ 900; decide, ?_⟩⟩
    refine q _ dx (fun b o hb h => ?_) (s1.free ndx) ne ?_ upd_same
    · have hb2 : b ≠ dx := ne_of_none (s1 _ _ h) ndx
      rw [upd_ne hb2]
      refine s2 _ _ ?_
      rw [upd_ne hb, upd_ne hb2]
      exact s1 _ _ h
    · rw [upd_ne (Ne.symm ne)]
      exact ea
--@@SPLIT
/-! ### a log, entry by entry -/
def headL : List PyData → PyData
  | a :: _ => a
  | [] => .none
def headD (d : PyData) : PyData := match seqD d with
  | some ds => headL ds
  | none => .none
def fcD (d : PyData) : Bool := eqS (headD d) "face"
def ndD (d : PyData) : Bool := inW (headD d) wFace
def tupD (d : PyData) : PyData := match seqD d with
  | some ds => .tuple ds
  | none => d
def badAt : Bool → Nat → List PyData → Option Nat
  | _, _, [] => none
  | f, i, d :: r => if entD d = false then some i else if (ndD d && !f) = true then some i else badAt (f || fcD d) (i + 1) r
theorem ent_seq {d : PyData} (h : entD d = true) : ∃ a r, seqD d = some (a :: r) := by
  unfold entD at h
  cases e : seqD d with
  | none => rw [e] at h; cases h
  | some ds =>
    rw [e] at h
    cases ds with
    | nil => cases h
    | cons a r => exact ⟨a, r, rfl⟩
theorem seq_head {K : PySem.W.Frag} {H : Hp} {v : V} {d a : PyData} {r : List PyData} (h : Dp K H v d) (e : seqD d = some (a :: r)) : ∃ p x xs, v = .ref p ∧ SqA K H p (x :: xs) ∧ Dp K H x a ∧ DpAll K H (x :: xs) (a :: r) := by
  obtain ⟨p, xs, rfl, hs, ha⟩ := seq_dp h e
  have ha2 := ha
  cases ha2 with
  | @cons x xs' _ _ h1 h2 => exact ⟨p, x, xs', rfl, hs, h1, ha⟩
theorem head_eq {d a : PyData} {r : List PyData} (e : seqD d = some (a :: r)) : headD d = a := by
  unfold headD
  rw [e]
  rfl
theorem tup_eq {d : PyData} {ds : List PyData} (e : seqD d = some ds) : tupD d = .tuple ds := by
  unfold tupD
  rw [e]
theorem any_more {ds : List PyData} {i : Nat} {d : PyData} (h : ds[i]? = some d) : (ds.take (i + 1)).any fcD = ((ds.take i).any fcD || fcD d) := by
  rw [List.take_add_one, h, List.any_append]
  show ((ds.take i).any fcD || (fcD d || false)) = _
  rw [Bool.or_false]
theorem drop_at {ds : List PyData} {i : Nat} {d : PyData} (h : ds[i]? = some d) : ds.drop i = d :: ds.drop (i + 1) := by
  obtain ⟨hi, e⟩ := List.getElem?_eq_some_iff.mp h
  rw [List.drop_eq_getElem_cons hi, e]
def spHeldT (K : PySem.W.Frag) (C : Addr) : Sp := fun vs H Q E => ∃ (e : Addr) (xs : List V) (ds : List PyData), vs = [.ref e] ∧ SqA K H e xs ∧ DpAll K H xs ds ∧ (∀ d ∈ ds, ge d = true) ∧ ds.length ≤ 200 ∧
  (badAt false 0 ds = none → ∀ H' r, Same H H' → Dp K H' (.ref r) (.tuple (ds.map tupD)) → Q (.ref r) H') ∧
  (∀ i, badAt false 0 ds = some i → ∀ H' dd, Same H H' → H dd = none → H' dd = some (.xd [("at", .int (i : Nat)), ("name", .str "")]) → E (.ref C) (some dd) H')
theorem ok_held_logT (T : Top w K mg) : FnOk P w K mg base (L2N.CX P w) 8 T.a_held_log T.fd_held_log ["entries"] (spHeldT K T.a_BadLog) := by
  have G_is_entry := ok_is_entry (P := P) (w := w) (base := base) T
  have G_init := ok_init (P := P) (w := w) (base := base) T
  refine HotAs.okN T.F_held_log sc_held_log (fun vs H Q E h => ?_) (fun cdv A outer s H vs Q E hr h => ?_)
  · obtain ⟨e, xs, ds, rfl, _⟩ := h
    rfl
  · obtain ⟨e, xs, ds, rfl, hs, ha, hge, hlen, q, bad⟩ := h
    have lx := dpa_len ds xs ha
    refine ⟨_, (pss_cons (ps_set (i := 1) sc_held_log.nd rfl (.inl rfl) pe_bl)
      (pss_cons (ps_set (i := 2) sc_held_log.nd rfl (.inl rfl) (pe_lst pa_nil))
      (pss_cons (ps_for (passes_of rfl) rfl (SeqW.pi_enumA (by rfl) T.m_enumerate (pa_cons (pv 0) pa_nil)) (pg_tup rfl (pgs_cons (pg_name (i := 3) sc_held_log.nd rfl (.inl rfl)) (pgs_cons (pg_name (i := 4) sc_held_log.nd rfl (.inl rfl)) pgs_nil))) (pss_cons (ps_if (pt_not (pt_val (pe_call G_is_entry (hr.mono (by decide)) (by rfl) T.g_is_entry T.F_is_entry.kp T.b_is_entry .nil pass0 (pa_cons (pv 4) pa_nil)))) (pss_one (L2N.ps_raise rfl (L2N.takes_of rfl rfl rfl rfl) (HotAs.pmk_oexN T.oex T.iC T.tI G_init (hr.mono (by decide)) T.b_init pass0 (by rfl) T.g_BadLog (pa_cons pe_str (pa_cons (pv 3) pa_nil))))) pss_nil)
      (Evl.pss_cut (ps_if (PW.pt (pw_and (pt_cmpR (op_inA (units65 hr)) (pe_ix ix_seq (pv 4) pe_int (fun _ _ => rfl)) (pe_glob (v := .ref T.a_WORDS_BEHIND_A_FACE) (by rfl) T.g_WORDS_BEHIND_A_FACE rfl) (by rfl)) (pw_and1 (pt_not (pt_val (pv 1)))))) (pss_one (L2N.ps_raise rfl (L2N.takes_of rfl rfl rfl rfl) (HotAs.pmk_oexN T.oex T.iC T.tI G_init (hr.mono (by decide)) T.b_init pass0 (by rfl) T.g_BadLog (pa_cons pe_str (pa_cons (pv 3) pa_nil))))) pss_nil)
      (Evl.pss_cut (ps_set (i := 1) sc_held_log.nd rfl (.inl rfl) (pe_or (pv 1) (pe_one (pe_cmpR (op_eqA hr.units) (pe_ix ix_seq (pv 4) pe_int (fun _ _ => rfl)) pe_str (nomark _)))))
      (pss_one (ps_expr (pe_bm PySem.F.plainAttrs_list PySem.F.slot_list_append PySem.F.type_list_append mt_append (pv 2) (pa_cons (pe_callTy call_tuple_of (by rfl) T.m_tuple (by decide +kernel) (pa_cons (pv 4) pa_nil)) pa_nil))))))))
      (pss_one (ps_ret (pe_callTy call_tuple_of (by rfl) T.m_tuple (by decide +kernel) (pa_cons (pv 2) pa_nil))))))), ?_⟩
    refine ⟨Nat.zero_le _, fun L nL => ?_⟩
    have s0 := same_upd (o := .lst []) nL
    refine ⟨.ref e, rfl, e, xs, rfl, (fun H' => Same H H'), hs.elim (fun h => .inl fun _ s => s.seq h) (fun h => .inr fun _ s => sqt_same s h), s0, fun J G wk hG => for_it wk (fun i σ H' => Same H H' ∧ ∃ y3 y4 ys, σ = [some (.ref e), some (.bl ((ds.take i).any fcD)), some (.ref L), y3, y4] ∧ H' L = some (.lst ys) ∧ ys.length = i ∧ DpAll K (wo H' (fun b => b = L)) ys ((ds.take i).map tupD) ∧ badAt false 0 ds = badAt ((ds.take i).any fcD) i (ds.drop i))
      ⟨s0, none, none, [], rfl, upd_same, rfl, .nil, rfl⟩ (fun i σ H' _ h => hG _ h.1) ?_ ?_⟩
    · rintro i v σ H1 H2 hi ⟨sm, y3, y4, ys, rfl, eL, ly, hy, hb⟩ ⟨t, u1, u2, rfl, nt, rfl, e1, e2⟩
      cases e1
      obtain ⟨d, fd, gd⟩ := dpa_at ds xs ha i u2 e2
      have hgd := hge d (List.mem_of_getElem? fd)
      rw [drop_at fd] at hb
      have st := same_upd (o := .tup [.int (i : Nat), u2]) nt
      have sm2 := sm.trans st
      have nLt : L ≠ t := ne_of_none eL nt
      refine ⟨t, _, rfl, .inl (.inl upd_same), rfl, _, _, rfl, _, _, rfl, rfl, ?_⟩
      refine ⟨u2, rfl, u2, d, rfl, hgd, dp_same sm2 d u2 gd, fun H3 s3 => ⟨_, rfl, ?_⟩⟩
      have sm3 := sm2.trans s3
      have raise_ : badAt false 0 ds = some i → ∀ (Hx : Hp), Same H Hx → ∀ a, Hx a = none → spInit K T.a_BadLog (.ref a :: ([.str "", .int (i : Nat)] ++ [])) (upd Hx a (exo a T.a_BadLog none)) (fun v H2 => v = .non ∧ ∃ (d : Addr) (fs : List (Str × V)), H2 a = some (exo a T.a_BadLog (some d)) ∧ H2 d = some (exd d fs) ∧ Hx d = none ∧ E (.ref T.a_BadLog) (some d) (upd (del H2 a) d (.xd fs))) (fun _ _ _ => False) := fun hbi Hx sx a na =>
        ⟨a, _, _, rfl, upd_same, fun H4 dx keep ndx ne ea ed => by
          rw [upd_ne ne] at ndx
          refine ⟨rfl, dx, _, ea, ed, ndx, bad i hbi _ dx (fun b o h => ?_) (sx.free ndx) upd_same⟩
          have h2 := sx _ _ h
          have na2 : b ≠ a := ne_of_none h2 na
          rw [upd_ne (ne_of_none h2 ndx), del_ne na2]
          exact keep b o na2 (by rw [upd_ne na2]; exact h2)⟩
      cases he : entD d with
      | false =>
        have hbi : badAt false 0 ds = some i := by
          rw [hb]
          show (if entD d = false then _ else _) = _
          rw [if_pos he]
        exact iteT ⟨_, rfl, by show 2 ≤ 1000; decide, fun a na => raise_ hbi H3 sm3 a na⟩
      | true =>
        refine iteF ?_
        obtain ⟨a, r, es⟩ := ent_seq he
        have mH : Same H (wo H3 (fun b => b = L)) := fun b o h => by
          rw [wo_in (X := fun b => b = L) (ne_of_none h nL)]
          exact sm3 _ _ h
        obtain ⟨p, x, xs2, rfl, hsqW, hxW, hallW⟩ := seq_head (dp_same mH d u2 gd) es
        have hsq := hsqW.same wo_same
        have hx := dp_same wo_same _ _ hxW
        have ga : gp a = true := (ge_parts hgd es).2 a (by simp)
        have hb2 : badAt false 0 ds = if (ndD d && !((ds.take i).any fcD)) = true then some i else badAt ((ds.take i).any fcD || fcD d) (i + 1) (ds.drop (i + 1)) := by
          rw [hb]
          show (if entD d = false then _ else _) = _
          rw [if_neg (by rw [he]; decide)]
        have hnd : ndD d = inW a wFace := by unfold ndD; rw [head_eq es]
        have hfc : fcD d = eqS a "face" := by unfold fcD; rw [head_eq es]
        refine ⟨fun σ H' => H3 = H' ∧ σ = [some (.ref e), some (.bl ((ds.take i).any fcD)), some (.ref L), some (.int (i : Nat)), some (.ref p)] ∧ badAt false 0 ds = badAt ((ds.take i).any fcD || fcD d) (i + 1) (ds.drop (i + 1)), ?_, ?_⟩
        · refine ⟨.ref p, rfl, ixA (j := 0) hsq rfl (inA_of (ws := wFace) hx ga (T.v_WORDS_BEHIND_A_FACE _) (by decide +kernel) ⟨_, rfl, ite2 (fun e3 => ?_) (fun e3 => ?_)⟩)⟩
          · refine ⟨_, rfl, _, rfl, ?_⟩
            cases hf : (ds.take i).any fcD with
            | false =>
              have hbi : badAt false 0 ds = some i := by
                rw [hb2, hnd, e3, hf]
                rfl
              exact iteT ⟨_, rfl, by show 2 ≤ 1000; decide, fun a na => raise_ hbi H3 sm3 a na⟩
            | true =>
              refine iteF ⟨rfl, rfl, ?_⟩
              rw [hb2, hf, Bool.not_true, Bool.and_false, if_neg Bool.false_ne_true]
          · refine ite2 (fun z => nomatch z) (fun _ => ⟨rfl, rfl, ?_⟩)
            rw [hb2, hnd, Bool.eq_false_iff.mpr e3, Bool.false_and, if_neg Bool.false_ne_true]
        rintro σ H4 ⟨rfl, rfl, hb3⟩
        refine ⟨fun σ H' => H3 = H' ∧ σ = [some (.ref e), some (.bl ((ds.take i).any fcD || fcD d)), some (.ref L), some (.int (i : Nat)), some (.ref p)], ?_, ?_⟩
        · refine ⟨_, rfl, _, rfl, ?_⟩
          cases hf : (ds.take i).any fcD with
          | true => exact iteT ⟨rfl, by rw [Bool.true_or]; rfl⟩
          | false =>
            refine iteF ⟨.ref p, rfl, ixA (j := 0) hsq rfl (eqA_of hx ga (by decide +kernel) ⟨rfl, ?_⟩)⟩
            rw [hfc, Bool.false_or]
            rfl
        rintro σ H4 ⟨rfl, rfl⟩
        have eL3 := s3 _ _ (st _ _ eL)
        have m3 : Same (wo H1 (fun b => b = L)) (wo H3 (fun b => b = L)) := fun b o h => by
          have h2 := wo_some h
          rw [wo_in (X := fun b => b = L) h2.1]
          exact s3 _ _ (st _ _ h2.2)
        have fin : ∀ (H5 : Hp) (q : Addr), Same H3 H5 → Dp K (wo H5 (fun b => b = L)) (.ref q) (tupD d) → (Same H (upd H5 L (.lst (ys ++ [.ref q]))) ∧ ∃ y3 y4 zs, ([some (.ref e), some (.bl ((ds.take i).any fcD || fcD d)), some (.ref L), some (.int (i : Nat)), some (.ref p)] : L2.St) = [some (.ref e), some (.bl ((ds.take (i + 1)).any fcD)), some (.ref L), y3, y4] ∧ (upd H5 L (.lst (ys ++ [.ref q]))) L = some (.lst zs) ∧ zs.length = i + 1 ∧ DpAll K (wo (upd H5 L (.lst (ys ++ [.ref q]))) (fun b => b = L)) zs ((ds.take (i + 1)).map tupD) ∧ badAt false 0 ds = badAt ((ds.take (i + 1)).any fcD) (i + 1) (ds.drop (i + 1))) := fun H5 q s5 hq => by
          have m5 : Same (wo H3 (fun b => b = L)) (wo H5 (fun b => b = L)) := fun b o h => by
            have h2 := wo_some h
            rw [wo_in (X := fun b => b = L) h2.1]
            exact s5 _ _ h2.2
          have m6 : Same (wo H5 (fun b => b = L)) (wo (upd H5 L (.lst (ys ++ [.ref q]))) (fun b => b = L)) := fun b o h => by
            have h2 := wo_some h
            rw [wo_in (X := fun b => b = L) h2.1, upd_ne h2.1]
            exact h2.2
          refine ⟨fun b o h => ?_, some (.int (i : Nat)), some (.ref p), ys ++ [.ref q], ?_, upd_same, ?_, ?_, ?_⟩
          · rw [upd_ne (ne_of_none h nL)]
            exact s5 _ _ (sm3 _ _ h)
          · rw [any_more fd]
          · rw [List.length_append, ly]
            rfl
          · rw [List.take_add_one, fd, List.map_append]
            exact dpa_snoc (dp_same m6 _ _ hq) _ _ (dpa_same ((m3.trans m5).trans m6) _ _ hy)
          · rw [any_more fd]
            exact hb3
        refine ⟨.ref L, rfl, .inl ⟨rfl, _, .inl (.inl eL3)⟩, .ref p, rfl, p, x :: xs2, rfl, ?_⟩
        rcases hsqW with hl | ht
        · refine .inl ⟨wo_same.seq hl, fun r2 nr2 => ?_⟩
          have sr := same_upd (o := .tup (x :: xs2)) nr2
          refine ⟨L, ys, _, rfl, rfl, sr _ _ eL3, small1000 (by omega), fin _ r2 sr ?_⟩
          rw [tup_eq es]
          refine .tup (.inl (.inl ?_)) (dpa_same (fun b o h => ?_) _ _ hallW)
          · rw [wo_in (X := fun b => b = L) (fun z => by rw [z, eL3] at nr2; cases nr2)]
            exact upd_same
          · have h2 := wo_some h
            rw [wo_in (X := fun b => b = L) h2.1]
            exact sr _ _ h2.2
        · refine .inr ⟨sqt_same wo_same ht, ⟨L, ys, _, rfl, rfl, eL3, small1000 (by omega), fin H3 p (Same.refl _) ?_⟩⟩
          rw [tup_eq es]
          exact .tup ht hallW
    · rintro σ H1 ⟨sm, y3, y4, ys, rfl, eL, ly, hy, hb⟩
      rw [lx, List.drop_length] at hb
      rw [lx, List.take_length] at hy
      refine ⟨.ref L, rfl, L, ys, rfl, .inl ⟨.inl (.inl eL), fun r nr => ?_⟩⟩
      exact q hb _ r (sm.trans (same_upd nr)) (.tup (.inl (.inl upd_same)) (dpa_same (wo_same.trans (same_upd nr)) _ _ hy))
--@@SPLIT
/-! ### a refusal with one field that is flat -/
def RaV (C : Addr) (H : Hp) (fs : List (Str × V)) (E : XK) : Prop := ∀ H' dd, Same H H' → H dd = none → H' dd = some (.xd fs) → E (.ref C) (some dd) H'
theorem RaV.same {C : Addr} {H H' : Hp} {fs : List (Str × V)} {E : XK} (h : RaV C H fs E) (s : Same H H') : RaV C H' fs E := fun H2 dd s2 n e => h H2 dd (s.trans s2) (s.free n) e
def spIni (C : Addr) (key : Str) (fl : V → Prop) : Sp := fun vs H Q _ => ∃ (a : Addr) (v : V), vs = [.ref a, v] ∧ fl v ∧ H a = some (exo a C none) ∧
  ∀ H' dx, (∀ b o, b ≠ a → H b = some o → H' b = some o) → H dx = none → dx ≠ a → H' a = some (exo a C (some dx)) → H' dx = some (exd dx [(key, v)]) → Q .non H'
theorem raise1 {C : Addr} {key : Str} {fl : V → Prop} {v : V} {H : Hp} {E : XK} (hv : fl v) (bad : RaV C H [(key, v)] E) (a : Addr) (na : H a = none) :
    spIni C key fl (.ref a :: ([v] ++ [])) (upd H a (exo a C none)) (fun v H2 => v = .non ∧ ∃ (d : Addr) (fs : List (Str × V)), H2 a = some (exo a C (some d)) ∧ H2 d = some (exd d fs) ∧ H d = none ∧ E (.ref C) (some d) (upd (del H2 a) d (.xd fs))) (fun _ _ _ => False) :=
  ⟨a, v, rfl, hv, upd_same, fun H4 dx keep ndx ne ea ed => by
    rw [upd_ne ne] at ndx
    refine ⟨rfl, dx, _, ea, ed, ndx, bad _ dx (fun b o h => ?_) ndx upd_same⟩
    have na2 : b ≠ a := ne_of_none h na
    rw [upd_ne (ne_of_none h ndx), del_ne na2]
    exact keep b o na2 (by rw [upd_ne na2]; exact h)⟩
def isIntV (v : V) : Prop := ∃ i : Int, v = .int i
def isStrV (v : V) : Prop := ∃ z : Str, v = .str z
/-! ### the refusals of an atlas -/
inductive Rf where
  | made
  | box (i : Nat)
  | name (d : PyData)
  | twice (z : Str)
  | log (z : Str) (i : Nat)
def okB : PyData → Bool
  | .int i => decide (0 ≤ i)
  | _ => false
def badB : Nat → List PyData → Option Nat
  | _, [] => none
  | i, d :: r => if okB d = true then badB (i + 1) r else some i
def boxR (ds : List PyData) : Option Nat := if ds.length = 8 then badB 0 ds else some ds.length
def nameD : PyData → Option Str
  | .str z => if nmL z.cps.toList = true then some z else none
  | _ => none
def rowsR : List Str → List (PyData × List PyData) → Rf
  | _, [] => .made
  | ns, (d, es) :: r => match nameD d with
    | none => .name d
    | some z => if z ∈ ns then .twice z else match badAt false 0 es with
      | some i => .log z i
      | none => rowsR (ns ++ [z]) r
def atlasR (box : List PyData) (rows : List (PyData × List PyData)) : Rf := match boxR box with
  | some i => .box i
  | none => rowsR [] rows
theorem name_nm {K : PySem.W.Frag} {H : Hp} {v : V} {d : PyData} (h : Dp K H v d) : nmV v = (nameD d).isSome := by
  cases h with
  | str z =>
    show nmL z.cps.toList = (if nmL z.cps.toList = true then some z else none).isSome
    cases nmL z.cps.toList <;> rfl
  | non => rfl
  | bl b => rfl
  | int i => rfl
  | lst h _ => rfl
  | tup h _ => rfl
theorem name_str {K : PySem.W.Frag} {H : Hp} {v : V} {d : PyData} {z : Str} (h : Dp K H v d) (e : nameD d = some z) : v = .str z ∧ d = .str z := by
  cases d with
  | str y =>
    have e : (if nmL y.cps.toList = true then some y else none) = some z := e
    by_cases hn : nmL y.cps.toList = true
    · rw [if_pos hn] at e
      cases e
      cases h
      exact ⟨rfl, rfl⟩
    · rw [if_neg hn] at e
      cases e
  | _ => cases e
/-- one field, of any data -/
def spIniD (K : PySem.W.Frag) (C : Addr) (key : Str) : Sp := fun vs H Q _ => ∃ (a : Addr) (v : V) (d : PyData), vs = [.ref a, v] ∧ siz d ≤ 1000 ∧ Dp K H v d ∧ H a = some (exo a C none) ∧
  ∀ H' dx v', (∀ b o, b ≠ a → H b = some o → H' b = some o) → H dx = none → dx ≠ a → H' a = some (exo a C (some dx)) → H' dx = some (exd dx [(key, v')]) → Dp K H' v' d → Q .non H'
def RaD (K : PySem.W.Frag) (C : Addr) (H : Hp) (key : Str) (d : PyData) (E : XK) : Prop := ∀ H' dd v', Same H H' → H dd = none → H' dd = some (.xd [(key, v')]) → Dp K H' v' d → E (.ref C) (some dd) H'
theorem RaD.same {K : PySem.W.Frag} {C : Addr} {H H' : Hp} {key : Str} {d : PyData} {E : XK} (h : RaD K C H key d E) (s : Same H H') : RaD K C H' key d E := fun H2 dd v' s2 n e hv => h H2 dd v' (s.trans s2) (s.free n) e hv
theorem raiseD {K : PySem.W.Frag} {C : Addr} {key : Str} {v : V} {d : PyData} {H : Hp} {E : XK} (hz : siz d ≤ 1000) (hv : Dp K H v d) (bad : RaD K C H key d E) (a : Addr) (na : H a = none) :
    spIniD K C key (.ref a :: ([v] ++ [])) (upd H a (exo a C none)) (fun v H2 => v = .non ∧ ∃ (d : Addr) (fs : List (Str × V)), H2 a = some (exo a C (some d)) ∧ H2 d = some (exd d fs) ∧ H d = none ∧ E (.ref C) (some d) (upd (del H2 a) d (.xd fs))) (fun _ _ _ => False) :=
  ⟨a, v, d, rfl, hz, dp_same (same_upd na) _ _ hv, upd_same, fun H4 dx v' keep ndx ne ea ed hv' => by
    rw [upd_ne ne] at ndx
    have sq : Seqs H4 (upd (del H4 a) dx (.xd [(key, v')])) := fun b u z h => by
      have n1 : b ≠ a := fun e => by rw [e, ea] at h; cases h; cases z
      have n2 : b ≠ dx := fun e => by rw [e, ed] at h; cases h; cases z
      rw [upd_ne n2, del_ne n1]
      exact h
    refine ⟨rfl, dx, _, ea, ed, ndx, bad _ dx v' (fun b o h => ?_) ndx upd_same (dp_seqs sq d v' hv')⟩
    have na2 : b ≠ a := ne_of_none h na
    rw [upd_ne (ne_of_none h ndx), del_ne na2]
    exact keep b o na2 (by rw [upd_ne na2]; exact h)⟩
theorem raise2 {K : PySem.W.Frag} {C : Addr} {z : Str} {i : Int} {H : Hp} {E : XK} (bad : RaV C H [("at", .int i), ("name", .str z)] E) (a : Addr) (na : H a = none) :
    spInit K C (.ref a :: ([.str z, .int i] ++ [])) (upd H a (exo a C none)) (fun v H2 => v = .non ∧ ∃ (d : Addr) (fs : List (Str × V)), H2 a = some (exo a C (some d)) ∧ H2 d = some (exd d fs) ∧ H d = none ∧ E (.ref C) (some d) (upd (del H2 a) d (.xd fs))) (fun _ _ _ => False) :=
  ⟨a, z, i, rfl, upd_same, fun H4 dx keep ndx ne ea ed => by
    rw [upd_ne ne] at ndx
    refine ⟨rfl, dx, _, ea, ed, ndx, bad _ dx (fun b o h => ?_) ndx upd_same⟩
    have na2 : b ≠ a := ne_of_none h na
    rw [upd_ne (ne_of_none h ndx), del_ne na2]
    exact keep b o na2 (by rw [upd_ne na2]; exact h)⟩
theorem okH_init (T : Top w K mg) : L2H.FnH P w K mg base CX0 4 T.a_init T.fd_init ["self", "name", "at"] (spInit K T.a_BadLog) := by
  have GH_kept := okH_kept (P := P) (w := w) (base := base) T
  refine HotAs.okH T.F_init sc_init (fun vs H Q E h => ?_) (fun cdv A outer s H vs Q E p hr hc h => ?_)
  · obtain ⟨a, z, i, rfl, _⟩ := h
    rfl
  · obtain ⟨a, z, i, rfl, ha, q⟩ := h
    refine ⟨_, (pss_cons (ps_ost (pv 0) (L2H.pe_callH (E := fun _ _ _ _ => False) GH_kept (hr.mono (by decide)) hc (by rfl) T.g_kept T.F_kept.kp T.b_kept (fun _ _ _ _ _ _ _ z => z.elim) (pa_cons (pv 1) pa_nil)))
      (pss_one (ps_ost (pv 0) (L2H.pe_callH (E := fun _ _ _ _ => False) GH_kept (hr.mono (by decide)) hc (by rfl) T.g_kept T.F_kept.kp T.b_kept (fun _ _ _ _ _ _ _ z => z.elim) (pa_cons (pv 2) pa_nil))))), ?_⟩
    refine ⟨_, rfl, .str z, .str z, rfl, rfl, .str z, fun H1 s1 => ?_⟩
    refine ⟨.ref a, rfl, a, T.a_BadLog, rfl, T.oex, T.no_name, .inl ⟨s1 _ _ ha, fun dx ndx ne => ?_⟩⟩
    refine ⟨_, rfl, .int i, .int i, rfl, rfl, .int i, fun H2 s2 => ?_⟩
    have ea := s2 _ _ (upd_same (H := upd H1 dx (exd dx [("name", .str z)])) (a := a) (o := exo a T.a_BadLog (some dx)))
    have ed := s2 dx (exd dx [("name", .str z)]) ((upd_ne ne).trans upd_same)
    refine ⟨.ref a, rfl, a, T.a_BadLog, rfl, T.oex, T.no_at, .inr ⟨dx, _, ea, ed, by show 1 ≤ 900; decide, ?_⟩⟩
    refine q _ dx (fun b o hb h => ?_) (s1.free ndx) ne ((upd_ne (Ne.symm ne)).trans ea) upd_same
    have hb2 : b ≠ dx := ne_of_none (s1 _ _ h) ndx
    rw [upd_ne hb2]
    refine s2 _ _ ?_
    rw [upd_ne hb, upd_ne hb2]
    exact s1 _ _ h
theorem ok_init_BadBox (T : Top w K mg) : FnOk P w K mg base CX0 4 T.a_init_BadBox T.fd_init_BadBox ["self", "at"] (spIni T.a_BadBox "at" isIntV) := by
  have G_kept := ok_kept (P := P) (w := w) (base := base) T
  refine T.F_init_BadBox.ok sc_init_BadBox (fun vs H Q E h => ?_) (fun cdv A outer s H vs Q E hr h => ?_)
  · obtain ⟨a, i, rfl, _⟩ := h
    rfl
  · obtain ⟨a, _, rfl, ⟨i, rfl⟩, ha, q⟩ := h
    refine ⟨_, (pss_one (ps_ost (pv 0) (pe_call G_kept (hr.mono (by decide)) (by rfl) T.g_kept T.F_kept.kp T.b_kept .nil pass0 (pa_cons (pv 1) pa_nil)))), ?_⟩
    refine ⟨_, rfl, .int i, .int i, rfl, siz_int _, .int i, fun H1 v' s1 hv' => ?_⟩
    cases hv'
    refine ⟨.ref a, rfl, a, T.a_BadBox, rfl, T.oex_BadBox, T.no_BadBox_at, .inl ⟨s1 _ _ ha, fun dx ndx ne => ?_⟩⟩
    exact q _ dx (fun b o hb h => (upd_ne hb).trans (same_upd ndx _ _ (s1 _ _ h))) (s1.free ndx) ne upd_same ((upd_ne ne).trans upd_same)
theorem ok_init_Twice (T : Top w K mg) : FnOk P w K mg base CX0 4 T.a_init_Twice T.fd_init_Twice ["self", "name"] (spIni T.a_Twice "name" isStrV) := by
  have G_kept := ok_kept (P := P) (w := w) (base := base) T
  refine T.F_init_Twice.ok sc_init_Twice (fun vs H Q E h => ?_) (fun cdv A outer s H vs Q E hr h => ?_)
  · obtain ⟨a, i, rfl, _⟩ := h
    rfl
  · obtain ⟨a, _, rfl, ⟨i, rfl⟩, ha, q⟩ := h
    refine ⟨_, (pss_one (ps_ost (pv 0) (pe_call G_kept (hr.mono (by decide)) (by rfl) T.g_kept T.F_kept.kp T.b_kept .nil pass0 (pa_cons (pv 1) pa_nil)))), ?_⟩
    refine ⟨_, rfl, .str i, .str i, rfl, siz_str _, .str i, fun H1 v' s1 hv' => ?_⟩
    cases hv'
    refine ⟨.ref a, rfl, a, T.a_Twice, rfl, T.oex_Twice, T.no_Twice_name, .inl ⟨s1 _ _ ha, fun dx ndx ne => ?_⟩⟩
    exact q _ dx (fun b o hb h => (upd_ne hb).trans (same_upd ndx _ _ (s1 _ _ h))) (s1.free ndx) ne upd_same ((upd_ne ne).trans upd_same)
theorem ok_init_NoName (T : Top w K mg) : FnOk P w K mg base CX0 4 T.a_init_NoName T.fd_init_NoName ["self", "name"] (spIniD K T.a_NoName "name") := by
  have G_kept := ok_kept (P := P) (w := w) (base := base) T
  refine T.F_init_NoName.ok sc_init_NoName (fun vs H Q E h => ?_) (fun cdv A outer s H vs Q E hr h => ?_)
  · obtain ⟨a, v, d, rfl, _⟩ := h
    rfl
  · obtain ⟨a, v, d, rfl, hz, hd, ha, q⟩ := h
    refine ⟨_, (pss_one (ps_ost (pv 0) (pe_call G_kept (hr.mono (by decide)) (by rfl) T.g_kept T.F_kept.kp T.b_kept .nil pass0 (pa_cons (pv 1) pa_nil)))), ?_⟩
    refine ⟨v, rfl, v, d, rfl, hz, hd, fun H1 v' s1 hv' => ?_⟩
    refine ⟨.ref a, rfl, a, T.a_NoName, rfl, T.oex_NoName, T.no_NoName_name, .inl ⟨s1 _ _ ha, fun dx ndx ne => ?_⟩⟩
    have ha1 := s1 _ _ ha
    refine q _ dx v' (fun b o hb h => (upd_ne hb).trans (same_upd ndx _ _ (s1 _ _ h))) (s1.free ndx) ne upd_same ((upd_ne ne).trans upd_same) ?_
    exact dp_seqs ((Seqs.new ndx).trans (Seqs.upd (same_upd ndx _ _ ha1) rfl)) d v' hv'
/-! ### a box, a log: held or refused -/
def spBoxX (K : PySem.W.Frag) (C : Addr) : Sp := fun vs H Q E => ∃ (b : Addr) (xs : List V) (ds : List PyData), vs = [.ref b] ∧ SqA K H b xs ∧ DpAll K H xs ds ∧ ds.length ≤ 100 ∧ (boxR ds = none → ∀ H' r, Same H H' → SqT K H' r xs → Q (.ref r) H') ∧ (∀ i : Nat, boxR ds = some i → RaV C H [("at", .int (i : Int))] E)
theorem ok_held_box (T : Top w K mg) : FnOk P w K mg base (L2.CX P w) 6 T.a_held_box T.fd_held_box ["box"] (spBoxX K T.a_BadBox) := by
  have G_is_whole := ok_is_wholeD (P := P) (w := w) (base := base) T
  have G_init_BadBox := ok_init_BadBox (P := P) (w := w) (base := base) T
  refine T.F_held_box.okX sc_held_box (fun vs H Q E h => ?_) (fun cdv A outer s H vs Q E hr h => ?_)
  · obtain ⟨b, xs, ds, rfl, _⟩ := h
    rfl
  · obtain ⟨b, xs, ds, rfl, hs, hd, hl, q, bad⟩ := h
    have lx := dpa_len ds xs hd
    refine ⟨_, (pss_cons (ps_if (pt_cmpR op_ne (pe_callB call_len_seq (by rfl) T.m_len (by decide +kernel) (pa_cons (pv 0) pa_nil)) (pe_glob (v := .int 8) (by rfl) T.g_HOW_MANY_LOTS.choose_spec ⟨_, rfl⟩) (nomark _)) (pss_one (ps_raise rfl (takes_of rfl rfl rfl rfl) (pmk_oex T.oex_BadBox T.iC_BadBox T.tI_BadBox G_init_BadBox (hr.mono (by decide)) T.b_init_BadBox .nil pass0 (by rfl) T.g_BadBox (pa_cons (pe_callB call_len_seq (by rfl) T.m_len (by decide +kernel) (pa_cons (pv 0) pa_nil)) pa_nil)))) pss_nil)
      (pss_cons (ps_for (passes_of rfl) rfl (SeqW.pi_enumA (by rfl) T.m_enumerate (pa_cons (pv 0) pa_nil)) (pg_tup rfl (pgs_cons (pg_name (i := 1) sc_held_box.nd rfl (.inl rfl)) (pgs_cons (pg_name (i := 2) sc_held_box.nd rfl (.inl rfl)) pgs_nil))) (pss_one (ps_if (PW.pt (pw_or (pt_not (pt_val (pe_call G_is_whole (hr.mono (by decide)) (by rfl) T.g_is_whole T.F_is_whole.kp T.b_is_whole .nil pass0 (pa_cons (pv 2) pa_nil)))) (pw_or1 (pt_cmpR op_lt (pv 2) pe_int (nomark _))))) (pss_one (ps_raise rfl (takes_of rfl rfl rfl rfl) (pmk_oex T.oex_BadBox T.iC_BadBox T.tI_BadBox G_init_BadBox (hr.mono (by decide)) T.b_init_BadBox .nil pass0 (by rfl) T.g_BadBox (pa_cons (pv 1) pa_nil)))) pss_nil)))
      (pss_one (ps_ret (pe_callTy call_tuple_of (by rfl) T.m_tuple (by decide +kernel) (pa_cons (pv 0) pa_nil)))))), ?_⟩
    refine ⟨.ref b, rfl, b, _, rfl, hs, rfl, _, rfl, ?_⟩
    by_cases h8 : ds.length = 8
    · have e0 : boxR ds = badB 0 ds := if_pos h8
      refine iteN (by rw [lx, h8]; rfl) ⟨.ref b, rfl, b, _, rfl, (fun H' => Same H H'), kpA hs, Same.refl _, fun J G wk hG => for_it wk (fun i σ H' => Same H H' ∧ boxR ds = badB i (ds.drop i) ∧ ∃ y1 y2, σ = [some (.ref b), y1, y2]) ⟨Same.refl _, e0, _, _, rfl⟩ (fun i σ H' _ h => hG _ h.1) ?_ ?_⟩
      · rintro i v σ H1 H2 hi ⟨sm, hb, y1, y2, rfl⟩ ⟨t, u1, u2, rfl, nt, rfl, e1, e2⟩
        cases e1
        have st := same_upd (o := .tup [.int (i : Nat), u2]) nt
        obtain ⟨d, fd, gd⟩ := dpa_at ds xs (dpa_same (sm.trans st) _ _ hd) i u2 e2
        rw [drop_at fd] at hb
        refine ⟨t, _, rfl, .inl (.inl upd_same), rfl, _, _, rfl, _, _, rfl, rfl, ?_⟩
        have stop : okB d = false → ∀ Hx, Same H Hx → ∀ a, Hx a = none → _ := fun ho Hx sx a na => raise1 (C := T.a_BadBox) (key := "at") (fl := isIntV) (v := .int ((i : Nat) : Int)) (E := E) ⟨_, rfl⟩ ((bad i (hb.trans (if_neg (by rw [ho]; decide)))).same sx) a na
        have on : okB d = true → ∀ Hx, Same H Hx → (Same H Hx ∧ boxR ds = badB (i + 1) (ds.drop (i + 1)) ∧ ∃ y1 y2, [some (V.ref b), some (.int (i : Nat)), some u2] = [some (.ref b), y1, y2]) := fun ho Hx sx => ⟨sx, hb.trans (if_pos ho), _, _, rfl⟩
        refine ⟨u2, rfl, u2, d, rfl, gd, _, rfl, ?_⟩
        cases gd with
        | int j =>
          refine iteF ⟨.int j, rfl, _, _, rfl, rfl, _, rfl, ite2 (fun e => ?_) (fun e => ?_)⟩
          · have ho : okB (.int j) = false := decide_eq_false (by have := of_decide_eq_true e; omega)
            exact ⟨_, rfl, by show 1 ≤ 1000; decide, stop ho _ (sm.trans st)⟩
          · exact on (decide_eq_true (by have : ¬ j < 0 := fun z => e (decide_eq_true z); omega)) _ (sm.trans st)
        | _ => exact iteT ⟨_, rfl, by show 1 ≤ 1000; decide, stop rfl _ (sm.trans st)⟩
      · rintro σ H1 ⟨sm, hb, y1, y2, rfl⟩
        have hn : boxR ds = none := by
          rw [hb, List.drop_of_length_le (by omega)]
          rfl
        refine ⟨.ref b, rfl, b, xs, rfl, ?_⟩
        rcases hs.same sm with h | h
        · exact .inl ⟨h, fun r nr => q hn _ r (sm.trans (same_upd nr)) (.inl (.inl upd_same))⟩
        · exact .inr ⟨h, q hn _ b sm h⟩
    · have ne : ¬ V.int (xs.length : Nat) = .int 8 := fun z => h8 (by have : ((xs.length : Nat) : Int) = 8 := V.int.inj z; omega)
      refine iteDY (by rw [decide_eq_false ne]; rfl) ⟨.ref b, rfl, b, _, rfl, hs, by show 1 ≤ 1000; decide, fun a na => ?_⟩
      rw [lx]
      exact raise1 ⟨_, rfl⟩ (bad _ (if_neg h8)) a na
def spLogOf (K : PySem.W.Frag) (C : Addr) : Sp := fun vs H Q E => ∃ (z : Str) (e : Addr) (xs : List V) (ds : List PyData), vs = [.str z, .ref e] ∧ SqA K H e xs ∧ DpAll K H xs ds ∧ (∀ d ∈ ds, ge d = true) ∧ ds.length ≤ 200 ∧
  (badAt false 0 ds = none → ∀ H' r, Same H H' → Dp K H' (.ref r) (.tuple (ds.map tupD)) → Q (.ref r) H') ∧ (∀ i : Nat, badAt false 0 ds = some i → RaV C H [("at", .int (i : Int)), ("name", .str z)] E)
theorem ok_held_log_of (T : Top w K mg) : FnOk P w K mg base (L2.CX P w) 9 T.a_held_log_of T.fd_held_log_of ["name", "log"] (spLogOf K T.a_BadLog) := by
  have G_held_log := ok_held_logT (P := P) (w := w) (base := base) T
  have GH_init := okH_init (P := P) (w := w) (base := base) T
  refine T.F_held_log_of.okX sc_held_log_of (fun vs H Q E h => ?_) (fun cdv A outer s H vs Q E hr h => ?_)
  · obtain ⟨z, e, xs, ds, rfl, _⟩ := h
    rfl
  · obtain ⟨z, e, xs, ds, rfl, hs, ha, hg, hl, q, bad⟩ := h
    refine ⟨_, (pss_one (HotAs.ps_try_asX (i := 2) rfl rfl sc_held_log_of.nd rfl rfl ⟨rfl, by decide, .inl T.g_BadLog⟩ (fun hd => L2H.passesAt_of rfl hd) (takes_of rfl rfl rfl rfl) (fun W pn xe tk _ => (pss_one (ps_ret (pe_callS G_held_log hr (by rfl) T.g_held_log T.F_held_log.kp T.b_held_log (fun σ => L2N.passAt tk σ) (pa_cons (pv 1) pa_nil))))) (fun a oe cls d pn xe hz hf tk hot => (pss_one (L2H.ps_raiseHN hot tk (L2H.pmk5_oexH T.oex T.iC T.tI GH_init (L2H.roomH_mark (hr.mono (by decide)) _) hot T.b_init pass0 (by rfl) T.g_BadLog (pa_cons (pv 0) (pa_cons (HotAs.pe_sx (pe_xf T.xf T.no_at (L2N.Zn.zc hz) hf (pv 2))) pa_nil)))))))), ?_⟩
    refine ⟨.ref e, rfl, e, xs, ds, rfl, hs, ha, hg, hl, fun hn H' r s' hd => q hn H' r s' hd, fun i hi H' dd s' nd ed => ?_⟩
    refine ⟨true, T.exm, (fun _ a0 na0 => ⟨.str z, rfl, .ref a0, rfl, rfl, rfl, dd, _, .int (i : Nat), rfl, ed, by simp [List.lookup], by show 2 ≤ 1000; decide, fun a na => ?_⟩), fun y => Bool.noConfusion y⟩
    exact raise2 ((bad i hi).same s') a na
--@@SPLIT
/-! ### drawn texts, drawn things -/
theorem op_mulS {X : Cx} : OpR X (binaryOp .Mult) (fun x y H Q => ∃ (z : Str) (n : Int), x = .str z ∧ y = .int n ∧ z.length ≤ 16 ∧ 0 ≤ n ∧ n ≤ 1048576 ∧ ∀ z' : Str, (z'.length : Int) = (z.length : Int) * n → Q (.str z') H) := by
  intro pins s σ H x y v u Q I rx ry h
  obtain ⟨z, n, rfl, rfl, hz, h0, h1, q⟩ := h
  obtain ⟨t, rfl⟩ := rx
  obtain ⟨t', rfl⟩ := ry
  exact PySem.W.KXi.mul rfl hz (by omega) (by omega) fun t' k _ h2 => ⟨.str _, H, I.tok _, ⟨_, rfl⟩, q _ (h2 h0)⟩
theorem cut_len (z : Str) (lo hi : Option Int) : (cutS z lo hi).length ≤ z.length := by
  show (((z.cps.toList.drop (HT.sIx z.length 0 lo)).take (HT.sIx z.length z.length hi - HT.sIx z.length 0 lo)).toArray).size ≤ z.length
  rw [List.size_toArray, List.length_take, List.length_drop, len_toList]
  omega
theorem app_len (a b : Str) : (a ++ b).length = a.length + b.length := by
  show (a.cps ++ b.cps).size = _
  rw [Array.size_append]
  rfl
theorem str_at {z : Str} {i : Int} (h0 : 0 ≤ i) (h1 : i < (z.length : Int)) : ∃ c, atI z.cps.toList i = some c := by
  obtain ⟨j, rfl⟩ : ∃ j : Nat, i = j := ⟨i.toNat, by omega⟩
  have hj : j < z.cps.toList.length := by
    rw [len_toList]
    omega
  exact ⟨z.cps.toList[j], atI_nat (List.getElem?_eq_getElem hj)⟩
def spText (lo hi : Nat) : Sp := fun vs H Q _ => ∃ p, vs = [.ref p] ∧ Pool H p ∧ ∀ H' (z : Str), But p H H' → Pool H' p → lo ≤ z.length → z.length ≤ hi → (∀ c ∈ z.cps.toList, c ∈ SMALLs.cps.toList) → Q (.str z) H'
theorem app_mem {a b : Str} {c : Nat} (h : c ∈ (a ++ b).cps.toList) : c ∈ a.cps.toList ∨ c ∈ b.cps.toList := by
  have h2 : c ∈ (a.cps ++ b.cps).toList := h
  rw [Array.toList_append] at h2
  exact List.mem_append.mp h2
theorem join_mem {S : List Nat} : ∀ ys : List Str, (∀ y ∈ ys, ∀ c ∈ y.cps.toList, c ∈ S) → ∀ c ∈ (Str.join (PySem.Str.ofString "") ys).cps.toList, c ∈ S
  | [], _, c, h => by
    have h2 : c ∈ ([] : List Nat) := h
    cases h2
  | [y], hy, c, h => hy y (by simp) c h
  | y :: z :: r, hy, c, h => by
    have h2 : c ∈ ((y ++ PySem.Str.ofString "") ++ Str.join (PySem.Str.ofString "") (z :: r)).cps.toList := h
    rcases app_mem h2 with h3 | h3
    · rcases app_mem h3 with h4 | h4
      · exact hy y (by simp) c h4
      · have h5 : c ∈ ([] : List Nat) := by
          rw [show (PySem.Str.ofString "").cps.toList = [] by decide +kernel] at h4
          exact h4
        cases h5
    · exact join_mem (z :: r) (fun x hx => hy x (List.mem_cons_of_mem _ hx)) c h3
theorem ok_of_mem {z : Str} (h : ∀ c ∈ z.cps.toList, c < 0x110000) : PyData.strOk z = true := by
  show z.cps.all (fun c => decide (c < 0x110000)) = true
  rw [Array.all_eq_true_iff_forall_mem]
  intro c hc
  exact decide_eq_true (h c (Array.mem_toList_iff.mpr hc))
theorem small_ok : ∀ c ∈ SMALLs.cps.toList, c < 0x110000 := by decide +kernel
theorem cut_mem {z : Str} {lo hi : Option Int} {c : Nat} (h : c ∈ (cutS z lo hi).cps.toList) : c ∈ z.cps.toList := by
  have h2 : c ∈ (z.cps.toList.drop (HT.sIx z.length 0 lo)).take (HT.sIx z.length z.length hi - HT.sIx z.length 0 lo) := h
  exact List.mem_of_mem_drop (List.mem_of_mem_take h2)
theorem at_mem {z : Str} {i : Int} {c : Nat} (h : atI z.cps.toList i = some c) : c ∈ z.cps.toList := by
  obtain ⟨j, _, h2, _⟩ := atI_get h
  exact List.mem_of_getElem? h2
theorem join_len : ∀ ys : List Str, (∀ y ∈ ys, y.length = 1) → (Str.join (PySem.Str.ofString "") ys).length = ys.length
  | [], _ => rfl
  | [y], h => by
    show y.length = 1
    exact h y (by simp)
  | y :: z :: r, h => by
    show ((y ++ PySem.Str.ofString "") ++ Str.join (PySem.Str.ofString "") (z :: r)).length = _
    rw [app_len, app_len, join_len (z :: r) (fun x hx => h x (List.mem_cons_of_mem _ hx)), h y (by simp), s0]
    show 1 + 0 + (z :: r).length = (z :: r).length + 1
    omega
theorem sum_ones : ∀ ys : List Str, (∀ y ∈ ys, y.length = 1) → (ys.map (·.length)).sum = ys.length
  | [], _ => rfl
  | y :: r, h => by
    rw [List.map_cons, List.sum_cons, sum_ones r (fun x hx => h x (List.mem_cons_of_mem _ hx)), h y (by simp), List.length_cons]
    omega
theorem ok_Lname (T : Top w K mg) : FnOk P w K mg base CX0 2 T.a_Lname T.fd_Lname ["_law_pool_here"] (spText 1 8) := by
  have G_Ltake := ok_Ltake (P := P) (w := w) (base := base) T
  refine T.F_Lname.ok sc_Lname (fun vs H Q E h => ?_) (fun cdv A outer s H vs Q E hr h => ?_)
  · obtain ⟨p, rfl, _⟩ := h
    rfl
  · obtain ⟨p, rfl, hp, q⟩ := h
    refine ⟨_, (pss_cons (ps_set (i := 1) sc_Lname.nd rfl (.inr rfl) pe_str)
      (pss_one (ps_ret (pe_bm PySem.F.plainAttrs_str PySem.F.slot_str_join PySem.F.type_str_join mt_join pe_str (pa_cons (pe_lc (own := [("_law_k", 2)]) (g := gName 2) (by rfl) sc_Lname.nd (pi_range1 (by rfl) T.m_range (pa_cons (pe_op op_add pe_int (pe_call G_Ltake hr (by rfl) T.g_Ltake T.F_Ltake.kp T.b_Ltake .nil pass0 (pa_cons (pv 0) (pa_cons pe_int pa_nil)))) pa_nil)) (blkOk_by (own := [("_law_k", 2)]) (N := ["_law_pool_here", "_law_letters", "_law_k"]) (sc := defScope s_Lname) (by decide +kernel)) (fun _ _ _ _ _ => (pg_name (i := 2) sc_Lname.nd rfl (Or.inl rfl))) (fun _ _ _ _ _ => pts_nil) (fun _ _ _ _ _ => (pe_ix ix_str (pv 1) (pe_call G_Ltake hr (by rfl) T.g_Ltake T.F_Ltake.kp T.b_Ltake .nil pass0 (pa_cons (pv 0) (pa_cons pe_int pa_nil))) (fun _ _ => rfl)))) pa_nil))))), ?_⟩
    refine ⟨rfl, .ref p, rfl, p, 8, rfl, by decide, by decide, hp, fun H1 r b1 hp1 r0 r1 => ?_⟩
    have l26 : SMALLs.length = 26 := by decide +kernel
    refine ⟨_, _, rfl, rfl, 1 + r, rfl, by omega, by omega, fun D hD => lc_range (lo := 0) (n := (1 + r).toNat) (fun i H' => Pool H' p ∧ But p H H' ∧ ∃ ys : List Str, ys.length = i ∧ (∀ y ∈ ys, y.length = 1) ∧ (∀ y ∈ ys, ∀ c ∈ y.cps.toList, c ∈ SMALLs.cps.toList) ∧ H' D = some (.lst (ys.map V.str))) ⟨hp1.upd (hp1.ne_new hD), b1.mut (b1.free (hp1.ne_new hD) hD), [], rfl, (fun _ h => nomatch h), (fun _ h => nomatch h), upd_same⟩ ?_ ?_⟩
    · rintro i H2 hi ⟨hp2, b2, ys, hl, h1, hm, eD⟩
      have nD : D ≠ p := hp1.ne_new hD
      refine ⟨rfl, ?_⟩
      refine ⟨_, rfl, .ref p, rfl, p, 26, rfl, by decide, by decide, hp2, fun H3 k b3 hp3 k0 k1 => ?_⟩
      obtain ⟨c, hc⟩ := str_at (z := SMALLs) k0 (by rw [l26]; omega)
      refine ⟨_, k, c, rfl, rfl, by decide +kernel, hc, _, b3 _ _ nD eD, ?_, hp3.upd nD, (b2.trans b3).mut (b1.free nD hD), ys ++ [⟨#[c]⟩], ?_, ?_, ?_, ?_⟩
      · rw [List.length_map]
        exact small1000 (by omega)
      · rw [List.length_append, hl]
        rfl
      · intro y hy
        rcases List.mem_append.mp hy with h | h
        · exact h1 y h
        · rw [List.mem_singleton.mp h]
          rfl
      · intro y hy c2 hc2
        rcases List.mem_append.mp hy with h | h
        · exact hm y h c2 hc2
        · rw [List.mem_singleton.mp h] at hc2
          have h3 : c2 ∈ [c] := hc2
          rw [List.mem_singleton.mp h3]
          exact at_mem hc
      · rw [upd_same, List.map_append]
        rfl
    · rintro H2 ⟨hp2, b2, ys, hl, h1, hm, eD⟩
      have e := join_len ys h1
      refine ⟨_, D, ys, rfl, rfl, .inl (.inl (.inl eD)), ?_, ?_⟩
      · rw [sum_ones ys h1, s0]
        show ys.length + ys.length * 0 ≤ 16777216
        omega
      · rw [TL.join_eq]
        exact q H2 _ b2 hp2 (by omega) (by omega) (join_mem ys hm)
theorem up_gr : ∀ c ∈ SMALLs.cps.toList, (Txt.upper ⟨#[c]⟩).cps.toList = [c - 32] ∧ grC (c - 32) = true ∧ c - 32 < 0x110000 := by decide +kernel
theorem all_sm {cs : List Nat} (h : ∀ c ∈ cs, c ∈ SMALLs.cps.toList) : cs.all smC = true := List.all_eq_true.mpr fun c hc => decide_eq_true (h c hc)
theorem nm_of {z : Str} (h1 : 1 ≤ z.length) (h8 : z.length ≤ 8) (hm : ∀ c ∈ z.cps.toList, c ∈ SMALLs.cps.toList) : nmL z.cps.toList = true := by
  unfold nmL shL
  rw [all_sm hm, len_toList, decide_eq_true (show (1 : Int) ≤ (z.length : Int) by omega), decide_eq_true (show (z.length : Int) ≤ 8 by omega)]
  rfl
theorem cut1_tl (z : Str) (h : 1 ≤ z.length) : (cutS z (some 1) none).cps.toList = z.cps.toList.drop 1 := by
  show (z.cps.toList.drop (HT.sIx z.length 0 (some 1))).take (HT.sIx z.length z.length none - HT.sIx z.length 0 (some 1)) = _
  have e1 : HT.sIx z.length 0 (some 1) = 1 := by
    unfold HT.sIx
    simp
    omega
  have e2 : HT.sIx z.length z.length none = z.length := rfl
  rw [e1, e2]
  exact List.take_of_length_le (by rw [List.length_drop, len_toList]; exact Nat.le_refl _)
theorem lo_of {z : Str} {c : Nat} (h1 : 1 ≤ z.length) (h8 : z.length ≤ 8) (hm : ∀ c ∈ z.cps.toList, c ∈ SMALLs.cps.toList) (hc : c ∈ SMALLs.cps.toList) : (Txt.upper ⟨#[c]⟩ ++ cutS z (some 1) none).cps.toList = (c - 32) :: z.cps.toList.drop 1 ∧ loL ((c - 32) :: z.cps.toList.drop 1) = true := by
  obtain ⟨u1, u2, _⟩ := up_gr c hc
  refine ⟨?_, ?_⟩
  · show ((Txt.upper ⟨#[c]⟩).cps ++ (cutS z (some 1) none).cps).toList = _
    rw [Array.toList_append, u1, cut1_tl z h1]
    rfl
  · show (shL ((c - 32) :: z.cps.toList.drop 1) && (grC (c - 32) && (z.cps.toList.drop 1).all smC)) = true
    have l : ((c - 32) :: z.cps.toList.drop 1).length = z.length := by
      rw [List.length_cons, List.length_drop, len_toList]
      omega
    unfold shL
    rw [u2, all_sm (fun d hd => hm d (List.mem_of_mem_drop hd)), l, decide_eq_true (show (1 : Int) ≤ (z.length : Int) by omega), decide_eq_true (show (z.length : Int) ≤ 8 by omega)]
    rfl
/-- a sign that is drawn: lone, or as a name -/
def spSign : Sp := fun vs H Q _ => ∃ (p : Addr) (b : Bool), vs = [.ref p, .bl b] ∧ Pool H p ∧ ∀ H' (z : Str), But p H H' → Pool H' p → z.length ≤ 12 → (PyData.strOk z = true ∧ Ent.sgS z = true) → Q (.str z) H'
theorem ok_Lsign (T : Top w K mg) : FnOk P w K mg base CX0 3 T.a_Lsign T.fd_Lsign ["_law_pool_here", "_law_lone"] spSign := by
  have G_Lname := ok_Lname (P := P) (w := w) (base := base) T
  refine T.F_Lsign.ok sc_Lsign (fun vs H Q E h => ?_) (fun cdv A outer s H vs Q E hr h => ?_)
  · obtain ⟨p, b, rfl, _⟩ := h
    rfl
  · obtain ⟨p, b, rfl, hp, q⟩ := h
    refine ⟨_, (pss_cons (ps_set (i := 2) sc_Lsign.nd rfl (.inl rfl) (pe_call G_Lname hr (by rfl) T.g_Lname T.F_Lname.kp T.b_Lname .nil pass0 (pa_cons (pv 0) pa_nil)))
      (pss_cons (ps_if (pt_val (pv 1)) (pss_one (ps_ret (pe_op op_add_str (pe_bm0 PySem.F.plainAttrs_str PySem.F.slot_str_upper PySem.F.type_str_upper mt_upper (pe_ix ix_str (pv 2) pe_int (fun _ _ => rfl))) (pe_slice sl_str (pv 2) (po_some pe_int) po_none)))) pss_nil)
      (pss_one (ps_ret (pv 2))))), ?_⟩
    refine ⟨.ref p, rfl, p, rfl, hp, fun H1 z b1 hp1 z0 z1 zm => ?_⟩
    refine ⟨.bl b, rfl, b, rfl, ite2 (fun e => ?_) (fun e => ?_)⟩
    · obtain ⟨c, hc⟩ := str_at (z := z) (i := 0) (by decide) (by omega)
      have hu1 : (⟨#[c]⟩ : Str).length = 1 := rfl
      have hcut := cut_len z (some 1) none
      have cm := zm c (at_mem hc)
      obtain ⟨el, lo⟩ := lo_of (c := c) z0 z1 zm cm
      have hl : (Txt.upper ⟨#[c]⟩ ++ cutS z (some 1) none).length ≤ 12 := by
        rw [← len_toList, el, List.length_cons, List.length_drop, len_toList]
        omega
      refine ⟨.str z, rfl, z, 0, c, rfl, rfl, thou (by omega), hc, rfl, _, rfl, rfl, (by rw [hu1]; decide), .str z, rfl, 1, rfl, z, rfl, thou (by omega), _, _, rfl, rfl, ?_, ?_⟩
      · have h3 := app_len (Txt.upper ⟨#[c]⟩) (cutS z (some 1) none)
        exact thou (by omega)
      exact q H1 _ b1 hp1 hl ⟨ok_of_mem fun c2 h2 => by
        rw [el] at h2
        rcases List.mem_cons.mp h2 with h3 | h3
        · rw [h3]
          exact (up_gr c cm).2.2
        · exact small_ok c2 (zm c2 (List.mem_of_mem_drop h3)), by unfold Ent.sgS; rw [el, lo, Bool.or_true]⟩
    · exact ⟨.str z, rfl, q H1 z b1 hp1 (by omega) ⟨ok_of_mem fun c2 h2 => small_ok c2 (zm c2 h2), by unfold Ent.sgS; rw [nm_of z0 z1 zm]; rfl⟩⟩
/-! ### names, logs and boxes drawn -/
theorem pigeon {α : Type} [DecidableEq α] : ∀ (l found : List α), l.Nodup → (∀ x ∈ l, x ∈ found) → l.length ≤ found.length
  | [], _, _, _ => Nat.zero_le _
  | x :: r, found, nd, h => by
    have nd2 := List.nodup_cons.mp nd
    have hx := h x List.mem_cons_self
    have := pigeon r (found.erase x) nd2.2 (fun y hy => (List.mem_erase_of_ne (fun e => nd2.1 (by rw [← e]; exact hy))).mpr (h y (List.mem_cons_of_mem _ hy)))
    rw [List.length_erase_of_mem hx] at this
    have hp : 0 < found.length := List.length_pos_of_mem hx
    rw [List.length_cons]
    omega
def twelve : List Str := (PySem.Str.ofString "abcdefghijkl").cps.toList.map fun c => ⟨#[c]⟩
theorem twelve_nd : twelve.Nodup := by decide +kernel
theorem twelve_nm : ∀ z ∈ twelve, nmL z.cps.toList = true := by decide +kernel
theorem inV_str (z : Str) (zs : List Str) : inV (.str z) (zs.map V.str) = zs.any (fun y => y == z) := by
  unfold inV
  rw [List.any_map]
  rfl
theorem inV_mem {z : Str} {zs : List Str} : inV (.str z) (zs.map V.str) = true ↔ z ∈ zs := by
  rw [inV_str, List.any_eq_true]
  constructor
  · rintro ⟨y, hy, e⟩
    rw [← eq_of_beq e]
    exact hy
  · exact fun h => ⟨z, h, beq_self_eq_true z⟩
theorem flat_strsM (zs : List Str) : (zs.map V.str).all flatV = true := List.all_eq_true.mpr fun v hv => by
  obtain ⟨z, _, rfl⟩ := List.mem_map.mp hv
  rfl
theorem cut0_tl (z : Str) : (cutS z none (some 1)).cps.toList = z.cps.toList.take 1 := by
  show (z.cps.toList.drop (HT.sIx z.length 0 none)).take (HT.sIx z.length z.length (some 1) - HT.sIx z.length 0 none) = _
  have e1 : HT.sIx z.length 0 none = 0 := rfl
  rw [e1, List.drop_zero, Nat.sub_zero]
  have e2 : HT.sIx z.length z.length (some 1) = min 1 z.length := by
    unfold HT.sIx
    simp
  rw [e2]
  by_cases h : z.length = 0
  · have : z.cps.toList = [] := List.eq_nil_of_length_eq_zero (by rw [len_toList]; exact h)
    rw [this]
    simp
  · rw [show min 1 z.length = 1 by omega]
def spNames : Sp := fun vs H Q _ => ∃ (p : Addr) (m : Nat), vs = [.ref p, .int (m : Nat)] ∧ m ≤ 11 ∧ Pool H p ∧ ∀ H' L (zs : List Str), But p H H' → Pool H' p → H L = none → H' L = some (.lst (zs.map V.str)) → zs.length = m → zs.Nodup → (∀ z ∈ zs, nmL z.cps.toList = true) → Q (.ref L) H'
theorem ok_Lnames (T : Top w K mg) : FnOk P w K mg base CX0 3 T.a_Lnames T.fd_Lnames ["_law_pool_here", "_law_many"] spNames := by
  have G_Ltake := ok_Ltake (P := P) (w := w) (base := base) T
  have G_Lname := ok_Lname (P := P) (w := w) (base := base) T
  refine T.F_Lnames.ok sc_Lnames (fun vs H Q E h => ?_) (fun cdv A outer s H vs Q E hr h => ?_)
  · obtain ⟨p, m, rfl, _⟩ := h
    rfl
  · obtain ⟨p, m, rfl, hm, hp, q⟩ := h
    refine ⟨_, (pss_cons (ps_set (i := 2) sc_Lnames.nd rfl (.inr rfl) (pe_lst pa_nil))
      (pss_cons (ps_for PassesOwn.never rfl (pi_range1 (by rfl) T.m_range (pa_cons (pv 1) pa_nil)) (pg_name (i := 3) sc_Lnames.nd rfl (.inl rfl)) (pss_cons (ps_set (i := 4) sc_Lnames.nd rfl (.inl rfl) (pe_call G_Lname hr (by rfl) T.g_Lname T.F_Lname.kp T.b_Lname .nil pass0 (pa_cons (pv 0) pa_nil)))
      (Evl.pss_cut (ps_if (pt_cmpR op_eq (pe_call G_Ltake (hr.mono (by decide)) (by rfl) T.g_Ltake T.F_Ltake.kp T.b_Ltake .nil pass0 (pa_cons (pv 0) (pa_cons pe_int pa_nil))) pe_int (nomark _)) (pss_one (ps_set (i := 4) sc_Lnames.nd rfl (.inl rfl) (pe_slice sl_str (pv 4) po_none (po_some pe_int)))) pss_nil)
      (Evl.pss_cut (ps_if (pt_cmpR op_in_seq (pv 4) (pv 2) (by rfl)) (pss_one (ps_set (i := 4) sc_Lnames.nd rfl (.inl rfl) (pe_ix ix_list (pe_lc (own := [("_law_letter", 5)]) (g := gName 5) (by rfl) sc_Lnames.nd (pi_str pe_str) (blkOk_by (own := [("_law_letter", 5)]) (N := ["_law_pool_here", "_law_many", "_law_found", "_law_k", "_law_name_here", "_law_letter"]) (sc := defScope s_Lnames) (by decide +kernel)) (fun _ _ _ _ _ => (pg_name (i := 5) sc_Lnames.nd rfl (Or.inl rfl))) (fun _ _ _ _ _ => (pts_one (pt_cmpR (r := rIn K true) (SeqW.notIn_K rfl) (pv 5) (pv 2) (by rfl)))) (fun _ _ _ _ _ => (pv 5))) pe_int (fun _ _ => rfl)))) pss_nil)
      (pss_one (ps_expr (pe_bm PySem.F.plainAttrs_list PySem.F.slot_list_append PySem.F.type_list_append mt_append (pv 2) (pa_cons (pv 4) pa_nil))))))))
      (pss_one (ps_ret (pv 2))))), ?_⟩
    refine ⟨Nat.zero_le _, fun L nL => ?_⟩
    have nLp : L ≠ p := hp.ne_new nL
    have s0 := same_upd (o := .lst []) nL
    refine ⟨.int m, rfl, m, rfl, by omega, by omega, for_range (n := m) (fun i σ H' => But p H H' ∧ Pool H' p ∧ ∃ y3 y4 y5 zs, σ = [some (.ref p), some (.int (m : Nat)), some (.ref L), y3, y4, y5] ∧ H' L = some (.lst (zs.map V.str)) ∧ zs.length = i ∧ zs.Nodup ∧ (∀ z ∈ zs, nmL z.cps.toList = true)) ⟨But.of s0, hp.same s0, none, none, none, [], rfl, upd_same, rfl, .nil, (fun _ h => nomatch h)⟩ ?_ ?_⟩
    · rintro i σ H1 hi ⟨b1, hp1, y3, y4, y5, zs, rfl, eL, lz, nd, hz⟩
      refine ⟨.ref p, rfl, p, rfl, hp1, fun H2 z b2 hp2 z0 z1 zm => ?_⟩
      have eL2 := b2 _ _ nLp eL
      refine ⟨fun σ H' => But p H H' ∧ Pool H' p ∧ H' L = some (.lst (zs.map V.str)) ∧ ∃ y3 y5 z, σ = [some (.ref p), some (.int (m : Nat)), some (.ref L), y3, some (.str z), y5] ∧ nmL z.cps.toList = true, ?_, ?_⟩
      · refine ⟨.ref p, rfl, p, 3, rfl, by decide, by decide, hp2, fun H3 r b3 hp3 _ _ => ⟨rfl, _, rfl, ite2 (fun e => ?_) (fun e => ?_)⟩⟩
        · refine ⟨.str z, rfl, 1, rfl, z, rfl, thou (by omega), (b1.trans b2).trans b3, hp3, b3 _ _ nLp eL2, _, _, _, rfl, ?_⟩
          have l1 : (cutS z none (some 1)).cps.toList.length = 1 := by
            rw [cut0_tl, List.length_take, len_toList]
            omega
          rw [len_toList] at l1
          exact nm_of (by omega) (by omega) (fun c hc => zm c (by rw [cut0_tl] at hc; exact List.mem_of_mem_take hc))
        · exact ⟨(b1.trans b2).trans b3, hp3, b3 _ _ nLp eL2, _, _, z, rfl, nm_of z0 z1 zm⟩
      rintro σ H3 ⟨b3, hp3, eL3, y3, y5, z, rfl, hn⟩
      refine ⟨fun σ H' => But p H H' ∧ Pool H' p ∧ H' L = some (.lst (zs.map V.str)) ∧ ∃ y3 y5 z, σ = [some (.ref p), some (.int (m : Nat)), some (.ref L), y3, some (.str z), y5] ∧ nmL z.cps.toList = true ∧ z ∉ zs, ?_, ?_⟩
      · refine ⟨.str z, rfl, .ref L, rfl, L, _, rfl, .inl (.inl (.inl eL3)), rfl, flat_strsM zs, _, rfl, ite2 (fun e => ?_) (fun e => ?_)⟩
        · refine ⟨_, rfl, fun D hD => lc_it walk_str (fun i H' => Same H3 H' ∧ H' D = some (.lst (((twelve.take i).filter fun y => !(inV (.str y) (zs.map V.str))).map V.str))) ⟨same_upd hD, upd_same⟩ (fun _ _ _ _ => trivial) ?_ ?_⟩
          · rintro j v H4 H5 hj ⟨sm, eD⟩ ⟨rfl, c, hc, rfl⟩
            have ht : twelve[j]? = some ⟨#[c]⟩ := by
              unfold twelve
              rw [List.getElem?_map, Array.getElem?_toList, hc]
              rfl
            have tk : twelve.take (j + 1) = twelve.take j ++ [⟨#[c]⟩] := by rw [List.take_add_one, ht]; rfl
            refine ⟨rfl, _, rfl, .ref L, rfl, L, _, rfl, .inl (.inl (.inl (sm _ _ eL3))), rfl, flat_strsM zs, _, rfl, ite2 (fun e2 => ?_) (fun e2 => ?_)⟩
            · have e2 : (!(inV (.str ⟨#[c]⟩) (zs.map V.str))) = true := e2
              refine ⟨_, rfl, _, eD, ?_, ?_, ?_⟩
              · rw [List.length_map]
                have h1 := List.length_filter_le (fun y => !(inV (.str y) (zs.map V.str))) (twelve.take j)
                have h2 : (twelve.take j).length ≤ 12 := by
                  rw [List.length_take]
                  have : twelve.length = 12 := by decide +kernel
                  omega
                exact small1000 (by omega)
              · exact fun b' o e => by
                  rw [upd_ne (ne_of_none e hD)]
                  exact sm _ _ e
              · rw [upd_same, tk, List.filter_append, List.map_append, List.filter_cons, if_pos e2]
                rfl
            · have e2 : ¬ (!(inV (.str ⟨#[c]⟩) (zs.map V.str))) = true := e2
              refine ⟨sm, ?_⟩
              rw [tk, List.filter_append, List.filter_cons, if_neg e2, List.filter_nil, List.append_nil]
              exact eD
          · rintro H4 ⟨sm, eD⟩
            have l12 : (PySem.Str.ofString "abcdefghijkl").cps.size = 12 := by decide +kernel
            rw [l12, show twelve.take 12 = twelve from List.take_of_length_le (by decide +kernel)] at eD
            obtain ⟨x, xs, ex⟩ : ∃ x xs, (twelve.filter fun y => !(inV (.str y) (zs.map V.str))) = x :: xs := by
              cases ef : twelve.filter fun y => !(inV (.str y) (zs.map V.str)) with
              | cons x xs => exact ⟨x, xs, rfl⟩
              | nil =>
                have hall : ∀ y ∈ twelve, y ∈ zs := fun y hy => by
                  have := List.filter_eq_nil_iff.mp ef y hy
                  refine inV_mem.mp ?_
                  cases h : inV (.str y) (zs.map V.str) with
                  | true => rfl
                  | false => rw [h] at this; exact absurd rfl this
                have := pigeon twelve zs twelve_nd hall
                have t12 : twelve.length = 12 := by decide +kernel
                omega
            rw [ex] at eD
            have hxm : x ∈ twelve.filter fun y => !(inV (.str y) (zs.map V.str)) := by rw [ex]; exact List.mem_cons_self
            obtain ⟨hx1, hx2⟩ := List.mem_filter.mp hxm
            refine ⟨D, _, 0, _, rfl, rfl, .inl (.inl eD), atI_nat (j := 0) rfl, b3.trans (But.of sm), hp3.same sm, sm _ _ eL3, _, _, x, rfl, twelve_nm x hx1, fun hm => ?_⟩
            rw [inV_mem.mpr hm] at hx2
            cases hx2
        · exact ⟨b3, hp3, eL3, _, _, z, rfl, hn, fun hm => e (inV_mem.mpr hm)⟩
      rintro σ H4 ⟨b4, hp4, eL4, y3, y5, z, rfl, hn, hnew⟩
      refine ⟨.ref L, rfl, .inl ⟨rfl, _, .inl (.inl eL4)⟩, .str z, rfl, L, _, _, rfl, rfl, eL4, small1000 (by rw [List.length_map]; omega), b4.mut nL, hp4.upd nLp, _, _, _, zs ++ [z], rfl, ?_, ?_, ?_, ?_⟩
      · rw [upd_same, List.map_append]
        rfl
      · rw [List.length_append, lz]
        rfl
      · exact List.nodup_append.mpr ⟨nd, List.nodup_cons.mpr ⟨List.not_mem_nil, .nil⟩, fun a ha b hb e => hnew (by rw [← List.mem_singleton.mp hb, ← e]; exact ha)⟩
      · intro y hy
        rcases List.mem_append.mp hy with h | h
        · exact hz y h
        · rw [List.mem_singleton.mp h]
          exact hn
    · rintro σ H1 ⟨b1, hp1, y3, y4, y5, zs, rfl, eL, lz, nd, hz⟩
      exact ⟨.ref L, rfl, q H1 L zs b1 hp1 nL eL lz nd hz⟩
--@@SPLIT
/-! ### logs that are right, held -/
theorem ws_gp : ∀ i : Fin 10, gp (.str (ws i)) = true := by decide +kernel
theorem seq_entD {d : PyData} {e : Ent} (h : seqD d = some e.parts) (ok : e.ok) : entD d = true := by
  unfold entD
  rw [h]
  exact ent_L ok
theorem parts_gp {e : Ent} (ok : e.ok) : ∀ d ∈ e.parts, gp d = true := by
  intro d hd
  rcases List.mem_cons.mp hd with hd | hd
  · rw [hd]
    have : ∀ i : Fin 10, gp (.str (ws i)) = true := by decide +kernel
    exact this _
  have sg : ∀ {z : Str}, (z.length ≤ 12 ∧ PyData.strOk z = true ∧ Ent.sgS z = true) → gp (.str z) = true := fun h => decide_eq_true (by have := h.1; omega)
  have lt : ∀ l : Fin 4, gp (.str (Lt l)) = true := by decide +kernel
  cases e with
  | face l => rw [List.mem_singleton.mp hd]; exact lt l
  | go n => rw [List.mem_singleton.mp hd]; rfl
  | sign z => rw [List.mem_singleton.mp hd]; exact sg ok
  | spy n z =>
    rcases List.mem_cons.mp hd with hd | hd
    · rw [hd]; rfl
    · rw [List.mem_singleton.mp hd]; exact sg ok
  | turn q => cases hd
  | bump => cases hd
  | bare => cases hd
  | swap => cases hd
theorem plen3 (e : Ent) : e.parts.length ≤ 3 := by
  cases e with
  | face l => exact (show 2 ≤ 3 by decide)
  | turn q => exact (show 1 ≤ 3 by decide)
  | go n => exact (show 2 ≤ 3 by decide)
  | bump => exact (show 1 ≤ 3 by decide)
  | sign z => exact (show 2 ≤ 3 by decide)
  | bare => exact (show 1 ≤ 3 by decide)
  | spy n z => exact (show 3 ≤ 3 by decide)
  | swap => exact (show 1 ≤ 3 by decide)
theorem seq_ge {d : PyData} {e : Ent} (h : seqD d = some e.parts) (ok : e.ok) : ge d = true := by
  unfold ge
  rw [h]
  refine Bool.and_eq_true_iff.mpr ⟨decide_eq_true (by have := plen3 e; omega), List.all_eq_true.mpr (parts_gp ok)⟩
/-- the i-th entry as data -/
theorem Rows.dp_at {K : PySem.W.Frag} {H : Hp} {xs : List V} {es : List Ent} (h : Rows K H xs es) {i : Nat} {v : V} (hv : xs[i]? = some v) : ∃ e d, es[i]? = some e ∧ Dp K H v d ∧ seqD d = some e.parts := by
  obtain ⟨ds, h1, h2⟩ := h
  obtain ⟨d, fd, gd⟩ := dpa_at ds xs h1 i v hv
  have e1 : (ds.map seqD)[i]? = some (seqD d) := by rw [List.getElem?_map, fd]; rfl
  rw [h2, List.getElem?_map] at e1
  cases e2 : es[i]? with
  | none => rw [e2] at e1; cases e1
  | some e =>
    rw [e2] at e1
    exact ⟨e, d, rfl, gd, (Option.some.inj e1).symm⟩
theorem need_iff : ∀ i : Fin 10, inV (.str (ws i)) (wFace.map V.str) = decide (i = 1 ∨ i = 2 ∨ i = 3 ∨ i = 4 ∨ i = 5 ∨ i = 8) := by decide +kernel
theorem need_kind (e : Ent) : decide (e.kind = 1 ∨ e.kind = 2 ∨ e.kind = 3 ∨ e.kind = 4 ∨ e.kind = 5 ∨ e.kind = 8) = e.need := by
  cases e with
  | turn q =>
    have : ∀ q : Fin 3, decide ((Ent.turn q).kind = 1 ∨ (Ent.turn q).kind = 2 ∨ (Ent.turn q).kind = 3 ∨ (Ent.turn q).kind = 4 ∨ (Ent.turn q).kind = 5 ∨ (Ent.turn q).kind = 8) = true := by decide
    exact this q
  | _ => rfl
theorem faceW (e : Ent) : decide (V.str (ws e.kind) = V.str (PySem.Str.ofString "face")) = e.isFace := (wsd e.kind 0).trans e.face_iff.symm
/-! ### rows of walkers: names and logs -/
abbrev Row := Str × List Ent
def ltN (a b : Str) : Prop := a.cps.toList < b.cps.toList
/-- rising by names -/
def Srt (rs : List Row) : Prop := rs.Pairwise fun a b => ltN a.1 b.1
def nms (rs : List Row) : List Str := rs.map (·.1)
def logD (r : Row) : PyData := .tuple (r.2.map Ent.tup)
structure RowOk (r : Row) : Prop where
  nm : nmL r.1.cps.toList = true
  ok : ∀ e ∈ r.2, e.ok
  right : Right r.2
  len : r.2.length ≤ 100
theorem srt_uniq {a b : List Row} (h : a.Perm b) (ha : Srt a) (hb : Srt b) : a = b :=
  h.eq_of_pairwise (fun x y _ _ h1 h2 => absurd (List.lt_trans h1 h2) (List.lt_irrefl _)) ha hb
theorem perm_lift {α β : Type} {f : α → β} : ∀ {ys : List β} {rs : List α}, ys.Perm (rs.map f) → ∃ rs' : List α, rs'.Perm rs ∧ rs'.map f = ys
  | [], rs, h => by
    have e : rs.map f = [] := h.symm.eq_nil
    have e2 : rs = [] := List.map_eq_nil_iff.mp e
    exact ⟨[], by rw [e2], rfl⟩
  | y :: ys, rs, h => by
    obtain ⟨r, hr, rfl⟩ := List.mem_map.mp (h.mem_iff.mp List.mem_cons_self)
    obtain ⟨s, t, rfl⟩ := List.append_of_mem hr
    have h2 : ys.Perm ((s ++ t).map f) := by
      have e : ((s ++ r :: t).map f).Perm (f r :: (s ++ t).map f) := (List.perm_middle (a := r) (l₁ := s) (l₂ := t)).map f
      exact (h.trans e).cons_inv
    obtain ⟨rs', p, e⟩ := perm_lift h2
    exact ⟨r :: rs', (p.cons r).trans List.perm_middle.symm, by rw [List.map_cons, e]⟩
theorem le_of_rising : ∀ (p : Str) (r : List Str), risingS p r = true → ∀ x ∈ r, ¬ x.cps.toList < p.cps.toList
  | _, [], _, _, h => nomatch h
  | p, x :: r, h, y, hy => by
    obtain ⟨h1, h2⟩ := Bool.and_eq_true_iff.mp h
    have h1 : ¬ x.cps.toList < p.cps.toList := fun z => by
      rw [ltCps_eq, decide_eq_true z] at h1
      cases h1
    rcases List.mem_cons.mp hy with e | hy
    · rw [e]
      exact h1
    · have h3 := le_of_rising x r h2 y hy
      exact List.not_lt.mpr (List.le_trans (List.not_lt.mp h1) (List.not_lt.mp h3))
theorem sortedS_pw : ∀ l : List Str, sortedS l = true → l.Pairwise fun a b => ¬ b.cps.toList < a.cps.toList
  | [], _ => .nil
  | x :: r, h => by
    refine .cons (fun y hy => le_of_rising x r h y hy) ?_
    cases r with
    | nil => exact .nil
    | cons z t => exact sortedS_pw (z :: t) (Bool.and_eq_true_iff.mp h).2
theorem str_inj {a b : Str} (h : a.cps.toList = b.cps.toList) : a = b := by
  cases a with
  | mk x =>
    cases b with
    | mk y =>
      congr 1
      exact Array.toList_inj.mp h
/-- no name twice, none falling: rising -/
theorem srt_of {rs : List Row} (nd : (nms rs).Nodup) (h : (nms rs).Pairwise fun a b => ¬ b.cps.toList < a.cps.toList) : Srt rs := by
  have h1 : rs.Pairwise fun a b => a.1 ≠ b.1 := List.pairwise_map.mp nd
  have h2 : rs.Pairwise fun a b => ¬ b.1.cps.toList < a.1.cps.toList := List.pairwise_map.mp h
  refine (h1.and h2).imp fun {a b} z => ?_
  refine Classical.byContradiction fun l => z.1 (str_inj (List.le_antisymm (List.not_lt.mp z.2) (List.not_lt.mp l)))
theorem Srt.nodup {rs : List Row} (h : Srt rs) : (nms rs).Nodup := by
  refine List.pairwise_map.mpr (h.imp fun {a b} z e => ?_)
  unfold ltN at z
  rw [e] at z
  exact List.lt_irrefl _ z
/-- the dict of names and logs -/
def kvsOf : List Row → List V → List (Key × V)
  | r :: rs, v :: vs => (Sum.inr r.1, v) :: kvsOf rs vs
  | _, _ => []
theorem kvs_keys : ∀ (rs : List Row) (vs : List V), vs.length = rs.length → (kvsOf rs vs).map (·.1) = (nms rs).map Sum.inr
  | [], _, _ => rfl
  | r :: rs, v :: vs, h => by
    show Sum.inr r.1 :: (kvsOf rs vs).map (·.1) = Sum.inr r.1 :: (nms rs).map Sum.inr
    rw [kvs_keys rs vs (Nat.succ.inj h)]
  | r :: rs, [], h => by cases h
theorem kvs_snoc : ∀ (rs : List Row) (vs : List V) (r : Row) (v : V), vs.length = rs.length → kvsOf (rs ++ [r]) (vs ++ [v]) = kvsOf rs vs ++ [(Sum.inr r.1, v)]
  | [], [], r, v, _ => rfl
  | q :: rs, u :: vs, r, v, h => by
    show (Sum.inr q.1, u) :: kvsOf (rs ++ [r]) (vs ++ [v]) = (Sum.inr q.1, u) :: (kvsOf rs vs ++ [(Sum.inr r.1, v)])
    rw [kvs_snoc rs vs r v (Nat.succ.inj h)]
  | [], _ :: _, _, _, h => by cases h
  | _ :: _, [], _, _, h => by cases h
theorem kvs_none : ∀ (rs : List Row) (vs : List V) (z : Str), z ∉ nms rs → valV (kvsOf rs vs) (Sum.inr z : Key) = none
  | [], _, _, _ => rfl
  | r :: rs, [], _, _ => rfl
  | r :: rs, v :: vs, z, h => by
    have h1 : ¬ ((Sum.inr r.1 : Key) = Sum.inr z) := fun e => h (List.mem_cons.mpr (.inl (Sum.inr.inj e).symm))
    exact (valV_neg (p := ((Sum.inr r.1 : Key), v)) h1).trans (kvs_none rs vs z fun m => h (List.mem_cons_of_mem _ m))
theorem kvs_some : ∀ (rs : List Row) (vs : List V) (m : Nat) (r : Row) (v : V), (nms rs).Nodup → rs[m]? = some r → vs[m]? = some v → valV (kvsOf rs vs) (Sum.inr r.1 : Key) = some v
  | [], _, _, _, _, _, h, _ => by cases h
  | q :: rs, [], _, _, _, _, _, h => by cases h
  | q :: rs, u :: vs, 0, r, v, _, h1, h2 => by
    cases h1
    cases h2
    exact valV_pos rfl
  | q :: rs, u :: vs, m + 1, r, v, nd, h1, h2 => by
    have nd2 := List.nodup_cons.mp (show (q.1 :: nms rs).Nodup from nd)
    have hr : r.1 ∈ nms rs := List.mem_map.mpr ⟨r, List.mem_of_getElem? h1, rfl⟩
    have h3 : ¬ ((Sum.inr q.1 : Key) = Sum.inr r.1) := fun e => nd2.1 (by rw [Sum.inr.inj e]; exact hr)
    exact (valV_neg (p := ((Sum.inr q.1 : Key), u)) h3).trans (kvs_some rs vs m r v nd2.2 h1 h2)
theorem kvs_len : ∀ (rs : List Row) (vs : List V), (kvsOf rs vs).length ≤ rs.length
  | [], _ => Nat.zero_le _
  | _ :: _, [] => Nat.zero_le _
  | _ :: rs, _ :: vs => Nat.succ_le_succ (kvs_len rs vs)
/-! ### an atlas -/
def flds (b n l : Addr) : List (Str × V) := putF "logs" (.ref l) (putF "names" (.ref n) (putF "box" (.ref b) []))
theorem fl_nl : ¬ (("names" : Str) = "logs") := by decide +kernel
theorem fl_bl : ¬ (("box" : Str) = "logs") := by decide +kernel
theorem fl_bn : ¬ (("box" : Str) = "names") := by decide +kernel
theorem fl_box (b n l : Addr) : (flds b n l).lookup ("box" : Str) = some (.ref b) := by
  unfold flds
  rw [lookup_putF, if_neg fl_bl, lookup_putF, if_neg fl_bn, lookup_putF, if_pos rfl]
theorem fl_names (b n l : Addr) : (flds b n l).lookup ("names" : Str) = some (.ref n) := by
  unfold flds
  rw [lookup_putF, if_neg fl_nl, lookup_putF, if_pos rfl]
theorem fl_logs (b n l : Addr) : (flds b n l).lookup ("logs" : Str) = some (.ref l) := by
  unfold flds
  rw [lookup_putF, if_pos rfl]
theorem fl_no (b n l : Addr) {m : Str} (h1 : ¬ m = "logs") (h2 : ¬ m = "names") (h3 : ¬ m = "box") : (flds b n l).lookup m = none := by
  unfold flds
  rw [lookup_putF, if_neg h1, lookup_putF, if_neg h2, lookup_putF, if_neg h3]
  rfl
def boxV (box : List Nat) : List V := box.map fun n => V.int (n : Nat)
def namV (rs : List Row) : List V := (nms rs).map V.str
def AtlasAt (K : PySem.W.Frag) (C : Addr) (H : Hp) (p : Addr) (box : List Nat) (rs : List Row) : Prop :=
  ∃ dx b n l ls on, OwnI.PlainT on ∧ H p = some (.ins C dx (flds b n l)) ∧ SqT K H b (boxV box) ∧ H n = some (.frz on (.tup (namV rs))) ∧ SqT K H l ls ∧ DpAll K H ls (rs.map logD)
theorem AtlasAt.same {K : PySem.W.Frag} {C : Addr} {H H' : Hp} {p : Addr} {box : List Nat} {rs : List Row} (h : AtlasAt K C H p box rs) (s : Same H H') : AtlasAt K C H' p box rs := by
  obtain ⟨dx, b, n, l, ls, on, po, h1, h2, h3, h4, h5⟩ := h
  exact ⟨dx, b, n, l, ls, on, po, s _ _ h1, sqt_same s h2, s _ _ h3, sqt_same s h4, dpa_same s _ _ h5⟩
/-- tuples and instances as they were, whatever became of lists -/
def keepO : HO → Bool
  | .lst _ => false
  | .dK _ => false
  | _ => true
def Kp (H H' : Hp) : Prop := ∀ b o, keepO o = true → H b = some o → H' b = some o
theorem Kp.of {H H' : Hp} (s : Same H H') : Kp H H' := fun b o _ h => s b o h
theorem Kp.trans {H H1 H2 : Hp} (a : Kp H H1) (b : Kp H1 H2) : Kp H H2 := fun c o z h => b c o z (a c o z h)
theorem Kp.upd {H : Hp} {a : Addr} {o u : HO} (e : H a = some u) (n : keepO u = false) : Kp H (L2.upd H a o) := fun b v z h => by
  rw [upd_ne (fun y => by rw [y, e] at h; cases h; rw [n] at z; cases z)]
  exact h
theorem Kp.but {H H' : Hp} {p : Addr} (hp : Pool H p) (b : But p H H') : Kp H H' := fun c o z h => by
  refine b c o (fun e => ?_) h
  obtain ⟨l, x, k, n, _, h1⟩ := hp
  rw [e, h1] at h
  cases h
  cases z
/-- tuples as they were -/
def tpO : HO → Bool
  | .tup _ => true
  | .frz _ _ => true
  | _ => false
def Tp (H H' : Hp) : Prop := ∀ b o, tpO o = true → H b = some o → H' b = some o
theorem Kp.tp {H H' : Hp} (k : Kp H H') : Tp H H' := fun b o z h => k b o (by cases o <;> first | rfl | cases z) h
theorem Tp.wo {H : Hp} {X : Addr → Prop} (h : ∀ b o, X b → H b = some o → tpO o = false) : Tp H (M.wo H X) := fun b o z e => by
  rw [wo_in (X := X) (fun x => by rw [h b o x e] at z; cases z)]
  exact e
theorem sqt_kp {K : PySem.W.Frag} {H H' : Hp} {a : Addr} {xs : List V} (e : Tp H H') (h : SqT K H a xs) : SqT K H' a xs := by
  rcases h with (h | ⟨o, h⟩) | h
  · exact .inl (.inl (e _ _ rfl h))
  · exact .inl (.inr ⟨o, e _ _ rfl h⟩)
  · exact .inr h
theorem dpa_kpA {K : PySem.W.Frag} {H H' : Hp} {P : PyData → Prop} (f : ∀ d v, P d → Dp K H v d → Dp K H' v d) : ∀ (ds : List PyData) (vs : List V), (∀ d ∈ ds, P d) → DpAll K H vs ds → DpAll K H' vs ds
  | [], _, _, h => by cases h; exact .nil
  | d :: ds, _, hp, h => by
    cases h with
    | cons h1 h2 => exact .cons (f d _ (hp d List.mem_cons_self) h1) (dpa_kpA f ds _ (fun x hx => hp x (List.mem_cons_of_mem _ hx)) h2)
theorem dp_kp {K : PySem.W.Frag} {H H' : Hp} (e : Tp H H') : ∀ (n : Nat) (d : PyData) (v : V), okD n d = true → Dp K H v d → Dp K H' v d
  | n, .none, _, _, h => by cases h; exact .non
  | n, .bool b, _, _, h => by cases h; exact .bl b
  | n, .int i, _, _, h => by cases h; exact .int i
  | n, .str x, _, _, h => by cases h; exact .str x
  | 0, .list ds, _, o, _ => by cases o
  | n + 1, .list ds, _, o, _ => by cases o
  | 0, .tuple ds, _, o, _ => by cases o
  | n + 1, .tuple ds, _, o, h => by
    cases h with
    | tup hs ha =>
      have o2 := (Bool.and_eq_true_iff.mp (show (decide (ds.length ≤ 1000) && ds.all fun d => okD n d) = true from o)).2
      exact .tup (sqt_kp e hs) (dpa_kpA (P := fun d => okD n d = true) (fun d v o h => dp_kp e n d v o h) ds _ (fun d hd => List.all_eq_true.mp o2 d hd) ha)
  | 0, .dict ds, _, o, _ => by cases o
  | n + 1, .dict ds, _, o, _ => by cases o
theorem part_ok0 {e : Ent} : ∀ d ∈ e.parts, okD 0 d = true := by
  intro d hd
  rcases List.mem_cons.mp hd with hd | hd
  · rw [hd]; rfl
  cases e with
  | face l => rw [List.mem_singleton.mp hd]; rfl
  | go n => rw [List.mem_singleton.mp hd]; rfl
  | sign z => rw [List.mem_singleton.mp hd]; rfl
  | spy n z =>
    rcases List.mem_cons.mp hd with hd | hd
    · rw [hd]; rfl
    · rw [List.mem_singleton.mp hd]; rfl
  | turn q => cases hd
  | bump => cases hd
  | bare => cases hd
  | swap => cases hd
theorem ent_okT (e : Ent) : okD 1 e.tup = true := Bool.and_eq_true_iff.mpr ⟨decide_eq_true (by have := plen3 e; omega), List.all_eq_true.mpr part_ok0⟩
theorem log_okD {r : Row} (h : r.2.length ≤ 1000) : okD 2 (logD r) = true := by
  refine Bool.and_eq_true_iff.mpr ⟨decide_eq_true (by rw [List.length_map]; exact h), List.all_eq_true.mpr fun d hd => ?_⟩
  obtain ⟨e, _, rfl⟩ := List.mem_map.mp hd
  exact ent_okT e
theorem AtlasAt.kp {K : PySem.W.Frag} {C : Addr} {H H' : Hp} {p : Addr} {box : List Nat} {rs : List Row} (h : AtlasAt K C H p box rs) (hr : ∀ r ∈ rs, r.2.length ≤ 1000) (s : Kp H H') : AtlasAt K C H' p box rs := by
  obtain ⟨dx, b, n, l, ls, on, po, h1, h2, h3, h4, h5⟩ := h
  refine ⟨dx, b, n, l, ls, on, po, s _ _ rfl h1, sqt_kp s.tp h2, s _ _ rfl h3, sqt_kp s.tp h4, dpa_kpA (P := fun d => okD 2 d = true) (fun d v o h => dp_kp s.tp 2 d v o h) _ _ (fun d hd => ?_) h5⟩
  obtain ⟨r, hr2, rfl⟩ := List.mem_map.mp hd
  exact log_okD (hr r hr2)
/-! ### what is told to be an entry is one; what is told to be a log is one -/
theorem eqS_isS {a : PyData} {s : Str} (h : eqS a s = true) : a = .str s := by
  cases a with
  | str z => rw [eq_of_beq (show (s == z) = true from h)]
  | _ => cases h
theorem inW_isS {a : PyData} {l : List Str} (h : inW a l = true) : ∃ s ∈ l, a = .str s := by
  obtain ⟨s, hs, e⟩ := List.any_eq_true.mp h
  exact ⟨s, hs, eqS_isS e⟩
theorem let_of {d : PyData} (h : letD d = true) : ∃ l : Fin 4, d = .str (Lt l) := by
  obtain ⟨s, hs, rfl⟩ := inW_isS h
  simp only [lets, List.mem_cons, List.not_mem_nil, or_false] at hs
  rcases hs with rfl | rfl | rfl | rfl
  · exact ⟨0, congrArg PyData.str (by decide +kernel)⟩
  · exact ⟨1, congrArg PyData.str (by decide +kernel)⟩
  · exact ⟨2, congrArg PyData.str (by decide +kernel)⟩
  · exact ⟨3, congrArg PyData.str (by decide +kernel)⟩
theorem many_of {d : PyData} (h : manyD d = true) : ∃ n : Fin 9, d = .int ((n.val : Int) + 1) := by
  cases d with
  | int i =>
    obtain ⟨h1, h2⟩ := Bool.and_eq_true_iff.mp (show (decide (1 ≤ i) && decide (i ≤ 9)) = true from h)
    have h1 := of_decide_eq_true h1
    have h2 := of_decide_eq_true h2
    exact ⟨⟨(i - 1).toNat, by omega⟩, by show PyData.int i = .int (((i - 1).toNat : Int) + 1); congr 1; omega⟩
  | _ => cases h
theorem great_ok : ∀ c ∈ GREATs.cps.toList, c < 0x110000 := by decide +kernel
theorem sgS_ok {z : Str} (h : Ent.sgS z = true) : z.length ≤ 12 ∧ PyData.strOk z = true ∧ Ent.sgS z = true := by
  have sh : ∀ {cs : List Nat}, shL cs = true → cs.length ≤ 8 := fun h => by
    have := of_decide_eq_true (Bool.and_eq_true_iff.mp h).2
    omega
  rcases Bool.or_eq_true_iff.mp (show (nmL z.cps.toList || loL z.cps.toList) = true from h) with n | l
  · obtain ⟨h1, h2⟩ := Bool.and_eq_true_iff.mp (show (shL z.cps.toList && z.cps.toList.all smC) = true from n)
    have := sh h1
    rw [len_toList] at this
    exact ⟨by omega, ok_of_mem fun c hc => small_ok c (of_decide_eq_true (List.all_eq_true.mp h2 c hc)), h⟩
  · have hz : ∀ cs : List Nat, loL cs = true → cs.length ≤ 8 ∧ ∀ c ∈ cs, c < 0x110000 := fun cs l => by
      cases cs with
      | nil => cases l
      | cons c r =>
        obtain ⟨h1, h2⟩ := Bool.and_eq_true_iff.mp (show (shL (c :: r) && (grC c && r.all smC)) = true from l)
        obtain ⟨h3, h4⟩ := Bool.and_eq_true_iff.mp h2
        refine ⟨sh h1, fun x hx => ?_⟩
        rcases List.mem_cons.mp hx with e | hx
        · rw [e]; exact great_ok c (of_decide_eq_true h3)
        · exact small_ok x (of_decide_eq_true (List.all_eq_true.mp h4 x hx))
    obtain ⟨h1, h2⟩ := hz _ l
    rw [len_toList] at h1
    exact ⟨by omega, ok_of_mem h2, h⟩
theorem sg_of {d : PyData} (h : sgD d = true) : ∃ z, d = .str z ∧ z.length ≤ 12 ∧ PyData.strOk z = true ∧ Ent.sgS z = true := by
  cases d with
  | str z => exact ⟨z, rfl, sgS_ok h⟩
  | _ => cases h
theorem ent_of {d : PyData} (h : entD d = true) : ∃ e : Ent, seqD d = some e.parts ∧ e.ok := by
  obtain ⟨a, r, e⟩ := ent_seq h
  unfold entD at h
  rw [e] at h
  rw [e]
  match r, h with
  | [], h =>
    obtain ⟨s, hs, rfl⟩ := inW_isS (show inW a wAlone = true from h)
    simp only [wAlone, List.mem_cons, List.not_mem_nil, or_false] at hs
    rcases hs with rfl | rfl | rfl | rfl | rfl | rfl
    · exact ⟨.turn 0, rfl, trivial⟩
    · exact ⟨.turn 1, rfl, trivial⟩
    · exact ⟨.turn 2, rfl, trivial⟩
    · exact ⟨.bump, rfl, trivial⟩
    · exact ⟨.bare, rfl, trivial⟩
    · exact ⟨.swap, rfl, trivial⟩
  | [b], h =>
    have h : (if eqS a "face" = true then letD b else if eqS a "go" = true then manyD b else eqS a "sign" && sgD b) = true := h
    by_cases h1 : eqS a "face" = true
    · rw [if_pos h1] at h
      obtain ⟨l, rfl⟩ := let_of h
      exact ⟨.face l, by rw [eqS_isS h1]; rfl, trivial⟩
    · rw [if_neg h1] at h
      by_cases h2 : eqS a "go" = true
      · rw [if_pos h2] at h
        obtain ⟨n, rfl⟩ := many_of h
        exact ⟨.go n, by rw [eqS_isS h2]; rfl, trivial⟩
      · rw [if_neg h2] at h
        obtain ⟨h3, h4⟩ := Bool.and_eq_true_iff.mp h
        obtain ⟨z, rfl, ok⟩ := sg_of h4
        exact ⟨.sign z, by rw [eqS_isS h3]; rfl, ok⟩
  | [b, c], h =>
    have h : (eqS a "spy" && (manyD b && sgD c)) = true := h
    obtain ⟨h1, h2⟩ := Bool.and_eq_true_iff.mp h
    obtain ⟨h3, h4⟩ := Bool.and_eq_true_iff.mp h2
    obtain ⟨n, rfl⟩ := many_of h3
    obtain ⟨z, rfl, ok⟩ := sg_of h4
    exact ⟨.spy n z, by rw [eqS_isS h1]; rfl, ok⟩
  | _ :: _ :: _ :: _, h => cases h
theorem ent_fc {d : PyData} {e : Ent} (h : seqD d = some e.parts) : fcD d = e.isFace ∧ ndD d = e.need := by
  have hd : headD d = .str (ws e.kind) := by unfold headD; rw [h]; rfl
  unfold fcD ndD
  rw [hd]
  have f : ∀ k : Fin 10, eqS (.str (ws k)) "face" = decide (k = 0) ∧ inW (.str (ws k)) wFace = decide (k = 1 ∨ k = 2 ∨ k = 3 ∨ k = 4 ∨ k = 5 ∨ k = 8) := by decide +kernel
  rw [(f e.kind).1, (f e.kind).2]
  cases e with
  | turn q => match q with
    | 0 => exact ⟨rfl, rfl⟩
    | 1 => exact ⟨rfl, rfl⟩
    | 2 => exact ⟨rfl, rfl⟩
  | _ => exact ⟨rfl, rfl⟩
theorem log_of : ∀ (ds : List PyData) (f : Bool) (i : Nat), badAt f i ds = none → ∃ es : List Ent, ds.map tupD = es.map Ent.tup ∧ (∀ e ∈ es, e.ok) ∧ ∀ (j : Nat) (e : Ent), es[j]? = some e → e.need = true → (f || (es.take j).any Ent.isFace) = true
  | [], _, _, _ => ⟨[], rfl, (fun _ h => by cases h), fun j e h => by cases h⟩
  | d :: ds, f, i, h => by
    by_cases h1 : entD d = false
    · rw [badAt, if_pos h1] at h; cases h
    rw [badAt, if_neg h1] at h
    by_cases h2 : (ndD d && !f) = true
    · rw [if_pos h2] at h; cases h
    rw [if_neg h2] at h
    obtain ⟨e, he, ok⟩ := ent_of (by cases x : entD d with | true => rfl | false => exact absurd x h1)
    obtain ⟨es, h3, h4, h5⟩ := log_of ds _ _ h
    obtain ⟨fe, ne⟩ := ent_fc he
    refine ⟨e :: es, by rw [List.map_cons, List.map_cons, h3, tup_eq he]; rfl, fun x hx => ?_, fun j x hj hn => ?_⟩
    · rcases List.mem_cons.mp hx with rfl | hx
      · exact ok
      · exact h4 x hx
    · match j, hj with
      | 0, hj =>
        cases hj
        rw [ne, hn] at h2
        cases f with
        | true => rfl
        | false => exact absurd rfl h2
      | j + 1, hj =>
        have := h5 j x hj hn
        rw [List.take_succ_cons, List.any_cons]
        rw [fe] at this
        cases f with
        | true => rfl
        | false => exact this
theorem log_ents {ds : List PyData} (h : badAt false 0 ds = none) : ∃ es : List Ent, ds.map tupD = es.map Ent.tup ∧ (∀ e ∈ es, e.ok) ∧ Right es := by
  obtain ⟨es, h1, h2, h3⟩ := log_of ds false 0 h
  exact ⟨es, h1, h2, fun j e he hn => h3 j e he hn⟩
/-- a box that is told to be one -/
theorem box_ints : ∀ (ds : List PyData) (i : Nat), badB i ds = none → ∃ box : List Nat, ds = box.map fun n => PyData.int (n : Nat)
  | [], _, _ => ⟨[], rfl⟩
  | d :: ds, i, h => by
    by_cases h1 : okB d = true
    · rw [badB, if_pos h1] at h
      obtain ⟨box, e⟩ := box_ints ds _ h
      cases d with
      | int k =>
        have := of_decide_eq_true (show decide (0 ≤ k) = true from h1)
        exact ⟨k.toNat :: box, by rw [List.map_cons, ← e, Int.toNat_of_nonneg this]⟩
      | _ => cases h1
    · rw [badB, if_neg h1] at h; cases h
theorem box_of {ds : List PyData} (h : boxR ds = none) : ∃ box : List Nat, ds = (box.map fun n => PyData.int (n : Nat)) ∧ box.length = 8 := by
  unfold boxR at h
  by_cases h8 : ds.length = 8
  · rw [if_pos h8] at h
    obtain ⟨box, e⟩ := box_ints ds 0 h
    exact ⟨box, e, by rw [e, List.length_map] at h8; exact h8⟩
  · rw [if_neg h8] at h; cases h
theorem box_vals {K : PySem.W.Frag} {H : Hp} : ∀ {box : List Nat} {xs : List V}, DpAll K H xs (box.map fun n => PyData.int (n : Nat)) → xs = boxV box
  | [], _, h => by cases h; rfl
  | n :: r, _, h => by
    cases h with
    | cons h1 h2 => cases h1; rw [box_vals h2]; rfl
--@@SPLIT
theorem seqs_of {H H' : Hp} {x C dx : Addr} {fs : List (Str × V)} (hx : H x = some (.ins C dx fs)) (b : But x H H') : Seqs H H' := fun c o z h => b c o (fun e => by rw [e, hx] at h; cases h; cases z) h
/-! ### an atlas is made, or refused -/
section
variable {ns : List Str} {d : PyData} {z : Str} {es : List PyData} {r : List (PyData × List PyData)}
theorem rows_none (en : nameD d = none) : rowsR ns ((d, es) :: r) = .name d := by simp [rowsR, en]
theorem rows_twice (en : nameD d = some z) (h : z ∈ ns) : rowsR ns ((d, es) :: r) = .twice z := by simp [rowsR, en, h]
theorem rows_log {i : Nat} (en : nameD d = some z) (h : ¬ z ∈ ns) (hb : badAt false 0 es = some i) : rowsR ns ((d, es) :: r) = .log z i := by simp [rowsR, en, h, hb]
theorem rows_go (en : nameD d = some z) (h : ¬ z ∈ ns) (hb : badAt false 0 es = none) : rowsR ns ((d, es) :: r) = rowsR (ns ++ [z]) r := by simp [rowsR, en, h, hb]
end
def PairD (K : PySem.W.Frag) (H : Hp) (v : V) (q : PyData × List PyData) : Prop := ∃ p nv l xs, v = .ref p ∧ SqA K H p [nv, .ref l] ∧ Dp K H nv q.1 ∧ SqA K H l xs ∧ DpAll K H xs q.2
theorem PairD.seqs {K : PySem.W.Frag} {H H' : Hp} {v : V} {q : PyData × List PyData} (h : PairD K H v q) (s : Seqs H H') : PairD K H' v q := by
  obtain ⟨p, nv, l, xs, h1, h2, h3, h4, h5⟩ := h
  exact ⟨p, nv, l, xs, h1, h2.elim (fun h => .inl (seqs_l s h)) (fun h => .inr (seqs_t s h)), dp_seqs s _ _ h3, h4.elim (fun h => .inl (seqs_l s h)) (fun h => .inr (seqs_t s h)), dpa_seqs s _ _ h5⟩
def PairsD (K : PySem.W.Frag) (H : Hp) (vs : List V) (qs : List (PyData × List PyData)) : Prop := vs.length = qs.length ∧ ∀ (i : Nat) (v : V), vs[i]? = some v → ∃ q, qs[i]? = some q ∧ PairD K H v q
structure QOk (q : PyData × List PyData) : Prop where
  nm : gp q.1 = true
  sz : siz q.1 ≤ 1000
  lg : ∀ d ∈ q.2, ge d = true
  len : q.2.length ≤ 100
def RaVx (C x : Addr) (H : Hp) (fs : List (Str × V)) (E : XK) : Prop := ∀ H' dd, But x H H' → H dd = none → H' dd = some (.xd fs) → E (.ref C) (some dd) H'
def RaDx (K : PySem.W.Frag) (C x : Addr) (H : Hp) (key : Str) (d : PyData) (E : XK) : Prop := ∀ H' dd v', But x H H' → H dd = none → H' dd = some (.xd [(key, v')]) → Dp K H' v' d → E (.ref C) (some dd) H'
theorem but_none {x c : Addr} {H H' : Hp} {o : HO} (b : But x H H') (hx : H' x = some o) (n : H' c = none) : H c = none := b.free (fun z => by rw [z, hx] at n; cases n) n
theorem RaVx.at_ {C x : Addr} {H H2 : Hp} {fs : List (Str × V)} {E : XK} {o : HO} (h : RaVx C x H fs E) (b : But x H H2) (hx : H2 x = some o) : RaV C H2 fs E := fun H' dd s n e => h H' dd (b.trans (But.of s)) (but_none b hx n) e
theorem RaDx.at_ {K : PySem.W.Frag} {C x : Addr} {H H2 : Hp} {key : Str} {d : PyData} {E : XK} {o : HO} (h : RaDx K C x H key d E) (b : But x H H2) (hx : H2 x = some o) : RaD K C H2 key d E := fun H' dd v' s n e hv => h H' dd v' (b.trans (But.of s)) (but_none b hx n) e hv
theorem val_in : ∀ {kvs : List (Key × V)} {ns : List Str} {z : Str}, kvs.map (·.1) = ns.map Sum.inr → (valV kvs (Sum.inr z : Key)).isSome = decide (z ∈ ns)
  | [], [], z, _ => by rw [decide_eq_false (fun h => nomatch h)]; rfl
  | [], _ :: _, _, h => nomatch h
  | _ :: _, [], _, h => nomatch h
  | (k, v) :: r, n :: ns, z, h => by
    have h1 : k = Sum.inr n := (List.cons.inj h).1
    have h2 := (List.cons.inj h).2
    have ih := val_in (z := z) h2
    subst h1
    by_cases e : n = z
    · subst e
      rw [decide_eq_true List.mem_cons_self]
      show (valV ((Sum.inr n, v) :: r) (Sum.inr n : Key)).isSome = true
      simp [valV]
    · have e2 : ¬ ((Sum.inr n : Key) = Sum.inr z) := fun y => e (Sum.inr.inj y)
      have e3 : valV ((Sum.inr n, v) :: r) (Sum.inr z : Key) = valV r (Sum.inr z : Key) := by simp [valV, e2]
      rw [e3, ih]
      by_cases m : z ∈ ns
      · rw [decide_eq_true m, decide_eq_true (List.mem_cons_of_mem _ m)]
      · rw [decide_eq_false m, decide_eq_false (fun y => (List.mem_cons.mp y).elim (fun y => e y.symm) m)]
theorem PairsD.seqs {K : PySem.W.Frag} {H H' : Hp} {vs : List V} {qs : List (PyData × List PyData)} (h : PairsD K H vs qs) (s : Seqs H H') : PairsD K H' vs qs := ⟨h.1, fun i v hv => let ⟨q, e, hq⟩ := h.2 i v hv; ⟨q, e, hq.seqs s⟩⟩
def tupQ (q : PyData × List PyData) : PyData × List PyData := (q.1, q.2.map tupD)
def rowQ (r : Row) : PyData × List PyData := (.str r.1, r.2.map Ent.tup)
def spInitX (K : PySem.W.Frag) (T : Top w K mg) : Sp := fun vs H Q E => ∃ (x dx b l : Addr) (bxs : List V) (bds : List PyData) (ps : List V) (qs : List (PyData × List PyData)), vs = [.ref x, .ref b, .ref l] ∧ H x = some (.ins T.a_Atlas dx []) ∧ SqA K H b bxs ∧ DpAll K H bxs bds ∧ bds.length ≤ 100 ∧ SqA K H l ps ∧ PairsD K H ps qs ∧ (∀ q ∈ qs, QOk q) ∧ qs.length ≤ 60 ∧
  (atlasR bds qs = .made → ∀ H' box rs rs', But x H H' → bds = (box.map fun n : Nat => PyData.int (n : Nat)) → box.length = 8 → rs.map rowQ = qs.map tupQ → (∀ r ∈ rs, RowOk r) → (nms rs).Nodup → rs'.Perm rs → Srt rs' → AtlasAt K T.a_Atlas H' x box rs' → Q .non H') ∧ (∀ i : Nat, atlasR bds qs = .box i → RaVx T.a_BadBox x H [("at", .int (i : Int))] E) ∧ (∀ d, atlasR bds qs = .name d → RaDx K T.a_NoName x H "name" d E) ∧ (∀ z, atlasR bds qs = .twice z → RaVx T.a_Twice x H [("name", .str z)] E) ∧ (∀ z (i : Nat), atlasR bds qs = .log z i → RaVx T.a_BadLog x H [("at", .int (i : Int)), ("name", .str z)] E)
theorem ok_Atlas_init (T : Top w K mg) : FnOk P w K mg base (L2.CX P w) 10 T.a_Atlas_init T.fd_Atlas_init ["self", "box", "logs"] (spInitX K T) := by
  have G_held_box := ok_held_box (P := P) (w := w) (base := base) T
  have G_is_name := ok_is_name (P := P) (w := w) (base := base) T
  have G_held_log_of := ok_held_log_of (P := P) (w := w) (base := base) T
  have G_init_NoName := ok_init_NoName (P := P) (w := w) (base := base) T
  have G_init_Twice := ok_init_Twice (P := P) (w := w) (base := base) T
  refine FunD.ok (CX := L2.CX P w) T.F_Atlas_init sc_Atlas_init (fun vs H Q E h => ?_) (fun cdv A outer s H vs Q E hr h => ?_)
  · obtain ⟨x, dx, b, l, bxs, bds, ps, qs, rfl, _⟩ := h
    rfl
  · obtain ⟨x, dx, b, l, bxs, bds, ps, qs, rfl, hx, hb, hbd, hbl, hl, hps, hok, hlen, q, bad1, bad2, bad3, bad4⟩ := h
    refine ⟨_, (pss_cons (ps_fld (pv 0) (pe_call G_held_box (hr.mono (by decide)) (by rfl) T.g_held_box T.F_held_box.kp T.b_held_box .nil (passes_call (takes_of rfl rfl rfl rfl) (fun _ _ _ _ h => h)) (pa_cons (pv 1) pa_nil)) rfl)
      (pss_cons (ps_set (i := 3) sc_Atlas_init.nd rfl (.inr rfl) pe_dnewK)
      (pss_cons (ps_for (passes_of rfl) rfl (SeqW.pi_seq (pv 2)) (SeqW.pg_any rfl (pgs_cons (pg_name (i := 4) sc_Atlas_init.nd rfl (.inl rfl)) (pgs_cons (pg_name (i := 5) sc_Atlas_init.nd rfl (.inl rfl)) pgs_nil))) (pss_cons (ps_if (pt_not (pt_val (pe_call G_is_name (hr.mono (by decide)) (by rfl) T.g_is_name T.F_is_name.kp T.b_is_name .nil pass0 (pa_cons (pv 4) pa_nil)))) (pss_one (ps_raise rfl (takes_of rfl rfl rfl rfl) (pmk_oex T.oex_NoName T.iC_NoName T.tI_NoName G_init_NoName (hr.mono (by decide)) T.b_init_NoName .nil pass0 (by rfl) T.g_NoName (pa_cons (pv 4) pa_nil)))) pss_nil)
      (pss_cons (ps_if (pt_cmp (pc_din (hu_of hr) (pv 4) (pv 3))) (pss_one (ps_raise rfl (takes_of rfl rfl rfl rfl) (pmk_oex T.oex_Twice T.iC_Twice T.tI_Twice G_init_Twice (hr.mono (by decide)) T.b_init_Twice .nil pass0 (by rfl) T.g_Twice (pa_cons (pv 4) pa_nil)))) pss_nil)
      (pss_one (ps_dput (hu_of hr) (pv 3) (pv 4) (pe_call G_held_log_of hr (by rfl) T.g_held_log_of T.F_held_log_of.kp T.b_held_log_of .nil (passes_call (takes_of rfl rfl rfl rfl) (fun _ _ _ _ h => h)) (pa_cons (pv 4) (pa_cons (pv 5) pa_nil))) rfl)))))
      (pss_cons (ps_fld (pv 0) (pe_callTy OwnI.call_tuple_frz (by rfl) T.m_tuple (by decide +kernel) (pa_cons (pe_callB (call_sortedD rfl) (by rfl) T.m_sorted (by decide +kernel) (pa_cons (pv 3) pa_nil)) pa_nil)) rfl)
      (pss_one (ps_fld (pv 0) (pe_callTy call_tuple_of (by rfl) T.m_tuple (by decide +kernel) (pa_cons (pe_lc (own := [("name", 4)]) (g := gName 4) (by rfl) sc_Atlas_init.nd (pi_tup (pe_fld (pv 0) rfl)) (blkOk_by (own := [("name", 4)]) (N := ["self", "box", "logs", "held", "name", "log"]) (sc := defScope s_Atlas_init) (by decide +kernel)) (fun _ _ _ _ _ => (pg_name (i := 4) sc_Atlas_init.nd rfl (Or.inl rfl))) (fun _ _ _ _ _ => pts_nil) (fun _ _ _ _ _ => (pe_dget (hu_of hr) (pv 3) (pv 4) (fun _ _ => rfl)))) pa_nil)) rfl)))))), ?_⟩
    refine ⟨.ref b, rfl, b, bxs, bds, rfl, hb, hbd, hbl, fun hn H1 bt s1 hbt => ?_, fun i hi => ?_⟩
    rotate_left
    · exact (bad1 i (by unfold atlasR; rw [hi])).at_ (But.refl _ _) hx
    have er : atlasR bds qs = rowsR [] qs := by unfold atlasR; rw [hn]
    rw [er] at q bad2 bad3 bad4
    refine ⟨.ref x, rfl, x, T.a_Atlas, dx, [], rfl, s1 _ _ hx, T.cl_Atlas, T.nf_Atlas_box, by show 0 < 1000; decide, ?_⟩
    intro d nd
    generalize efs : putF "box" (.ref bt) [] = fs1 at nd ⊢
    have ndx : d ≠ x := fun z => by rw [z, upd_same] at nd; cases nd
    have nd1 : H1 d = none := by rw [upd_ne ndx] at nd; exact nd
    have nd0 : H d = none := s1.free nd1
    have b1 : But x H (upd (upd H1 x (.ins T.a_Atlas dx fs1)) d (.dK [])) := fun c o hc h => by
      rw [upd_ne (ne_of_none h nd0), upd_ne hc]
      exact s1 _ _ h
    have ex2 : (upd (upd H1 x (.ins T.a_Atlas dx fs1)) d (.dK [])) x = some (.ins T.a_Atlas dx fs1) := (upd_ne (Ne.symm ndx)).trans upd_same
    obtain ⟨box, hbox, h8⟩ := box_of hn
    have hbx : bxs = boxV box := box_vals (hbox ▸ hbd)
    have hbt2 : SqT K (upd (upd H1 x (.ins T.a_Atlas dx fs1)) d (.dK [])) bt (boxV box) := by
      rw [← hbx]
      refine seqs_t (fun c o z h => ?_) hbt
      rw [upd_ne (ne_of_none h nd1), upd_ne (fun e => by rw [e, s1 _ _ hx] at h; cases h; cases z)]
      exact h
    refine ⟨.ref l, rfl, l, ps, rfl, (fun H' => Seqs H H'), hl.elim (fun h => .inl fun _ s => seqs_l s h) (fun h => .inr fun _ s => seqs_t s h), seqs_of hx b1, fun J G wk hG => for_it wk (fun i σ H' => But x H H' ∧ H' x = some (.ins T.a_Atlas dx fs1) ∧ SqT K H' bt (boxV box) ∧ ∃ y4 y5 rs ls, σ = [some (.ref x), some (.ref b), some (.ref l), some (.ref d), y4, y5] ∧ H' d = some (.dK (kvsOf rs ls)) ∧ ls.length = rs.length ∧ rs.length = i ∧ rs.map rowQ = (qs.take i).map tupQ ∧ (∀ r ∈ rs, RowOk r) ∧ (nms rs).Nodup ∧ DpAll K (wo H' (fun c => c = x ∨ c = d)) ls (rs.map logD) ∧ rowsR [] qs = rowsR (nms rs) (qs.drop i))
      ⟨b1, ex2, hbt2, _, _, [], [], rfl, upd_same, rfl, rfl, rfl, (fun _ h => nomatch h), .nil, .nil, rfl⟩ (fun i σ H' _ h => hG _ (seqs_of hx h.1)) ?_ ?_⟩
    · rintro i v σ H2 H3 hi ⟨b2, e2, hb2, y4, y5, rs, ls, rfl, ed, ll, lr, hmap, hrok, hnd, hls, hrow⟩ ⟨rfl, hv⟩
      have hks := kvs_keys rs ls ll
      obtain ⟨pq, fq, hpq⟩ := hps.2 i v hv
      have qok := hok pq (List.mem_of_getElem? fq)
      obtain ⟨pp, nv, lg, xs, rfl, hsp, hnv, hsl, hds⟩ := hpq.seqs (seqs_of hx b2)
      have dr : qs.drop i = pq :: qs.drop (i + 1) := by
        obtain ⟨h1, h2⟩ := List.getElem?_eq_some_iff.mp fq
        rw [List.drop_eq_getElem_cons h1, h2]
      obtain ⟨dn, es⟩ := pq
      rw [dr] at hrow
      have hil : i < qs.length := (List.getElem?_eq_some_iff.mp fq).1
      refine ⟨pp, _, rfl, hsp, rfl, _, _, rfl, _, _, rfl, rfl, ?_⟩
      refine ⟨nv, rfl, nv, rfl, th_dp hnv qok.nm, fun H4 s4 => ⟨_, rfl, ?_⟩⟩
      rw [name_nm hnv]
      have b4 := b2.trans (But.of s4)
      have e4 := s4 _ _ e2
      cases en : nameD dn with
      | none =>
        have hd : rowsR [] qs = .name dn := hrow.trans (rows_none en)
        exact iteT ⟨nv, rfl, by show 1 ≤ 1000; decide, fun a na => raiseD qok.sz (dp_same s4 _ _ hnv) ((bad2 _ hd).at_ b4 e4) a na⟩
      | some z =>
        obtain ⟨rfl, rfl⟩ := name_str hnv en
        refine iteF ?_
        have ed4 := s4 _ _ ed
        refine ⟨_, rfl, _, rfl, d, _, rfl, DGet.k (k := Sum.inr z) ed4, _, rfl, ?_⟩
        rw [val_in hks]
        by_cases hz : z ∈ nms rs
        · exact iteDY (decide_eq_true hz) ⟨_, rfl, by show 1 ≤ 1000; decide, fun a na => raise1 ⟨_, rfl⟩ ((bad3 _ (hrow.trans (rows_twice en hz))).at_ b4 e4) a na⟩
        refine iteDN (decide_eq_false hz) ?_
        refine ⟨.str z, rfl, .ref lg, rfl, z, lg, xs, es, rfl, hsl.same s4, dpa_same s4 _ _ hds, qok.lg, by have : es.length ≤ 100 := qok.len; omega, fun hn H5 rr s5 hdp => ?_, fun j hj => ?_⟩
        · have hrow := hrow.trans (rows_go en hz hn)
          obtain ⟨ents, he, hok5, hright⟩ := log_ents hn
          have lent : ents.length = es.length := by
            have := congrArg List.length he
            rw [List.length_map, List.length_map] at this
            exact this.symm
          have nz : nmL z.cps.toList = true := by
            by_cases y : nmL z.cps.toList = true
            · exact y
            · have : nameD (.str z) = none := if_neg y
              rw [en] at this; cases this
          have lk := kvs_len rs ls
          have ed5 := s5 _ _ ed4
          have hno := kvs_none rs ls z hz
          refine ⟨_, rfl, _, rfl, d, _, rfl, DPut.k (k := Sum.inr z) ed5 (small1000 (by omega)), ?_⟩
          have s45 := s4.trans s5
          have ro : RowOk (z, ents) := ⟨nz, hok5, hright, by rw [lent]; exact qok.len⟩
          refine ⟨fun c o hc h => ?_, ?_, ?_, _, _, rs ++ [(z, ents)], ls ++ [.ref rr], rfl, ?_, ?_, ?_, ?_, ?_, ?_, ?_, ?_⟩
          · rw [upd_ne (ne_of_none h nd0)]
            exact s45 _ _ (b2 _ _ hc h)
          · rw [upd_ne (Ne.symm ndx)]
            exact s45 _ _ e2
          · refine seqs_t (fun c o z h => ?_) hb2
            rw [upd_ne (fun e => by rw [e, ed] at h; cases h; cases z)]
            exact s45 _ _ h
          · rw [upd_same, putK_new _ hno, kvs_snoc _ _ _ _ ll]
          · rw [List.length_append, List.length_append, ll]; rfl
          · rw [List.length_append, lr]; rfl
          · rw [List.take_add_one, fq, List.map_append, List.map_append, hmap]
            show _ ++ [rowQ (z, ents)] = _ ++ [tupQ (.str z, es)]
            unfold rowQ tupQ
            rw [he]
          · intro r hr
            rcases List.mem_append.mp hr with hr | hr
            · exact hrok r hr
            · rw [List.mem_singleton.mp hr]; exact ro
          · unfold nms
            rw [List.map_append]
            exact List.nodup_append.mpr ⟨hnd, by simp, fun a ha b hb e => hz (by have hb : b = z := List.mem_singleton.mp hb; rw [← hb, ← e]; exact ha)⟩
          · rw [List.map_append]
            have m5 : Same (wo H3 (fun c => c = x ∨ c = d)) (wo H5 (fun c => c = x ∨ c = d)) := fun c o h => by
              have h2 := wo_some h
              rw [wo_in (X := fun c => c = x ∨ c = d) h2.1]
              exact s45 _ _ h2.2
            have m6 : Same (wo H5 (fun c => c = x ∨ c = d)) (wo (upd H5 d (.dK (putK (kvsOf rs ls) (Sum.inr z) (.ref rr)))) (fun c => c = x ∨ c = d)) := fun c o h => by
              have h2 := wo_some h
              rw [wo_in (X := fun c => c = x ∨ c = d) h2.1, upd_ne (fun z => h2.1 (.inr z))]
              exact h2.2
            refine dpa_snoc (dp_same m6 _ _ ?_) _ _ (dpa_same (m5.trans m6) _ _ hls)
            refine dp_kp (Tp.wo (fun c o hc h => ?_)) 2 _ _ (log_okD (r := (z, ents)) (by have := ro.len; exact Nat.le_trans this (by decide))) (show Dp K H5 (.ref rr) (logD (z, ents)) by rw [he] at hdp; exact hdp)
            rcases hc with hc | hc
            · rw [hc, s45 _ _ e2] at h; cases h; rfl
            · rw [hc, ed5] at h; cases h; rfl
          · unfold nms at hrow ⊢
            rw [List.map_append]
            exact hrow
        · exact (bad4 _ _ (hrow.trans (rows_log en hz hj))).at_ b4 e4
    · rintro σ H2 ⟨b2, e2, hb2, y4, y5, rs, ls, rfl, ed, ll, lr, hmap, hrok, hnd, hls, hrow⟩
      rw [hps.1] at lr
      have hm : rowsR [] qs = .made := by
        rw [hrow, List.drop_of_length_le (by rw [hps.1]; exact Nat.le_refl _)]
        rfl
      rw [List.take_of_length_le (by rw [hps.1]; exact Nat.le_refl _)] at hmap
      have q := fun H' => q hm H' box rs
      refine ⟨.ref d, rfl, d, _, nms rs, rfl, Rd.of ed, kvs_keys rs ls ll, by unfold nms; rw [List.length_map]; omega, fun ys p perm srt np => ?_⟩
      obtain ⟨rs', prm, ey⟩ := perm_lift (f := fun r : Row => r.1) perm
      have nd' : (nms rs').Nodup := (show (nms rs').Perm (nms rs) from prm.map _).nodup_iff.mpr hnd
      have hsrt : Srt rs' := srt_of nd' (by rw [show nms rs' = ys from ey]; exact sortedS_pw ys srt)
      have lrs : rs'.length = rs.length := prm.length_eq
      have sp := same_upd (o := .lst (ys.map V.str)) np
      refine ⟨p, _, rfl, .inl (.inl upd_same), fun n on po nn => ?_⟩
      have sn := same_upd (o := .frz on (.tup (ys.map V.str))) nn
      have s3 := sp.trans sn
      refine ⟨.ref x, rfl, x, T.a_Atlas, dx, fs1, rfl, s3 _ _ e2, T.cl_Atlas, T.nf_Atlas_names, by rw [← efs]; show 1 < 1000; decide, ?_⟩
      have nnx : n ≠ x := fun z => by rw [z, sp _ _ e2] at nn; cases nn
      have nnd : n ≠ d := fun z => by rw [z, sp _ _ ed] at nn; cases nn
      generalize eH3 : upd (upd (upd H2 p (.lst (ys.map V.str))) n (.frz on (.tup (ys.map V.str)))) x (.ins T.a_Atlas dx (putF "names" (.ref n) fs1)) = H3
      have k3 : ∀ c o, c ≠ x → H2 c = some o → H3 c = some o := fun c o hc h => by
        rw [← eH3, upd_ne hc]
        exact s3 _ _ h
      have x3 : H3 x = some (.ins T.a_Atlas dx (putF "names" (.ref n) fs1)) := by rw [← eH3]; exact upd_same
      have n3 : H3 n = some (.frz on (.tup (ys.map V.str))) := by
        rw [← eH3, upd_ne nnx]
        exact upd_same
      have d3 : H3 d = some (.dK (kvsOf rs ls)) := k3 _ _ ndx ed
      have hls3 : DpAll K (wo H3 (fun c => c = x ∨ c = d)) ls (rs.map logD) := dpa_same (fun c o h => by
        have h2 := wo_some h
        rw [wo_in (X := fun c => c = x ∨ c = d) h2.1]
        exact k3 _ _ (fun z => h2.1 (.inl z)) h2.2) _ _ hls
      have lkn : (putF "names" (.ref n) fs1).lookup ("names" : Str) = some (.ref n) := by rw [lookup_putF, if_pos rfl]
      refine ⟨.ref x, rfl, x, T.a_Atlas, dx, _, _, rfl, x3, T.cl_Atlas, T.nf_Atlas_names, lkn, n, rfl, ⟨_, .inl (.inr ⟨on, n3⟩)⟩, fun D hD => lc_it (walk_tup (xs := ys.map V.str)) (fun i H' => Same H3 H' ∧ ∃ zs, H' D = some (.lst zs) ∧ zs.length = i ∧ DpAll K (wo H3 (fun c => c = x ∨ c = d)) zs ((rs'.take i).map logD)) ⟨same_upd hD, [], upd_same, rfl, .nil⟩ (fun i H' _ h => .inl (.inr ⟨on, h.1 _ _ n3⟩)) ?_ ?_⟩
      · rintro i v H4 H5 hi ⟨s4, zs, eD, lz, hz⟩ ⟨rfl, hv⟩
        rw [← ey, List.map_map, List.getElem?_map] at hv
        obtain ⟨r, fr, rfl⟩ : ∃ r, rs'[i]? = some r ∧ V.str r.1 = v := by
          cases e1 : rs'[i]? with
          | none => rw [e1] at hv; cases hv
          | some r => rw [e1] at hv; exact ⟨r, rfl, Option.some.inj hv⟩
        obtain ⟨m, hm⟩ := List.mem_iff_getElem?.mp (prm.mem_iff.mp (List.mem_of_getElem? fr))
        have hml : m < ls.length := by rw [ll]; exact (List.getElem?_eq_some_iff.mp hm).1
        have hlm := List.getElem?_eq_getElem hml
        have hval := kvs_some rs ls m r ls[m] hnd hm hlm
        obtain ⟨dd, fd, gd⟩ := dpa_at _ ls hls3 m ls[m] hlm
        rw [List.getElem?_map, hm] at fd
        cases fd
        have il : i < rs'.length := (List.getElem?_eq_some_iff.mp fr).1
        refine ⟨rfl, _, rfl, _, rfl, d, ls[m], rfl, ?_, zs, eD, small1000 (by omega), ?_, _, upd_same, ?_, ?_⟩
        · have hg := DGet.k (k := Sum.inr r.1) (s4 _ _ d3)
          rw [hval] at hg
          exact hg
        · exact fun c o h => by
            rw [upd_ne (ne_of_none h hD)]
            exact s4 _ _ h
        · rw [List.length_append, lz]
          rfl
        · rw [List.take_add_one, fr, List.map_append]
          exact dpa_snoc gd _ _ hz
      · rintro H4 ⟨s4, zs, eD, lz, hz⟩
        rw [List.length_map, show ys.length = rs'.length by rw [← ey, List.length_map], List.take_length] at hz
        refine ⟨D, zs, rfl, .inl ⟨.inl (.inl eD), fun t nt => ?_⟩⟩
        have st := same_upd (o := .tup zs) nt
        have s34 := s4.trans st
        refine ⟨.ref x, rfl, x, T.a_Atlas, dx, _, rfl, s34 _ _ x3, T.cl_Atlas, T.nf_Atlas_logs, by rw [← efs]; show (putF "names" (.ref n) [("box", V.ref bt)]).length < 1000; exact Nat.lt_of_le_of_lt (length_putF _ _ _) (show 1 + 1 < 1000 by decide), ?_⟩
        have ntx : t ≠ x := fun z => by rw [z, s4 _ _ x3] at nt; cases nt
        have kf : Same (wo H3 (fun c => c = x ∨ c = d)) (upd (upd H4 t (.tup zs)) x (.ins T.a_Atlas dx (putF "logs" (.ref t) (putF "names" (.ref n) fs1)))) := fun c o h => by
          have h2 := wo_some h
          rw [upd_ne (fun z => h2.1 (.inl z))]
          exact s34 _ _ h2.2
        refine q _ rs' (fun c o hc h => ?_) hbox h8 hmap hrok hnd prm hsrt ⟨dx, bt, n, t, zs, on, po, ?_, ?_, ?_, .inl (.inl ?_), dpa_same kf _ _ hz⟩
        · rw [upd_ne hc]
          exact s34 _ _ (k3 _ _ hc (b2 _ _ hc h))
        · rw [upd_same, ← efs]
          rfl
        · refine seqs_t (fun c o z h => ?_) hb2
          have hcx : c ≠ x := fun e => by rw [e, e2] at h; cases h; cases z
          rw [upd_ne hcx]
          exact s34 _ _ (k3 _ _ hcx h)
        · rw [upd_ne nnx, show namV rs' = ys.map V.str by unfold namV; rw [show nms rs' = ys from ey]]
          exact s34 _ _ n3
        · rw [upd_ne ntx]
          exact upd_same
--@@SPLIT
/-! ### the log of a walker, whatever name is asked for -/
def rNeA (K : PySem.W.Frag) : R2 := fun x y H Q => rNe x y H Q ∨ rNeD K x y H Q
theorem op_neA {X : Cx} {K : PySem.W.Frag} (h : X.K = K) (hu : X.A.units + 64 < cLine) : OpR X (compareOp .NotEq) (rNeA K) := fun pins s σ H x y v u Q I rx ry g => by
  subst h
  exact g.elim (op_ne pins s σ H x y v u Q I rx ry) (op_neD hu pins s σ H x y v u Q I rx ry)
def rNotInT (K : PySem.W.Frag) : R2 := fun x y H Q => ∃ d ds, Dp K H x d ∧ Dp K H y (.tuple ds) ∧ SeqAt.shaped d = true ∧ SeqAt.shaped (.tuple ds) = true ∧ Q (.bl (!ds.any fun z => PyData.eqv z d)) H
def rNotInA (K : PySem.W.Frag) : R2 := fun x y H Q => rIn K true x y H Q ∨ rNotInT K x y H Q
theorem op_notInA {X : Cx} {K : PySem.W.Frag} (h : X.K = K) (hu : X.A.units + 65 < cLine) : OpR X (compareOp .NotIn) (rNotInA K) := fun pins s σ H x y v u Q I rx ry g => by
  subst h
  refine g.elim (op_notIn_seq pins s σ H x y v u Q I rx ry) fun ⟨d, ds, hd, he, sd, se, q⟩ => ?_
  obtain ⟨_, r1⟩ := Dp.reads I d x v hd rx
  obtain ⟨_, r2⟩ := Dp.reads I (.tuple ds) y u he ry
  exact SeqAt.notIn_tuple_reads r2 r1 (SeqAt.canLay_of_shaped se) (SeqAt.canLay_of_shaped sd) (room_in_shaped sd hu) ⟨.bl _, H, I, rfl, q⟩
section
variable {K : PySem.W.Frag} {H : Hp} {v : V} {d : PyData} {Q : VK}
theorem eqS_flip (z s : Str) : (!decide (V.str s = V.str z)) = !eqS (.str z) s := by
  rw [show decide (V.str s = V.str z) = decide (V.str z = V.str s) from decide_eq_decide.mpr eq_comm, dec_str]
  rfl
theorem neA_of {s : Str} (hd : Dp K H v d) (g : gp d = true) (hs : SeqAt.shaped (.str s) = true) (q : Q (.bl (!eqS d s)) H) : rNeA K (.str s) v H Q := by
  cases hd with
  | lst h a => exact .inr ⟨_, _, .str s, .lst h a, hs, g, q⟩
  | tup h a => exact .inr ⟨_, _, .str s, .tup h a, hs, g, q⟩
  | str z => exact .inl ⟨rfl, by rw [eqS_flip]; exact q⟩
  | non => exact .inl ⟨rfl, by rw [decide_eq_false (fun h => nomatch h)]; exact q⟩
  | bl b => exact .inl ⟨rfl, by rw [decide_eq_false (fun h => nomatch h)]; exact q⟩
  | int i => exact .inl ⟨rfl, by rw [decide_eq_false (fun h => nomatch h)]; exact q⟩
theorem notInA_of {p : Addr} {ws : List Str} (hd : Dp K H v d) (g : gp d = true) (hp : SqT K H p (ws.map V.str)) (hs : SeqAt.shaped (.tuple (ws.map PyData.str)) = true) (q : Q (.bl (!inW d ws)) H) : rNotInA K v (.ref p) H Q := by
  cases hd with
  | lst h a => exact .inr ⟨_, _, .lst h a, .tup hp (dpa_strs ws), g, hs, by rw [inW_deep (fun s => by simp [PyData.eqv, eqS])]; exact q⟩
  | tup h a => exact .inr ⟨_, _, .tup h a, .tup hp (dpa_strs ws), g, hs, by rw [inW_deep (fun s => by simp [PyData.eqv, eqS])]; exact q⟩
  | str z => exact .inl ⟨p, _, rfl, .inr hp, rfl, flat_strs ws, by rw [← inW_flat (v := .str z) (d := .str z) (fun s => rfl)] at q; exact q⟩
  | non => exact .inl ⟨p, _, rfl, .inr hp, rfl, flat_strs ws, by rw [← inW_flat (v := .non) (d := .none) (fun s => rfl)] at q; exact q⟩
  | bl b => exact .inl ⟨p, _, rfl, .inr hp, rfl, flat_strs ws, by rw [← inW_flat (v := .bl b) (d := .bool b) (fun s => rfl)] at q; exact q⟩
  | int i => exact .inl ⟨p, _, rfl, .inr hp, rfl, flat_strs ws, by rw [← inW_flat (v := .int i) (d := .int i) (fun s => rfl)] at q; exact q⟩
end
/-- whom a thing names -/
theorem inW_nms {rs : List Row} {d : PyData} : inW d (nms rs) = true ↔ ∃ r ∈ rs, d = .str r.1 := by
  constructor
  · intro h
    obtain ⟨s, hs, e⟩ := inW_isS h
    obtain ⟨r, hr, rfl⟩ := List.mem_map.mp hs
    exact ⟨r, hr, e⟩
  · rintro ⟨r, hr, rfl⟩
    exact List.any_eq_true.mpr ⟨r.1, List.mem_map.mpr ⟨r, hr, rfl⟩, beq_self_eq_true _⟩
theorem nm_okS {r : Row} (h : RowOk r) : PyData.strOk r.1 = true := ok_of_mem fun c hc => small_ok c (of_decide_eq_true (List.all_eq_true.mp (Bool.and_eq_true_iff.mp (show (shL r.1.cps.toList && r.1.cps.toList.all smC) = true from h.nm)).2 c hc))
theorem strs_lay0 : ∀ ws : List Str, (∀ z ∈ ws, PyData.strOk z = true) → PyData.canLayAll0 (ws.map PyData.str) = true ∧ PyData.depthAll (ws.map PyData.str) = 0
  | [], _ => ⟨rfl, rfl⟩
  | z :: ws, h => by
    obtain ⟨h1, h2⟩ := strs_lay0 ws fun x hx => h x (List.mem_cons_of_mem _ hx)
    exact ⟨Bool.and_eq_true_iff.mpr ⟨h z List.mem_cons_self, h1⟩, by show max _ _ = 0; rw [h2]; rfl⟩
theorem shaped_nms {rs : List Row} (h : ∀ r ∈ rs, RowOk r) : SeqAt.shaped (.tuple ((nms rs).map PyData.str)) = true := by
  obtain ⟨h1, h2⟩ := strs_lay0 (nms rs) fun z hz => by
    obtain ⟨r, hr, rfl⟩ := List.mem_map.mp hz
    exact nm_okS (h r hr)
  have h3 : PyData.depthAll ((nms rs).map PyData.str) + 1 ≤ 64 := by omega
  exact Bool.and_eq_true_iff.mpr ⟨h1, decide_eq_true h3⟩
theorem ok_init_NoWalker (T : Top w K mg) : FnOk P w K mg base CX0 4 T.a_init_NoWalker T.fd_init_NoWalker ["self", "name"] (spIniD K T.a_NoWalker "name") := by
  have G_kept := ok_kept (P := P) (w := w) (base := base) T
  refine T.F_init_NoWalker.ok sc_init_NoWalker (fun vs H Q E h => ?_) (fun cdv A outer s H vs Q E hr h => ?_)
  · obtain ⟨a, v, d, rfl, _⟩ := h
    rfl
  · obtain ⟨a, v, d, rfl, hz, hd, ha, q⟩ := h
    refine ⟨_, (pss_one (ps_ost (pv 0) (pe_call G_kept (hr.mono (by decide)) (by rfl) T.g_kept T.F_kept.kp T.b_kept .nil pass0 (pa_cons (pv 1) pa_nil)))), ?_⟩
    refine ⟨v, rfl, v, d, rfl, hz, hd, fun H1 v' s1 hv' => ?_⟩
    refine ⟨.ref a, rfl, a, T.a_NoWalker, rfl, T.oex_NoWalker, T.no_NoWalker_name, .inl ⟨s1 _ _ ha, fun dx ndx ne => ?_⟩⟩
    have ha1 := s1 _ _ ha
    refine q _ dx v' (fun b o hb h => (upd_ne hb).trans (same_upd ndx _ _ (s1 _ _ h))) (s1.free ndx) ne upd_same ((upd_ne ne).trans upd_same) ?_
    exact dp_seqs ((Seqs.new ndx).trans (Seqs.upd (same_upd ndx _ _ ha1) rfl)) d v' hv'
def spLogD (K : PySem.W.Frag) (C N : Addr) : Sp := fun vs H Q E => ∃ (x : Addr) (nv : V) (d : PyData) (box : List Nat) (rs : List Row), vs = [.ref x, nv] ∧ AtlasAt K C H x box rs ∧ Dp K H nv d ∧ gp d = true ∧ siz d ≤ 1000 ∧ (nms rs).Nodup ∧ (∀ r ∈ rs, RowOk r) ∧ rs.length ≤ 60 ∧
  (∀ r ∈ rs, d = .str r.1 → ∀ lv, Dp K H lv (logD r) → Q lv H) ∧ ((∀ r ∈ rs, d ≠ .str r.1) → RaD K N H "name" d E)
theorem ok_Atlas_log (T : Top w K mg) : FnOk P w K mg base (L2.CX P w) 6 T.a_Atlas_log T.fd_Atlas_log ["self", "name"] (spLogD K T.a_Atlas T.a_NoWalker) := by
  have G_init_NoWalker := ok_init_NoWalker (P := P) (w := w) (base := base) T
  refine T.F_Atlas_log.okX sc_Atlas_log (fun vs H Q E h => ?_) (fun cdv A outer s H vs Q E hr h => ?_)
  · obtain ⟨x, nv, d, box, rs, rfl, _⟩ := h
    rfl
  · obtain ⟨x, nv, d, box, rs, rfl, hA, hd, hg, hz, hnd, hok, hlen, q, bad⟩ := h
    obtain ⟨dx, b, n, l, ls, on, po, h1, h2, hn, h4, h5⟩ := hA
    have h3 : SqT K H n (namV rs) := .inl (.inr ⟨on, hn⟩)
    refine ⟨_, (pss_cons (ps_if (pt_cmpR (r := rNotInA K) (op_notInA rfl (units65 hr)) (pv 1) (pe_fld (pv 0) rfl) (by rfl)) (pss_one (ps_raise rfl (takes_of rfl rfl rfl rfl) (pmk_oex T.oex_NoWalker T.iC_NoWalker T.tI_NoWalker G_init_NoWalker (hr.mono (by decide)) T.b_init_NoWalker .nil pass0 (by rfl) T.g_NoWalker (pa_cons (pv 1) pa_nil)))) pss_nil)
      (pss_one (ps_ret (pe_ix ix_tup (pe_fld (pv 0) rfl) (OwnI.pe_bmF PySem.F.plainAttrs_tuple PySem.F.slot_tuple_index PySem.F.type_tuple_index mt_tup_index (pe_fld (pv 0) rfl) (pa_cons (pv 1) pa_nil)) (fun _ _ => rfl))))), ?_⟩
    refine ⟨nv, rfl, .ref x, rfl, x, T.a_Atlas, dx, _, _, rfl, h1, T.cl_Atlas, T.nf_Atlas_names, fl_names b n l, notInA_of hd hg h3 (shaped_nms hok) ⟨_, rfl, ?_⟩⟩
    cases hin : inW d (nms rs) with
    | false => exact iteT ⟨nv, rfl, by show 1 ≤ 1000; decide, fun a na => raiseD hz hd (bad fun r hr e => by rw [inW_nms.mpr ⟨r, hr, e⟩] at hin; cases hin) a na⟩
    | true =>
      refine iteF ?_
      obtain ⟨r, hr, rfl⟩ := inW_nms.mp hin
      cases hd
      obtain ⟨m, em⟩ := List.mem_iff_getElem?.mp hr
      have hj : (nms rs)[m]? = some r.1 := by
        show (rs.map _)[m]? = _
        rw [List.getElem?_map, em]
        rfl
      refine ⟨.ref x, rfl, x, T.a_Atlas, dx, _, _, rfl, h1, T.cl_Atlas, T.nf_Atlas_logs, fl_logs b n l, ?_⟩
      refine ⟨.ref x, rfl, x, T.a_Atlas, dx, _, _, rfl, h1, T.cl_Atlas, T.nf_Atlas_names, fl_names b n l, ⟨n, on, _, rfl, hn, po⟩, .str r.1, rfl, n, nms rs, r.1, m, rfl, rfl, h3, hj, fun k hk e => ?_, ?_⟩
      · have l1 := (List.getElem?_eq_some_iff.mp hj)
        have l2 := (List.getElem?_eq_some_iff.mp e)
        exact (List.pairwise_iff_getElem.mp hnd) k m l2.1 l1.1 hk (l2.2.trans l1.2.symm)
      · have hls : ls.length = rs.length := (dpa_len _ _ h5).trans (by rw [List.length_map])
        have hml : m < ls.length := by rw [hls]; exact (List.getElem?_eq_some_iff.mp em).1
        obtain ⟨d, fd, gd⟩ := dpa_at _ ls h5 m ls[m] (List.getElem?_eq_getElem hml)
        rw [List.getElem?_map, em] at fd
        cases fd
        exact ⟨l, ls, m, _, rfl, rfl, h4, atI_nat (List.getElem?_eq_getElem hml), q r hr rfl _ gd⟩
--@@SPLIT
/-! ### logs that are right are told to be so -/
theorem ent_tup (e : Ent) (h : e.ok) : entD e.tup = true := by
  have face : ∀ l : Fin 4, entD (Ent.face l).tup = true := by decide +kernel
  have go : ∀ n : Fin 9, entD (Ent.go n).tup = true := by decide +kernel
  have turn : ∀ q : Fin 3, entD (Ent.turn q).tup = true := by decide +kernel
  have many : ∀ n : Fin 9, manyD (.int ((n.val : Int) + 1)) = true := by decide +kernel
  cases e with
  | face l => exact face l
  | go n => exact go n
  | turn q => exact turn q
  | bump => exact (by decide +kernel : entD Ent.bump.tup = true)
  | bare => exact (by decide +kernel : entD Ent.bare.tup = true)
  | swap => exact (by decide +kernel : entD Ent.swap.tup = true)
  | sign z =>
    show (if eqS (.str "sign") "face" = true then letD (.str z) else if eqS (.str "sign") "go" = true then manyD (.str z) else eqS (.str "sign") "sign" && sgD (.str z)) = true
    rw [if_neg (by decide +kernel), if_neg (by decide +kernel)]
    exact Bool.and_eq_true_iff.mpr ⟨by decide +kernel, h.2.2⟩
  | spy n z =>
    have a : eqS (.str (ws 8)) "spy" = true := by decide +kernel
    show (eqS (.str (ws 8)) "spy" && (manyD (.int ((n.val : Int) + 1)) && sgD (.str z))) = true
    rw [a, many n]
    exact h.2.2
theorem bad_ents : ∀ (es : List Ent) (f : Bool) (i : Nat), (∀ e ∈ es, e.ok) → (∀ (j : Nat) (e : Ent), es[j]? = some e → e.need = true → (f || (es.take j).any Ent.isFace) = true) → badAt f i (es.map Ent.tup) = none
  | [], _, _, _, _ => rfl
  | e :: es, f, i, ok, far => by
    obtain ⟨hf, hn⟩ := ent_fc (d := e.tup) (e := e) rfl
    show (if entD e.tup = false then some i else if (ndD e.tup && !f) = true then some i else badAt (f || fcD e.tup) (i + 1) (es.map Ent.tup)) = none
    rw [if_neg (by rw [ent_tup e (ok e List.mem_cons_self)]; decide), hn, hf]
    rw [if_neg (fun z => by
      obtain ⟨z1, z2⟩ := Bool.and_eq_true_iff.mp z
      have := far 0 e rfl z1
      rw [List.take_zero, List.any_nil, Bool.or_false] at this
      rw [this] at z2
      cases z2)]
    refine bad_ents es _ _ (fun x hx => ok x (List.mem_cons_of_mem _ hx)) fun j x hj hx => ?_
    have := far (j + 1) x hj hx
    rw [List.take_succ_cons, List.any_cons, ← Bool.or_assoc] at this
    exact this
theorem name_nmD {r : Row} (h : RowOk r) : nameD (.str r.1) = some r.1 := if_pos h.nm
theorem rows_made : ∀ (ks : List Row) (ns : List Str) (rest : List (PyData × List PyData)), (∀ r ∈ ks, RowOk r) → (nms ks).Nodup → (∀ r ∈ ks, ¬ r.1 ∈ ns) → rowsR ns (ks.map rowQ ++ rest) = rowsR (ns ++ nms ks) rest
  | [], ns, rest, _, _, _ => by
    show rowsR ns rest = rowsR (ns ++ []) rest
    rw [List.append_nil]
  | r :: ks, ns, rest, ok, nd, out => by
    have h := ok r List.mem_cons_self
    obtain ⟨h1, h2⟩ := List.nodup_cons.mp (show (r.1 :: nms ks).Nodup from nd)
    show rowsR ns ((.str r.1, r.2.map Ent.tup) :: (ks.map rowQ ++ rest)) = _
    rw [rows_go (name_nmD h) (out r List.mem_cons_self) (bad_ents r.2 _ _ h.ok fun j e hj hn => by rw [Bool.false_or]; exact h.right j e hj hn)]
    rw [rows_made ks (ns ++ [r.1]) rest (fun x hx => ok x (List.mem_cons_of_mem _ hx)) h2 fun x hx m => ?_]
    · rw [List.append_assoc]
      rfl
    · rcases List.mem_append.mp m with m | m
      · exact out x (List.mem_cons_of_mem _ hx) m
      · exact h1 (by rw [← List.mem_singleton.mp m]; exact List.mem_map.mpr ⟨x, hx, rfl⟩)
theorem shaped_nm {r : Row} (h : RowOk r) : SeqAt.shaped (.str r.1) = true := Bool.and_eq_true_iff.mpr ⟨nm_okS h, decide_eq_true (Nat.zero_le _)⟩
theorem ge_tup (e : Ent) (h : e.ok) : ge e.tup = true := by
  have face : ∀ l : Fin 4, ge (Ent.face l).tup = true := by decide +kernel
  have go : ∀ n : Fin 9, ge (Ent.go n).tup = true := by decide +kernel
  have turn : ∀ q : Fin 3, ge (Ent.turn q).tup = true := by decide +kernel
  have txt : ∀ z : Str, z.length ≤ 12 → gp (.str z) = true := fun z l => decide_eq_true (by omega)
  cases e with
  | face l => exact face l
  | go n => exact go n
  | turn q => exact turn q
  | bump => exact (by decide +kernel : ge Ent.bump.tup = true)
  | bare => exact (by decide +kernel : ge Ent.bare.tup = true)
  | swap => exact (by decide +kernel : ge Ent.swap.tup = true)
  | sign z =>
    show (true && (gp (.str (ws 6)) && (gp (.str z) && true))) = true
    rw [txt z h.1]
    decide +kernel
  | spy n z =>
    show (true && (gp (.str (ws 8)) && (true && (gp (.str z) && true)))) = true
    rw [txt z h.1]
    decide +kernel
theorem ent_inj {e f : Ent} (h : e.tup = f.tup) : e = f := by
  obtain ⟨h1, h2⟩ := List.cons.inj (show (PyData.str (ws e.kind) :: e.rest) = .str (ws f.kind) :: f.rest from PyData.tuple.inj h)
  have inj : ∀ a b : Fin 10, ws a = ws b → a = b := by decide +kernel
  have far : ∀ a b : Fin 4, Lt a = Lt b → a = b := by decide +kernel
  have hk := congrArg Fin.val (inj _ _ (PyData.str.inj h1))
  cases e <;> cases f
  all_goals first
    | rfl
    | (exfalso; simp [Ent.kind] at hk; done)
    | (exfalso; simp [Ent.kind] at hk; omega)
    | (simp [Ent.kind] at hk; congr 1; omega)
    | (simp [Ent.rest] at h2; simp [h2]; done)
    | (simp [Ent.rest] at h2; congr 1; omega; done)
    | (congr 1; exact far _ _ (by simpa [Ent.rest] using h2))
    | (simp [Ent.rest] at h2; obtain ⟨h2, h3⟩ := h2; subst h3; congr 1; omega)
theorem rowQ_inj {a b : Row} (h : rowQ a = rowQ b) : a = b := by
  obtain ⟨h1, h2⟩ := Prod.mk.inj h
  refine Prod.ext (PyData.str.inj h1) ?_
  exact List.map_inj_right (fun _ _ => ent_inj) |>.mp h2
theorem tup_rowQ (r : Row) : tupQ (rowQ r) = rowQ r := by
  unfold tupQ rowQ
  refine Prod.ext rfl ?_
  show (r.2.map Ent.tup).map tupD = _
  rw [List.map_map]
  rfl
theorem rows_eq {a b : List Row} (h : a.map rowQ = (b.map rowQ).map tupQ) : a = b := by
  rw [List.map_map, show tupQ ∘ rowQ = rowQ from funext tup_rowQ] at h
  exact List.map_inj_right (fun _ _ => rowQ_inj) |>.mp h
theorem dpa_ints {K : PySem.W.Frag} {H : Hp} : ∀ box : List Nat, DpAll K H (boxV box) (box.map fun n : Nat => PyData.int (n : Nat))
  | [] => .nil
  | n :: r => .cons (.int _) (dpa_ints r)
theorem ints_inj {a b : List Nat} (h : (a.map fun n : Nat => PyData.int (n : Nat)) = b.map fun n : Nat => PyData.int (n : Nat)) : a = b :=
  List.map_inj_right (fun x y e => by have := PyData.int.inj e; omega) |>.mp h
theorem nm_len {r : Row} (h : RowOk r) : r.1.length ≤ 8 := by
  have h1 := (Bool.and_eq_true_iff.mp (show (shL r.1.cps.toList && r.1.cps.toList.all smC) = true from h.nm)).1
  have := of_decide_eq_true (Bool.and_eq_true_iff.mp h1).2
  have hl := len_toList r.1
  omega
theorem ok_QOk {r : Row} (h : RowOk r) : QOk (rowQ r) where
  nm := decide_eq_true (by have := nm_len h; omega)
  sz := siz_str _
  lg := fun d hd => by
    obtain ⟨e, he, rfl⟩ := List.mem_map.mp hd
    exact ge_tup e (h.ok e he)
  len := by show (r.2.map Ent.tup).length ≤ 100; rw [List.length_map]; exact h.len
/-! ### with a log, without one -/
def withQ (rs : List Row) (d : PyData) : List Row := rs.filter fun r => !eqS d r.1
theorem with_nodup {rs : List Row} {d : PyData} (h : (nms rs).Nodup) : (nms (withQ rs d)).Nodup := h.sublist (List.filter_sublist.map _)
/-- the pairs kept so far: new tuples, of names and of the logs that stood at H0 -/
structure KeptAt (K : PySem.W.Frag) (H0 : Hp) (D : Addr) (rs : List Row) (d : PyData) (i : Nat) (H : Hp) : Prop where
  same : Same H0 H
  had : ∃ zs, H D = some (.lst zs) ∧ zs.length = (withQ (rs.take i) d).length ∧ ∀ (j : Nat) (v : V), zs[j]? = some v → ∃ r T l, (withQ (rs.take i) d)[j]? = some r ∧ v = .ref T ∧ H T = some (.tup [.str r.1, .ref l]) ∧ Dp K H0 (.ref l) (logD r)
theorem logD_ref {K : PySem.W.Frag} {H : Hp} {v : V} {r : Row} (h : Dp K H v (logD r)) : ∃ l xs, v = .ref l ∧ SqT K H l xs ∧ DpAll K H xs (r.2.map Ent.tup) := by
  cases h with
  | tup h a => exact ⟨_, _, rfl, h, a⟩
theorem kept_step {K : PySem.W.Frag} {H0 H : Hp} {D T : Addr} {rs : List Row} {ls : List V} {d : PyData} {i : Nat} {x y : V} (hls : DpAll K H0 ls (rs.map logD)) (nD : H0 D = none) (p : KeptAt K H0 D rs d i H) (hlen : rs.length ≤ 60) (nT : H T = none) (ex : (namV rs)[i]? = some x) (ey : ls[i]? = some y) :
    ∃ r, r ∈ rs ∧ x = .str r.1 ∧ (eqS d r.1 = true → KeptAt K H0 D rs d (i + 1) (upd H T (.tup [x, y]))) ∧ (eqS d r.1 = false → ∃ acc, (upd H T (.tup [x, y])) D = some (.lst acc) ∧ acc.length < sizeLine ∧ KeptAt K H0 D rs d (i + 1) (upd (upd H T (.tup [x, y])) D (.lst (acc ++ [.ref T])))) := by
  obtain ⟨s, zs, eD, lz, hz⟩ := p
  obtain ⟨r, fr, rfl⟩ : ∃ r, rs[i]? = some r ∧ V.str r.1 = x := by
    unfold namV nms at ex
    rw [List.map_map, List.getElem?_map] at ex
    cases e : rs[i]? with
    | none => rw [e] at ex; cases ex
    | some r => rw [e] at ex; exact ⟨r, rfl, Option.some.inj ex⟩
  obtain ⟨dd, fd, gd⟩ := dpa_at _ ls hls i y ey
  rw [List.getElem?_map, fr] at fd
  cases fd
  obtain ⟨l, xs, rfl, hx, ha⟩ := logD_ref gd
  have tk : withQ (rs.take (i + 1)) d = withQ (rs.take i) d ++ (if (!eqS d r.1) = true then [r] else []) := by
    unfold withQ
    rw [List.take_add_one, fr, List.filter_append]
    show _ ++ List.filter (fun r : Row => !eqS d r.1) [r] = _
    cases h : eqS d r.1 <;> simp [h]
  have sT := same_upd (o := .tup [.str r.1, .ref l]) nT
  have nTD : T ≠ D := fun e => by rw [e, eD] at nT; cases nT
  have few : zs.length ≤ 60 := by
    rw [lz]
    unfold withQ
    have := List.length_filter_le (fun r => !eqS d r.1) (rs.take i)
    rw [List.length_take] at this
    omega
  refine ⟨r, List.mem_of_getElem? fr, rfl, fun e => ⟨s.trans sT, zs, sT _ _ eD, ?_, fun j v hv => ?_⟩, fun e => ⟨zs, sT _ _ eD, by show zs.length < sizeLine; exact small1000 (by omega), fun c o h => ?_, _, upd_same, ?_, fun j v hv => ?_⟩⟩
  · rw [tk, e, lz]
    simp
  · obtain ⟨q, T', l', h1, h2, h3, h4⟩ := hz j v hv
    refine ⟨q, T', l', ?_, h2, sT _ _ h3, h4⟩
    rw [tk, e]
    simpa using h1
  · rw [upd_ne (ne_of_none h nD)]
    exact sT _ _ (s _ _ h)
  · rw [tk, e, List.length_append, List.length_append, lz]
    rfl
  · rw [tk, e]
    by_cases hj : j < zs.length
    · rw [List.getElem?_append_left hj] at hv
      obtain ⟨q, T', l', h1, h2, h3, h4⟩ := hz j v hv
      refine ⟨q, T', l', ?_, h2, ?_, h4⟩
      · rw [List.getElem?_append_left (by rw [← lz]; exact hj)]
        exact h1
      · rw [upd_ne (fun e => by rw [e, eD] at h3; cases h3)]
        exact sT _ _ h3
    · rw [List.getElem?_append_right (by omega)] at hv
      have hj2 : j = zs.length := by
        have := (List.getElem?_eq_some_iff.mp hv).1
        have : j - zs.length < 1 := this
        omega
      subst hj2
      rw [Nat.sub_self] at hv
      cases hv
      refine ⟨r, T, l, ?_, rfl, (upd_ne nTD).trans upd_same, gd⟩
      rw [List.getElem?_append_right (by omega), lz, Nat.sub_self]
      rfl
theorem kept_ends {K : PySem.W.Frag} {H0 H : Hp} {D : Addr} {rs : List Row} {d : PyData} (p : KeptAt K H0 D rs d rs.length H) : ∃ zs, H D = some (.lst zs) ∧ ∀ H', Same H H' → PairsD K H' zs ((withQ rs d).map rowQ) := by
  obtain ⟨s, zs, eD, lz, hz⟩ := p
  rw [List.take_length] at lz hz
  refine ⟨zs, eD, fun H' s' => ⟨by rw [lz, List.length_map], fun j v hv => ?_⟩⟩
  obtain ⟨r, T, l, h1, h2, h3, h4⟩ := hz j v hv
  obtain ⟨l', xs, e, hx, ha⟩ := logD_ref h4
  cases e
  exact ⟨rowQ r, by rw [List.getElem?_map, h1]; rfl, T, .str r.1, l, xs, h2, .inr (.inl (.inl (s' _ _ h3))), .str _, .inr (sqt_same (s.trans s') hx), dpa_same (s.trans s') _ _ ha⟩
def spWithout (K : PySem.W.Frag) (T : Top w K mg) : Sp := fun vs H Q E => ∃ (x : Addr) (nv : V) (d : PyData) (box : List Nat) (rs : List Row), vs = [.ref x, nv] ∧ AtlasAt K T.a_Atlas H x box rs ∧ box.length = 8 ∧ boxR (box.map fun n : Nat => PyData.int (n : Nat)) = none ∧ Dp K H nv d ∧ gp d = true ∧ siz d ≤ 1000 ∧ Srt rs ∧ (∀ r ∈ rs, RowOk r) ∧ rs.length ≤ 50 ∧
  ((∃ r ∈ rs, d = .str r.1) → ∀ H' y rs', Same H H' → rs'.Perm (withQ rs d) → Srt rs' → AtlasAt K T.a_Atlas H' y box rs' → Q (.ref y) H') ∧ ((∀ r ∈ rs, d ≠ .str r.1) → RaD K T.a_NoWalker H "name" d E)
theorem ok_without (T : Top w K mg) : FnOk P w K mg base (L2.CX P w) 12 T.a_Atlas_without T.fd_Atlas_without ["self", "name"] (spWithout K T) := by
  have G_Atlas_init := ok_Atlas_init (P := P) (w := w) (base := base) T
  have G_init_NoWalker := ok_init_NoWalker (P := P) (w := w) (base := base) T
  refine T.F_Atlas_without.okX sc_Atlas_without (fun vs H Q E h => ?_) (fun cdv A outer s H vs Q E hr h => ?_)
  · obtain ⟨x, nv, d, box, rs, rfl, _⟩ := h
    rfl
  · obtain ⟨x, nv, d, box, rs, rfl, hA, h8, hb, hd, hg, hz, hsrt, hok, hlen, q, bad⟩ := h
    have hA' := hA
    obtain ⟨dx, b, n, l, ls, on, po, h1, h2, hn, h4, h5⟩ := hA'
    have h3 : SqT K H n (namV rs) := .inl (.inr ⟨on, hn⟩)
    refine ⟨_, (pss_cons (ps_if (pt_cmpR (r := rNotInA K) (op_notInA rfl (units65 hr)) (pv 1) (pe_fld (pv 0) rfl) (by rfl)) (pss_one (ps_raise rfl (takes_of rfl rfl rfl rfl) (pmk_oex T.oex_NoWalker T.iC_NoWalker T.tI_NoWalker G_init_NoWalker (hr.mono (by decide)) T.b_init_NoWalker .nil pass0 (by rfl) T.g_NoWalker (pa_cons (pv 1) pa_nil)))) pss_nil)
      (pss_one (ps_ret (pe_make T.mk_Atlas G_Atlas_init hr (by rfl) T.g_Atlas T.b_Atlas_init .nil (passes_call (takes_of rfl rfl rfl rfl) (fun _ _ _ _ h => h)) (pa_cons (pe_fld (pv 0) rfl) (pa_cons (pe_lc (own := [("pair", 2)]) (g := gName 2) (by rfl) sc_Atlas_without.nd (ZipW.pi_zipN (by rfl) T.m_zip (pa_cons (pe_fld (pv 0) rfl) (pa_cons (pe_fld (pv 0) rfl) pa_nil))) (blkOk_by (own := [("pair", 2)]) (N := ["self", "name", "pair"]) (sc := defScope s_Atlas_without) (by decide +kernel)) (fun _ _ _ _ _ => (pg_name (i := 2) sc_Atlas_without.nd rfl (Or.inl rfl))) (fun _ _ _ _ _ => (pts_one (pt_cmpR (r := rNeA K) (op_neA rfl hr.units) (pe_ix (r := rIx K) (SeqW.ix_seqK rfl) (pv 2) pe_int (fun _ _ => rfl)) (pv 1) (nomark _)))) (fun _ _ _ _ _ => (pv 2))) pa_nil)))))), ?_⟩
    refine ⟨nv, rfl, .ref x, rfl, x, T.a_Atlas, dx, _, _, rfl, h1, T.cl_Atlas, T.nf_Atlas_names, fl_names b n l, notInA_of hd hg h3 (shaped_nms hok) ⟨_, rfl, ?_⟩⟩
    cases hin : inW d (nms rs) with
    | false => exact iteT ⟨nv, rfl, by show 1 ≤ 1000; decide, fun a na => raiseD hz hd (bad fun r hr e => by rw [inW_nms.mpr ⟨r, hr, e⟩] at hin; cases hin) a na⟩
    | true =>
      refine iteF ?_
      refine ⟨.ref x, rfl, x, T.a_Atlas, dx, _, _, rfl, h1, T.cl_Atlas, T.nf_Atlas_box, fl_box b n l, ?_⟩
      refine ⟨.ref x, rfl, x, T.a_Atlas, dx, _, _, rfl, h1, T.cl_Atlas, T.nf_Atlas_names, fl_names b n l, .ref x, rfl, x, T.a_Atlas, dx, _, _, rfl, h1, T.cl_Atlas, T.nf_Atlas_logs, fl_logs b n l, ?_⟩
      refine ⟨n, l, namV rs, ls, rfl, true, true, h3, h4, fun D nD => lc_it (ZipG.walk_zipG (t1 := true) (t2 := true) (xs := namV rs) (ys := ls) (n := rs.length) ?_) (KeptAt K H D rs d) ⟨same_upd nD, [], upd_same, rfl, fun j v hv => nomatch hv⟩ (fun i H' _ h => ⟨sqt_same h.same h3, sqt_same h.same h4⟩) ?_ ?_⟩
      · rw [show (namV rs).length = rs.length by unfold namV nms; rw [List.length_map, List.length_map], (dpa_len _ _ h5).trans (List.length_map _), Nat.min_self]
      · rintro i v H1 H2 hi p ⟨T', u1, u2, rfl, nT, rfl, ex, ey⟩
        obtain ⟨r, hr, rfl, yes, no⟩ := kept_step h5 nD p (by omega) nT ex ey
        refine ⟨rfl, .ref T', rfl, ixA (j := 0) (.inr (.inl (.inl upd_same))) rfl ⟨nv, rfl, neA_of (dp_same (p.same.trans (same_upd nT)) _ _ hd) hg (shaped_nm (hok r hr)) ⟨_, rfl, ?_⟩⟩⟩
        cases e : eqS d r.1 with
        | true => exact iteF (yes e)
        | false => exact iteT ⟨.ref T', rfl, no e⟩
      · intro H1 p y dy ny ndy ne
        obtain ⟨zs, eD, hp⟩ := kept_ends p
        have s1 : Same H1 (upd (upd H1 dy (.own y)) y (.ins T.a_Atlas dy [])) := fun c o h => by
          rw [upd_ne (ne_of_none h ny)]
          exact same_upd ndy _ _ h
        have wok : ∀ r ∈ withQ rs d, RowOk r := fun r hr => hok r (List.mem_filter.mp hr).1
        have wl : (withQ rs d).length ≤ rs.length := List.length_filter_le _ _
        have er : atlasR (box.map fun n : Nat => PyData.int (n : Nat)) ((withQ rs d).map rowQ) = .made := by
          unfold atlasR
          rw [hb]
          have := rows_made (withQ rs d) [] [] wok (with_nodup hsrt.nodup) fun _ _ h => nomatch h
          rw [List.append_nil] at this
          exact this
        refine ⟨y, dy, b, D, boxV box, _, zs, (withQ rs d).map rowQ, rfl, upd_same, .inr (sqt_same (p.same.trans s1) h2), dpa_ints box, by rw [List.length_map]; omega, .inl (.inl (.inl (s1 _ _ eD))), hp _ s1, fun q hq => ?_, by rw [List.length_map]; omega, fun _ H' box' rs1 rs' bt eb _ em _ _ prm srt at_ => ⟨rfl, ?_⟩, fun i hi => by (rw [er] at hi; cases hi), fun i hi => by (rw [er] at hi; cases hi), fun i hi => by (rw [er] at hi; cases hi), fun z i hi => by (rw [er] at hi; cases hi)⟩
        · obtain ⟨r, hr, rfl⟩ := List.mem_map.mp hq
          exact ok_QOk (wok r hr)
        · cases ints_inj eb
          cases rows_eq em
          exact q (inW_nms.mp hin) H' y rs' (fun c o h => bt _ _ (fun e => by rw [e] at h; rw [p.same _ _ h] at ny; cases ny) (s1 _ _ (p.same _ _ h))) prm srt at_
--@@SPLIT
theorem RaD.x {K : PySem.W.Frag} {C x : Addr} {H H2 : Hp} {key : Str} {d : PyData} {E : XK} (h : RaD K C H key d E) (s : Same H H2) (nx : H x = none) : RaDx K C x H2 key d E := fun H' dd v' b n e hv => h H' dd v' (fun c o y => b _ _ (ne_of_none y nx) (s _ _ y)) (s.free n) e hv
theorem RaV.x {C x : Addr} {H H2 : Hp} {fs : List (Str × V)} {E : XK} (h : RaV C H fs E) (s : Same H H2) (nx : H x = none) : RaVx C x H2 fs E := fun H' dd b n e => h H' dd (fun c o y => b _ _ (ne_of_none y nx) (s _ _ y)) (s.free n) e
theorem PairsD.snoc {K : PySem.W.Frag} {H : Hp} {vs : List V} {qs : List (PyData × List PyData)} {v : V} {q : PyData × List PyData} (h : PairsD K H vs qs) (h1 : PairD K H v q) : PairsD K H (vs ++ [v]) (qs ++ [q]) := by
  refine ⟨by rw [List.length_append, List.length_append, h.1]; rfl, fun i w hw => ?_⟩
  by_cases hi : i < vs.length
  · rw [List.getElem?_append_left hi] at hw
    obtain ⟨q', e, hq⟩ := h.2 i w hw
    exact ⟨q', by rw [List.getElem?_append_left (by rw [← h.1]; exact hi)]; exact e, hq⟩
  · have hj : i = vs.length := by
      have := (List.getElem?_eq_some_iff.mp hw).1
      rw [List.length_append] at this
      have : i < vs.length + 1 := this
      omega
    subst hj
    rw [List.getElem?_append_right (Nat.le_refl _), Nat.sub_self] at hw
    cases hw
    exact ⟨q, by rw [List.getElem?_append_right (by rw [h.1]; exact Nat.le_refl _), h.1, Nat.sub_self]; rfl, h1⟩
def spWithLog (K : PySem.W.Frag) (T : Top w K mg) : Sp := fun vs H Q E => ∃ (x lg : Addr) (nv : V) (d : PyData) (xs : List V) (es : List PyData) (box : List Nat) (rs : List Row), vs = [.ref x, nv, .ref lg] ∧ AtlasAt K T.a_Atlas H x box rs ∧ box.length = 8 ∧ boxR (box.map fun n : Nat => PyData.int (n : Nat)) = none ∧ Dp K H nv d ∧ SqA K H lg xs ∧ DpAll K H xs es ∧ QOk (d, es) ∧ Srt rs ∧ (∀ r ∈ rs, RowOk r) ∧ rs.length ≤ 50 ∧
  (nameD d = none → RaD K T.a_NoName H "name" d E) ∧ (∀ z (i : Nat), nameD d = some z → badAt false 0 es = some i → RaV T.a_BadLog H [("at", .int (i : Int)), ("name", .str z)] E) ∧
  (∀ z, nameD d = some z → badAt false 0 es = none → ∀ H' y rs' ents, Same H H' → es.map tupD = ents.map Ent.tup → RowOk (z, ents) → rs'.Perm (withQ rs d ++ [(z, ents)]) → Srt rs' → AtlasAt K T.a_Atlas H' y box rs' → Q (.ref y) H')
theorem ok_with_log (T : Top w K mg) : FnOk P w K mg base (L2.CX P w) 12 T.a_Atlas_with_log T.fd_Atlas_with_log ["self", "name", "log"] (spWithLog K T) := by
  have G_Atlas_init := ok_Atlas_init (P := P) (w := w) (base := base) T
  refine T.F_Atlas_with_log.okX sc_Atlas_with_log (fun vs H Q E h => ?_) (fun cdv A outer s H vs Q E hr h => ?_)
  · obtain ⟨x, lg, nv, d, xs, es, box, rs, rfl, _⟩ := h
    rfl
  · obtain ⟨x, lg, nv, d, xs, es, box, rs, rfl, hA, h8, hb, hd, hl, hes, hq, hsrt, hok, hlen, no1, no2, q⟩ := h
    have hA' := hA
    obtain ⟨dx, b, n, l, ls, on, po, h1, h2, hn, h4, h5⟩ := hA'
    have h3 : SqT K H n (namV rs) := .inl (.inr ⟨on, hn⟩)
    refine ⟨_, (pss_cons (ps_setLc (i := 3) (own := [("pair", 4)]) (g := gName 4) (by rfl) sc_Atlas_with_log.nd rfl rfl (sw_true rfl rfl rfl (by decide +kernel)) (ZipW.pi_zipN (by rfl) T.m_zip (pa_cons (pe_fld (pv 0) rfl) (pa_cons (pe_fld (pv 0) rfl) pa_nil))) (blkOk_by (own := [("pair", 4)]) (N := ["self", "name", "log", "others", "pair"]) (sc := defScope s_Atlas_with_log) (by decide +kernel)) (fun _ _ _ _ _ => (pg_name (i := 4) sc_Atlas_with_log.nd rfl (Or.inl rfl))) (fun _ _ _ _ _ => (pts_one (pt_cmpR (r := rNeA K) (op_neA rfl hr.units) (pe_ix (r := rIx K) (SeqW.ix_seqK rfl) (pv 4) pe_int (fun _ _ => rfl)) (pv 1) (nomark _)))) (fun _ _ _ _ _ => (pv 4)))
      (pss_one (ps_ret (pe_make T.mk_Atlas G_Atlas_init hr (by rfl) T.g_Atlas T.b_Atlas_init .nil (passes_call (takes_of rfl rfl rfl rfl) (fun _ _ _ _ h => h)) (pa_cons (pe_fld (pv 0) rfl) (pa_cons (pe_lst (StX.pa_star (pv 3) (pa_cons (pe_tup (pa_cons (pv 1) (pa_cons (pv 2) pa_nil))) pa_nil))) pa_nil)))))), ?_⟩
    refine ⟨.ref x, rfl, x, T.a_Atlas, dx, _, _, rfl, h1, T.cl_Atlas, T.nf_Atlas_names, fl_names b n l, .ref x, rfl, x, T.a_Atlas, dx, _, _, rfl, h1, T.cl_Atlas, T.nf_Atlas_logs, fl_logs b n l, ?_⟩
    refine ⟨n, l, namV rs, ls, rfl, true, true, h3, h4, fun D nD => lc_it (ZipG.walk_zipG (t1 := true) (t2 := true) (xs := namV rs) (ys := ls) (n := rs.length) ?_) (KeptAt K H D rs d) ⟨same_upd nD, [], upd_same, rfl, fun j v hv => nomatch hv⟩ (fun i H' _ h => ⟨sqt_same h.same h3, sqt_same h.same h4⟩) ?_ ?_⟩
    · rw [show (namV rs).length = rs.length by unfold namV nms; rw [List.length_map, List.length_map], (dpa_len _ _ h5).trans (List.length_map _), Nat.min_self]
    · rintro i v H1 H2 hi p ⟨T', u1, u2, rfl, nT, rfl, ex, ey⟩
      obtain ⟨r, hr, rfl, yes, no⟩ := kept_step h5 nD p (by omega) nT ex ey
      refine ⟨rfl, .ref T', rfl, ixA (j := 0) (.inr (.inl (.inl upd_same))) rfl ⟨nv, rfl, neA_of (dp_same (p.same.trans (same_upd nT)) _ _ hd) hq.nm (shaped_nm (hok r hr)) ⟨_, rfl, ?_⟩⟩⟩
      cases e : eqS d r.1 with
      | true => exact iteF (yes e)
      | false => exact iteT ⟨.ref T', rfl, no e⟩
    · intro H1 p
      obtain ⟨zs, eD, hp⟩ := kept_ends p
      refine ⟨.ref x, rfl, x, T.a_Atlas, dx, _, _, rfl, p.same _ _ h1, T.cl_Atlas, T.nf_Atlas_box, fl_box b n l, ?_⟩
      refine ⟨.ref D, rfl, D, zs, rfl, .inr (.inl (.inl eD)), ?_⟩
      have lz : zs.length ≤ 50 := by
        have := (hp _ (Same.refl _)).1
        rw [List.length_map] at this
        have := List.length_filter_le (fun r : Row => !eqS d r.1) rs
        have : (withQ rs d).length ≤ rs.length := this
        omega
      refine ⟨nv, rfl, .ref lg, rfl, by show 2 ≤ sizeLine; decide, fun t nt => ⟨(show (zs ++ [V.ref t]).length ≤ sizeLine from Nat.le_of_lt (small1000 (by rw [List.length_append]; show zs.length + 1 ≤ 1000; omega))), fun L nL y dy ny ndy ne => ?_⟩⟩
      generalize eH2 : upd (upd (upd (upd H1 t (.tup [nv, .ref lg])) L (.lst (zs ++ [.ref t]))) dy (.own y)) y (.ins T.a_Atlas dy []) = H2
      have y2 : H2 y = some (.ins T.a_Atlas dy []) := by rw [← eH2]; exact upd_same
      have st := same_upd (o := .tup [nv, .ref lg]) nt
      have sL := same_upd (o := .lst (zs ++ [.ref t])) nL
      have sy : Same (upd (upd H1 t (.tup [nv, .ref lg])) L (.lst (zs ++ [.ref t]))) H2 := fun c o h => by
        rw [← eH2, upd_ne (ne_of_none h ny)]
        exact same_upd ndy _ _ h
      have L2 := sy _ _ (upd_same (H := upd H1 t (.tup [nv, .ref lg])) (a := L))
      have t2 := sy _ _ (sL _ _ (upd_same (H := H1) (a := t)))
      have s12 := (st.trans sL).trans sy
      have s2 := p.same.trans s12
      have ny0 : H y = none := (p.same.trans (st.trans sL)).free ny
      have wok : ∀ r ∈ withQ rs d, RowOk r := fun r hr => hok r (List.mem_filter.mp hr).1
      have er : atlasR (box.map fun n : Nat => PyData.int (n : Nat)) ((withQ rs d).map rowQ ++ [(d, es)]) = rowsR (nms (withQ rs d)) [(d, es)] := by
        unfold atlasR
        rw [hb]
        exact rows_made (withQ rs d) [] [(d, es)] wok (with_nodup hsrt.nodup) fun _ _ h => nomatch h
      refine ⟨y, dy, b, L, boxV box, _, zs ++ [.ref t], (withQ rs d).map rowQ ++ [(d, es)], rfl, y2, .inr (sqt_same s2 h2), dpa_ints box, by rw [List.length_map]; omega, .inl (.inl (.inl L2)), (hp _ s12).snoc ⟨t, nv, lg, xs, rfl, .inr (.inl (.inl t2)), dp_same s2 _ _ hd, hl.same s2, dpa_same s2 _ _ hes⟩, fun q hq' => ?_, ?_, ?_⟩
      · rcases List.mem_append.mp hq' with h | h
        · obtain ⟨r, hr, rfl⟩ := List.mem_map.mp h
          exact ok_QOk (wok r hr)
        · rw [List.mem_singleton.mp h]
          exact hq
      · have := (hp _ (Same.refl _)).1
        rw [List.length_append, ← this]
        show zs.length + 1 ≤ 60
        omega
      rw [er]
      cases en : nameD d with
      | none =>
        rw [rows_none en]
        exact ⟨fun h => (by cases h), fun i h => (by cases h), fun d' h => (by cases h; exact (no1 en).x s2 ny0), fun z h => (by cases h), fun z i h => (by cases h)⟩
      | some z =>
        obtain ⟨rfl, rfl⟩ := name_str hd en
        have out : ¬ z ∈ nms (withQ rs (.str z)) := fun h => by
          obtain ⟨r, hr, rfl⟩ := List.mem_map.mp h
          have := (List.mem_filter.mp hr).2
          rw [show eqS (.str r.1) r.1 = true from beq_self_eq_true _] at this
          cases this
        cases eb : badAt false 0 es with
        | some i =>
          rw [rows_log en out eb]
          exact ⟨fun h => (by cases h), fun i h => (by cases h), fun d' h => (by cases h), fun z h => (by cases h), fun z' i' h => (by cases h; exact (no2 z i en eb).x s2 ny0)⟩
        | none =>
          rw [rows_go en out eb]
          refine ⟨fun _ H' box' rs1 rs' bt ebx _ em hrok _ prm srt at_ => ⟨rfl, ?_⟩, fun i h => (by cases h), fun d' h => (by cases h), fun z h => (by cases h), fun z i h => (by cases h)⟩
          cases ints_inj ebx
          rw [List.map_append] at em
          obtain ⟨ka, kb, rfl, ea, eb'⟩ := List.map_eq_append_iff.mp em
          cases rows_eq ea
          match kb, eb' with
          | [], eb' => cases eb'
          | _ :: _ :: _, eb' => cases (List.cons.inj eb').2
          | [r], eb' =>
            obtain ⟨e1, e2⟩ := Prod.mk.inj (show (PyData.str r.1, r.2.map Ent.tup) = (PyData.str z, es.map tupD) from (List.cons.inj eb').1)
            cases PyData.str.inj e1
            exact q r.1 en eb H' y rs' r.2 (fun c o h => bt _ _ (ne_of_none h ny0) (s2 _ _ h)) e2.symm (hrok r (List.mem_append_right _ List.mem_cons_self)) prm srt at_
--@@SPLIT
/-! ### of its own class alone -/
theorem count_vals {y : V} : ∀ {ys : List V} {us : List Value}, Vals ys us → ys.all flatV = true → us.countP (eqU y) = ys.countP (fun z => eqV z y)
  | _, _, .nil, _ => rfl
  | _, _, .cons r rs, h => by
    rw [List.all_cons] at h
    obtain ⟨h1, h2⟩ := Bool.and_eq_true_iff.mp h
    rw [List.countP_cons, List.countP_cons, count_vals rs h2, eqU_of r h1]
theorem mt_countV {X : Cx} : MtR X "list.count" (fun x xs H Q => ∃ (p : Addr) (ys : List V) (y : V), x = .ref p ∧ xs = [y] ∧ SqL X.K H p ys ∧ flatV y = true ∧ ys.all flatV = true ∧ Q (.int (ys.countP (fun z => eqV z y) : Nat)) H) := by
  intro pins s σ H x xs v us Q I rx rxs h
  obtain ⟨p, ys, y, rfl, rfl, hs, fy, fys, q⟩ := h
  cases rx
  obtain ⟨u, rfl, ru⟩ := rxs.one
  obtain ⟨its, rv, ⟨⟨cls, dd, data, sl⟩, n, ho, hc, hdn, hd⟩, hlen⟩ := I.list hs
  simp only at hc hd
  subst hc hd
  refine call_meets PySem.F.slot_list_count ⟨_, ho, rfl⟩ PySem.F.entry_list_count (PySem.F.args_list_count_2 _ _) (SeqAt.list_countAt p its.toArray n dd sl u (eqU y)) ⟨ho, fun z hz => mem_eqAt ru fy rv fys z (by simpa using hz), ?_⟩
  refine ⟨.int (ys.countP (fun z => eqV z y) : Nat), H, I.tok _, ⟨s.toks, ?_⟩, q⟩
  show Value.int ((its.toArray.toList.countP (eqU y) : Nat) : Int) s.toks = _
  rw [show its.toArray.toList = its from rfl, count_vals rv fys]
def spOwn (C : Addr) (a : Addr) (cls : Value) (d : Option Addr) : Sp := fun vs H Q _ => vs = [.ref a] ∧ cls = .ref C ∧ ∃ dd fs, d = some dd ∧ H dd = some (.xd fs) ∧ ∀ H', Same H H' → Q (.bl true) H'
theorem ok_Lown (T : Top w K mg) {a : Addr} {oe : Obj} {cls : Value} {d : Option Addr} (hz : Zc cls d oe) (hf : ∃ vs, oe.data = .fields vs) : ExcM.FnP P w K mg base (a, oe) 1 T.a_Lown T.fd_Lown ["_law_e"] (spOwn T.a_BadLog a cls d) := by
  refine ExcM.fun_okP T.F_Lown sc_Lown (fun vs H Q E h => ?_) (fun cdv A outer s H vs Q E hr h => ?_)
  · obtain ⟨rfl, _⟩ := h
    rfl
  · obtain ⟨rfl, rfl, dd, fs, rfl, hd, q⟩ := h
    refine ⟨_, (pss_cons (ps_set (i := 1) sc_Lown.nd rfl (.inl rfl) (pe_lst (pa_cons (pe_callB (ExcM.call_isP T.exc List.mem_cons_self hz hf) (by rfl) T.m_isinstance (by decide +kernel) (pa_cons (pv 0) (pa_cons (pe_glob (v := .ref T.a_NoLot) (by rfl) T.g_NoLot rfl) pa_nil))) (pa_cons (pe_callB (ExcM.call_isP T.exc List.mem_cons_self hz hf) (by rfl) T.m_isinstance (by decide +kernel) (pa_cons (pv 0) (pa_cons (pe_glob (v := .ref T.a_BadLog) (by rfl) T.g_BadLog rfl) pa_nil))) (pa_cons (pe_callB (ExcM.call_isP T.exc List.mem_cons_self hz hf) (by rfl) T.m_isinstance (by decide +kernel) (pa_cons (pv 0) (pa_cons (pe_glob (v := .ref T.a_NoDealing) (by rfl) T.g_NoDealing rfl) pa_nil))) (pa_cons (pe_callB (ExcM.call_isP T.exc List.mem_cons_self hz hf) (by rfl) T.m_isinstance (by decide +kernel) (pa_cons (pv 0) (pa_cons (pe_glob (v := .ref T.a_BadBox) (by rfl) T.g_BadBox rfl) pa_nil))) pa_nil))))))
      (pss_cons (ps_set (i := 1) sc_Lown.nd rfl (.inl rfl) (pe_op op_cat (pv 1) (pe_lst (pa_cons (pe_callB (ExcM.call_isP T.exc List.mem_cons_self hz hf) (by rfl) T.m_isinstance (by decide +kernel) (pa_cons (pv 0) (pa_cons (pe_glob (v := .ref T.a_NoName) (by rfl) T.g_NoName rfl) pa_nil))) (pa_cons (pe_callB (ExcM.call_isP T.exc List.mem_cons_self hz hf) (by rfl) T.m_isinstance (by decide +kernel) (pa_cons (pv 0) (pa_cons (pe_glob (v := .ref T.a_Twice) (by rfl) T.g_Twice rfl) pa_nil))) (pa_cons (pe_callB (ExcM.call_isP T.exc List.mem_cons_self hz hf) (by rfl) T.m_isinstance (by decide +kernel) (pa_cons (pv 0) (pa_cons (pe_glob (v := .ref T.a_NoWalker) (by rfl) T.g_NoWalker rfl) pa_nil))) pa_nil))))))
      (pss_one (ps_ret (pe_and (pe_cmpR op_eq (pe_bm PySem.F.plainAttrs_list PySem.F.slot_list_count PySem.F.type_list_count mt_countV (pv 1) (pa_cons pe_bl pa_nil)) pe_int (nomark _)) (pe_and (pe_callB (ExcM.call_isP T.exc List.mem_cons_self hz hf) (by rfl) T.m_isinstance (by decide +kernel) (pa_cons (pv 0) (pa_cons (pe_glob (v := .ref T.a_NeedleError) (by rfl) T.g_NeedleError rfl) pa_nil))) (pe_one (pe_callB (ExcM.call_isP T.exc List.mem_cons_self hz hf) (by rfl) T.m_isinstance (by decide +kernel) (pa_cons (pv 0) (pa_cons (pe_bltn (v := .ty "ValueError") (by rfl) T.m_ValueError (by decide +kernel) rfl) pa_nil)))))))))), ?_⟩
    have ro : ∀ {C : Addr} (u : Value), RelV (.ref C) u → u = .ref C := fun u h => h
    refine ⟨_, rfl, _, _, _, fs, rfl, ro, hd, T.kit_NoLot, _, rfl, _, _, _, fs, rfl, ro, hd, T.kit_BadLog, _, rfl, _, _, _, fs, rfl, ro, hd, T.kit_NoDealing, _, rfl, _, _, _, fs, rfl, ro, hd, T.kit_BadBox, by show 4 ≤ sizeLine; decide, fun l1 n1 => ?_⟩
    have s1 := same_upd (o := .lst [.bl false, .bl true, .bl false, .bl false]) n1
    have hd1 := s1 _ _ hd
    refine ⟨.ref l1, rfl, _, rfl, _, _, _, fs, rfl, ro, hd1, T.kit_NoName, _, rfl, _, _, _, fs, rfl, ro, hd1, T.kit_Twice, _, rfl, _, _, _, fs, rfl, ro, hd1, T.kit_NoWalker, by show 3 ≤ sizeLine; decide, fun l2 n2 => ?_⟩
    have s2 := same_upd (o := .lst [.bl false, .bl false, .bl false]) n2
    refine ⟨l1, l2, _, _, rfl, rfl, s2 _ _ upd_same, upd_same, by show 7 ≤ sizeLine; decide, fun l3 n3 => ?_⟩
    have s3 := same_upd (o := .lst ([.bl false, .bl true, .bl false, .bl false] ++ [.bl false, .bl false, .bl false])) n3
    have hd3 := s3 _ _ (s2 _ _ hd1)
    refine ⟨.ref l3, rfl, .inl ⟨rfl, _, .inl (.inl upd_same)⟩, l3, _, _, rfl, rfl, .inl (.inl upd_same), rfl, rfl, rfl, _, rfl, ite2 (fun _ => ?_) (fun z => absurd (decide_eq_true rfl) z)⟩
    refine ⟨_, rfl, _, _, _, fs, rfl, ro, hd3, T.kit_NeedleError, _, rfl, iteT ?_⟩
    exact ⟨_, rfl, _, _, _, fs, rfl, (fun u h => h), hd3, T.kit_VE, q _ ((s1.trans s2).trans s3)⟩
theorem ok_Lown_NoName (T : Top w K mg) {a : Addr} {oe : Obj} {cls : Value} {d : Option Addr} (hz : Zc cls d oe) (hf : ∃ vs, oe.data = .fields vs) : ExcM.FnP P w K mg base (a, oe) 1 T.a_Lown T.fd_Lown ["_law_e"] (spOwn T.a_NoName a cls d) := by
  refine ExcM.fun_okP T.F_Lown sc_Lown (fun vs H Q E h => ?_) (fun cdv A outer s H vs Q E hr h => ?_)
  · obtain ⟨rfl, _⟩ := h
    rfl
  · obtain ⟨rfl, rfl, dd, fs, rfl, hd, q⟩ := h
    refine ⟨_, (pss_cons (ps_set (i := 1) sc_Lown.nd rfl (.inl rfl) (pe_lst (pa_cons (pe_callB (ExcM.call_isP T.exc_NoName List.mem_cons_self hz hf) (by rfl) T.m_isinstance (by decide +kernel) (pa_cons (pv 0) (pa_cons (pe_glob (v := .ref T.a_NoLot) (by rfl) T.g_NoLot rfl) pa_nil))) (pa_cons (pe_callB (ExcM.call_isP T.exc_NoName List.mem_cons_self hz hf) (by rfl) T.m_isinstance (by decide +kernel) (pa_cons (pv 0) (pa_cons (pe_glob (v := .ref T.a_BadLog) (by rfl) T.g_BadLog rfl) pa_nil))) (pa_cons (pe_callB (ExcM.call_isP T.exc_NoName List.mem_cons_self hz hf) (by rfl) T.m_isinstance (by decide +kernel) (pa_cons (pv 0) (pa_cons (pe_glob (v := .ref T.a_NoDealing) (by rfl) T.g_NoDealing rfl) pa_nil))) (pa_cons (pe_callB (ExcM.call_isP T.exc_NoName List.mem_cons_self hz hf) (by rfl) T.m_isinstance (by decide +kernel) (pa_cons (pv 0) (pa_cons (pe_glob (v := .ref T.a_BadBox) (by rfl) T.g_BadBox rfl) pa_nil))) pa_nil))))))
      (pss_cons (ps_set (i := 1) sc_Lown.nd rfl (.inl rfl) (pe_op op_cat (pv 1) (pe_lst (pa_cons (pe_callB (ExcM.call_isP T.exc_NoName List.mem_cons_self hz hf) (by rfl) T.m_isinstance (by decide +kernel) (pa_cons (pv 0) (pa_cons (pe_glob (v := .ref T.a_NoName) (by rfl) T.g_NoName rfl) pa_nil))) (pa_cons (pe_callB (ExcM.call_isP T.exc_NoName List.mem_cons_self hz hf) (by rfl) T.m_isinstance (by decide +kernel) (pa_cons (pv 0) (pa_cons (pe_glob (v := .ref T.a_Twice) (by rfl) T.g_Twice rfl) pa_nil))) (pa_cons (pe_callB (ExcM.call_isP T.exc_NoName List.mem_cons_self hz hf) (by rfl) T.m_isinstance (by decide +kernel) (pa_cons (pv 0) (pa_cons (pe_glob (v := .ref T.a_NoWalker) (by rfl) T.g_NoWalker rfl) pa_nil))) pa_nil))))))
      (pss_one (ps_ret (pe_and (pe_cmpR op_eq (pe_bm PySem.F.plainAttrs_list PySem.F.slot_list_count PySem.F.type_list_count mt_countV (pv 1) (pa_cons pe_bl pa_nil)) pe_int (nomark _)) (pe_and (pe_callB (ExcM.call_isP T.exc_NoName List.mem_cons_self hz hf) (by rfl) T.m_isinstance (by decide +kernel) (pa_cons (pv 0) (pa_cons (pe_glob (v := .ref T.a_NeedleError) (by rfl) T.g_NeedleError rfl) pa_nil))) (pe_one (pe_callB (ExcM.call_isP T.exc_NoName List.mem_cons_self hz hf) (by rfl) T.m_isinstance (by decide +kernel) (pa_cons (pv 0) (pa_cons (pe_bltn (v := .ty "ValueError") (by rfl) T.m_ValueError (by decide +kernel) rfl) pa_nil)))))))))), ?_⟩
    have ro : ∀ {C : Addr} (u : Value), RelV (.ref C) u → u = .ref C := fun u h => h
    refine ⟨_, rfl, _, _, _, fs, rfl, ro, hd, T.kit_NoName_NoLot, _, rfl, _, _, _, fs, rfl, ro, hd, T.kit_NoName_BadLog, _, rfl, _, _, _, fs, rfl, ro, hd, T.kit_NoName_NoDealing, _, rfl, _, _, _, fs, rfl, ro, hd, T.kit_NoName_BadBox, by show 4 ≤ sizeLine; decide, fun l1 n1 => ?_⟩
    have s1 := same_upd (o := .lst [.bl false, .bl false, .bl false, .bl false]) n1
    have hd1 := s1 _ _ hd
    refine ⟨.ref l1, rfl, _, rfl, _, _, _, fs, rfl, ro, hd1, T.kit_NoName_NoName, _, rfl, _, _, _, fs, rfl, ro, hd1, T.kit_NoName_Twice, _, rfl, _, _, _, fs, rfl, ro, hd1, T.kit_NoName_NoWalker, by show 3 ≤ sizeLine; decide, fun l2 n2 => ?_⟩
    have s2 := same_upd (o := .lst [.bl true, .bl false, .bl false]) n2
    refine ⟨l1, l2, _, _, rfl, rfl, s2 _ _ upd_same, upd_same, by show 7 ≤ sizeLine; decide, fun l3 n3 => ?_⟩
    have s3 := same_upd (o := .lst ([.bl false, .bl false, .bl false, .bl false] ++ [.bl true, .bl false, .bl false])) n3
    have hd3 := s3 _ _ (s2 _ _ hd1)
    refine ⟨.ref l3, rfl, .inl ⟨rfl, _, .inl (.inl upd_same)⟩, l3, _, _, rfl, rfl, .inl (.inl upd_same), rfl, rfl, rfl, _, rfl, ite2 (fun _ => ?_) (fun z => absurd (decide_eq_true rfl) z)⟩
    refine ⟨_, rfl, _, _, _, fs, rfl, ro, hd3, T.kit_NoName_NeedleError, _, rfl, iteT ?_⟩
    exact ⟨_, rfl, _, _, _, fs, rfl, (fun u h => h), hd3, T.kit_VE_NoName, q _ ((s1.trans s2).trans s3)⟩
theorem ok_Lown_NoWalker (T : Top w K mg) {a : Addr} {oe : Obj} {cls : Value} {d : Option Addr} (hz : Zc cls d oe) (hf : ∃ vs, oe.data = .fields vs) : ExcM.FnP P w K mg base (a, oe) 1 T.a_Lown T.fd_Lown ["_law_e"] (spOwn T.a_NoWalker a cls d) := by
  refine ExcM.fun_okP T.F_Lown sc_Lown (fun vs H Q E h => ?_) (fun cdv A outer s H vs Q E hr h => ?_)
  · obtain ⟨rfl, _⟩ := h
    rfl
  · obtain ⟨rfl, rfl, dd, fs, rfl, hd, q⟩ := h
    refine ⟨_, (pss_cons (ps_set (i := 1) sc_Lown.nd rfl (.inl rfl) (pe_lst (pa_cons (pe_callB (ExcM.call_isP T.exc_NoWalker List.mem_cons_self hz hf) (by rfl) T.m_isinstance (by decide +kernel) (pa_cons (pv 0) (pa_cons (pe_glob (v := .ref T.a_NoLot) (by rfl) T.g_NoLot rfl) pa_nil))) (pa_cons (pe_callB (ExcM.call_isP T.exc_NoWalker List.mem_cons_self hz hf) (by rfl) T.m_isinstance (by decide +kernel) (pa_cons (pv 0) (pa_cons (pe_glob (v := .ref T.a_BadLog) (by rfl) T.g_BadLog rfl) pa_nil))) (pa_cons (pe_callB (ExcM.call_isP T.exc_NoWalker List.mem_cons_self hz hf) (by rfl) T.m_isinstance (by decide +kernel) (pa_cons (pv 0) (pa_cons (pe_glob (v := .ref T.a_NoDealing) (by rfl) T.g_NoDealing rfl) pa_nil))) (pa_cons (pe_callB (ExcM.call_isP T.exc_NoWalker List.mem_cons_self hz hf) (by rfl) T.m_isinstance (by decide +kernel) (pa_cons (pv 0) (pa_cons (pe_glob (v := .ref T.a_BadBox) (by rfl) T.g_BadBox rfl) pa_nil))) pa_nil))))))
      (pss_cons (ps_set (i := 1) sc_Lown.nd rfl (.inl rfl) (pe_op op_cat (pv 1) (pe_lst (pa_cons (pe_callB (ExcM.call_isP T.exc_NoWalker List.mem_cons_self hz hf) (by rfl) T.m_isinstance (by decide +kernel) (pa_cons (pv 0) (pa_cons (pe_glob (v := .ref T.a_NoName) (by rfl) T.g_NoName rfl) pa_nil))) (pa_cons (pe_callB (ExcM.call_isP T.exc_NoWalker List.mem_cons_self hz hf) (by rfl) T.m_isinstance (by decide +kernel) (pa_cons (pv 0) (pa_cons (pe_glob (v := .ref T.a_Twice) (by rfl) T.g_Twice rfl) pa_nil))) (pa_cons (pe_callB (ExcM.call_isP T.exc_NoWalker List.mem_cons_self hz hf) (by rfl) T.m_isinstance (by decide +kernel) (pa_cons (pv 0) (pa_cons (pe_glob (v := .ref T.a_NoWalker) (by rfl) T.g_NoWalker rfl) pa_nil))) pa_nil))))))
      (pss_one (ps_ret (pe_and (pe_cmpR op_eq (pe_bm PySem.F.plainAttrs_list PySem.F.slot_list_count PySem.F.type_list_count mt_countV (pv 1) (pa_cons pe_bl pa_nil)) pe_int (nomark _)) (pe_and (pe_callB (ExcM.call_isP T.exc_NoWalker List.mem_cons_self hz hf) (by rfl) T.m_isinstance (by decide +kernel) (pa_cons (pv 0) (pa_cons (pe_glob (v := .ref T.a_NeedleError) (by rfl) T.g_NeedleError rfl) pa_nil))) (pe_one (pe_callB (ExcM.call_isP T.exc_NoWalker List.mem_cons_self hz hf) (by rfl) T.m_isinstance (by decide +kernel) (pa_cons (pv 0) (pa_cons (pe_bltn (v := .ty "ValueError") (by rfl) T.m_ValueError (by decide +kernel) rfl) pa_nil)))))))))), ?_⟩
    have ro : ∀ {C : Addr} (u : Value), RelV (.ref C) u → u = .ref C := fun u h => h
    refine ⟨_, rfl, _, _, _, fs, rfl, ro, hd, T.kit_NoWalker_NoLot, _, rfl, _, _, _, fs, rfl, ro, hd, T.kit_NoWalker_BadLog, _, rfl, _, _, _, fs, rfl, ro, hd, T.kit_NoWalker_NoDealing, _, rfl, _, _, _, fs, rfl, ro, hd, T.kit_NoWalker_BadBox, by show 4 ≤ sizeLine; decide, fun l1 n1 => ?_⟩
    have s1 := same_upd (o := .lst [.bl false, .bl false, .bl false, .bl false]) n1
    have hd1 := s1 _ _ hd
    refine ⟨.ref l1, rfl, _, rfl, _, _, _, fs, rfl, ro, hd1, T.kit_NoWalker_NoName, _, rfl, _, _, _, fs, rfl, ro, hd1, T.kit_NoWalker_Twice, _, rfl, _, _, _, fs, rfl, ro, hd1, T.kit_NoWalker_NoWalker, by show 3 ≤ sizeLine; decide, fun l2 n2 => ?_⟩
    have s2 := same_upd (o := .lst [.bl false, .bl false, .bl true]) n2
    refine ⟨l1, l2, _, _, rfl, rfl, s2 _ _ upd_same, upd_same, by show 7 ≤ sizeLine; decide, fun l3 n3 => ?_⟩
    have s3 := same_upd (o := .lst ([.bl false, .bl false, .bl false, .bl false] ++ [.bl false, .bl false, .bl true])) n3
    have hd3 := s3 _ _ (s2 _ _ hd1)
    refine ⟨.ref l3, rfl, .inl ⟨rfl, _, .inl (.inl upd_same)⟩, l3, _, _, rfl, rfl, .inl (.inl upd_same), rfl, rfl, rfl, _, rfl, ite2 (fun _ => ?_) (fun z => absurd (decide_eq_true rfl) z)⟩
    refine ⟨_, rfl, _, _, _, fs, rfl, ro, hd3, T.kit_NoWalker_NeedleError, _, rfl, iteT ?_⟩
    exact ⟨_, rfl, _, _, _, fs, rfl, (fun u h => h), hd3, T.kit_VE_NoWalker, q _ ((s1.trans s2).trans s3)⟩
theorem nm_at : (PySem.Str.ofString "name" == PySem.Str.ofString "at") = false := by decide +kernel
/-! ### an atlas is asked for one with a log, or without one -/
/-- what refuses it: who is asked for, among whom, with which log (none: without one) -/
def refusal (rs : List Row) (d : PyData) : Option (List PyData) → Option PyData
  | none => if inW d (nms rs) = true then none else some (.tuple [.str "NoWalker", d])
  | some es => match nameD d with
    | none => some (.tuple [.str "NoName", d])
    | some z => match badAt false 0 es with
      | some i => some (.tuple [.str "BadLog", .str z, .int (i : Int)])
      | none => none
/-- the rows after it -/
def After (rs : List Row) (d : PyData) (rs' : List Row) : Option (List PyData) → Prop
  | none => rs'.Perm (withQ rs d)
  | some es => ∃ z ents, d = .str z ∧ es.map tupD = ents.map Ent.tup ∧ RowOk (z, ents) ∧ rs'.Perm (withQ rs d ++ [(z, ents)])
def LogIn (K : PySem.W.Frag) (H : Hp) (v : V) : Option (List PyData) → Prop
  | none => v = .non
  | some es => ∃ lg xs, v = .ref lg ∧ SqA K H lg xs ∧ DpAll K H xs es ∧ (∀ e ∈ es, ge e = true) ∧ es.length ≤ 100
def spAsked (K : PySem.W.Frag) (T : Top w K mg) : Sp := fun vs H Q _ => ∃ (x : Addr) (nv lv : V) (d : PyData) (lo : Option (List PyData)) (box : List Nat) (rs : List Row), vs = [.ref x, nv, lv] ∧ AtlasAt K T.a_Atlas H x box rs ∧ box.length = 8 ∧ boxR (box.map fun n : Nat => PyData.int (n : Nat)) = none ∧ Dp K H nv d ∧ gp d = true ∧ siz d ≤ 1000 ∧ LogIn K H lv lo ∧ Srt rs ∧ (∀ r ∈ rs, RowOk r) ∧ rs.length ≤ 50 ∧
  (∀ H' r a, Same H H' → refusal rs d lo = some a → Dp K H' (.ref r) a → Q (.ref r) H') ∧ (refusal rs d lo = none → ∀ H' r y rs', Same H H' → After rs d rs' lo → Srt rs' → H' r = some (.tup [.str "told", .ref y]) → AtlasAt K T.a_Atlas H' y box rs' → Q (.ref r) H')
theorem ok_Lasked (T : Top w K mg) : FnOk P w K mg base CX0 13 T.a_Lasked T.fd_Lasked ["_law_atlas", "_law_name_here", "_law_log"] (spAsked K T) := by
  have G_Atlas_with_log := ok_with_log (P := P) (w := w) (base := base) T
  have G_Atlas_without := ok_without (P := P) (w := w) (base := base) T
  refine T.F_Lasked.ok sc_Lasked (fun vs H Q E h => ?_) (fun cdv A outer s H vs Q E hr h => ?_)
  · obtain ⟨x, nv, lv, d, lo, box, rs, rfl, _⟩ := h
    rfl
  · obtain ⟨x, nv, lv, d, lo, box, rs, rfl, hA, h8, hb, hd, hg, hz, hl, hsrt, hok, hlen, no, q⟩ := h
    refine ⟨_, (pss_one (TryAs.ps_try_all (i := 3) rfl rfl sc_Lasked.nd rfl rfl takes0 (fun W pn xe tk _ => (pss_cons (ps_if (pt_cmpR op_isN (pv 2) pe_non (nomark _)) (pss_one (ps_ret (pe_tup (pa_cons pe_str (pa_cons (MethE.pe_methS (pv 0) T.cl_Atlas T.me_Atlas_without G_Atlas_without hr T.b_Atlas_without (fun σ => passAt tk σ) (pa_cons (pv 1) pa_nil)) pa_nil))))) pss_nil)
      (pss_one (ps_ret (pe_tup (pa_cons pe_str (pa_cons (MethE.pe_methS (pv 0) T.cl_Atlas T.me_Atlas_with_log G_Atlas_with_log hr T.b_Atlas_with_log (fun σ => passAt tk σ) (pa_cons (pv 1) (pa_cons (pv 2) pa_nil))) pa_nil))))))) (.cons ⟨rfl, by decide, .inl T.g_NoName⟩ (fun a oe cls d pn hz hf => (pss_one (ps_ret (pe_ifExp (pt_val (ExcM.pe_callP (ok_Lown_NoName (P := P) (w := w) (base := base) T hz hf) ⟨(L2H.roomH_of (hr.mono (by decide : 1 ≤ 12))).dp, (L2H.roomH_of (hr.mono (by decide : 1 ≤ 12))).un⟩ List.mem_cons_self (by rfl) T.g_Lown T.F_Lown.kp T.b_Lown (pa_cons (pv 3) pa_nil))) (pe_tup (pa_cons pe_str (pa_cons (pe_xf T.xf_NoName T.no_NoName_name hz hf (pv 3)) pa_nil))) (pe_tup (pa_cons pe_str pa_nil)))))) (.cons ⟨rfl, by decide, .inl T.g_BadLog⟩ (fun a oe cls d pn hz hf => (pss_one (ps_ret (pe_ifExp (pt_val (ExcM.pe_callP (ok_Lown (P := P) (w := w) (base := base) T hz hf) ⟨(L2H.roomH_of (hr.mono (by decide : 1 ≤ 12))).dp, (L2H.roomH_of (hr.mono (by decide : 1 ≤ 12))).un⟩ List.mem_cons_self (by rfl) T.g_Lown T.F_Lown.kp T.b_Lown (pa_cons (pv 3) pa_nil))) (pe_tup (pa_cons pe_str (pa_cons (pe_xf T.xf T.no_name hz hf (pv 3)) (pa_cons (pe_xf T.xf T.no_at hz hf (pv 3)) pa_nil)))) (pe_tup (pa_cons pe_str pa_nil)))))) (.cons ⟨rfl, by decide, .inl T.g_NoWalker⟩ (fun a oe cls d pn hz hf => (pss_one (ps_ret (pe_ifExp (pt_val (ExcM.pe_callP (ok_Lown_NoWalker (P := P) (w := w) (base := base) T hz hf) ⟨(L2H.roomH_of (hr.mono (by decide : 1 ≤ 12))).dp, (L2H.roomH_of (hr.mono (by decide : 1 ≤ 12))).un⟩ List.mem_cons_self (by rfl) T.g_Lown T.F_Lown.kp T.b_Lown (pa_cons (pv 3) pa_nil))) (pe_tup (pa_cons pe_str (pa_cons (pe_xf T.xf_NoWalker T.no_NoWalker_name hz hf (pv 3)) pa_nil))) (pe_tup (pa_cons pe_str pa_nil)))))) .nil))))), ?_⟩
    have fin : ∀ (vs : List V) (H' : Hp) (ds : List PyData), Same H H' → refusal rs d lo = some (.tuple ds) → (∀ H'', Same H' H'' → DpAll K H'' vs ds) → ∀ r, H' r = none → Q (.ref r) (upd H' r (.tup vs)) := fun vs H' ds s' e hd r nr => no _ r _ (s'.trans (same_upd nr)) e (.tup (.inl (.inl upd_same)) (hd _ (same_upd nr)))
    have hA' := hA
    obtain ⟨dx, b, n, l, ls, on, po, h1, _⟩ := hA'
    cases lo with
    | none =>
      cases (show lv = .non from hl)
      refine ⟨_, rfl, rfl, _, rfl, iteDY (decide_eq_true rfl) ⟨.ref x, rfl, x, dx, _, rfl, h1, rfl, nv, rfl, x, nv, d, box, rs, rfl, hA, h8, hb, hd, hg, hz, hsrt, hok, hlen, fun hx H' y rs' s' prm srt at_ => ⟨by show 2 ≤ sizeLine; decide, fun r nr => q ?_ _ r y rs' (s'.trans (same_upd nr)) prm srt upd_same (at_.same (same_upd nr))⟩, fun hno H' dd v' s' nd ed hv => ?_⟩⟩
      · exact if_pos (inW_nms.mpr hx)
      · refine ⟨false, T.exn_NoWalker_NoName, (fun y => Bool.noConfusion y), fun _ => ⟨false, T.exn_NoWalker_BadLog, (fun y => Bool.noConfusion y), fun _ => ⟨true, T.exm_NoWalker, (fun _ a0 _ => ⟨.ref a0, rfl, rfl, rfl, dd, _, rfl, ed, fun H2 s2 => ⟨_, rfl, iteT ⟨.ref a0, rfl, rfl, rfl, dd, _, v', rfl, s2 _ _ ed, by simp [List.lookup], by show 2 ≤ sizeLine; decide, fin _ H2 _ (s'.trans s2) (if_neg fun h => ?_) (fun H'' s'' => .cons (.str _) (.cons (dp_same (s2.trans s'') _ _ hv) .nil))⟩⟩⟩), fun y => Bool.noConfusion y⟩⟩⟩
        obtain ⟨r, hr, e⟩ := inW_nms.mp h
        exact hno r hr e
    | some es =>
      obtain ⟨lg, xs, rfl, hlg, hxs, hge, hle⟩ := hl
      refine ⟨_, rfl, rfl, _, rfl, iteDN (decide_eq_false (fun h => nomatch h)) ⟨.ref x, rfl, x, dx, _, rfl, h1, rfl, nv, rfl, .ref lg, rfl, x, lg, nv, d, xs, es, box, rs, rfl, hA, h8, hb, hd, hlg, hxs, ⟨hg, hz, hge, hle⟩, hsrt, hok, hlen, fun en H' dd v' s' nd ed hv => ?_, fun z i en eb H' dd s' nd ed => ?_, fun z en eb H' y rs' ents s' et ro prm srt at_ => ⟨by show 2 ≤ sizeLine; decide, fun r nr => q ?_ _ r y rs' (s'.trans (same_upd nr)) ?_ srt upd_same (at_.same (same_upd nr))⟩⟩⟩
      · exact ⟨true, T.exm_NoName, (fun _ a0 _ => ⟨.ref a0, rfl, rfl, rfl, dd, _, rfl, ed, fun H2 s2 => ⟨_, rfl, iteT ⟨.ref a0, rfl, rfl, rfl, dd, _, v', rfl, s2 _ _ ed, by simp [List.lookup], by show 2 ≤ sizeLine; decide, fin _ H2 _ (s'.trans s2) (by show (match nameD d with | none => _ | some z => _) = _; rw [en]) (fun H'' s'' => .cons (.str _) (.cons (dp_same (s2.trans s'') _ _ hv) .nil))⟩⟩⟩), fun y => Bool.noConfusion y⟩
      · exact ⟨false, T.exn_BadLog_NoName, (fun y => Bool.noConfusion y), fun _ => ⟨true, T.exm, (fun _ a0 _ => ⟨.ref a0, rfl, rfl, rfl, dd, _, rfl, ed, fun H2 s2 => ⟨_, rfl, iteT ⟨.ref a0, rfl, rfl, rfl, dd, _, .str z, rfl, s2 _ _ ed, by simp [List.lookup, nm_at], .ref a0, rfl, rfl, rfl, dd, _, .int (i : Nat), rfl, s2 _ _ ed, by simp [List.lookup], by show 3 ≤ sizeLine; decide, fin _ H2 _ (s'.trans s2) (by show (match nameD d with | none => _ | some z => _) = _; rw [en]; show (match badAt false 0 es with | some i => _ | none => _) = _; rw [eb]) (fun H'' s'' => .cons (.str _) (.cons (.str _) (.cons (.int _) .nil)))⟩⟩⟩), fun y => Bool.noConfusion y⟩⟩
      · show (match nameD d with | none => _ | some z => _) = _
        rw [en]
        show (match badAt false 0 es with | some i => _ | none => _) = _
        rw [eb]
      · exact ⟨z, ents, (name_str hd en).2, et, ro, prm⟩
--@@SPLIT
/-! ### the law's own reading of names and signs -/
theorem ok_Lis_name (T : Top w K mg) : FnOk P w K mg base CX0 1 T.a_Lis_name T.fd_Lis_name ["_law_thing"] (spIsV K nmV) := by
  refine T.F_Lis_name.ok sc_Lis_name (fun vs H Q E h => ?_) (fun cdv A outer s H vs Q E hr h => ?_)
  · obtain ⟨v, rfl, _⟩ := h
    rfl
  · obtain ⟨v, rfl, hv, q⟩ := h
    refine ⟨_, (pss_cons (ps_if (PW.pt (pw_or (pt_not (pt_val (pe_callB call_isi (by rfl) T.m_isinstance (by decide +kernel) (pa_cons (pv 0) (pa_cons (pe_bltn (v := .ty "str") (by rfl) T.m_str (by decide +kernel) rfl) pa_nil))))) (pw_or1 (pt_not (pt_chain op_lt op_lt pe_int (pe_callB call_len_str (by rfl) T.m_len (by decide +kernel) (pa_cons (pv 0) pa_nil)) pe_int))))) (pss_one (ps_ret pe_bl)) pss_nil)
      (pss_one (ps_ret (pe_callB (cr_all rfl) (by rfl) T.m_all (by decide +kernel) (pa_cons (pe_lc (own := [("_law_letter", 1)]) (g := gName 1) (by rfl) sc_Lis_name.nd (pi_str (pv 0)) (blkOk_by (own := [("_law_letter", 1)]) (N := ["_law_thing", "_law_letter"]) (sc := defScope s_Lis_name) (by decide +kernel)) (fun _ _ _ _ _ => (pg_name (i := 1) sc_Lis_name.nd rfl (Or.inl rfl))) (fun _ _ _ _ _ => pts_nil) (fun _ _ _ _ _ => (pe_cmpR op_in_sign (pv 1) pe_str (by rfl)))) pa_nil))))), ?_⟩
    rcases hv with ⟨z, rfl, hz⟩ | ⟨no, t, ty, k⟩
    · refine ⟨.str z, rfl, _, _, _, _, true, rfl, .ty _, .base (.str z), kit_ty (by decide +kernel), _, rfl, iteF ?_⟩
      have e0 : shV (.str z) = (decide (0 < (z.length : Int)) && decide ((z.length : Int) < 9)) := by
        show (decide (1 ≤ (z.cps.toList.length : Int)) && decide ((z.cps.toList.length : Int) ≤ 8)) = _
        rw [len_toList]
        by_cases h1 : 0 < (z.length : Int)
        · rw [decide_eq_true h1, decide_eq_true (show 1 ≤ (z.length : Int) by omega)]
          by_cases h2 : (z.length : Int) < 9
          · rw [decide_eq_true h2, decide_eq_true (show (z.length : Int) ≤ 8 by omega)]
          · rw [decide_eq_false h2, decide_eq_false (show ¬ (z.length : Int) ≤ 8 by omega)]
        · rw [decide_eq_false h1, decide_eq_false (show ¬ 1 ≤ (z.length : Int) by omega)]
          rfl
      have no : shV (.str z) = false → Q (.bl false) H := fun e => by
        have h := q H (Same.refl H)
        rw [show nmV (.str z) = false by show (shV (.str z) && z.cps.toList.all smC) = _; rw [e]; rfl] at h
        exact h
      refine ⟨.str z, rfl, z, rfl, thou hz, _, _, rfl, rfl, _, rfl, ite2 (fun e => ?_) (fun e => ?_)⟩
      · refine ⟨_, _, rfl, rfl, _, rfl, ?_⟩
        by_cases h2 : (z.length : Int) < 9
        · refine iteDN (by rw [decide_eq_true h2]; rfl) ?_
          refine ⟨.str z, rfl, z, rfl, fun D hD => lc_it walk_str (fun i H' => Same H H' ∧ H' D = some (.lst (((z.cps.toList.take i).map smC).map V.bl))) ⟨same_upd hD, upd_same⟩ (fun _ _ _ _ => trivial) ?_ ?_⟩
          · rintro i x H1 H2 hi ⟨sm, eD⟩ ⟨rfl, c, hc, rfl⟩
            refine ⟨rfl, ?_⟩
            refine ⟨_, rfl, c, _, rfl, rfl, _, eD, ?_, ?_, ?_⟩
            · rw [List.length_map, List.length_map, List.length_take, len_toList]
              exact small1000 (by omega)
            · exact fun b' o e => by
                rw [upd_ne (ne_of_none e hD)]
                exact sm _ _ e
            · rw [upd_same, List.take_add_one, Array.getElem?_toList, hc, List.map_append, List.map_append]
              rfl
          · rintro H1 ⟨sm, eD⟩
            have e2 : z.cps.toList.take z.cps.size = z.cps.toList := List.take_of_length_le (by rw [Array.length_toList]; exact Nat.le_refl _)
            rw [e2] at eD
            refine ⟨_, z.cps.toList.map smC, rfl, .inl (.inl eD), ?_⟩
            rw [all_map]
            have h := q _ sm
            rw [show nmV (.str z) = z.cps.toList.all smC by show (shV (.str z) && z.cps.toList.all smC) = _; rw [e0, e, decide_eq_true h2]; rfl] at h
            exact h
        · refine iteDY (by rw [decide_eq_false h2]; rfl) (no ?_)
          rw [e0, decide_eq_false h2, Bool.and_false]
      · refine ⟨_, rfl, no ?_⟩
        rw [e0, Bool.eq_false_iff.mpr e]
        rfl
    · have h := q H (Same.refl H)
      rw [(nmV_no no).1] at h
      exact ⟨v, rfl, _, _, _, _, false, rfl, .ty _, ty, kit_ty k, _, rfl, iteT h⟩
theorem app_one (c : Nat) (r : List Nat) : (⟨#[c]⟩ : Str) ++ (⟨⟨r⟩⟩ : Str) = ⟨⟨c :: r⟩⟩ := by
  show (⟨#[c] ++ (⟨r⟩ : Array Nat)⟩ : Str) = ⟨⟨c :: r⟩⟩
  rw [show (#[c] ++ (⟨r⟩ : Array Nat)) = ⟨c :: r⟩ from Array.ext' (by rw [Array.toList_append]; rfl)]
theorem sm97 : smC 97 = true := by decide +kernel
theorem gr_sm : ∀ c, grC c = true → smC c = false := by
  intro c h
  have h1 : c ∈ GREATs.cps.toList := of_decide_eq_true h
  have h2 : ∀ x ∈ GREATs.cps.toList, smC x = false := by decide +kernel
  exact h2 c h1
theorem sg_cons (c : Nat) (r : List Nat) : (nmL (c :: r) || loL (c :: r)) = nmL ((if grC c = true then 97 else c) :: r) := by
  show (shL (c :: r) && (c :: r).all smC || shL (c :: r) && (grC c && r.all smC)) = (shL ((if grC c = true then 97 else c) :: r) && ((if grC c = true then 97 else c) :: r).all smC)
  by_cases h : grC c = true
  · rw [if_pos h, List.all_cons, List.all_cons, gr_sm c h, sm97, h]
    rw [Bool.false_and, Bool.and_false, Bool.false_or]
    rfl
  · rw [if_neg h, Bool.eq_false_iff.mpr h, Bool.false_and, Bool.and_false, Bool.or_false]
theorem sA : PySem.Str.ofString "a" = (⟨#[97]⟩ : Str) := by decide +kernel
theorem ok_Lis_sign (T : Top w K mg) : FnOk P w K mg base CX0 2 T.a_Lis_sign T.fd_Lis_sign ["_law_thing"] (spIsV K sgV) := by
  have G_Lis_name := ok_Lis_name (P := P) (w := w) (base := base) T
  refine T.F_Lis_sign.ok sc_Lis_sign (fun vs H Q E h => ?_) (fun cdv A outer s H vs Q E hr h => ?_)
  · obtain ⟨v, rfl, _⟩ := h
    rfl
  · obtain ⟨v, rfl, hv, q⟩ := h
    refine ⟨_, (pss_cons (ps_if (PW.pt (pw_or (pt_not (pt_val (pe_callB call_isi (by rfl) T.m_isinstance (by decide +kernel) (pa_cons (pv 0) (pa_cons (pe_bltn (v := .ty "str") (by rfl) T.m_str (by decide +kernel) rfl) pa_nil))))) (pw_or1 (pt_cmpR op_eq (pv 0) pe_str (nomark _))))) (pss_one (ps_ret pe_bl)) pss_nil)
      (pss_cons (ps_set (i := 1) sc_Lis_sign.nd rfl (.inl rfl) (pe_ix ix_str (pv 0) pe_int (fun _ _ => rfl)))
      (pss_cons (ps_if (pt_cmpR op_in_sign (pv 1) pe_str (by rfl)) (pss_one (ps_set (i := 1) sc_Lis_sign.nd rfl (.inl rfl) pe_str)) pss_nil)
      (pss_one (ps_ret (pe_call G_Lis_name hr (by rfl) T.g_Lis_name T.F_Lis_name.kp T.b_Lis_name .nil pass0 (pa_cons (pe_op op_add_str (pv 1) (pe_slice sl_str (pv 0) (po_some pe_int) po_none)) pa_nil))))))), ?_⟩
    rcases hv with ⟨⟨⟨cs⟩⟩, rfl, hz⟩ | ⟨no, t, ty, k⟩
    · refine ⟨_, rfl, _, _, _, _, true, rfl, .ty _, .base (.str _), kit_ty (by decide +kernel), _, rfl, iteF ?_⟩
      refine ⟨_, rfl, rfl, _, rfl, ?_⟩
      match cs, hz, q with
      | [], _, q =>
        refine iteDY (by rw [s0]; exact decide_eq_true rfl) (q H (Same.refl H))
      | c :: r, hz, q =>
        have hz2 : r.length + 1 ≤ 1000 := hz
        refine iteDN (decide_eq_false (by rw [s0]; intro z; cases z)) ?_
        refine ⟨_, rfl, _, 0, c, rfl, rfl, thou hz, atI_nat (j := 0) rfl, ?_⟩
        have fin : ∀ (d : Nat) (H' : Hp), Same H H' → d = (if grC c = true then 97 else c) → Q (.bl (nmL (d :: r))) H' := fun d H' sm e => by
          have h := q H' sm
          rw [show sgV (.str ⟨⟨c :: r⟩⟩) = nmL (d :: r) by rw [e]; exact sg_cons c r] at h
          exact h
        refine ⟨_, rfl, c, _, rfl, rfl, _, rfl, ite2 (fun e => ?_) (fun e => ?_)⟩
        · rw [sA]
          refine ⟨_, rfl, _, rfl, 1, rfl, _, rfl, thou hz, ?_⟩
          rw [cut_tail]
          refine ⟨_, _, rfl, rfl, thou (by show 1 + r.length ≤ 1000; omega), _, rfl, .inl ⟨_, rfl, by rw [app_one]; exact hz⟩, fun H' sm => ?_⟩
          rw [app_one]
          exact fin 97 H' sm (if_pos e).symm
        · refine ⟨_, rfl, _, rfl, 1, rfl, _, rfl, thou hz, ?_⟩
          rw [cut_tail]
          refine ⟨_, _, rfl, rfl, thou (by show 1 + r.length ≤ 1000; omega), _, rfl, .inl ⟨_, rfl, by rw [app_one]; exact hz⟩, fun H' sm => ?_⟩
          rw [app_one]
          exact fin c H' sm (if_neg e).symm
    · have h := q H (Same.refl H)
      rw [show sgV v = false by unfold sgV; rw [(nmV_no no).1, (nmV_no no).2.1]; rfl] at h
      exact ⟨v, rfl, _, _, _, _, false, rfl, .ty _, ty, kit_ty k, _, rfl, iteT h⟩
/-! ### the law's reading of an entry -/
theorem ok_LwholeD (T : Top w K mg) : FnOk P w K mg base CX0 1 T.a_Lwhole T.fd_Lwhole ["_law_thing"] (spWholeD K) := by
  refine T.F_Lwhole.ok sc_Lwhole (fun vs H Q E h => ?_) (fun cdv A outer s H vs Q E hr h => ?_)
  · obtain ⟨v, d, rfl, _⟩ := h
    rfl
  · obtain ⟨v, d, rfl, hd, q⟩ := h
    refine ⟨_, (pss_one (ps_ret (pe_and (pe_callB call_isi (by rfl) T.m_isinstance (by decide +kernel) (pa_cons (pv 0) (pa_cons (pe_bltn (v := .ty "int") (by rfl) T.m_int (by decide +kernel) rfl) pa_nil))) (pe_one (pe_not (pe_callB call_isi (by rfl) T.m_isinstance (by decide +kernel) (pa_cons (pv 0) (pa_cons (pe_bltn (v := .ty "bool") (by rfl) T.m_bool (by decide +kernel) rfl) pa_nil)))))))), ?_⟩
    cases hd with
    | non => exact ⟨.non, rfl, _, _, _, _, false, rfl, .ty _, .base .non, kit_ty (by decide +kernel), _, rfl, iteF q⟩
    | bl b => exact ⟨.bl b, rfl, _, _, _, _, true, rfl, .ty _, .base (.bl b), kit_ty (by decide +kernel), _, rfl, iteT ⟨.bl b, rfl, _, _, _, _, true, rfl, .ty _, .base (.bl b), kit_ty (by decide +kernel), _, rfl, q⟩⟩
    | int i => exact ⟨.int i, rfl, _, _, _, _, true, rfl, .ty _, .base (.int i), kit_ty (by decide +kernel), _, rfl, iteT ⟨.int i, rfl, _, _, _, _, false, rfl, .ty _, .base (.int i), kit_ty (by decide +kernel), _, rfl, q⟩⟩
    | str z => exact ⟨.str z, rfl, _, _, _, _, false, rfl, .ty _, .base (.str z), kit_ty (by decide +kernel), _, rfl, iteF q⟩
    | lst h _ => exact ⟨_, rfl, _, _, _, _, false, rfl, .ty _, ty_lst h, kit_ty (by decide +kernel), _, rfl, iteF q⟩
    | tup h _ => exact ⟨_, rfl, _, _, _, _, false, rfl, .ty _, ty_tup h, kit_ty (by decide +kernel), _, rfl, iteF q⟩
theorem many10 (i : Int) : manyD (.int i) = (decide (0 < i) && decide (i < 10)) := by
  show (decide (1 ≤ i) && decide (i ≤ 9)) = _
  by_cases h : i < 10
  · rw [decide_eq_true h, decide_eq_true (show i ≤ 9 by omega)]
    by_cases h2 : 0 < i
    · rw [decide_eq_true h2, decide_eq_true (show 1 ≤ i by omega)]
    · rw [decide_eq_false h2, decide_eq_false (show ¬ 1 ≤ i by omega)]
  · rw [decide_eq_false h, decide_eq_false (show ¬ i ≤ 9 by omega), Bool.and_false, Bool.and_false]
theorem ok_Lis_many (T : Top w K mg) : FnOk P w K mg base CX0 2 T.a_Lis_many T.fd_Lis_many ["_law_thing"] (spPart K manyD) := by
  have G_Lwhole := ok_LwholeD (P := P) (w := w) (base := base) T
  refine T.F_Lis_many.ok sc_Lis_many (fun vs H Q E h => ?_) (fun cdv A outer s H vs Q E hr h => ?_)
  · obtain ⟨v, d, rfl, _⟩ := h
    rfl
  · obtain ⟨v, d, rfl, g, hd, q⟩ := h
    refine ⟨_, (pss_one (ps_ret (pe_and (pe_call G_Lwhole hr (by rfl) T.g_Lwhole T.F_Lwhole.kp T.b_Lwhole .nil pass0 (pa_cons (pv 0) pa_nil)) (pe_one (pe_chain op_lt op_lt pe_int (pv 0) pe_int))))), ?_⟩
    refine ⟨v, rfl, v, d, rfl, hd, _, rfl, ?_⟩
    have q := q H (Same.refl H)
    cases hd with
    | int i =>
      rw [many10] at q
      refine iteT ⟨.int i, rfl, _, _, rfl, rfl, _, rfl, ite2 (fun e => ?_) (fun e => ?_)⟩
      · refine ⟨_, _, rfl, rfl, ?_⟩
        rw [e] at q
        exact q
      · rw [Bool.eq_false_iff.mpr e] at q
        exact q
    | non => exact iteF q
    | bl b => exact iteF q
    | str z => exact iteF q
    | lst h _ => exact iteF q
    | tup h _ => exact iteF q
--@@SPLIT
theorem inW_str {z : Str} {ws : List Str} (h : inW (.str z) ws = true) : z ∈ ws := by
  obtain ⟨s, hs, e⟩ := List.any_eq_true.mp h
  have e2 : s = z := beq_iff_eq.mp e
  subst e2
  exact hs
theorem eqS_str {d : PyData} {s : Str} (h : eqS d s = true) : d = .str s := by
  cases d with
  | str z =>
    have e2 : s = z := beq_iff_eq.mp h
    rw [e2]
  | _ => cases h
theorem alone_no {a : PyData} (h : inW a wAlone = true) : eqS a "face" = false ∧ eqS a "go" = false ∧ eqS a "sign" = false ∧ eqS a "spy" = false := by
  cases a with
  | str z =>
    have all : ∀ z ∈ wAlone, eqS (.str z) "face" = false ∧ eqS (.str z) "go" = false ∧ eqS (.str z) "sign" = false ∧ eqS (.str z) "spy" = false := by decide +kernel
    exact all z (inW_str h)
  | _ => exact ⟨rfl, rfl, rfl, rfl⟩
def at1 (f : PyData → Bool) : List PyData → Bool
  | [_, b] => f b
  | _ => false
def at12 (f g : PyData → Bool) : List PyData → Bool
  | [_, b, c] => f b && g c
  | _ => false
def lawE (a : PyData) (ds : List PyData) : Bool :=
  if inW a wAlone = true then decide (V.int (ds.length : Int) = V.int 1) else if eqS a "face" = true then at1 letD ds else if eqS a "go" = true then at1 manyD ds else if eqS a "sign" = true then at1 sgD ds else eqS a "spy" && at12 manyD sgD ds
theorem ent_law (a : PyData) (r : List PyData) : entL (a :: r) = lawE a (a :: r) := by
  unfold lawE
  by_cases h0 : inW a wAlone = true
  · obtain ⟨n1, n2, n3, n4⟩ := alone_no h0
    rw [if_pos h0]
    match r with
    | [] => exact h0
    | [b] => show pairD a b = false; unfold pairD; rw [n1, n2, n3]; rfl
    | [b, c] => show (eqS a "spy" && _) = false; rw [n4]; rfl
    | b :: c :: d :: e =>
      show false = _
      rw [decide_eq_false]
      intro z
      have := V.int.inj z
      simp at this
      omega
  · rw [if_neg h0]
    by_cases h1 : eqS a "face" = true
    · rw [if_pos h1]
      have e := eqS_str h1
      subst e
      match r with
      | [] => exact Bool.eq_false_iff.mpr h0
      | [b] => rfl
      | [b, c] => rfl
      | b :: c :: d :: e => rfl
    · rw [if_neg h1]
      by_cases h2 : eqS a "go" = true
      · rw [if_pos h2]
        have e := eqS_str h2
        subst e
        match r with
        | [] => exact Bool.eq_false_iff.mpr h0
        | [b] => rfl
        | [b, c] => rfl
        | b :: c :: d :: e => rfl
      · rw [if_neg h2]
        by_cases h3 : eqS a "sign" = true
        · rw [if_pos h3]
          have e := eqS_str h3
          subst e
          match r with
          | [] => exact Bool.eq_false_iff.mpr h0
          | [b] => rfl
          | [b, c] => rfl
          | b :: c :: d :: e => rfl
        · rw [if_neg h3]
          match r with
          | [] => show inW a wAlone = (eqS a "spy" && false); rw [Bool.eq_false_iff.mpr h0, Bool.and_false]
          | [b] => show pairD a b = (eqS a "spy" && false); unfold pairD; rw [Bool.eq_false_iff.mpr h1, Bool.eq_false_iff.mpr h2, Bool.eq_false_iff.mpr h3, Bool.and_false]; rfl
          | [b, c] => rfl
          | b :: c :: d :: e => show false = (eqS a "spy" && false); rw [Bool.and_false]
theorem ent_nostr {a : PyData} {r : List PyData} (h : strD a = false) : entL (a :: r) = false := by
  rw [ent_law]
  have n : ∀ s, eqS a s = false := fun s => by cases a <;> first | rfl | cases h
  have i : inW a wAlone = false := by
    show (eqS a _ || (eqS a _ || (eqS a _ || (eqS a _ || (eqS a _ || (eqS a _ || false)))))) = false
    rw [n, n, n, n, n, n]
    rfl
  unfold lawE
  rw [i, n, n, n, n]
  rfl
theorem let_str {b : PyData} (h : strD b = false) : letD b = false := by
  cases b <;> first | rfl | cases h
theorem ok_Lis_entry (T : Top w K mg) : FnOk P w K mg base CX0 3 T.a_Lis_entry T.fd_Lis_entry ["_law_thing"] (spEntry K) := by
  have G_Lis_many := ok_Lis_many (P := P) (w := w) (base := base) T
  have G_Lis_sign := ok_Lis_sign (P := P) (w := w) (base := base) T
  refine T.F_Lis_entry.ok sc_Lis_entry (fun vs H Q E h => ?_) (fun cdv A outer s H vs Q E hr h => ?_)
  · obtain ⟨v, d, rfl, _⟩ := h
    rfl
  · obtain ⟨v, d, rfl, g, hd, q⟩ := h
    refine ⟨_, (pss_cons (ps_if (PW.pt (pw_or (pt_not (pt_val (pe_callB call_isiT (by rfl) T.m_isinstance (by decide +kernel) (pa_cons (pv 0) (pa_cons (pe_tup (pa_cons (pe_bltn (v := .ty "tuple") (by rfl) T.m_tuple (by decide +kernel) rfl) (pa_cons (pe_bltn (v := .ty "list") (by rfl) T.m_list (by decide +kernel) rfl) pa_nil))) pa_nil))))) (pw_or (pt_cmpR op_eq (pe_callB call_len_seq (by rfl) T.m_len (by decide +kernel) (pa_cons (pv 0) pa_nil)) pe_int (nomark _)) (pw_or1 (pt_not (pt_val (pe_callB call_isi (by rfl) T.m_isinstance (by decide +kernel) (pa_cons (pe_ix ix_seq (pv 0) pe_int (fun _ _ => rfl)) (pa_cons (pe_bltn (v := .ty "str") (by rfl) T.m_str (by decide +kernel) rfl) pa_nil))))))))) (pss_one (ps_ret pe_bl)) pss_nil)
      (pss_cons (ps_if (pt_cmpR (op_inA (units65 hr)) (pe_ix ix_seq (pv 0) pe_int (fun _ _ => rfl)) (pe_tup (pa_cons pe_str (pa_cons pe_str (pa_cons pe_str (pa_cons pe_str (pa_cons pe_str (pa_cons pe_str pa_nil))))))) (by rfl)) (pss_one (ps_ret (pe_cmpR op_eq (pe_callB call_len_seq (by rfl) T.m_len (by decide +kernel) (pa_cons (pv 0) pa_nil)) pe_int (nomark _)))) pss_nil)
      (pss_cons (ps_if (pt_cmpR (op_eqA hr.units) (pe_ix ix_seq (pv 0) pe_int (fun _ _ => rfl)) pe_str (nomark _)) (pss_one (ps_ret (pe_and (pe_cmpR op_eq (pe_callB call_len_seq (by rfl) T.m_len (by decide +kernel) (pa_cons (pv 0) pa_nil)) pe_int (nomark _)) (pe_and (pe_callB call_isi (by rfl) T.m_isinstance (by decide +kernel) (pa_cons (pe_ix ix_seq (pv 0) pe_int (fun _ _ => rfl)) (pa_cons (pe_bltn (v := .ty "str") (by rfl) T.m_str (by decide +kernel) rfl) pa_nil))) (pe_one (pe_cmpR (op_inA (units65 hr)) (pe_ix ix_seq (pv 0) pe_int (fun _ _ => rfl)) (pe_tup (pa_cons pe_str (pa_cons pe_str (pa_cons pe_str (pa_cons pe_str pa_nil))))) (by rfl))))))) pss_nil)
      (pss_cons (ps_if (pt_cmpR (op_eqA hr.units) (pe_ix ix_seq (pv 0) pe_int (fun _ _ => rfl)) pe_str (nomark _)) (pss_one (ps_ret (pe_and (pe_cmpR op_eq (pe_callB call_len_seq (by rfl) T.m_len (by decide +kernel) (pa_cons (pv 0) pa_nil)) pe_int (nomark _)) (pe_one (pe_call G_Lis_many hr (by rfl) T.g_Lis_many T.F_Lis_many.kp T.b_Lis_many .nil pass0 (pa_cons (pe_ix ix_seq (pv 0) pe_int (fun _ _ => rfl)) pa_nil)))))) pss_nil)
      (pss_cons (ps_if (pt_cmpR (op_eqA hr.units) (pe_ix ix_seq (pv 0) pe_int (fun _ _ => rfl)) pe_str (nomark _)) (pss_one (ps_ret (pe_and (pe_cmpR op_eq (pe_callB call_len_seq (by rfl) T.m_len (by decide +kernel) (pa_cons (pv 0) pa_nil)) pe_int (nomark _)) (pe_one (pe_call G_Lis_sign hr (by rfl) T.g_Lis_sign T.F_Lis_sign.kp T.b_Lis_sign .nil pass0 (pa_cons (pe_ix ix_seq (pv 0) pe_int (fun _ _ => rfl)) pa_nil)))))) pss_nil)
      (pss_one (ps_ret (pe_and (pe_cmpR (op_eqA hr.units) (pe_ix ix_seq (pv 0) pe_int (fun _ _ => rfl)) pe_str (nomark _)) (pe_and (pe_cmpR op_eq (pe_callB call_len_seq (by rfl) T.m_len (by decide +kernel) (pa_cons (pv 0) pa_nil)) pe_int (nomark _)) (pe_and (pe_call G_Lis_many hr (by rfl) T.g_Lis_many T.F_Lis_many.kp T.b_Lis_many .nil pass0 (pa_cons (pe_ix ix_seq (pv 0) pe_int (fun _ _ => rfl)) pa_nil)) (pe_one (pe_call G_Lis_sign hr (by rfl) T.g_Lis_sign T.F_Lis_sign.kp T.b_Lis_sign .nil pass0 (pa_cons (pe_ix ix_seq (pv 0) pe_int (fun _ _ => rfl)) pa_nil))))))))))))), ?_⟩
    obtain ⟨x, y, k1, k2, exy⟩ := kit_seq d
    refine ⟨v, rfl, by show 2 ≤ sizeLine; decide, fun tp np => ⟨v, tp, _, _, _, _, rfl, upd_same, .cons (.ty _) (.cons (.ty _) .nil), ty_dp (dp_same (same_upd np) d v hd), kit_any2 k1 k2, _, rfl, ?_⟩⟩
    rw [exy]
    have s0 := same_upd (o := .tup [.ty "tuple", .ty "list"]) np
    have hd0 := dp_same s0 d v hd
    cases e : seqD d with
    | none =>
      rw [show entD d = false by unfold entD; rw [e]] at q
      exact iteT (q _ s0)
    | some ds =>
      rw [show entD d = entL ds by unfold entD; rw [e]] at q
      refine iteF ?_
      obtain ⟨hlen, hgp⟩ := ge_parts g e
      cases ds with
      | nil =>
        obtain ⟨a, xs, rfl, hs, ha⟩ := seq_dp hd0 e
        cases ha
        exact ⟨.ref a, rfl, a, _, rfl, hs, rfl, _, rfl, iteDY (decide_eq_true rfl) (q _ s0)⟩
      | cons a r =>
        obtain ⟨p, x1, xs, rfl, hs, h1, ha⟩ := seq_head hd0 e
        have lx := dpa_len _ _ ha
        have ga := hgp a (by simp)
        refine ⟨.ref p, rfl, p, _, rfl, hs, rfl, _, rfl, iteDN (decide_eq_false (fun z => by have := V.int.inj z; simp at this; omega)) ?_⟩
        refine ⟨.ref p, rfl, ixA (j := 0) hs rfl ⟨_, _, _, _, _, rfl, .ty _, ty_dp h1, kit_ty (kit_str a), _, rfl, ?_⟩⟩
        cases hst : strD a with
        | false =>
          rw [ent_nostr hst] at q
          exact iteT (q _ s0)
        | true =>
          refine iteF ?_
          rw [ent_law] at q
          unfold lawE at q
          have rl : ∀ r : List PyData, ¬ (a :: r).length = 2 → ∀ f, at1 f (a :: r) = false := fun r h f => by
            match r, h with
            | [], _ => rfl
            | [_], h => exact absurd rfl h
            | _ :: _ :: _, _ => rfl
          refine ⟨.ref p, rfl, ixA (j := 0) hs rfl ⟨by show 6 ≤ sizeLine; decide, fun t1 n1 => ?_⟩⟩
          have s1 := same_upd (o := .tup (wAlone.map V.str)) n1
          have s01 := s0.trans s1
          have hs := hs.same s1
          have h1 := dp_same s1 _ _ h1
          have ha := dpa_same s1 _ _ ha
          refine inA_of (ws := wAlone) h1 ga (.inl (.inl upd_same)) (by decide +kernel) ⟨_, rfl, ite2 (fun e0 => ?_) (fun e0 => ?_)⟩
          · rw [if_pos e0, ← lx] at q
            exact ⟨.ref p, rfl, p, _, rfl, hs, rfl, q _ s01⟩
          rw [if_neg e0] at q
          refine ⟨.ref p, rfl, ixA (j := 0) hs rfl (eqA_of h1 ga (by decide +kernel) ⟨_, rfl, ite2 (fun e1 => ?_) (fun e1 => ?_)⟩)⟩
          · rw [if_pos e1] at q
            refine ⟨.ref p, rfl, p, _, rfl, hs, rfl, _, rfl, ?_⟩
            by_cases n2 : (a :: r).length = 2
            · obtain ⟨a', b, eab⟩ := len2 _ n2
              cases eab
              obtain ⟨x', y', exy2, _, hb⟩ := dpa2 ha
              cases exy2
              have gb := hgp b (by simp)
              refine iteDY (decide_eq_true rfl) ⟨.ref p, rfl, ixA (j := 1) hs rfl ⟨_, _, _, _, _, rfl, .ty _, ty_dp hb, kit_ty (kit_str b), _, rfl, ?_⟩⟩
              cases hsb : strD b with
              | false =>
                rw [show at1 letD [a, b] = letD b from rfl, let_str hsb] at q
                exact iteF (q _ s01)
              | true =>
                refine iteT ⟨.ref p, rfl, ixA (j := 1) hs rfl ⟨by show 4 ≤ sizeLine; decide, fun t2 n2 => ?_⟩⟩
                have s2 := same_upd (o := .tup (lets.map V.str)) n2
                exact inA_of (ws := lets) (dp_same s2 _ _ hb) gb (.inl (.inl upd_same)) (by decide +kernel) (q _ (s01.trans s2))
            · rw [rl r n2] at q
              exact iteDN (decide_eq_false (fun z => n2 (by have := V.int.inj z; rw [lx] at this; omega))) (q _ s01)
          rw [if_neg e1] at q
          refine ⟨.ref p, rfl, ixA (j := 0) hs rfl (eqA_of h1 ga (by decide +kernel) ⟨_, rfl, ite2 (fun e2 => ?_) (fun e2 => ?_)⟩)⟩
          · rw [if_pos e2] at q
            refine ⟨.ref p, rfl, p, _, rfl, hs, rfl, _, rfl, ?_⟩
            by_cases n2 : (a :: r).length = 2
            · obtain ⟨a', b, eab⟩ := len2 _ n2
              cases eab
              obtain ⟨x', y', exy2, _, hb⟩ := dpa2 ha
              cases exy2
              exact iteDY (decide_eq_true rfl) ⟨.ref p, rfl, ixA (j := 1) hs rfl ⟨y', b, rfl, hgp b (by simp), hb, fun H' sm => q _ (s01.trans sm)⟩⟩
            · rw [rl r n2] at q
              exact iteDN (decide_eq_false (fun z => n2 (by have := V.int.inj z; rw [lx] at this; omega))) (q _ s01)
          rw [if_neg e2] at q
          refine ⟨.ref p, rfl, ixA (j := 0) hs rfl (eqA_of h1 ga (by decide +kernel) ⟨_, rfl, ite2 (fun e3 => ?_) (fun e3 => ?_)⟩)⟩
          · rw [if_pos e3] at q
            refine ⟨.ref p, rfl, p, _, rfl, hs, rfl, _, rfl, ?_⟩
            by_cases n2 : (a :: r).length = 2
            · obtain ⟨a', b, eab⟩ := len2 _ n2
              cases eab
              obtain ⟨x', y', exy2, _, hb⟩ := dpa2 ha
              cases exy2
              refine iteDY (decide_eq_true rfl) ⟨.ref p, rfl, ixA (j := 1) hs rfl ⟨y', rfl, th_dp hb (hgp b (by simp)), fun H' sm => ?_⟩⟩
              rw [sg_dp hb]
              exact q _ (s01.trans sm)
            · rw [rl r n2] at q
              exact iteDN (decide_eq_false (fun z => n2 (by have := V.int.inj z; rw [lx] at this; omega))) (q _ s01)
          rw [if_neg e3] at q
          refine ⟨.ref p, rfl, ixA (j := 0) hs rfl (eqA_of h1 ga (by decide +kernel) ⟨_, rfl, ite2 (fun e4 => ?_) (fun e4 => ?_)⟩)⟩
          · rw [e4, Bool.true_and] at q
            refine ⟨.ref p, rfl, p, _, rfl, hs, rfl, _, rfl, ?_⟩
            by_cases n3 : (a :: r).length = 3
            · obtain ⟨a', b, c, eab⟩ := len3 _ n3
              cases eab
              obtain ⟨x', y', z', exy2, _, hb, hc⟩ := dpa3 ha
              cases exy2
              have q : ∀ H', Same H H' → Q (.bl (manyD b && sgD c)) H' := q
              refine iteDY (decide_eq_true rfl) ⟨.ref p, rfl, ixA (j := 1) hs rfl ⟨y', b, rfl, hgp b (by simp), hb, fun H2 s2 => ⟨_, rfl, ite2 (fun e5 => ?_) (fun e5 => ?_)⟩⟩⟩
              · rw [e5, Bool.true_and] at q
                refine ⟨.ref p, rfl, ixA (j := 2) (hs.same s2) rfl ⟨z', rfl, th_dp (dp_same s2 _ _ hc) (hgp c (by simp)), fun H' sm => ?_⟩⟩
                rw [sg_dp hc]
                exact q _ ((s01.trans s2).trans sm)
              · rw [Bool.eq_false_iff.mpr e5, Bool.false_and] at q
                exact q _ (s01.trans s2)
            · have e12 : at12 manyD sgD (a :: r) = false := by
                match r, n3 with
                | [], _ => rfl
                | [_], _ => rfl
                | [_, _], h => exact absurd rfl h
                | _ :: _ :: _ :: _, _ => rfl
              rw [e12] at q
              exact iteDN (decide_eq_false (fun z => n3 (by have := V.int.inj z; rw [lx] at this; omega))) (q _ s01)
          · rw [Bool.eq_false_iff.mpr e4, Bool.false_and] at q
            exact q _ s01
/-! ### the first thing amiss, by the law's own reading -/
def spBadAt (K : PySem.W.Frag) : Sp := fun vs H Q _ => ∃ (e : Addr) (xs : List V) (ds : List PyData), vs = [.ref e] ∧ SqT K H e xs ∧ DpAll K H xs ds ∧ (∀ d ∈ ds, ge d = true) ∧ ds.length ≤ 200 ∧
  ∀ H', Same H H' → Q (match badAt false 0 ds with | some i => .int (i : Nat) | none => .non) H'
theorem face_no {a : PyData} (h : eqS a "face" = true) : inW a wFace = false := by
  rw [eqS_str h]
  decide +kernel
theorem ok_Lbad_at (T : Top w K mg) : FnOk P w K mg base CX0 4 T.a_Lbad_at T.fd_Lbad_at ["_law_entries"] (spBadAt K) := by
  have G_Lis_entry := ok_Lis_entry (P := P) (w := w) (base := base) T
  refine T.F_Lbad_at.ok sc_Lbad_at (fun vs H Q E h => ?_) (fun cdv A outer s H vs Q E hr h => ?_)
  · obtain ⟨e, xs, ds, rfl, _⟩ := h
    rfl
  · obtain ⟨e, xs, ds, rfl, hs, ha, hge, hlen, q⟩ := h
    have lx := dpa_len ds xs ha
    refine ⟨_, (pss_cons (ps_set (i := 1) sc_Lbad_at.nd rfl (.inl rfl) pe_bl)
      (pss_cons (ps_for PassesOwn.never rfl (EnumT.pi_enumT (by rfl) T.m_enumerate (pa_cons (pv 0) pa_nil)) (pg_tup rfl (pgs_cons (pg_name (i := 2) sc_Lbad_at.nd rfl (.inl rfl)) (pgs_cons (pg_name (i := 3) sc_Lbad_at.nd rfl (.inl rfl)) pgs_nil))) (pss_cons (ps_if (pt_not (pt_val (pe_call G_Lis_entry hr (by rfl) T.g_Lis_entry T.F_Lis_entry.kp T.b_Lis_entry .nil pass0 (pa_cons (pv 3) pa_nil)))) (pss_one (ps_ret (pv 2))) pss_nil)
      (Evl.pss_cut (ps_set (i := 1) sc_Lbad_at.nd rfl (.inl rfl) (pe_or (pv 1) (pe_one (pe_cmpR (op_eqA hr.units) (pe_ix ix_seq (pv 3) pe_int (fun _ _ => rfl)) pe_str (nomark _)))))
      (pss_one (ps_if (PW.pt (pw_and (pt_not (pt_val (pv 1))) (pw_and1 (pt_cmpR (op_inA (units65 hr)) (pe_ix ix_seq (pv 3) pe_int (fun _ _ => rfl)) (pe_tup (pa_cons pe_str (pa_cons pe_str (pa_cons pe_str (pa_cons pe_str (pa_cons pe_str (pa_cons pe_str pa_nil))))))) (by rfl))))) (pss_one (ps_ret (pv 2))) pss_nil)))))
      (pss_one (ps_ret pe_non)))), ?_⟩
    refine ⟨.ref e, rfl, e, xs, rfl, hs, for_it (EnumT.walk_enumT (xs := xs)) (fun i σ H' => Same H H' ∧ ∃ y2 y3, σ = [some (.ref e), some (.bl ((ds.take i).any fcD)), y2, y3] ∧ badAt false 0 ds = badAt ((ds.take i).any fcD) i (ds.drop i)) ⟨Same.refl _, none, none, rfl, rfl⟩ (fun i σ H' _ h => sqt_same h.1 hs) ?_ ?_⟩
    · rintro i v σ H1 H2 hi ⟨sm, y2, y3, rfl, hb⟩ ⟨t, u1, u2, rfl, nt, rfl, e1, e2⟩
      cases e1
      obtain ⟨d, fd, gd⟩ := dpa_at ds xs ha i u2 e2
      have hgd := hge d (List.mem_of_getElem? fd)
      rw [drop_at fd] at hb
      have st := same_upd (o := .tup [.int (i : Nat), u2]) nt
      have sm2 := sm.trans st
      refine ⟨t, _, rfl, .inl (.inl upd_same), rfl, _, _, rfl, _, _, rfl, rfl, ?_⟩
      refine ⟨u2, rfl, u2, d, rfl, hgd, dp_same sm2 d u2 gd, fun H3 s3 => ⟨_, rfl, ?_⟩⟩
      have sm3 := sm2.trans s3
      cases he : entD d with
      | false =>
        have hbi : badAt false 0 ds = some i := by
          rw [hb]
          show (if entD d = false then _ else _) = _
          rw [if_pos he]
        rw [hbi] at q
        exact iteT ⟨_, rfl, q _ sm3⟩
      | true =>
        refine iteF ?_
        obtain ⟨a, r, es⟩ := ent_seq he
        obtain ⟨p, x, xs2, rfl, hsq, hx, hall⟩ := seq_head (dp_same sm3 d u2 gd) es
        have ga : gp a = true := (ge_parts hgd es).2 a (by simp)
        have hb2 : badAt false 0 ds = if (ndD d && !((ds.take i).any fcD)) = true then some i else badAt ((ds.take i).any fcD || fcD d) (i + 1) (ds.drop (i + 1)) := by
          rw [hb]
          show (if entD d = false then _ else _) = _
          rw [if_neg (by rw [he]; decide)]
        have hnd : ndD d = inW a wFace := by unfold ndD; rw [head_eq es]
        have hfc : fcD d = eqS a "face" := by unfold fcD; rw [head_eq es]
        refine ⟨fun σ H' => H3 = H' ∧ σ = [some (.ref e), some (.bl ((ds.take i).any fcD || fcD d)), some (.int (i : Nat)), some (.ref p)], ?_, ?_⟩
        · refine ⟨_, rfl, _, rfl, ?_⟩
          cases hf : (ds.take i).any fcD with
          | true => exact iteT ⟨rfl, by rw [Bool.true_or]; rfl⟩
          | false =>
            refine iteF ⟨.ref p, rfl, ixA (j := 0) hsq rfl (eqA_of hx ga (by decide +kernel) ⟨rfl, ?_⟩)⟩
            rw [hfc, Bool.false_or]
            rfl
        rintro σ H4 ⟨rfl, rfl⟩
        refine ⟨_, rfl, _, rfl, ?_⟩
        cases hg : ((ds.take i).any fcD || fcD d) with
        | true =>
          refine iteF (ite2 (fun z => nomatch z) (fun _ => ⟨sm3, _, _, by rw [any_more fd, hg], ?_⟩))
          rw [any_more fd, hb2]
          rw [if_neg]
          intro z
          obtain ⟨z1, z2⟩ := Bool.and_eq_true_iff.mp z
          rw [hnd] at z1
          have zf : (ds.take i).any fcD = false := by
            cases hq : (ds.take i).any fcD with
            | false => rfl
            | true => rw [hq] at z2; cases z2
          rw [zf, Bool.false_or, hfc] at hg
          rw [face_no hg] at z1
          cases z1
        | false =>
          obtain ⟨g1, g2⟩ := Bool.or_eq_false_iff.mp hg
          refine iteT ⟨.ref p, rfl, ixA (j := 0) hsq rfl ⟨by show 6 ≤ sizeLine; decide, fun t2 n2 => ?_⟩⟩
          have s2 := same_upd (o := .tup (wFace.map V.str)) n2
          refine inA_of (ws := wFace) (dp_same s2 _ _ hx) ga (.inl (.inl upd_same)) (by decide +kernel) ⟨_, rfl, ite2 (fun e5 => ?_) (fun e5 => ?_)⟩
          · have hbi : badAt false 0 ds = some i := by
              rw [hb2, hnd, e5, g1]
              rfl
            rw [hbi] at q
            exact ⟨_, rfl, q _ (sm3.trans s2)⟩
          · refine ⟨sm3.trans s2, _, _, by rw [any_more fd, hg], ?_⟩
            rw [any_more fd, hb2, hnd, Bool.eq_false_iff.mpr e5, Bool.false_and, if_neg Bool.false_ne_true]
    · rintro σ H1 ⟨sm, y2, y3, rfl, hb⟩
      rw [lx, List.drop_length] at hb
      rw [hb] at q
      exact q _ sm
--@@SPLIT
/-! ### an entry drawn -/
/-- places that are left out of sight: the spring is one, all of them are known -/
def HX (p : Addr) (X : Addr → Prop) (H : Hp) : Prop := X p ∧ ∀ b, X b → H b ≠ none
theorem HX.same {p : Addr} {X : Addr → Prop} {H H' : Hp} (x : HX p X H) (e : Same H H') : HX p X H' := ⟨x.1, fun b h => by
  cases o : H b with
  | none => exact absurd o (x.2 b h)
  | some o' => rw [e b o' o]; exact fun z => nomatch z⟩
theorem Pool.known {H : Hp} {p : Addr} (h : Pool H p) : H p ≠ none := by
  obtain ⟨l, c, k, n, h0, h1⟩ := h
  rw [h1]
  exact fun z => nomatch z
theorem HX.but {p : Addr} {X : Addr → Prop} {H H' : Hp} (x : HX p X H) (e : But p H H') (hp : Pool H' p) : HX p X H' := ⟨x.1, fun b h => by
  by_cases eb : b = p
  · rw [eb]
    exact hp.known
  · cases o : H b with
    | none => exact absurd o (x.2 b h)
    | some o' => rw [e b o' eb o]; exact fun z => nomatch z⟩
theorem HX.fresh {p t : Addr} {X : Addr → Prop} {H : Hp} (x : HX p X H) (n : H t = none) : ¬ X t := fun z => x.2 t z n
theorem But.wo {p : Addr} {X : Addr → Prop} {H H' : Hp} (xp : X p) (e : But p H H') : Same (M.wo H X) (M.wo H' X) := fun b o h => by
  have h2 := wo_some h
  rw [wo_in (X := X) h2.1]
  exact e _ _ (fun z => h2.1 (z ▸ xp)) h2.2
theorem tupW {K : PySem.W.Frag} {H : Hp} {p t : Addr} {X : Addr → Prop} {vs : List V} {ds : List PyData} (x : HX p X H) (nt : H t = none) (h : DpAll K (wo H X) vs ds) : Dp K (wo (upd H t (.tup vs)) X) (.ref t) (.tuple ds) :=
  .tup (.inl (.inl ((wo_in (X := X) (x.fresh nt)).trans upd_same))) (dpa_same ((But.of (same_upd nt)).wo x.1) ds vs h)
theorem lstW {K : PySem.W.Frag} {H : Hp} {p t : Addr} {X : Addr → Prop} {vs : List V} {ds : List PyData} (x : HX p X H) (nt : H t = none) (h : DpAll K (wo H X) vs ds) : Dp K (wo (upd H t (.lst vs)) X) (.ref t) (.list ds) :=
  .lst (.inl (.inl ((wo_in (X := X) (x.fresh nt)).trans upd_same))) (dpa_same ((But.of (same_upd nt)).wo x.1) ds vs h)
theorem nesw_lt {r : Int} (h0 : 0 ≤ r) (h1 : r < 4) : ∃ l : Fin 4, atI (PySem.Str.ofString "nesw").cps.toList r = some (cd l) := by
  obtain rfl | rfl | rfl | rfl : r = 0 ∨ r = 1 ∨ r = 2 ∨ r = 3 := by omega
  · exact ⟨0, by decide +kernel⟩
  · exact ⟨1, by decide +kernel⟩
  · exact ⟨2, by decide +kernel⟩
  · exact ⟨3, by decide +kernel⟩
theorem nine {r : Int} (h0 : 0 ≤ r) (h1 : r < 9) : ∃ n : Fin 9, 1 + r = ((n.val : Nat) : Int) + 1 := ⟨⟨r.toNat, by omega⟩, by show 1 + r = ((r.toNat : Nat) : Int) + 1; omega⟩
def spAnyEntry (K : PySem.W.Frag) : Sp := fun vs H Q _ => ∃ (p : Addr) (b : Bool) (X : Addr → Prop), vs = [.ref p, .bl b] ∧ Pool H p ∧ HX p X H ∧ ∀ H' t e, But p H H' → Pool H' p → Dp K (wo H' X) (.ref t) (Ent.tup e) → e.ok → (e.need = true → b = true) → Q (.ref t) H'
theorem ok_Lany_entry (T : Top w K mg) : FnOk P w K mg base CX0 4 T.a_Lany_entry T.fd_Lany_entry ["_law_pool_here", "_law_looks"] (spAnyEntry K) := by
  have G_Ltake := ok_Ltake (P := P) (w := w) (base := base) T
  have G_Lsign := ok_Lsign (P := P) (w := w) (base := base) T
  refine T.F_Lany_entry.ok sc_Lany_entry (fun vs H Q E h => ?_) (fun cdv A outer s H vs Q E hr h => ?_)
  · obtain ⟨p, b, X, rfl, _⟩ := h
    rfl
  · obtain ⟨p, b, X, rfl, hp, x, q⟩ := h
    refine ⟨_, (pss_cons (ps_set (i := 2) sc_Lany_entry.nd rfl (.inl rfl) (pe_call G_Ltake (hr.mono (by decide)) (by rfl) T.g_Ltake T.F_Ltake.kp T.b_Ltake .nil pass0 (pa_cons (pv 0) (pa_cons pe_int pa_nil))))
      (pss_cons (ps_set (i := 3) sc_Lany_entry.nd rfl (.inl rfl) (pe_call G_Lsign hr (by rfl) T.g_Lsign T.F_Lsign.kp T.b_Lsign .nil pass0 (pa_cons (pv 0) (pa_cons (pe_cmpR op_eq (pe_call G_Ltake (hr.mono (by decide)) (by rfl) T.g_Ltake T.F_Ltake.kp T.b_Ltake .nil pass0 (pa_cons (pv 0) (pa_cons pe_int pa_nil))) pe_int (nomark _)) pa_nil))))
      (Evl.pss_cut (ps_if (PW.pt (pw_and (pt_not (pt_val (pv 1))) (pw_and1 (pt_cmpR op_gt (pv 2) pe_int (nomark _))))) (pss_one (ps_set (i := 2) sc_Lany_entry.nd rfl (.inl rfl) (pe_op op_mod (pv 2) pe_int))) pss_nil)
      (pss_cons (ps_if (PW.pt (pw_or (pt_cmpR op_eq (pv 2) pe_int (nomark _)) (pw_or1 (pt_cmpR op_gt (pv 2) pe_int (nomark _))))) (pss_one (ps_ret (pe_tup (pa_cons pe_str (pa_cons (pe_ix ix_str pe_str (pe_call G_Ltake (hr.mono (by decide)) (by rfl) T.g_Ltake T.F_Ltake.kp T.b_Ltake .nil pass0 (pa_cons (pv 0) (pa_cons pe_int pa_nil))) (fun _ _ => rfl)) pa_nil))))) pss_nil)
      (pss_cons (ps_if (pt_cmpR op_lt (pv 2) pe_int (nomark _)) (pss_one (ps_ret (pe_ix ix_tup (pe_tup (pa_cons (pe_tup (pa_cons pe_str (pa_cons (pv 3) pa_nil))) (pa_cons (pe_tup (pa_cons pe_str pa_nil)) (pa_cons (pe_tup (pa_cons pe_str pa_nil)) pa_nil)))) (pe_op op_sub (pv 2) pe_int) (fun _ _ => rfl)))) pss_nil)
      (pss_cons (ps_if (pt_cmpR op_eq (pv 2) pe_int (nomark _)) (pss_one (ps_ret (pe_ix ix_tup (pe_tup (pa_cons (pe_tup (pa_cons pe_str pa_nil)) (pa_cons (pe_tup (pa_cons pe_str pa_nil)) (pa_cons (pe_tup (pa_cons pe_str pa_nil)) pa_nil)))) (pe_call G_Ltake (hr.mono (by decide)) (by rfl) T.g_Ltake T.F_Ltake.kp T.b_Ltake .nil pass0 (pa_cons (pv 0) (pa_cons pe_int pa_nil))) (fun _ _ => rfl)))) pss_nil)
      (pss_cons (ps_if (pt_cmpR op_eq (pv 2) pe_int (nomark _)) (pss_one (ps_ret (pe_tup (pa_cons pe_str pa_nil)))) pss_nil)
      (pss_cons (ps_if (pt_cmpR op_eq (pv 2) pe_int (nomark _)) (pss_one (ps_ret (pe_tup (pa_cons pe_str (pa_cons (pe_op op_add pe_int (pe_call G_Ltake (hr.mono (by decide)) (by rfl) T.g_Ltake T.F_Ltake.kp T.b_Ltake .nil pass0 (pa_cons (pv 0) (pa_cons pe_int pa_nil)))) (pa_cons (pv 3) pa_nil)))))) pss_nil)
      (pss_one (ps_ret (pe_tup (pa_cons pe_str (pa_cons (pe_op op_add pe_int (pe_call G_Ltake (hr.mono (by decide)) (by rfl) T.g_Ltake T.F_Ltake.kp T.b_Ltake .nil pass0 (pa_cons (pv 0) (pa_cons pe_int pa_nil)))) pa_nil))))))))))))), ?_⟩
    refine ⟨.ref p, rfl, p, 12, rfl, by decide, by decide, hp, fun H1 k b1 hp1 k0 k1 => ?_⟩
    refine ⟨.ref p, rfl, .ref p, rfl, p, 2, rfl, by decide, by decide, hp1, fun H2 j b2 hp2 _ _ => ?_⟩
    refine ⟨rfl, p, _, rfl, hp2, fun H3 z b3 hp3 hz hk => ?_⟩
    have bt := (b1.trans b2).trans b3
    have x3 := x.but bt hp3
    refine ⟨fun σ H' => H3 = H' ∧ ∃ k : Int, 0 ≤ k ∧ k ≤ 11 ∧ (3 < k → b = true) ∧ σ = [some (.ref p), some (.bl b), some (.int k), some (.str z)], ?_, ?_⟩
    · refine ⟨.bl b, rfl, b, rfl, ?_⟩
      cases b with
      | true => exact ite2 (fun z => nomatch z) (fun _ => ⟨rfl, k, k0, by omega, fun _ => rfl, rfl⟩)
      | false =>
        refine iteT ⟨.int k, rfl, _, _, rfl, rfl, _, rfl, ite2 (fun e => ?_) (fun e => ?_)⟩
        · have := Int.emod_lt_of_pos k (show (0 : Int) < 4 by decide)
          exact ⟨.int k, rfl, _, _, rfl, rfl, (by show (0 : Int) < 4; decide), rfl, k % 4, Int.emod_nonneg k (by decide), by omega, fun z => by omega, rfl⟩
        · have : ¬ 3 < k := fun z => e (decide_eq_true z)
          exact ⟨rfl, k, k0, by omega, fun z => absurd z this, rfl⟩
    rintro σ H4 ⟨rfl, k, k0, k1, kb, rfl⟩
    have face : ∀ H5 (r : Int), But p H3 H5 → Pool H5 p → 0 ≤ r → r < 4 → ∃ c, atI (PySem.Str.ofString "nesw").cps.toList r = some c ∧ ∀ t, H5 t = none → Q (.ref t) (upd H5 t (.tup [.str "face", .str ⟨#[c]⟩])) := fun H5 r b5 hp5 r0 r1 => by
      obtain ⟨l, hc⟩ := nesw_lt r0 r1
      exact ⟨cd l, hc, fun t nt => q _ t (.face l) ((bt.trans b5).trans (But.of (same_upd nt))) (hp5.upd (hp5.ne_new nt)) (tupW (x.but (bt.trans b5) hp5) nt (.cons (.str _) (.cons (.str _) .nil))) trivial (fun z => nomatch z)⟩
    refine ⟨.int k, rfl, rfl, _, rfl, ite2 (fun e => ?_) (fun e => ?_)⟩
    · refine iteT ⟨.ref p, rfl, p, 4, rfl, by decide, by decide, hp3, fun H5 r b5 hp5 r0 r1 => ?_⟩
      obtain ⟨c, hc, qq⟩ := face H5 r b5 hp5 r0 r1
      exact ⟨_, r, c, rfl, rfl, by decide +kernel, hc, by show 2 ≤ sizeLine; decide, qq⟩
    refine ⟨.int k, rfl, _, _, rfl, rfl, _, rfl, ite2 (fun e2 => ?_) (fun e2 => ?_)⟩
    · refine ⟨.ref p, rfl, p, 4, rfl, by decide, by decide, hp3, fun H5 r b5 hp5 r0 r1 => ?_⟩
      obtain ⟨c, hc, qq⟩ := face H5 r b5 hp5 r0 r1
      exact ⟨_, r, c, rfl, rfl, by decide +kernel, hc, by show 2 ≤ sizeLine; decide, qq⟩
    have kn : k ≠ 0 := fun z => e (by rw [z]; exact decide_eq_true rfl)
    refine ⟨.int k, rfl, _, _, rfl, rfl, _, rfl, ite2 (fun e3 => ?_) (fun e3 => ?_)⟩
    · have k4 : k < 4 := of_decide_eq_true e3
      refine ⟨.str z, rfl, by show 2 ≤ sizeLine; decide, fun m1 n1 => ⟨by show 1 ≤ sizeLine; decide, fun m2 n2 => ⟨by show 1 ≤ sizeLine; decide, fun m3 n3 => ⟨by show 3 ≤ sizeLine; decide, fun t nt => ?_⟩⟩⟩⟩
      have s1 := same_upd (o := .tup [.str "sign", .str z]) n1
      have s2 := same_upd (o := .tup [.str "bare"]) n2
      have s3 := same_upd (o := .tup [.str "swap"]) n3
      have s4 := same_upd (o := .tup [.ref m1, .ref m2, .ref m3]) nt
      have d1 := tupW (K := K) (vs := [.str "sign", .str z]) (ds := [.str "sign", .str z]) x3 n1 (.cons (.str _) (.cons (.str _) .nil))
      have p1 := hp3.same s1
      have d2 := tupW (K := K) (vs := [.str "bare"]) (ds := [.str "bare"]) (x3.same s1) n2 (.cons (.str _) .nil)
      have p2 := p1.same s2
      have d3 := tupW (K := K) (vs := [.str "swap"]) (ds := [.str "swap"]) ((x3.same s1).same s2) n3 (.cons (.str _) .nil)
      have p3 := p2.same s3
      have p4 := p3.same s4
      have bz := bt.trans (But.of (((s1.trans s2).trans s3).trans s4))
      obtain rfl | rfl | rfl : k = 1 ∨ k = 2 ∨ k = 3 := by omega
      · exact ⟨_, rfl, _, _, rfl, rfl, t, _, 0, _, rfl, rfl, .inl (.inl upd_same), rfl, q _ m1 (.sign z) bz p4 (dp_same ((But.of ((s2.trans s3).trans s4)).wo x.1) _ _ d1) ⟨hz, hk⟩ (fun z => nomatch z)⟩
      · exact ⟨_, rfl, _, _, rfl, rfl, t, _, 1, _, rfl, rfl, .inl (.inl upd_same), rfl, q _ m2 .bare bz p4 (dp_same ((But.of (s3.trans s4)).wo x.1) _ _ d2) trivial (fun z => nomatch z)⟩
      · exact ⟨_, rfl, _, _, rfl, rfl, t, _, 2, _, rfl, rfl, .inl (.inl upd_same), rfl, q _ m3 .swap bz p4 (dp_same ((But.of s4).wo x.1) _ _ d3) trivial (fun z => nomatch z)⟩
    have kb := kb (by have : ¬ k < 4 := fun z => e3 (decide_eq_true z)
                      omega)
    refine ⟨.int k, rfl, rfl, _, rfl, ite2 (fun e4 => ?_) (fun e4 => ?_)⟩
    · refine ⟨by show 1 ≤ sizeLine; decide, fun m1 n1 => ⟨by show 1 ≤ sizeLine; decide, fun m2 n2 => ⟨by show 1 ≤ sizeLine; decide, fun m3 n3 => ⟨by show 3 ≤ sizeLine; decide, fun t nt => ?_⟩⟩⟩⟩
      have s1 := same_upd (o := .tup [.str "left"]) n1
      have s2 := same_upd (o := .tup [.str "right"]) n2
      have s3 := same_upd (o := .tup [.str "back"]) n3
      have s4 := same_upd (o := .tup [.ref m1, .ref m2, .ref m3]) nt
      have d1 := tupW (K := K) (vs := [.str "left"]) (ds := [.str "left"]) x3 n1 (.cons (.str _) .nil)
      have p1 := hp3.same s1
      have d2 := tupW (K := K) (vs := [.str "right"]) (ds := [.str "right"]) (x3.same s1) n2 (.cons (.str _) .nil)
      have p2 := p1.same s2
      have d3 := tupW (K := K) (vs := [.str "back"]) (ds := [.str "back"]) ((x3.same s1).same s2) n3 (.cons (.str _) .nil)
      have p3 := p2.same s3
      have p4 := p3.same s4
      refine ⟨.ref p, rfl, p, 3, rfl, by decide, by decide, p4, fun H5 r b5 hp5 r0 r1 => ?_⟩
      have et := b5 _ _ (p3.ne_new nt) upd_same
      have bz := (bt.trans (But.of (((s1.trans s2).trans s3).trans s4))).trans b5
      obtain rfl | rfl | rfl : r = 0 ∨ r = 1 ∨ r = 2 := by omega
      · exact ⟨t, _, 0, _, rfl, rfl, .inl (.inl et), rfl, q _ m1 (.turn 0) bz hp5 (dp_same (((But.of ((s2.trans s3).trans s4)).trans b5).wo x.1) _ _ d1) trivial (fun _ => kb)⟩
      · exact ⟨t, _, 1, _, rfl, rfl, .inl (.inl et), rfl, q _ m2 (.turn 1) bz hp5 (dp_same (((But.of (s3.trans s4)).trans b5).wo x.1) _ _ d2) trivial (fun _ => kb)⟩
      · exact ⟨t, _, 2, _, rfl, rfl, .inl (.inl et), rfl, q _ m3 (.turn 2) bz hp5 (dp_same (((But.of s4).trans b5).wo x.1) _ _ d3) trivial (fun _ => kb)⟩
    refine ⟨.int k, rfl, rfl, _, rfl, ite2 (fun e5 => ?_) (fun e5 => ?_)⟩
    · exact ⟨by show 1 ≤ sizeLine; decide, fun t nt => q _ t .bump (bt.trans (But.of (same_upd nt))) (hp3.upd (hp3.ne_new nt)) (tupW x3 nt (.cons (.str _) .nil)) trivial (fun _ => kb)⟩
    refine ⟨.int k, rfl, rfl, _, rfl, ite2 (fun e6 => ?_) (fun e6 => ?_)⟩
    · refine ⟨.ref p, rfl, p, 9, rfl, by decide, by decide, hp3, fun H5 r b5 hp5 r0 r1 => ⟨_, _, rfl, rfl, .str z, rfl, by show 3 ≤ sizeLine; decide, fun t nt => ?_⟩⟩
      obtain ⟨n, hn⟩ := nine r0 r1
      have ed : Ent.tup (.spy n z) = .tuple [.str "spy", .int (1 + r), .str z] := by rw [hn]; rfl
      exact q _ t (.spy n z) ((bt.trans b5).trans (But.of (same_upd nt))) (hp5.upd (hp5.ne_new nt)) (by rw [ed]; exact tupW (x.but (bt.trans b5) hp5) nt (.cons (.str _) (.cons (.int _) (.cons (.str _) .nil)))) ⟨hz, hk⟩ (fun _ => kb)
    refine ⟨.ref p, rfl, p, 9, rfl, by decide, by decide, hp3, fun H5 r b5 hp5 r0 r1 => ⟨_, _, rfl, rfl, by show 2 ≤ sizeLine; decide, fun t nt => ?_⟩⟩
    obtain ⟨n, hn⟩ := nine r0 r1
    have ed : Ent.tup (.go n) = .tuple [.str "go", .int (1 + r)] := by rw [hn]; rfl
    exact q _ t (.go n) ((bt.trans b5).trans (But.of (same_upd nt))) (hp5.upd (hp5.ne_new nt)) (by rw [ed]; exact tupW (x.but (bt.trans b5) hp5) nt (.cons (.str _) (.cons (.int _) .nil))) trivial (fun _ => kb)
--@@SPLIT
/-! ### a log drawn -/
theorem dpa_len2 {K : PySem.W.Frag} {H : Hp} {ds : List PyData} {vs : List V} (h : DpAll K H vs ds) : vs.length = ds.length := dpa_len ds vs h
theorem tup_at {K : PySem.W.Frag} {H : Hp} {t : Addr} {e : Ent} (h : Dp K H (.ref t) (Ent.tup e)) : ∃ xs, SqT K H t (.str (ws e.kind) :: xs) ∧ DpAll K H xs e.rest := by
  cases h with
  | @tup _ ys _ hs ha =>
    cases ha with
    | cons h1 h2 =>
      cases h1
      exact ⟨_, hs, h2⟩
theorem HX.or {p D : Addr} {X : Addr → Prop} {H : Hp} (x : HX p X H) (h : H D ≠ none) : HX p (fun b => X b ∨ b = D) H := ⟨.inl x.1, fun c z => z.elim (x.2 c) (fun e => by rw [e]; exact h)⟩
theorem some_ne {H : Hp} {b : Addr} {o : HO} (h : H b = some o) : H b ≠ none := by rw [h]; exact fun z => nomatch z
theorem wo_less {H : Hp} {X Y : Addr → Prop} (h : ∀ b, X b → Y b) : Same (wo H Y) (wo H X) := fun c o z => by
  have h2 := wo_some z
  rw [wo_in (X := X) (fun z => h2.1 (h c z))]
  exact h2.2
theorem wo_mut {H : Hp} {X : Addr → Prop} {D : Addr} {o : HO} (h : X D) : Same (wo H X) (wo (upd H D o) X) := fun c u z => by
  have h2 := wo_some z
  rw [wo_in (X := X) h2.1, upd_ne (fun z : c = D => h2.1 (by rw [z]; exact h))]
  exact h2.2
def spAnyLog (K : PySem.W.Frag) : Sp := fun vs H Q _ => ∃ (p : Addr) (m s : Int) (X : Addr → Prop), vs = [.ref p, .int m, .int s] ∧ 0 ≤ m ∧ m ≤ 100 ∧ Pool H p ∧ HX p X H ∧ ∀ H' t xs es, But p H H' → Pool H' p → H t = none → SqT K (wo H' X) t xs → DpAll K (wo H' X) xs (es.map Ent.tup) → (es.length : Int) = m → (∀ e ∈ es, e.ok) → Right es → ((swaps es : Int) ≤ s ∨ s < 0) → Q (.ref t) H'
theorem ok_Lany_log (T : Top w K mg) : FnOk P w K mg base CX0 5 T.a_Lany_log T.fd_Lany_log ["_law_pool_here", "_law_many", "_law_swaps"] (spAnyLog K) := by
  have G_Lany_entry := ok_Lany_entry (P := P) (w := w) (base := base) T
  refine T.F_Lany_log.ok sc_Lany_log (fun vs H Q E h => ?_) (fun cdv A outer s H vs Q E hr h => ?_)
  · obtain ⟨p, m, s, X, rfl, _⟩ := h
    rfl
  · obtain ⟨p, m, sw, X, rfl, m0, m1, hp, x, q⟩ := h
    refine ⟨_, (pss_cons (ps_set (i := 3) sc_Lany_log.nd rfl (.inl rfl) (pe_lst pa_nil))
      (pss_cons (ps_set (i := 4) sc_Lany_log.nd rfl (.inl rfl) pe_bl)
      (pss_cons (ps_set (i := 5) sc_Lany_log.nd rfl (.inl rfl) (pv 2))
      (pss_cons (ps_for PassesOwn.never rfl (pi_range1 (by rfl) T.m_range (pa_cons (pv 1) pa_nil)) (pg_name (i := 6) sc_Lany_log.nd rfl (.inl rfl)) (pss_cons (ps_set (i := 7) sc_Lany_log.nd rfl (.inl rfl) (pe_call G_Lany_entry hr (by rfl) T.g_Lany_entry T.F_Lany_entry.kp T.b_Lany_entry .nil pass0 (pa_cons (pv 0) (pa_cons (pv 4) pa_nil))))
      (Evl.pss_cut (ps_if (PW.pt (pw_and (pt_cmpR op_eq (pe_ix ix_tup (pv 7) pe_int (fun _ _ => rfl)) pe_str (nomark _)) (pw_and1 (pt_cmpR op_eq (pv 5) pe_int (nomark _))))) (pss_one (ps_set (i := 7) sc_Lany_log.nd rfl (.inl rfl) (pe_tup (pa_cons pe_str pa_nil)))) pss_nil)
      (Evl.pss_cut (ps_set (i := 5) sc_Lany_log.nd rfl (.inl rfl) (pe_op op_sub (pv 5) (pe_callTy call_int1 (by rfl) T.m_int (by decide +kernel) (pa_cons (pe_cmpR op_eq (pe_ix ix_tup (pv 7) pe_int (fun _ _ => rfl)) pe_str (nomark _)) pa_nil))))
      (Evl.pss_cut (ps_set (i := 4) sc_Lany_log.nd rfl (.inl rfl) (pe_or (pv 4) (pe_one (pe_cmpR op_eq (pe_ix ix_tup (pv 7) pe_int (fun _ _ => rfl)) pe_str (nomark _)))))
      (pss_one (ps_expr (pe_bm PySem.F.plainAttrs_list PySem.F.slot_list_append PySem.F.type_list_append mt_append (pv 3) (pa_cons (pv 7) pa_nil)))))))))
      (pss_one (ps_ret (pe_callTy call_tuple_of (by rfl) T.m_tuple (by decide +kernel) (pa_cons (pv 3) pa_nil)))))))), ?_⟩
    refine ⟨Nat.zero_le _, fun L nL => ?_⟩
    have nLp : L ≠ p := hp.ne_new nL
    have s0 := same_upd (o := .lst []) nL
    obtain ⟨n, rfl⟩ : ∃ n : Nat, m = n := ⟨m.toNat, by omega⟩
    refine ⟨_, rfl, .int n, rfl, n, rfl, by omega, by omega, for_range (n := n) (fun i σ H' => But p H H' ∧ Pool H' p ∧ ∃ (l : Int) (y6 y7 : Option V) (ys : List V) (es : List Ent), σ = [some (.ref p), some (.int n), some (.int sw), some (.ref L), some (.bl (es.any Ent.isFace)), some (.int l), y6, y7] ∧ H' L = some (.lst ys) ∧ es.length = i ∧ DpAll K (wo H' (fun b => X b ∨ b = L)) ys (es.map Ent.tup) ∧ (∀ e ∈ es, e.ok) ∧ Right es ∧ l = sw - swaps es ∧ (0 ≤ l ∨ sw < 0))
      ⟨But.of s0, hp.same s0, sw, none, none, [], [], rfl, upd_same, rfl, .nil, (fun d h => nomatch h), Right.nil, by show sw = sw - ((0 : Nat) : Int); omega, by omega⟩ ?_ ?_⟩
    · rintro i σ H1 hi ⟨b1, hp1, l, y6, y7, ys, es, rfl, eL, hl, ha, hg, hR, hl1, hl2⟩
      have x1 : HX p (fun b => X b ∨ b = L) H1 := (x.but b1 hp1).or (some_ne eL)
      refine ⟨.ref p, rfl, .bl _, rfl, p, _, _, rfl, hp1, x1, fun H2 t e b2 hp2 hd gd hn => ?_⟩
      have eL2 := b2 _ _ nLp eL
      have x2 := x1.but b2 hp2
      refine ⟨fun σ H' => Same H2 H' ∧ ∃ (y6 : Option V) (t : Addr) (e : Ent), σ = [some (.ref p), some (.int n), some (.int sw), some (.ref L), some (.bl (es.any Ent.isFace)), some (.int l), y6, some (.ref t)] ∧ Dp K (wo H' (fun b => X b ∨ b = L)) (.ref t) (Ent.tup e) ∧ e.ok ∧ (e.need = true → es.any Ent.isFace = true) ∧ (e.isSwap = true → l ≠ 0), ?_, ?_⟩
      · obtain ⟨us, hs, _⟩ := tup_at hd
        refine ⟨.ref t, rfl, t, _, 0, _, rfl, rfl, sqt_same wo_same hs, atI_nat (j := 0) rfl, rfl, _, rfl, ?_⟩
        have dw : decide (V.str (ws e.kind) = V.str (PySem.Str.ofString "swap")) = e.isSwap := (wsd e.kind 9).trans e.swap_iff.symm
        rw [dw]
        refine ite2 (fun e1 => ?_) (fun e1 => ?_)
        · refine ⟨.int l, rfl, rfl, _, rfl, ite2 (fun e2 => ?_) (fun e2 => ?_)⟩
          · exact ⟨by show 1 ≤ sizeLine; decide, fun t2 n2 => ⟨same_upd n2, _, t2, .bare, rfl, tupW x2 n2 (.cons (.str "bare") .nil), trivial, (fun z => nomatch z), fun z => nomatch z⟩⟩
          · exact ⟨Same.refl _, _, t, e, rfl, hd, gd, hn, fun _ z => e2 (by rw [z]; exact decide_eq_true rfl)⟩
        · exact ite2 (fun z => nomatch z) (fun _ => ⟨Same.refl _, _, t, e, rfl, hd, gd, hn, fun z => absurd z e1⟩)
      rintro σ H3 ⟨s3, y6, t, e, rfl, hd, gd, hn, hsw⟩
      obtain ⟨us, hs, _⟩ := tup_at hd
      have hs3 := sqt_same wo_same hs
      have dw : decide (V.str (ws e.kind) = V.str (PySem.Str.ofString "swap")) = e.isSwap := (wsd e.kind 9).trans e.swap_iff.symm
      have df : decide (V.str (ws e.kind) = V.str (PySem.Str.ofString "face")) = e.isFace := (wsd e.kind 0).trans e.face_iff.symm
      refine ⟨fun σ H' => H3 = H' ∧ σ = [some (.ref p), some (.int n), some (.int sw), some (.ref L), some (.bl (es.any Ent.isFace)), some (.int (l - (if e.isSwap = true then 1 else 0))), y6, some (.ref t)], ?_, ?_⟩
      · refine ⟨.int l, rfl, .ref t, rfl, t, _, 0, _, rfl, rfl, hs3, atI_nat (j := 0) rfl, rfl, .inr ⟨_, rfl, _, _, rfl, rfl, rfl, ?_⟩⟩
        show _ = _
        rw [dw]
        cases e.isSwap <;> rfl
      rintro σ H4 ⟨rfl, rfl⟩
      refine ⟨fun σ H' => H3 = H' ∧ σ = [some (.ref p), some (.int n), some (.int sw), some (.ref L), some (.bl ((es ++ [e]).any Ent.isFace)), some (.int (l - (if e.isSwap = true then 1 else 0))), y6, some (.ref t)], ?_, ?_⟩
      · have ea : (es ++ [e]).any Ent.isFace = (es.any Ent.isFace || e.isFace) := by
          rw [List.any_append]
          show (_ || (e.isFace || false)) = _
          rw [Bool.or_false]
        refine ⟨_, rfl, _, rfl, ?_⟩
        cases eb : es.any Ent.isFace with
        | true =>
          rw [ea, eb]
          exact iteT ⟨rfl, rfl⟩
        | false =>
          rw [ea, eb]
          refine iteF ⟨.ref t, rfl, t, _, 0, _, rfl, rfl, hs3, atI_nat (j := 0) rfl, rfl, rfl, ?_⟩
          show _ = _
          rw [df]
          rfl
      rintro σ H4 ⟨rfl, rfl⟩
      have eL3 := s3 _ _ eL2
      have lx := dpa_len2 ha
      rw [List.length_map] at lx
      refine ⟨.ref L, rfl, .inl ⟨rfl, _, .inl (.inl eL3)⟩, .ref t, rfl, L, ys, _, rfl, rfl, eL3, small1000 (by omega), ?_⟩
      have b3 := b2.trans (But.of s3)
      have m6 : Same (wo H3 (fun b => X b ∨ b = L)) (wo (upd H3 L (.lst (ys ++ [.ref t]))) (fun b => X b ∨ b = L)) := wo_mut (.inr rfl)
      refine ⟨(b1.trans b3).mut nL, (hp2.same s3).upd nLp, _, _, _, ys ++ [.ref t], es ++ [e], rfl, upd_same, ?_, ?_, ?_, hR.snoc hn, ?_, ?_⟩
      · rw [List.length_append, hl]
        rfl
      · rw [List.map_append]
        exact dpa_snoc (dp_same m6 _ _ hd) _ _ (dpa_same ((b3.wo (.inl x.1)).trans m6) _ _ ha)
      · intro d h
        rcases List.mem_append.mp h with h | h
        · exact hg d h
        · rw [List.mem_singleton.mp h]
          exact gd
      · rw [swaps_snoc]
        split <;> omega
      · cases es1 : e.isSwap with
        | false => rw [if_neg Bool.false_ne_true]; omega
        | true =>
          have := hsw es1
          rw [if_pos rfl]
          omega
    · rintro σ H1 ⟨b1, hp1, l, y6, y7, ys, es, rfl, eL, hl, ha, hg, hR, hl1, hl2⟩
      refine ⟨.ref L, rfl, L, ys, rfl, .inl ⟨.inl (.inl eL), fun r nr => ?_⟩⟩
      have x1 := x.but b1 hp1
      have sr := same_upd (o := .tup ys) nr
      have nr0 : H r = none := by
        cases e : H r with
        | none => rfl
        | some o =>
          by_cases z : r = p
          · rw [z] at nr
            exact absurd nr hp1.known
          · rw [b1 r o z e] at nr
            cases nr
      exact q _ r ys es (b1.trans (But.of sr)) (hp1.same sr) nr0 (.inl (.inl ((wo_in (X := X) (x1.fresh nr)).trans upd_same))) (dpa_same ((wo_less (fun b z => .inl z)).trans ((But.of sr).wo x.1)) _ _ ha) (by rw [hl]) hg hR (by omega)
--@@SPLIT
/-! ### parts of entries spoilt n times: short texts that can be laid, and what is flat enough -/
def shortD (m : Nat) : PyData → Bool
  | .str z => decide (z.length ≤ m)
  | _ => true
def gpn (n : Nat) (d : PyData) : Bool := gp d && (d.canLay0 && (decide (d.depth ≤ 10) && shortD (20 + 10 * n) d))
theorem gpn_iff {n : Nat} {d : PyData} : gpn n d = true ↔ gp d = true ∧ d.canLay0 = true ∧ d.depth ≤ 10 ∧ shortD (20 + 10 * n) d = true := by
  unfold gpn
  rw [Bool.and_eq_true_iff, Bool.and_eq_true_iff, Bool.and_eq_true_iff, decide_eq_true_iff]
theorem gpn_more {n m : Nat} (h : n ≤ m) {d : PyData} (g : gpn n d = true) : gpn m d = true := by
  obtain ⟨g1, g2, g3, g4⟩ := gpn_iff.mp g
  refine gpn_iff.mpr ⟨g1, g2, g3, ?_⟩
  cases d with
  | str z => exact decide_eq_true (by have : z.length ≤ 20 + 10 * n := of_decide_eq_true g4; omega)
  | _ => rfl
theorem gpn_gp {n : Nat} {d : PyData} (g : gpn n d = true) : gp d = true := (gpn_iff.mp g).1
theorem gpn_strs {n : Nat} {z : Str} (g : gpn n (.str z) = true) : z.length ≤ 20 + 10 * n ∧ PyData.strOk z = true :=
  let ⟨_, g2, _, g4⟩ := gpn_iff.mp g
  ⟨of_decide_eq_true g4, g2⟩
theorem str_gpn {n : Nat} {z : Str} (hn : n ≤ 90) (h : z.length ≤ 20 + 10 * n) (o : PyData.strOk z = true) : gpn n (.str z) = true :=
  gpn_iff.mpr ⟨decide_eq_true (by omega), o, Nat.zero_le _, decide_eq_true h⟩
def genL (n : Nat) (ds : List PyData) : Bool := decide (ds.length ≤ 4 + n) && ds.all (gpn n)
def gen (n : Nat) (d : PyData) : Bool := match seqD d with
  | some ds => genL n ds
  | none => gpn n d
theorem genL_iff {n : Nat} {ds : List PyData} : genL n ds = true ↔ ds.length ≤ 4 + n ∧ ∀ d ∈ ds, gpn n d = true := by
  unfold genL
  rw [Bool.and_eq_true_iff, decide_eq_true_iff, List.all_eq_true]
theorem gen_cases {n : Nat} {d : PyData} (g : gen n d = true) : (∃ ds, seqD d = some ds ∧ ds.length ≤ 4 + n ∧ ∀ x ∈ ds, gpn n x = true) ∨ (seqD d = none ∧ gpn n d = true) := by
  unfold gen at g
  cases e : seqD d with
  | none => rw [e] at g; exact .inr ⟨rfl, g⟩
  | some ds => rw [e] at g; exact .inl ⟨ds, rfl, genL_iff.mp g⟩
theorem gen_some {n : Nat} {d : PyData} {ds : List PyData} (e : seqD d = some ds) (h : ds.length ≤ 4 + n ∧ ∀ x ∈ ds, gpn n x = true) : gen n d = true := by
  unfold gen
  rw [e]
  exact genL_iff.mpr h
theorem gen_more {n m : Nat} (h : n ≤ m) {d : PyData} (g : gen n d = true) : gen m d = true := by
  rcases gen_cases g with ⟨ds, e, l, a⟩ | ⟨e, a⟩
  · exact gen_some e ⟨by omega, fun x hx => gpn_more h (a x hx)⟩
  · unfold gen
    rw [e]
    exact gpn_more h a
theorem gen_ge {n : Nat} (h : n ≤ 16) {d : PyData} (g : gen n d = true) : ge d = true := by
  unfold ge
  rcases gen_cases g with ⟨ds, e, l, a⟩ | ⟨e, a⟩
  · rw [e]
    exact Bool.and_eq_true_iff.mpr ⟨decide_eq_true (by omega), List.all_eq_true.mpr fun x hx => gpn_gp (a x hx)⟩
  · rw [e]
    exact gpn_gp a
theorem gpns_lay {n : Nat} : ∀ ds : List PyData, (∀ x ∈ ds, gpn n x = true) → PyData.canLayAll0 ds = true ∧ PyData.depthAll ds ≤ 10
  | [], _ => ⟨rfl, Nat.zero_le _⟩
  | d :: r, h => by
    obtain ⟨_, g2, g3, _⟩ := gpn_iff.mp (h d List.mem_cons_self)
    obtain ⟨h1, h2⟩ := gpns_lay r (fun x hx => h x (List.mem_cons_of_mem _ hx))
    exact ⟨Bool.and_eq_true_iff.mpr ⟨g2, h1⟩, Nat.max_le.mpr ⟨g3, h2⟩⟩
theorem shaped_seq {ds : List PyData} (h : PyData.canLayAll0 ds = true ∧ PyData.depthAll ds ≤ 10) : SeqAt.shaped (.list ds) = true ∧ SeqAt.shaped (.tuple ds) = true := by
  have h3 : PyData.depthAll ds + 1 ≤ 64 := by omega
  exact ⟨Bool.and_eq_true_iff.mpr ⟨h.1, decide_eq_true h3⟩, Bool.and_eq_true_iff.mpr ⟨h.1, decide_eq_true h3⟩⟩
theorem gpn_shaped {n : Nat} {d : PyData} (g : gpn n d = true) : SeqAt.shaped d = true :=
  let ⟨_, g2, g3, _⟩ := gpn_iff.mp g
  Bool.and_eq_true_iff.mpr ⟨g2, decide_eq_true (by omega)⟩
theorem gen_shaped {n : Nat} {d : PyData} (g : gen n d = true) : SeqAt.shaped d = true := by
  rcases gen_cases g with ⟨ds, e, l, a⟩ | ⟨e, a⟩
  · have h := shaped_seq (gpns_lay ds a)
    cases d with
    | list xs => cases e; exact h.1
    | tuple xs => cases e; exact h.2
    | _ => cases e
  · exact gpn_shaped a
/-! ### a text spoilt, that can still be laid -/
theorem op_mulT {X : Cx} : OpR X (binaryOp .Mult) (fun x y H Q => ∃ (z : Str) (n : Int), x = .str z ∧ y = .int n ∧ z.length ≤ 16 ∧ 0 ≤ n ∧ n ≤ 1048576 ∧ Q (.str (Txt.mul z n)) H) := by
  intro pins s σ H x y v u Q I rx ry h
  obtain ⟨z, n, rfl, rfl, hz, h0, h1, q⟩ := h
  obtain ⟨t, rfl⟩ := rx
  obtain ⟨t', rfl⟩ := ry
  exact PySem.W.KXi.mul rfl hz (by omega) (by omega) fun t' k _ _ => ⟨.str _, H, I.tok _, ⟨_, rfl⟩, q⟩
theorem ok_mem {z : Str} (h : PyData.strOk z = true) : ∀ c ∈ z.cps.toList, c < 0x110000 := fun c hc => by
  have h2 : z.cps.all (fun c => decide (c < 0x110000)) = true := h
  rw [Array.all_eq_true_iff_forall_mem] at h2
  exact of_decide_eq_true (h2 c (Array.mem_toList_iff.mp hc))
theorem ok_cut {z : Str} {lo hi : Option Int} (h : PyData.strOk z = true) : PyData.strOk (cutS z lo hi) = true := ok_of_mem fun c hc => ok_mem h c (cut_mem hc)
theorem ok_app {a b : Str} (h : PyData.strOk a = true) (g : PyData.strOk b = true) : PyData.strOk (a ++ b) = true := ok_of_mem fun c hc => (app_mem hc).elim (ok_mem h c) (ok_mem g c)
theorem mul_a (n : Int) : PyData.strOk (Txt.mul (PySem.Str.ofString "a") n) = true ∧ (0 ≤ n → ((Txt.mul (PySem.Str.ofString "a") n).length : Int) = n) := by
  have e : PySem.Str.ofString "a" = ⟨#[97]⟩ := by decide +kernel
  have h := mul_one_list 97 n
  rw [e]
  refine ⟨ok_of_mem fun c hc => ?_, fun h0 => ?_⟩
  · rw [h] at hc
    rw [(List.mem_replicate.mp hc).2]
    decide
  · have h2 := congrArg List.length h
    rw [len_toList, List.length_replicate] at h2
    omega
theorem cut_lo (z : Str) (k : Nat) : (cutS z none (some (k : Int))).length ≤ k := by
  show (((z.cps.toList.drop (HT.sIx z.length 0 none)).take (HT.sIx z.length z.length (some (k : Int)) - HT.sIx z.length 0 none)).toArray).size ≤ k
  rw [List.size_toArray, List.length_take, HT.sIx_nat]
  omega
theorem cut_hi (z : Str) (k : Nat) : (cutS z (some (k : Int)) none).length ≤ z.length - k := by
  show (((z.cps.toList.drop (HT.sIx z.length 0 (some (k : Int)))).take (HT.sIx z.length z.length none - HT.sIx z.length 0 (some (k : Int)))).toArray).size ≤ z.length - k
  rw [List.size_toArray, List.length_take, List.length_drop, len_toList, HT.sIx_nat]
  omega
def spSpoilt2 : Sp := fun vs H Q _ => ∃ (p : Addr) (z : Str), vs = [.ref p, .str z] ∧ z.length ≤ 100 ∧ PyData.strOk z = true ∧ Pool H p ∧ ∀ H' (z' : Str), But p H H' → Pool H' p → z'.length ≤ z.length + 10 → PyData.strOk z' = true → Q (.str z') H'
theorem ok_Lspoilt2 (T : Top w K mg) : FnOk P w K mg base CX0 2 T.a_Lspoilt_text T.fd_Lspoilt_text ["_law_pool_here", "_law_text"] spSpoilt2 := by
  have G_Ltake := ok_Ltake (P := P) (w := w) (base := base) T
  refine T.F_Lspoilt_text.ok sc_Lspoilt_text (fun vs H Q E h => ?_) (fun cdv A outer s H vs Q E hr h => ?_)
  · obtain ⟨p, z, rfl, _⟩ := h
    rfl
  · obtain ⟨p, z, rfl, hz, oz, hp, q⟩ := h
    refine ⟨_, (pss_cons (ps_set (i := 2) sc_Lspoilt_text.nd rfl (.inl rfl) pe_str)
      (pss_cons (ps_set (i := 3) sc_Lspoilt_text.nd rfl (.inl rfl) (pe_ix ix_str (pv 2) (pe_call G_Ltake hr (by rfl) T.g_Ltake T.F_Ltake.kp T.b_Ltake .nil pass0 (pa_cons (pv 0) (pa_cons (pe_callB call_len_str (by rfl) T.m_len (by decide +kernel) (pa_cons (pv 2) pa_nil)) pa_nil))) (fun _ _ => rfl)))
      (pss_cons (ps_set (i := 4) sc_Lspoilt_text.nd rfl (.inl rfl) (pe_call G_Ltake hr (by rfl) T.g_Ltake T.F_Ltake.kp T.b_Ltake .nil pass0 (pa_cons (pv 0) (pa_cons (pe_op op_add (pe_callB call_len_str (by rfl) T.m_len (by decide +kernel) (pa_cons (pv 1) pa_nil)) pe_int) pa_nil))))
      (pss_cons (ps_set (i := 5) sc_Lspoilt_text.nd rfl (.inl rfl) (pe_call G_Ltake hr (by rfl) T.g_Ltake T.F_Ltake.kp T.b_Ltake .nil pass0 (pa_cons (pv 0) (pa_cons pe_int pa_nil))))
      (pss_cons (ps_if (pt_cmpR op_eq (pv 5) pe_int (nomark _)) (pss_one (ps_ret (pe_op op_add_str (pe_op op_add_str (pe_slice sl_str (pv 1) po_none (po_some (pv 4))) (pv 3)) (pe_slice sl_str (pv 1) (po_some (pv 4)) po_none)))) pss_nil)
      (pss_cons (ps_if (pt_cmpR op_eq (pv 5) pe_int (nomark _)) (pss_one (ps_ret (pe_op op_add_str (pe_op op_add_str (pe_slice sl_str (pv 1) po_none (po_some (pv 4))) (pv 3)) (pe_slice sl_str (pv 1) (po_some (pe_op op_add (pv 4) pe_int)) po_none)))) pss_nil)
      (pss_cons (ps_if (pt_cmpR op_eq (pv 5) pe_int (nomark _)) (pss_one (ps_ret (pe_op op_add_str (pe_slice sl_str (pv 1) po_none (po_some (pv 4))) (pe_slice sl_str (pv 1) (po_some (pe_op op_add (pv 4) pe_int)) po_none)))) pss_nil)
      (pss_one (ps_ret (pe_op op_add_str (pv 1) (pe_op op_mulT pe_str (pe_op op_add pe_int (pe_call G_Ltake hr (by rfl) T.g_Ltake T.F_Ltake.kp T.b_Ltake .nil pass0 (pa_cons (pv 0) (pa_cons pe_int pa_nil))))))))))))))), ?_⟩
    generalize hS : (PySem.Str.ofString " !\"#$&'()*+,-./0123456789:;<=>?@ABCDEFGHIJKLMNOPQRSTUVWXYZ[\\]^_`abcdefghijklmnopqrstuvwxyz{|}~") = S
    have lS : S.length = 94 ∧ PyData.strOk S = true := by
      rw [← hS]
      decide +kernel
    refine ⟨_, rfl, .ref p, rfl, _, rfl, S, rfl, thou (by omega), p, _, rfl, by omega, by omega, hp, fun H1 r b1 hp1 r0 r1 => ?_⟩
    obtain ⟨c, hc⟩ := str_at (z := S) r0 r1
    have oc : PyData.strOk ⟨#[c]⟩ = true := ok_of_mem fun y hy => by
      rw [List.mem_singleton.mp hy]
      exact ok_mem lS.2 c (at_mem hc)
    refine ⟨S, r, c, rfl, rfl, thou (by omega), hc, ?_⟩
    refine ⟨.ref p, rfl, .str z, rfl, z, rfl, thou (by omega), _, _, rfl, rfl, p, _, rfl, by omega, by omega, hp1, fun H2 k b2 hp2 k0 k1 => ?_⟩
    refine ⟨.ref p, rfl, p, 4, rfl, by decide, by decide, hp2, fun H3 i b3 hp3 i0 i1 => ?_⟩
    have bt := (b1.trans b2).trans b3
    have c1 : (⟨#[c]⟩ : Str).length = 1 := rfl
    obtain ⟨kk, rfl⟩ : ∃ kk : Nat, k = kk := ⟨k.toNat, by omega⟩
    have l1 := cut_lo z kk
    have l2 := cut_hi z kk
    have l3 : (cutS z (some ((kk : Int) + 1)) none).length ≤ z.length - (kk + 1) := cut_hi z (kk + 1)
    have o1 : ∀ lo hi, PyData.strOk (cutS z lo hi) = true := fun _ _ => ok_cut oz
    refine ⟨.int i, rfl, rfl, _, rfl, ite2 (fun e => ?_) (fun e => ?_)⟩
    · refine ⟨.str z, rfl, .int kk, rfl, kk, rfl, z, rfl, thou (by omega), .str _, rfl, _, _, rfl, rfl, thou (by omega), .str z, rfl, .int kk, rfl, kk, rfl, z, rfl, thou (by omega), _, _, rfl, rfl, thou (by rw [app_len]; omega), ?_⟩
      exact q H3 _ bt hp3 (by rw [app_len, app_len]; omega) (ok_app (ok_app (o1 _ _) oc) (o1 _ _))
    refine ⟨.int i, rfl, rfl, _, rfl, ite2 (fun e => ?_) (fun e => ?_)⟩
    · refine ⟨.str z, rfl, .int kk, rfl, kk, rfl, z, rfl, thou (by omega), .str _, rfl, _, _, rfl, rfl, thou (by omega), .str z, rfl, .int kk, rfl, kk, 1, rfl, rfl, kk + 1, rfl, z, rfl, thou (by omega), _, _, rfl, rfl, thou (by rw [app_len]; omega), ?_⟩
      exact q H3 _ bt hp3 (by rw [app_len, app_len]; omega) (ok_app (ok_app (o1 _ _) oc) (o1 _ _))
    refine ⟨.int i, rfl, rfl, _, rfl, ite2 (fun e => ?_) (fun e => ?_)⟩
    · refine ⟨.str z, rfl, .int kk, rfl, kk, rfl, z, rfl, thou (by omega), .str z, rfl, .int kk, rfl, kk, 1, rfl, rfl, kk + 1, rfl, z, rfl, thou (by omega), _, _, rfl, rfl, thou (by omega), ?_⟩
      exact q H3 _ bt hp3 (by rw [app_len]; omega) (ok_app (o1 _ _) (o1 _ _))
    refine ⟨.str z, rfl, .ref p, rfl, p, 9, rfl, by decide, by decide, hp3, fun H4 j b4 hp4 j0 j1 => ?_⟩
    have lA : (PySem.Str.ofString "a").length = 1 := by decide +kernel
    have hm := (mul_a (1 + j)).2 (by omega)
    refine ⟨1, j, rfl, rfl, _, 1 + j, rfl, rfl, by omega, by omega, by omega, z, _, rfl, rfl, thou (by omega), ?_⟩
    exact q H4 _ (bt.trans b4) hp4 (by rw [app_len]; omega) (ok_app oz (mul_a _).1)
def anyD : List PyData := [.none, .bool true, .bool false, .str "", .str "n", .str "N", .str "north", .int 0, .int 1, .int (-1), .int 7, .int 8, .int (10 ^ 29), .str "0", .tuple [], .tuple [.int 0], .tuple [.str "n"], .list [], .list [.int 0], .tuple [.str "a", .int 0]]
def spAnyX (K : PySem.W.Frag) : Sp := fun vs H Q _ => ∃ p X, vs = [.ref p] ∧ Pool H p ∧ HX p X H ∧ ∀ H' v d, But p H H' → Pool H' p → d ∈ anyD → Dp K (wo H' X) v d → Q v H'
theorem ok_LanyX (T : Top w K mg) : FnOk P w K mg base CX0 2 T.a_Lanything T.fd_Lanything ["_law_pool_here"] (spAnyX K) := by
  have G_Ltake := ok_Ltake (P := P) (w := w) (base := base) T
  refine T.F_Lanything.ok sc_Lanything (fun vs H Q E h => ?_) (fun cdv A outer s H vs Q E hr h => ?_)
  · obtain ⟨p, X, rfl, _⟩ := h
    rfl
  · obtain ⟨p, X, rfl, hp, x, q⟩ := h
    refine ⟨_, (pss_cons (ps_set (i := 1) sc_Lanything.nd rfl (.inl rfl) (pe_lst (pa_cons pe_non (pa_cons pe_bl (pa_cons pe_bl (pa_cons pe_str (pa_cons pe_str (pa_cons pe_str (pa_cons pe_str (pa_cons pe_int (pa_cons pe_int (pa_cons (pe_un un_neg pe_int) (pa_cons pe_int (pa_cons pe_int (pa_cons (pe_op op_pow pe_int pe_int) (pa_cons pe_str pa_nil))))))))))))))))
      (pss_one (ps_ret (pe_ix ix_list (pe_op op_cat (pv 1) (pe_lst (pa_cons (pe_tup pa_nil) (pa_cons (pe_tup (pa_cons pe_int pa_nil)) (pa_cons (pe_tup (pa_cons pe_str pa_nil)) (pa_cons (pe_lst pa_nil) (pa_cons (pe_lst (pa_cons pe_int pa_nil)) (pa_cons (pe_tup (pa_cons pe_str (pa_cons pe_int pa_nil))) pa_nil)))))))) (pe_call G_Ltake hr (by rfl) T.g_Ltake T.F_Ltake.kp T.b_Ltake .nil pass0 (pa_cons (pv 0) (pa_cons pe_int pa_nil))) (fun _ _ => rfl))))), ?_⟩
    refine ⟨_, rfl, _, _, rfl, rfl, ⟨by decide, by decide, by decide⟩, by show 14 ≤ sizeLine; decide, fun l1 n1 => ?_⟩
    refine ⟨.ref l1, rfl, Nat.zero_le _, fun t1 m1 => ⟨by show 1 ≤ sizeLine; decide, fun t2 m2 => ⟨by show 1 ≤ sizeLine; decide, fun t3 m3 => ⟨Nat.zero_le _, fun t4 m4 => ⟨by show 1 ≤ sizeLine; decide, fun t5 m5 => ⟨by show 2 ≤ sizeLine; decide, fun t6 m6 => ⟨by show 6 ≤ sizeLine; decide, fun l2 n2 => ?_⟩⟩⟩⟩⟩⟩⟩
    have z1 := same_upd (o := .lst [.non, .bl true, .bl false, .str "", .str "n", .str "N", .str "north", .int 0, .int 1, .int (-1), .int 7, .int 8, .int (10 ^ (Int.toNat 29)), .str "0"]) n1
    have z2 := same_upd (o := .tup []) m1
    have z3 := same_upd (o := .tup [.int 0]) m2
    have z4 := same_upd (o := .tup [.str "n"]) m3
    have z5 := same_upd (o := .lst []) m4
    have z6 := same_upd (o := .lst [.int 0]) m5
    have z7 := same_upd (o := .tup [.str "a", .int 0]) m6
    have z8 := same_upd (o := .lst [.ref t1, .ref t2, .ref t3, .ref t4, .ref t5, .ref t6]) n2
    refine ⟨l1, l2, _, _, rfl, rfl, z8 _ _ (z7 _ _ (z6 _ _ (z5 _ _ (z4 _ _ (z3 _ _ (z2 _ _ upd_same)))))), upd_same, by show 20 ≤ sizeLine; decide, fun l3 n3 => ?_⟩
    have z9 := same_upd (o := .lst ([.non, .bl true, .bl false, .str "", .str "n", .str "N", .str "north", .int 0, .int 1, .int (-1), .int 7, .int 8, .int (10 ^ (Int.toNat 29)), .str "0"] ++ [.ref t1, .ref t2, .ref t3, .ref t4, .ref t5, .ref t6])) n3
    have zA := (((((((z1.trans z2).trans z3).trans z4).trans z5).trans z6).trans z7).trans z8).trans z9
    have hp9 := hp.same zA
    refine ⟨.ref p, rfl, p, 20, rfl, by decide, by decide, hp9, fun H' r bt hp' r0 r1 => ?_⟩
    have e3 := bt _ _ ((hp.same ((((((((z1.trans z2).trans z3).trans z4).trans z5).trans z6).trans z7).trans z8))).ne_new n3) (upd_same (o := .lst ([.non, .bl true, .bl false, .str "", .str "n", .str "N", .str "north", .int 0, .int 1, .int (-1), .int 7, .int 8, .int (10 ^ (Int.toNat 29)), .str "0"] ++ [.ref t1, .ref t2, .ref t3, .ref t4, .ref t5, .ref t6])) (a := l3))
    have f1 := bt _ _ (hp9.ne_tup (z9 _ _ (z8 _ _ (z7 _ _ (z6 _ _ (z5 _ _ (z4 _ _ (z3 _ _ upd_same)))))))) (z9 _ _ (z8 _ _ (z7 _ _ (z6 _ _ (z5 _ _ (z4 _ _ (z3 _ _ (upd_same (a := t1) (o := .tup []))))))))) 
    have f2 := bt _ _ (hp9.ne_tup (z9 _ _ (z8 _ _ (z7 _ _ (z6 _ _ (z5 _ _ (z4 _ _ upd_same))))))) (z9 _ _ (z8 _ _ (z7 _ _ (z6 _ _ (z5 _ _ (z4 _ _ (upd_same (a := t2) (o := .tup [.int 0]))))))))
    have f3 := bt _ _ (hp9.ne_tup (z9 _ _ (z8 _ _ (z7 _ _ (z6 _ _ (z5 _ _ upd_same)))))) (z9 _ _ (z8 _ _ (z7 _ _ (z6 _ _ (z5 _ _ (upd_same (a := t3) (o := .tup [.str "n"])))))))
    have f4 := bt _ _ ((hp.same (((z1.trans z2).trans z3).trans z4)).ne_new m4) (z9 _ _ (z8 _ _ (z7 _ _ (z6 _ _ (upd_same (a := t4) (o := .lst []))))))
    have f5 := bt _ _ ((hp.same ((((z1.trans z2).trans z3).trans z4).trans z5)).ne_new m5) (z9 _ _ (z8 _ _ (z7 _ _ (upd_same (a := t5) (o := .lst [.int 0])))))
    have f6 := bt _ _ (hp9.ne_tup (z9 _ _ (z8 _ _ upd_same))) (z9 _ _ (z8 _ _ (upd_same (a := t6) (o := .tup [.str "a", .int 0]))))
    have f1 := (wo_in (H := H') (X := X) (b := t1) ((x.same z1).fresh m1)).trans f1
    have f2 := (wo_in (H := H') (X := X) (b := t2) ((x.same (z1.trans z2)).fresh m2)).trans f2
    have f3 := (wo_in (H := H') (X := X) (b := t3) ((x.same ((z1.trans z2).trans z3)).fresh m3)).trans f3
    have f4 := (wo_in (H := H') (X := X) (b := t4) ((x.same (((z1.trans z2).trans z3).trans z4)).fresh m4)).trans f4
    have f5 := (wo_in (H := H') (X := X) (b := t5) ((x.same ((((z1.trans z2).trans z3).trans z4).trans z5)).fresh m5)).trans f5
    have f6 := (wo_in (H := H') (X := X) (b := t6) ((x.same (((((z1.trans z2).trans z3).trans z4).trans z5).trans z6)).fresh m6)).trans f6
    have bA : But p H H' := (But.of zA).trans bt
    obtain ⟨k, rfl⟩ : ∃ k : Nat, r = k := ⟨r.toNat, by omega⟩
    have hk : k < 20 := by omega
    have go : ∀ v d, ([.non, .bl true, .bl false, .str "", .str "n", .str "N", .str "north", .int 0, .int 1, .int (-1), .int 7, .int 8, .int (10 ^ (Int.toNat 29)), .str "0"] ++ [.ref t1, .ref t2, .ref t3, .ref t4, .ref t5, .ref t6] : List V)[k]? = some v → anyD[k]? = some d → Dp K (wo H' X) v d → rIxL K (.ref l3) (.int (k : Int)) H' Q := fun v d h1 h2 h3 =>
      ⟨l3, _, _, v, rfl, rfl, .inl (.inl e3), atI_nat h1, q H' v d bA hp' (List.mem_of_getElem? h2) h3⟩
    match k, hk, go with
    | 0, _, go => exact go _ _ rfl rfl .non
    | 1, _, go => exact go _ _ rfl rfl (.bl _)
    | 2, _, go => exact go _ _ rfl rfl (.bl _)
    | 3, _, go => exact go _ _ rfl rfl (.str _)
    | 4, _, go => exact go _ _ rfl rfl (.str _)
    | 5, _, go => exact go _ _ rfl rfl (.str _)
    | 6, _, go => exact go _ _ rfl rfl (.str _)
    | 7, _, go => exact go _ _ rfl rfl (.int _)
    | 8, _, go => exact go _ _ rfl rfl (.int _)
    | 9, _, go => exact go _ _ rfl rfl (.int _)
    | 10, _, go => exact go _ _ rfl rfl (.int _)
    | 11, _, go => exact go _ _ rfl rfl (.int _)
    | 12, _, go => exact go _ _ rfl rfl (.int _)
    | 13, _, go => exact go _ _ rfl rfl (.str _)
    | 14, _, go => exact go _ _ rfl rfl (.tup (.inl (.inl f1)) .nil)
    | 15, _, go => exact go _ _ rfl rfl (.tup (.inl (.inl f2)) (.cons (.int _) .nil))
    | 16, _, go => exact go _ _ rfl rfl (.tup (.inl (.inl f3)) (.cons (.str _) .nil))
    | 17, _, go => exact go _ _ rfl rfl (.lst (.inl (.inl f4)) .nil)
    | 18, _, go => exact go _ _ rfl rfl (.lst (.inl (.inl f5)) (.cons (.int _) .nil))
    | 19, _, go => exact go _ _ rfl rfl (.tup (.inl (.inl f6)) (.cons (.str _) (.cons (.int _) .nil)))
    | k + 20, h, _ => exact absurd h (by omega)
--@@SPLIT
/-! ### an entry spoilt -/
theorem dpa_take {K : PySem.W.Frag} {H : Hp} : ∀ (k : Nat) (ds : List PyData) (vs : List V), DpAll K H vs ds → DpAll K H (vs.take k) (ds.take k)
  | 0, _, _, _ => .nil
  | k + 1, [], _, h => by cases h; exact .nil
  | k + 1, d :: ds, _, h => by
    cases h with
    | cons h1 h2 => exact .cons h1 (dpa_take k ds _ h2)
theorem dpa_set {K : PySem.W.Frag} {H : Hp} {v : V} {d : PyData} (hv : Dp K H v d) : ∀ (k : Nat) (ds : List PyData) (vs : List V), DpAll K H vs ds → DpAll K H (vs.set k v) (ds.set k d)
  | _, [], _, h => by cases h; exact .nil
  | 0, d' :: ds, _, h => by
    cases h with
    | cons h1 h2 => exact .cons hv h2
  | k + 1, d' :: ds, _, h => by
    cases h with
    | cons h1 h2 => exact .cons h1 (dpa_set hv k ds _ h2)
theorem mem_set {d x : PyData} : ∀ {ds : List PyData} {k : Nat}, x ∈ ds.set k d → x = d ∨ x ∈ ds
  | [], _, h => by cases h
  | a :: r, 0, h => by
    rcases List.mem_cons.mp h with h | h
    · exact .inl h
    · exact .inr (List.mem_cons_of_mem _ h)
  | a :: r, k + 1, h => by
    rcases List.mem_cons.mp h with h | h
    · exact .inr (h ▸ List.mem_cons_self)
    · rcases mem_set h with h | h
      · exact .inl h
      · exact .inr (List.mem_cons_of_mem _ h)
theorem genL_set {n k : Nat} {ds : List PyData} {d : PyData} (g : genL n ds = true) (gd : gpn (n + 1) d = true) : genL (n + 1) (ds.set k d) = true := by
  obtain ⟨g1, g2⟩ := genL_iff.mp g
  refine genL_iff.mpr ⟨by rw [List.length_set]; omega, fun x hx => ?_⟩
  rcases mem_set hx with h | h
  · rw [h]
    exact gd
  · exact gpn_more (by omega) (g2 x h)
theorem any_gpn : ∀ d ∈ anyD, gpn 0 d = true := by decide +kernel
abbrev w8 : List V := [.str "go", .str "face", .str "sign", .str "spy", .str "left", .str "swap", .str "Go", .str "turn"]
theorem w8_at {i : Int} (h0 : 0 ≤ i) (h1 : i < 8) : ∃ z : Str, atI w8 i = some (.str z) ∧ gpn 0 (.str z) = true := by
  obtain rfl | rfl | rfl | rfl | rfl | rfl | rfl | rfl : i = 0 ∨ i = 1 ∨ i = 2 ∨ i = 3 ∨ i = 4 ∨ i = 5 ∨ i = 6 ∨ i = 7 := by omega
  all_goals exact ⟨_, rfl, by decide +kernel⟩
abbrev v10 : List V := [.int 0, .int 10, .int (-1), .bl true, .str "3", .int (10 ^ (Int.toNat 29)), .str "N", .str "ne", .int 9, .int 1]
theorem v10_at {i : Int} (h0 : 0 ≤ i) (h1 : i < 10) : ∃ (v : V) (d : PyData), atI v10 i = some v ∧ (∀ K H, Dp K H v d) ∧ gpn 0 d = true := by
  obtain rfl | rfl | rfl | rfl | rfl | rfl | rfl | rfl | rfl | rfl : i = 0 ∨ i = 1 ∨ i = 2 ∨ i = 3 ∨ i = 4 ∨ i = 5 ∨ i = 6 ∨ i = 7 ∨ i = 8 ∨ i = 9 := by omega
  · exact ⟨_, _, rfl, fun _ _ => .int _, rfl⟩
  · exact ⟨_, _, rfl, fun _ _ => .int _, rfl⟩
  · exact ⟨_, _, rfl, fun _ _ => .int _, rfl⟩
  · exact ⟨_, _, rfl, fun _ _ => .bl _, rfl⟩
  · exact ⟨_, _, rfl, fun _ _ => .str _, by decide +kernel⟩
  · exact ⟨_, _, rfl, fun _ _ => .int _, rfl⟩
  · exact ⟨_, _, rfl, fun _ _ => .str _, by decide +kernel⟩
  · exact ⟨_, _, rfl, fun _ _ => .str _, by decide +kernel⟩
  · exact ⟨_, _, rfl, fun _ _ => .int _, rfl⟩
  · exact ⟨_, _, rfl, fun _ _ => .int _, rfl⟩
theorem cut_take (xs : List V) : cutV xs none (some (-1)) = xs.take (HT.sIx xs.length xs.length (some (-1))) := by
  unfold cutV
  rw [HT.sIx_none, List.drop_zero, Nat.sub_zero]
def spSpoiltE (K : PySem.W.Frag) : Sp := fun vs H Q _ => ∃ (p t : Addr) (n : Nat) (ds : List PyData) (X : Addr → Prop), vs = [.ref p, .ref t] ∧ Pool H p ∧ HX p X H ∧ n ≤ 3 ∧ ds ≠ [] ∧ genL n ds = true ∧ Dp K (wo H X) (.ref t) (.tuple ds) ∧ ∀ H' v d, But p H H' → Pool H' p → Dp K (wo H' X) v d → gen (n + 1) d = true → Q v H'
theorem ok_Lspoilt_entry (T : Top w K mg) : FnOk P w K mg base CX0 3 T.a_Lspoilt_entry T.fd_Lspoilt_entry ["_law_pool_here", "_law_entry"] (spSpoiltE K) := by
  have G_Ltake := ok_Ltake (P := P) (w := w) (base := base) T
  have G_Lspoilt_text := ok_Lspoilt2 (P := P) (w := w) (base := base) T
  have G_Lanything := ok_LanyX (P := P) (w := w) (base := base) T
  refine T.F_Lspoilt_entry.ok sc_Lspoilt_entry (fun vs H Q E h => ?_) (fun cdv A outer s H vs Q E hr h => ?_)
  · obtain ⟨p, t, n, ds, X, rfl, _⟩ := h
    rfl
  · obtain ⟨p, t, n, ds, X, rfl, hp, x, hn, hne, hg, hd, q⟩ := h
    refine ⟨_, (pss_cons (ps_set (i := 2) sc_Lspoilt_entry.nd rfl (.inl rfl) (pe_call G_Ltake (hr.mono (by decide)) (by rfl) T.g_Ltake T.F_Ltake.kp T.b_Ltake .nil pass0 (pa_cons (pv 0) (pa_cons pe_int pa_nil))))
      (pss_cons (ps_set (i := 3) sc_Lspoilt_entry.nd rfl (.inl rfl) (pe_callTy call_list_of (by rfl) T.m_list (by decide +kernel) (pa_cons (pv 1) pa_nil)))
      (pss_cons (ps_set (i := 4) sc_Lspoilt_entry.nd rfl (.inl rfl) (pe_call G_Ltake (hr.mono (by decide)) (by rfl) T.g_Ltake T.F_Ltake.kp T.b_Ltake .nil pass0 (pa_cons (pv 0) (pa_cons (pe_callB call_len_seq (by rfl) T.m_len (by decide +kernel) (pa_cons (pv 3) pa_nil)) pa_nil))))
      (pss_cons (ps_if (pt_cmpR op_eq (pv 2) pe_int (nomark _)) (pss_one (ps_ret (pe_ix ix_tup (pe_tup (pa_cons pe_non (pa_cons pe_int (pa_cons pe_str (pa_cons pe_bl (pa_cons (pe_tup pa_nil) (pa_cons (pe_lst pa_nil) (pa_cons pe_str (pa_cons (pe_tup (pa_cons pe_str pa_nil)) pa_nil))))))))) (pe_call G_Ltake (hr.mono (by decide)) (by rfl) T.g_Ltake T.F_Ltake.kp T.b_Ltake .nil pass0 (pa_cons (pv 0) (pa_cons pe_int pa_nil))) (fun _ _ => rfl)))) pss_nil)
      (pss_cons (ps_if (pt_cmpR op_eq (pv 2) pe_int (nomark _)) (pss_one (ps_ret (pe_op op_catT (pv 1) (pe_tup (pa_cons (pe_call G_Lanything hr (by rfl) T.g_Lanything T.F_Lanything.kp T.b_Lanything .nil pass0 (pa_cons (pv 0) pa_nil)) pa_nil))))) pss_nil)
      (pss_cons (ps_if (pt_cmpR op_eq (pv 2) pe_int (nomark _)) (pss_one (ps_ret (pe_slice sl_tup (pv 1) po_none (po_some (pe_un un_neg pe_int))))) pss_nil)
      (Evl.pss_cut (ps_if (PW.pt (pw_and (pt_cmpR op_lt (pv 2) pe_int (nomark _)) (pw_and1 (pt_val (pe_callB call_isi (by rfl) T.m_isinstance (by decide +kernel) (pa_cons (pe_ix ix_list (pv 3) (pv 4) (fun _ _ => rfl)) (pa_cons (pe_bltn (v := .ty "str") (by rfl) T.m_str (by decide +kernel) rfl) pa_nil))))))) (pss_one (ps_asg (pe_call G_Lspoilt_text hr (by rfl) T.g_Lspoilt_text T.F_Lspoilt_text.kp T.b_Lspoilt_text .nil pass0 (pa_cons (pv 0) (pa_cons (pe_ix ix_list (pv 3) (pv 4) (fun _ _ => rfl)) pa_nil))) (pg_sub (pv 3) (pv 4) set_list))) (pss_one (ps_if (pt_cmpR op_eq (pv 2) pe_int (nomark _)) (pss_one (ps_asg (pe_ix ix_tup (pe_tup (pa_cons pe_str (pa_cons pe_str (pa_cons pe_str (pa_cons pe_str (pa_cons pe_str (pa_cons pe_str (pa_cons pe_str (pa_cons pe_str pa_nil))))))))) (pe_call G_Ltake (hr.mono (by decide)) (by rfl) T.g_Ltake T.F_Ltake.kp T.b_Ltake .nil pass0 (pa_cons (pv 0) (pa_cons pe_int pa_nil))) (fun _ _ => rfl)) (pg_sub (pv 3) pe_int set_list))) (pss_one (ps_if (pt_cmpR op_eq (pv 2) pe_int (nomark _)) (pss_one (ps_asg (pe_ix ix_tup (pe_tup (pa_cons pe_int (pa_cons pe_int (pa_cons (pe_un un_neg pe_int) (pa_cons pe_bl (pa_cons pe_str (pa_cons (pe_op op_pow pe_int pe_int) (pa_cons pe_str (pa_cons pe_str (pa_cons pe_int (pa_cons pe_int pa_nil))))))))))) (pe_call G_Ltake (hr.mono (by decide)) (by rfl) T.g_Ltake T.F_Ltake.kp T.b_Ltake .nil pass0 (pa_cons (pv 0) (pa_cons pe_int pa_nil))) (fun _ _ => rfl)) (pg_sub (pv 3) (pv 4) set_list))) (pss_one (ps_asg (pe_call G_Lanything hr (by rfl) T.g_Lanything T.F_Lanything.kp T.b_Lanything .nil pass0 (pa_cons (pv 0) pa_nil)) (pg_sub (pv 3) (pv 4) set_list))))))))
      (pss_one (ps_ret (pe_callTy call_tuple_of (by rfl) T.m_tuple (by decide +kernel) (pa_cons (pv 3) pa_nil))))))))))), ?_⟩
    obtain ⟨gl, ga⟩ := genL_iff.mp hg
    cases hd with
    | @tup _ xs _ hs ha =>
    have lx := dpa_len ds xs ha
    have l0 : 0 < ds.length := List.length_pos_iff.mpr hne
    refine ⟨.ref p, rfl, p, 9, rfl, by decide, by decide, hp, fun H1 k b1 hp1 k0 k1 => ?_⟩
    have x1 := x.but b1 hp1
    have hs1 := sqt_same (b1.wo x.1) hs
    have ha1 := dpa_same (b1.wo x.1) _ _ ha
    refine ⟨.ref t, rfl, t, xs, rfl, .inr (sqt_same wo_same hs1), fun L nL => ?_⟩
    have nLp : L ≠ p := hp1.ne_new nL
    have nLX : ¬ X L := x1.fresh nL
    have nLH : H L = none := b1.free nLp nL
    have sL := same_upd (o := .lst xs) nL
    have hp2 := hp1.same sL
    refine ⟨.ref p, rfl, .ref L, rfl, L, xs, rfl, .inl (.inl (.inl upd_same)), p, _, rfl, by omega, by omega, hp2, fun H3 a b3 hp3 a0 a1 => ?_⟩
    have eL3 := b3 _ _ nLp (upd_same (a := L) (o := .lst xs) (H := H1))
    have bt := (b1.trans (But.of sL)).trans b3
    have x3 := x.but bt hp3
    have hs3 := sqt_same (((But.of sL).trans b3).wo x.1) hs1
    have ha3 := dpa_same (((But.of sL).trans b3).wo x.1) _ _ ha1
    obtain ⟨j, rfl⟩ : ∃ j : Nat, a = j := ⟨a.toNat, by omega⟩
    have hj : j < xs.length := by omega
    refine ⟨.int k, rfl, rfl, _, rfl, ite2 (fun e => ?_) (fun e => ?_)⟩
    · -- a thing in its place
      refine ⟨Nat.zero_le _, fun m1 n1 => ⟨Nat.zero_le _, fun m2 n2 => ⟨by show 1 ≤ sizeLine; decide, fun m3 n3 => ⟨by show 8 ≤ sizeLine; decide, fun m4 n4 => ?_⟩⟩⟩⟩
      have s1 := same_upd (o := .tup []) n1
      have s2 := same_upd (o := .lst []) n2
      have s3 := same_upd (o := .tup [.str "go"]) n3
      have s4 := same_upd (o := .tup [.non, .int 7, .str "left", .bl true, .ref m1, .ref m2, .str "", .ref m3]) n4
      have d1 := tupW (K := K) (vs := []) (ds := []) x3 n1 .nil
      have d2 := lstW (K := K) (vs := []) (ds := []) (x3.same s1) n2 .nil
      have d3 := tupW (K := K) (vs := [.str "go"]) (ds := [.str "go"]) ((x3.same s1).same s2) n3 (.cons (.str _) .nil)
      have p3 := ((hp3.same s1).same s2).same s3
      refine ⟨.ref p, rfl, p, 8, rfl, by decide, by decide, p3.same s4, fun H5 r b5 hp5 r0 r1 => ?_⟩
      have et := b5 _ _ (p3.ne_new n4) upd_same
      have bz := (bt.trans (But.of (((s1.trans s2).trans s3).trans s4))).trans b5
      obtain rfl | rfl | rfl | rfl | rfl | rfl | rfl | rfl : r = 0 ∨ r = 1 ∨ r = 2 ∨ r = 3 ∨ r = 4 ∨ r = 5 ∨ r = 6 ∨ r = 7 := by omega
      · exact ⟨m4, _, 0, _, rfl, rfl, .inl (.inl et), rfl, q _ _ _ bz hp5 .non rfl⟩
      · exact ⟨m4, _, 1, _, rfl, rfl, .inl (.inl et), rfl, q _ _ _ bz hp5 (.int _) rfl⟩
      · exact ⟨m4, _, 2, _, rfl, rfl, .inl (.inl et), rfl, q _ _ _ bz hp5 (.str _) (gen_more (n := 0) (Nat.zero_le _) (by decide +kernel))⟩
      · exact ⟨m4, _, 3, _, rfl, rfl, .inl (.inl et), rfl, q _ _ _ bz hp5 (.bl _) rfl⟩
      · exact ⟨m4, _, 4, _, rfl, rfl, .inl (.inl et), rfl, q _ _ _ bz hp5 (dp_same (((But.of ((s2.trans s3).trans s4)).trans b5).wo x.1) _ _ d1) (gen_more (n := 0) (Nat.zero_le _) (by decide +kernel))⟩
      · exact ⟨m4, _, 5, _, rfl, rfl, .inl (.inl et), rfl, q _ _ _ bz hp5 (dp_same (((But.of (s3.trans s4)).trans b5).wo x.1) _ _ d2) (gen_more (n := 0) (Nat.zero_le _) (by decide +kernel))⟩
      · exact ⟨m4, _, 6, _, rfl, rfl, .inl (.inl et), rfl, q _ _ _ bz hp5 (.str _) (gen_more (n := 0) (Nat.zero_le _) (by decide +kernel))⟩
      · exact ⟨m4, _, 7, _, rfl, rfl, .inl (.inl et), rfl, q _ _ _ bz hp5 (dp_same (((But.of s4).trans b5).wo x.1) _ _ d3) (gen_more (n := 0) (Nat.zero_le _) (by decide +kernel))⟩
    refine ⟨.int k, rfl, rfl, _, rfl, ite2 (fun e => ?_) (fun e => ?_)⟩
    · -- a part more
      refine ⟨.ref t, rfl, .ref p, rfl, p, X, rfl, hp3, x3, fun H4 v d b4 hp4 hdA hv => ⟨by show 1 ≤ sizeLine; decide, fun m nm => ?_⟩⟩
      have sm := same_upd (o := .tup [v]) nm
      have b5 := b4.trans (But.of sm)
      have ha5 := dpa_same (b5.wo x.1) _ _ ha3
      refine ⟨t, m, xs, [v], rfl, rfl, sqt_same ((b5.wo x.1).trans wo_same) hs3, .inl (.inl upd_same), ?_, ?_, (fun z => nomatch z), fun _ r nr => ?_⟩
      · intro z
        rw [z] at lx
        simp at lx
        omega
      · show xs.length + 1 ≤ sizeLine
        exact Nat.le_trans (show xs.length + 1 ≤ 1000 by omega) (by decide)
      · have sr := same_upd (o := .tup (xs ++ [v])) nr
        have bz := (bt.trans b5)
        have p5 := hp4.same sm
        refine q _ _ (.tuple (ds ++ [d])) (bz.trans (But.of sr)) (p5.same sr) (tupW (x.but bz p5) nr (dpa_snoc (dp_same ((But.of sm).wo x.1) _ _ hv) _ _ ha5)) (genL_iff.mpr ⟨?_, fun y hy => ?_⟩)
        · rw [List.length_append]
          show ds.length + 1 ≤ 4 + (n + 1)
          omega
        · rcases List.mem_append.mp hy with h | h
          · exact gpn_more (by omega) (ga y h)
          · rw [List.mem_singleton.mp h]
            exact gpn_more (Nat.zero_le _) (any_gpn d hdA)
    refine ⟨.int k, rfl, rfl, _, rfl, ite2 (fun e => ?_) (fun e => ?_)⟩
    · -- a part less
      refine ⟨.ref t, rfl, 1, rfl, -1, rfl, t, xs, rfl, sqt_same wo_same hs3, ?_, fun r nr => ?_⟩
      · rintro ⟨_, z⟩
        have z2 : (-1 + (xs.length : Int)).toNat = xs.length := z
        omega
      · have sr := same_upd (o := .tup (cutV xs none (some (-1)))) nr
        refine q _ _ (.tuple (ds.take (HT.sIx xs.length xs.length (some (-1))))) (bt.trans (But.of sr)) (hp3.same sr) (tupW x3 nr (by rw [cut_take]; exact dpa_take _ ds xs ha3)) (genL_iff.mpr ⟨?_, fun y hy => gpn_more (by omega) (ga y (List.mem_of_mem_take hy))⟩)
        rw [List.length_take]
        omega
    -- a part otherwise
    refine ⟨fun σ H' => But p H H' ∧ Pool H' p ∧ ∃ (y2 y4 : Option V) (ys : List V) (es : List PyData), σ = [some (.ref p), some (.ref t), y2, some (.ref L), y4] ∧ H' L = some (.lst ys) ∧ DpAll K (wo H' (fun b => X b ∨ b = L)) ys es ∧ genL (n + 1) es = true, ?_, ?_⟩
    · have mL : Same (wo H1 X) (wo H3 (fun b => X b ∨ b = L)) := fun c o h => by
        have h2 := wo_some h
        have hc : c ≠ L := fun z => by rw [z, nL] at h2; cases h2.2
        rw [wo_in (X := fun b => X b ∨ b = L) (fun z => z.elim h2.1 hc)]
        exact b3 _ _ (fun z => h2.1 (z ▸ x.1)) (sL _ _ h2.2)
      have haL := dpa_same mL _ _ ha1
      have xL : HX p (fun b => X b ∨ b = L) H3 := ⟨.inl x.1, fun c h => by
        rcases h with h | h
        · exact x3.2 c h
        · rw [h, eL3]
          exact fun z => nomatch z⟩
      have set_ : ∀ (H4 : Hp) (i : Nat) (v : V) (d : PyData) (y2 y4 : Option V), But p H3 H4 → Pool H4 p → Dp K (wo H4 (fun b => X b ∨ b = L)) v d → gpn (n + 1) d = true →
          (But p H (upd H4 L (.lst (xs.set i v))) ∧ Pool (upd H4 L (.lst (xs.set i v))) p ∧ ∃ (z2 z4 : Option V) (ys : List V) (es : List PyData), ([some (.ref p), some (.ref t), y2, some (.ref L), y4] : L2.St) = [some (.ref p), some (.ref t), z2, some (.ref L), z4] ∧ (upd H4 L (.lst (xs.set i v))) L = some (.lst ys) ∧ DpAll K (wo (upd H4 L (.lst (xs.set i v))) (fun b => X b ∨ b = L)) ys es ∧ genL (n + 1) es = true) := fun H4 i v d y2 y4 b4 hp4 hv gd => by
        have m6 : Same (wo H4 (fun b => X b ∨ b = L)) (wo (upd H4 L (.lst (xs.set i v))) (fun b => X b ∨ b = L)) := fun c o h => by
          have h2 := wo_some h
          rw [wo_in (X := fun b => X b ∨ b = L) h2.1, upd_ne (fun z => h2.1 (.inr z))]
          exact h2.2
        exact ⟨(bt.trans b4).mut nLH, hp4.upd nLp, y2, y4, _, _, rfl, upd_same, dpa_set (dp_same m6 _ _ hv) i _ _ (dpa_same ((b4.wo xL.1).trans m6) _ _ haL), genL_set hg gd⟩
      have hx : xs[j]? = some xs[j] := List.getElem?_eq_getElem hj
      obtain ⟨d, fd, gd⟩ := dpa_at ds xs haL j _ hx
      have gpd := ga d (List.mem_of_getElem? fd)
      refine ⟨.int k, rfl, _, _, rfl, rfl, _, rfl, ?_⟩
      refine have rest : _ := ?rest; ite2 (fun e => ?_) (fun e => ite2 (fun z => nomatch z) (fun _ => rest))
      case rest =>
        refine ⟨.int k, rfl, rfl, _, rfl, ite2 (fun e5 => ?_) (fun e5 => ?_)⟩
        · refine ⟨by show 8 ≤ sizeLine; decide, fun m nm => ?_⟩
          have sm := same_upd (o := .tup w8) nm
          refine ⟨.ref p, rfl, p, 8, rfl, by decide, by decide, hp3.same sm, fun H5 r b5 hp5 r0 r1 => ?_⟩
          obtain ⟨z, hz, gz⟩ := w8_at r0 r1
          have b6 := (But.of sm).trans b5
          exact ⟨m, _, r, _, rfl, rfl, .inl (.inl (b5 _ _ (hp3.ne_new nm) upd_same)), hz, .ref L, rfl, L, xs, 0, 0, rfl, rfl, b6 _ _ nLp eL3, Evl.ixN_nat (j := 0) (by omega), set_ H5 0 _ (.str z) _ _ b6 hp5 (.str _) (gpn_more (Nat.zero_le _) gz)⟩
        refine ⟨.int k, rfl, rfl, _, rfl, ite2 (fun e6 => ?_) (fun e6 => ?_)⟩
        · refine ⟨_, rfl, _, _, rfl, rfl, ⟨by decide, by decide, by decide⟩, by show 10 ≤ sizeLine; decide, fun m nm => ?_⟩
          have sm := same_upd (o := .tup v10) nm
          refine ⟨.ref p, rfl, p, 10, rfl, by decide, by decide, hp3.same sm, fun H5 r b5 hp5 r0 r1 => ?_⟩
          obtain ⟨v, d, hz, hv, gz⟩ := v10_at r0 r1
          have b6 := (But.of sm).trans b5
          exact ⟨m, _, r, _, rfl, rfl, .inl (.inl (b5 _ _ (hp3.ne_new nm) upd_same)), hz, .ref L, rfl, .int j, rfl, L, xs, j, j, rfl, rfl, b6 _ _ nLp eL3, Evl.ixN_nat hj, set_ H5 j _ d _ _ b6 hp5 (hv _ _) (gpn_more (Nat.zero_le _) gz)⟩
        · exact ⟨.ref p, rfl, p, _, rfl, hp3, xL, fun H4 v d b4 hp4 hdA hv => ⟨.ref L, rfl, .int j, rfl, L, xs, j, j, rfl, rfl, b4 _ _ nLp eL3, Evl.ixN_nat hj, set_ H4 j v d _ _ b4 hp4 hv (gpn_more (Nat.zero_le _) (any_gpn d hdA))⟩⟩
      refine ⟨.ref L, rfl, .int j, rfl, L, xs, j, xs[j], rfl, rfl, .inl (.inl eL3), atI_nat hx, _, _, _, _, strD d, rfl, .ty _, ty_dp (dp_same wo_same _ _ gd), kit_ty (kit_str d), _, rfl, ?_⟩
      cases hd2 : strD d with
      | false => exact iteF rest
      | true =>
        cases d with
        | str z =>
          have gz : z.length ≤ 20 + 10 * n := (gpn_strs gpd).1
          have hx2 := hx
          rw [show xs[j] = V.str z from by
            generalize xs[j] = v at gd
            cases gd
            rfl] at hx2
          refine iteT ⟨.ref p, rfl, .ref L, rfl, .int j, rfl, L, xs, j, _, rfl, rfl, .inl (.inl eL3), atI_nat hx2, p, z, rfl, by omega, (gpn_strs gpd).2, hp3, fun H4 z' b4 hp4 hz' oz' => ?_⟩
          exact ⟨.ref L, rfl, .int j, rfl, L, xs, j, j, rfl, rfl, b4 _ _ nLp eL3, Evl.ixN_nat hj, set_ H4 j _ (.str z') _ _ b4 hp4 (.str _) (str_gpn (by omega) (by omega) oz')⟩
        | _ => cases hd2
    rintro σ H4 ⟨b4, hp4, y2, y4, ys, es, rfl, eL, hy, gy⟩
    refine ⟨.ref L, rfl, L, ys, rfl, .inl ⟨.inl (.inl eL), fun r nr => ?_⟩⟩
    have mm : Same (wo H4 (fun b => X b ∨ b = L)) (wo H4 X) := fun c o h => by
      have h2 := wo_some h
      rw [wo_in (X := X) (fun z => h2.1 (.inl z))]
      exact h2.2
    have sr := same_upd (o := .tup ys) nr
    exact q _ _ (.tuple es) (b4.trans (But.of sr)) (hp4.same sr) (tupW (x.but b4 hp4) nr (dpa_same mm _ _ hy)) gy
--@@SPLIT
theorem log_rows {K : PySem.W.Frag} {H : Hp} {v : V} {r : Row} (h : Dp K H v (logD r)) : ∃ a xs, v = .ref a ∧ SqT K H a xs ∧ Rows K H xs r.2 := by
  cases h with
  | tup hs ha => exact ⟨_, _, rfl, hs, rows_tup ha⟩
/-! ### small logs, rows, boxes drawn -/
theorem dpa_tp {K : PySem.W.Frag} {H H' : Hp} {n : Nat} (e : Tp H H') {ds : List PyData} {vs : List V} (ho : ∀ d ∈ ds, okD n d = true) (h : DpAll K H vs ds) : DpAll K H' vs ds := dpa_kpA (P := fun d => okD n d = true) (fun d v o h => dp_kp e n d v o h) ds vs ho h
theorem Tp.of {H H' : Hp} (s : Same H H') : Tp H H' := fun b o _ h => s b o h
theorem Tp.trans {H H1 H2 : Hp} (a : Tp H H1) (b : Tp H1 H2) : Tp H H2 := fun c o z h => b c o z (a c o z h)
theorem Tp.but {H H' : Hp} {p : Addr} (hp : Pool H p) (b : But p H H') : Tp H H' := (Kp.but hp b).tp
theorem Tp.lst {H : Hp} {a : Addr} {xs ys : List V} (e : H a = some (.lst xs)) : Tp H (L2.upd H a (.lst ys)) := (Kp.upd e rfl).tp
theorem tups_ok (es : List Ent) : ∀ d ∈ es.map Ent.tup, okD 1 d = true := fun d hd => by
  obtain ⟨e, _, rfl⟩ := List.mem_map.mp hd
  exact ent_okT e
def shrN (n : Fin 9) : Fin 9 := ⟨(n.val + 1) % 3, by omega⟩
def shr : Ent → Ent
  | .go n => .go (shrN n)
  | .spy n z => .spy (shrN n) z
  | e => e
theorem shr_need (e : Ent) : (shr e).need = e.need := by cases e <;> rfl
theorem shr_face (e : Ent) : (shr e).isFace = e.isFace := by cases e <;> rfl
theorem shr_swap (e : Ent) : (shr e).isSwap = e.isSwap := by cases e <;> rfl
theorem shr_ok {e : Ent} (h : e.ok) : (shr e).ok := by cases e <;> exact h
theorem shr_any (es : List Ent) : (es.map shr).any Ent.isFace = es.any Ent.isFace := by
  rw [List.any_map]
  exact congrArg (fun f => es.any f) (funext fun e => shr_face e)
theorem shr_right {es : List Ent} (h : Right es) : Right (es.map shr) := fun i e he hn => by
  rw [List.getElem?_map] at he
  cases e1 : es[i]? with
  | none => rw [e1] at he; cases he
  | some x =>
    rw [e1] at he
    cases he
    rw [← List.map_take, shr_any]
    exact h i x e1 (by rw [← shr_need]; exact hn)
theorem shr_swaps (es : List Ent) : swaps (es.map shr) = swaps es := by
  unfold swaps
  rw [List.filter_map, List.length_map]
  exact congrArg (fun f => (es.filter f).length) (funext fun e => shr_swap e)
theorem shr_int (n : Fin 9) : (1 + ((n.val : Int) + 1) % 3) = ((shrN n).val : Int) + 1 := by
  show _ = (((n.val + 1) % 3 : Nat) : Int) + 1
  omega
theorem gs_in : ∀ i : Fin 10, inV (.str (ws i)) ([PySem.Str.ofString "go", PySem.Str.ofString "spy"].map V.str) = decide (i = 4 ∨ i = 8) := by decide +kernel
theorem tup_atT {K : PySem.W.Frag} {H : Hp} {t : Addr} {e : Ent} (h : Dp K H (.ref t) (Ent.tup e)) : ∃ xs, SqT K H t (.str (ws e.kind) :: xs) ∧ DpAll K H xs e.rest := by
  cases h with
  | @tup _ ys _ hs ha =>
    cases ha with
    | cons h1 h2 =>
      cases h1
      exact ⟨_, hs, h2⟩
theorem dp_ref {K : PySem.W.Frag} {H : Hp} {v : V} {e : Ent} (h : Dp K H v (Ent.tup e)) : ∃ t, v = .ref t := by
  cases h with
  | tup hs ha => exact ⟨_, rfl⟩
theorem cut2 (a b : V) (r : List V) : cutV (a :: b :: r) (some 2) none = r := by
  show ((a :: b :: r).drop (HT.sIx (a :: b :: r).length 0 (some 2))).take (HT.sIx (a :: b :: r).length (a :: b :: r).length none - HT.sIx (a :: b :: r).length 0 (some 2)) = r
  have e1 : HT.sIx (a :: b :: r).length 0 (some 2) = 2 := by
    unfold HT.sIx
    rw [List.length_cons, List.length_cons]
    simp
  rw [e1]
  show r.take _ = r
  exact List.take_of_length_le (by show r.length ≤ (r.length + 1 + 1) - 2; omega)
def spSmallLog (K : PySem.W.Frag) : Sp := fun vs H Q _ => ∃ (p : Addr) (m s : Int), vs = [.ref p, .int m, .int s] ∧ 0 ≤ m ∧ m ≤ 100 ∧ Pool H p ∧ ∀ H' t es, But p H H' → Pool H' p → Dp K H' (.ref t) (.tuple (es.map Ent.tup)) → (es.length : Int) = m → (∀ e ∈ es, e.ok) → Right es → ((swaps es : Int) ≤ s ∨ s < 0) → Q (.ref t) H'
theorem ok_Lsmall_log (T : Top w K mg) : FnOk P w K mg base CX0 6 T.a_Lsmall_log T.fd_Lsmall_log ["_law_pool_here", "_law_many", "_law_swaps"] (spSmallLog K) := by
  have G_Lany_log := ok_Lany_log (P := P) (w := w) (base := base) T
  refine T.F_Lsmall_log.ok sc_Lsmall_log (fun vs H Q E h => ?_) (fun cdv A outer s H vs Q E hr h => ?_)
  · obtain ⟨p, m, s, rfl, _⟩ := h
    rfl
  · obtain ⟨p, m, sw, rfl, m0, m1, hp, q⟩ := h
    refine ⟨_, (pss_cons (ps_set (i := 3) sc_Lsmall_log.nd rfl (.inl rfl) (pe_lst pa_nil))
      (pss_cons (ps_for PassesOwn.never rfl (pi_tup (pe_call G_Lany_log hr (by rfl) T.g_Lany_log T.F_Lany_log.kp T.b_Lany_log .nil pass0 (pa_cons (pv 0) (pa_cons (pv 1) (pa_cons (pv 2) pa_nil))))) (pg_name (i := 4) sc_Lsmall_log.nd rfl (.inl rfl)) (Evl.pss_cut (ps_if (pt_cmpR op_in_seq (pe_ix ix_tup (pv 4) pe_int (fun _ _ => rfl)) (pe_tup (pa_cons pe_str (pa_cons pe_str pa_nil))) (by rfl)) (pss_one (ps_set (i := 4) sc_Lsmall_log.nd rfl (.inl rfl) (pe_op op_catT (pe_tup (pa_cons (pe_ix ix_tup (pv 4) pe_int (fun _ _ => rfl)) (pa_cons (pe_op op_add pe_int (pe_op op_mod (pe_ix ix_tup (pv 4) pe_int (fun _ _ => rfl)) pe_int)) pa_nil))) (pe_slice sl_tup (pv 4) (po_some pe_int) po_none)))) pss_nil)
      (pss_one (ps_expr (pe_bm PySem.F.plainAttrs_list PySem.F.slot_list_append PySem.F.type_list_append mt_append (pv 3) (pa_cons (pv 4) pa_nil))))))
      (pss_one (ps_ret (pe_callTy call_tuple_of (by rfl) T.m_tuple (by decide +kernel) (pa_cons (pv 3) pa_nil)))))), ?_⟩
    refine ⟨Nat.zero_le _, fun L nL => ?_⟩
    have nLp : L ≠ p := hp.ne_new nL
    have s0 := same_upd (o := .lst []) nL
    have hp0 := hp.same s0
    refine ⟨.ref p, rfl, .int m, rfl, .int sw, rfl, p, m, sw, (fun b => b = p), rfl, m0, m1, hp0, ⟨rfl, fun b h => by rw [h]; exact hp0.known⟩, fun H1 t xs es b1 hp1 _ hs ha len ok R hsw => ?_⟩
    have hs1 := sqt_same wo_same hs
    have ha1 := dpa_same wo_same _ _ ha
    have lx := dpa_len2 ha1
    rw [List.length_map] at lx
    have eL1 := b1 _ _ nLp (upd_same (H := H) (a := L) (o := .lst []))
    refine ⟨t, rfl, ⟨xs, hs1⟩, for_it (walk_tup (xs := xs)) (fun i σ H' => But p H H' ∧ Pool H' p ∧ Tp H1 H' ∧ ∃ y4 ys, σ = [some (.ref p), some (.int m), some (.int sw), some (.ref L), y4] ∧ H' L = some (.lst ys) ∧ ys.length = i ∧ DpAll K H' ys (((es.map shr).take i).map Ent.tup)) ⟨(But.of s0).trans b1, hp1, Tp.of (Same.refl _), _, [], rfl, eL1, rfl, .nil⟩ (fun i σ H' _ h => sqt_kp h.2.2.1 hs1) ?_ ?_⟩
    · rintro i v σ H2 H3 hi ⟨b3, hp3, t3, y4, ys, rfl, eL, ly, hy⟩ ⟨rfl, hv⟩
      obtain ⟨d, fd, gd⟩ := dpa_at _ xs ha1 i v hv
      rw [List.getElem?_map] at fd
      obtain ⟨e, fe, rfl⟩ : ∃ e, es[i]? = some e ∧ Ent.tup e = d := by
        cases e1 : es[i]? with
        | none => rw [e1] at fd; cases fd
        | some e => rw [e1] at fd; exact ⟨e, rfl, Option.some.inj fd⟩
      have gd3 := dp_kp t3 1 _ _ (ent_okT e) gd
      obtain ⟨u, rfl⟩ := dp_ref gd3
      obtain ⟨us, hu, hrest⟩ := tup_atT gd3
      refine ⟨fun σ H' => Same H3 H' ∧ ∃ u, σ = [some (.ref p), some (.int m), some (.int sw), some (.ref L), some (.ref u)] ∧ Dp K H' (.ref u) (Ent.tup (shr e)), ?_, ?_⟩
      · refine ⟨.ref u, rfl, u, _, 0, _, rfl, rfl, hu, atI_nat (j := 0) rfl, by show 2 ≤ sizeLine; decide, fun tp ntp => ⟨tp, _, rfl, .inr (.inl (.inl upd_same)), rfl, by decide +kernel, _, rfl, ?_⟩⟩
        have s4 := same_upd (o := .tup ([PySem.Str.ofString "go", PySem.Str.ofString "spy"].map V.str)) ntp
        show if inV (.str (ws e.kind)) ([PySem.Str.ofString "go", PySem.Str.ofString "spy"].map V.str) = true then _ else _
        rw [gs_in]
        refine ite2 (fun e1 => ?_) (fun e1 => ?_)
        · have hk := of_decide_eq_true e1
          obtain ⟨n, us2, eus, hus2, epar⟩ : ∃ (n : Fin 9) (us2 : List V), us = .int ((n.val : Int) + 1) :: us2 ∧ (∃ ds2, DpAll K H3 us2 ds2 ∧ us2.length ≤ 1 ∧ (shr e).parts = .str (ws e.kind) :: .int (((shrN n).val : Int) + 1) :: ds2) ∧ True := by
            cases e with
            | go n =>
              cases hrest with
              | cons h1 h2 => cases h1; cases h2; exact ⟨n, [], rfl, ⟨[], .nil, by decide, rfl⟩, trivial⟩
            | spy n z =>
              cases hrest with
              | cons h1 h2 =>
                cases h1
                cases h2 with
                | cons h3 h4 => cases h3; cases h4; exact ⟨n, [.str z], rfl, ⟨[.str z], .cons (.str _) .nil, Nat.le_refl 1, rfl⟩, trivial⟩
            | turn q => exact absurd hk (by have : ∀ q : Fin 3, ¬ ((Ent.turn q).kind = 4 ∨ (Ent.turn q).kind = 8) := by decide
                                            exact this q)
            | face l => exact absurd hk (show ¬ ((0 : Fin 10) = 4 ∨ (0 : Fin 10) = 8) by decide)
            | bump => exact absurd hk (by decide)
            | sign z => exact absurd hk (show ¬ ((6 : Fin 10) = 4 ∨ (6 : Fin 10) = 8) by decide)
            | bare => exact absurd hk (by decide)
            | swap => exact absurd hk (by decide)
          subst eus
          obtain ⟨ds2, hds2, lus, epar⟩ := hus2
          have hu4 := sqt_same s4 hu
          refine ⟨.ref u, rfl, u, _, 0, _, rfl, rfl, hu4, atI_nat (j := 0) rfl, .ref u, rfl, u, _, 1, _, rfl, rfl, hu4, atI_nat (j := 1) rfl, _, _, rfl, rfl, (by show (0 : Int) < 3; decide), _, _, rfl, rfl, by show 2 ≤ sizeLine; decide, fun a na => ?_⟩
          have s5 := same_upd (o := .tup [.str (ws e.kind), .int (1 + ((n.val : Int) + 1) % 3)]) na
          refine ⟨.ref u, rfl, 2, rfl, u, _, rfl, sqt_same s5 hu4, ?_, fun c nc => ?_⟩
          · intro z
            have z1 := z.1
            unfold HT.sIx at z1
            rw [List.length_cons, List.length_cons] at z1
            simp at z1
          rw [cut2]
          have s6 := same_upd (o := .tup us2) nc
          have s36 := (s4.trans s5).trans s6
          have ea := s6 _ _ (upd_same (a := a) (o := .tup [.str (ws e.kind), .int (1 + ((n.val : Int) + 1) % 3)]))
          have hsh : Ent.tup (shr e) = .tuple (.str (ws e.kind) :: .int (1 + ((n.val : Int) + 1) % 3) :: ds2) := by
            unfold Ent.tup
            rw [epar, shr_int]
          refine ⟨a, c, _, us2, rfl, rfl, .inl (.inl ea), .inl (.inl upd_same), (fun h => nomatch h), ?_, fun h0 => ?_, fun h0 v nv => ?_⟩
          · show 2 + us2.length ≤ sizeLine
            exact thou (by omega)
          · subst h0
            cases hds2
            refine ⟨s36, a, rfl, ?_⟩
            rw [hsh]
            exact .tup (.inl (.inl ea)) (.cons (.str _) (.cons (.int _) .nil))
          · have s7 := same_upd (o := .tup ([.str (ws e.kind), .int (1 + ((n.val : Int) + 1) % 3)] ++ us2)) nv
            refine ⟨s36.trans s7, v, rfl, ?_⟩
            rw [hsh]
            exact .tup (.inl (.inl upd_same)) (.cons (.str _) (.cons (.int _) (dpa_same (s36.trans s7) _ _ hds2)))
        · refine ⟨s4, u, rfl, ?_⟩
          have esh : shr e = e := by
            cases e with
            | go n => exact absurd (decide_eq_true (.inl rfl)) e1
            | spy n z => exact absurd (decide_eq_true (.inr rfl)) e1
            | _ => rfl
          rw [esh]
          exact dp_same s4 _ _ gd3
      rintro σ H4 ⟨s4, u, rfl, hdu⟩
      have eL4 := s4 _ _ eL
      refine ⟨.ref L, rfl, .inl ⟨rfl, _, .inl (.inl eL4)⟩, .ref u, rfl, L, ys, _, rfl, rfl, eL4, small1000 (by omega), ?_⟩
      have tu : Tp H4 (upd H4 L (.lst (ys ++ [.ref u]))) := Tp.lst eL4
      refine ⟨(b3.trans (But.of s4)).mut nL, (hp3.same s4).upd nLp, (t3.trans (Tp.of s4)).trans tu, _, _, rfl, upd_same, ?_, ?_⟩
      · rw [List.length_append, ly]
        rfl
      · have e1 : ((es.map shr).take (i + 1)).map Ent.tup = ((es.map shr).take i).map Ent.tup ++ [Ent.tup (shr e)] := by
          rw [List.take_add_one, List.getElem?_map, fe, List.map_append]
          rfl
        rw [e1]
        exact dpa_snoc (dp_kp tu 1 _ _ (ent_okT _) hdu) _ _ (dpa_tp ((Tp.of s4).trans tu) (tups_ok _) hy)
    · rintro σ H2 ⟨b3, hp3, t3, y4, ys, rfl, eL, ly, hy⟩
      have lsh : (es.map shr).length = es.length := List.length_map _
      rw [lx, ← lsh, List.take_length] at hy
      refine ⟨.ref L, rfl, L, ys, rfl, .inl ⟨.inl (.inl eL), fun r nr => ?_⟩⟩
      have sr := same_upd (o := .tup ys) nr
      refine q _ r (es.map shr) (b3.trans (But.of sr)) (hp3.same sr) (.tup (.inl (.inl upd_same)) (dpa_same sr _ _ hy)) (by rw [lsh]; exact len) (fun e he => ?_) (shr_right R) (by rw [shr_swaps]; exact hsw)
      obtain ⟨x, hx, rfl⟩ := List.mem_map.mp he
      exact shr_ok (ok x hx)
/-- a row of rows: a tuple of a name and a log -/
def RowAt (K : PySem.W.Frag) (H : Hp) (v : V) (r : Row) : Prop := ∃ t l, v = .ref t ∧ H t = some (.tup [.str r.1, .ref l]) ∧ Dp K H (.ref l) (logD r)
theorem RowAt.tp {K : PySem.W.Frag} {H H' : Hp} {v : V} {r : Row} (h : RowAt K H v r) (hl : r.2.length ≤ 1000) (e : Tp H H') : RowAt K H' v r := by
  obtain ⟨t, l, rfl, h1, h2⟩ := h
  exact ⟨t, l, rfl, e _ _ rfl h1, dp_kp e 2 _ _ (log_okD hl) h2⟩
inductive RowsAt (K : PySem.W.Frag) (H : Hp) : List V → List Row → Prop
  | nil : RowsAt K H [] []
  | cons {v : V} {r : Row} {vs : List V} {rs : List Row} : RowAt K H v r → RowsAt K H vs rs → RowsAt K H (v :: vs) (r :: rs)
theorem RowsAt.tp {K : PySem.W.Frag} {H H' : Hp} {vs : List V} {rs : List Row} (h : RowsAt K H vs rs) (hl : ∀ r ∈ rs, r.2.length ≤ 1000) (e : Tp H H') : RowsAt K H' vs rs := by
  induction h with
  | nil => exact .nil
  | cons h1 _ ih => exact .cons (h1.tp (hl _ List.mem_cons_self) e) (ih fun r hr => hl r (List.mem_cons_of_mem _ hr))
theorem RowsAt.len {K : PySem.W.Frag} {H : Hp} {vs : List V} {rs : List Row} (h : RowsAt K H vs rs) : vs.length = rs.length := by
  induction h with
  | nil => rfl
  | cons _ _ ih => rw [List.length_cons, List.length_cons, ih]
theorem RowsAt.at_ {K : PySem.W.Frag} {H : Hp} {vs : List V} {rs : List Row} (h : RowsAt K H vs rs) : ∀ {i : Nat} {v : V}, vs[i]? = some v → ∃ r, rs[i]? = some r ∧ RowAt K H v r := by
  induction h with
  | nil => exact fun h => by cases h
  | cons h1 _ ih =>
    intro i v hv
    cases i with
    | zero => cases hv; exact ⟨_, rfl, h1⟩
    | succ i => exact ih hv
theorem RowsAt.snoc {K : PySem.W.Frag} {H : Hp} {vs : List V} {rs : List Row} {v : V} {r : Row} (h : RowsAt K H vs rs) (h1 : RowAt K H v r) : RowsAt K H (vs ++ [v]) (rs ++ [r]) := by
  induction h with
  | nil => exact .cons h1 .nil
  | cons h2 _ ih => exact .cons h2 ih
theorem dpa_appT {K : PySem.W.Frag} {H : Hp} : ∀ {ds es : List PyData} {xs ys : List V}, DpAll K H xs ds → DpAll K H ys es → DpAll K H (xs ++ ys) (ds ++ es)
  | [], _, _, _, h, g => by cases h; exact g
  | d :: ds, es, _, ys, h, g => by
    cases h with
    | cons h1 h2 => exact .cons h1 (dpa_appT h2 g)
/-! ### the legs that are due -/
def rowD (r : Row) : PyData := .tuple [.str r.1, logD r]
theorem RowAt.same {K : PySem.W.Frag} {H H' : Hp} {v : V} {r : Row} (h : RowAt K H v r) (s : Same H H') : RowAt K H' v r := by
  obtain ⟨t, l, rfl, h1, h2⟩ := h
  exact ⟨t, l, rfl, s _ _ h1, dp_same s _ _ h2⟩
def spSmallBox (K : PySem.W.Frag) : Sp := fun vs H Q _ => ∃ (p : Addr) (n : Int), vs = [.ref p, .int n] ∧ Pool H p ∧ ∀ H' t (box : List Nat), But p H H' → Pool H' p → H t = none → H' t = some (.tup (boxV box)) → box.length = 8 → Q (.ref t) H'
theorem box_set {box : List Nat} {j n : Nat} (h : box[j]? = some n) : (boxV box).set j (.int ((n : Int) + 1)) = boxV (box.set j (n + 1)) := by
  unfold boxV
  rw [List.map_set]
  congr 1
theorem ok_Lsmall_box (T : Top w K mg) : FnOk P w K mg base CX0 2 T.a_Lsmall_box T.fd_Lsmall_box ["_law_pool_here", "_law_legs"] (spSmallBox K) := by
  have G_Ltake := ok_Ltake (P := P) (w := w) (base := base) T
  refine T.F_Lsmall_box.ok sc_Lsmall_box (fun vs H Q E h => ?_) (fun cdv A outer s H vs Q E hr h => ?_)
  · obtain ⟨p, n, rfl, _⟩ := h
    rfl
  · obtain ⟨p, n, rfl, hp, q⟩ := h
    refine ⟨_, (pss_cons (ps_set (i := 2) sc_Lsmall_box.nd rfl (.inl rfl) (pe_op op_rep (pe_lst (pa_cons pe_int pa_nil)) pe_int))
      (pss_cons (ps_set (i := 3) sc_Lsmall_box.nd rfl (.inl rfl) (pe_op op_add pe_int (pe_call G_Ltake hr (by rfl) T.g_Ltake T.F_Ltake.kp T.b_Ltake .nil pass0 (pa_cons (pv 0) (pa_cons pe_int pa_nil)))))
      (pss_cons (ps_for PassesOwn.never rfl (pi_range1 (by rfl) T.m_range (pa_cons (pe_call G_Ltake hr (by rfl) T.g_Ltake T.F_Ltake.kp T.b_Ltake .nil pass0 (pa_cons (pv 0) (pa_cons (pe_op op_sub pe_int (pe_op op_mul pe_int (pe_callTy call_int1 (by rfl) T.m_int (by decide +kernel) (pa_cons (pe_cmpR op_gt (pv 1) pe_int (nomark _)) pa_nil)))) pa_nil))) pa_nil)) (pg_name (i := 4) sc_Lsmall_box.nd rfl (.inl rfl)) (pss_one (ps_augS (pv 2) (pe_call G_Ltake hr (by rfl) T.g_Ltake T.F_Ltake.kp T.b_Ltake .nil pass0 (pa_cons (pv 0) (pa_cons (pv 3) pa_nil))) SeqW.get_list pe_int ip_add set_list)))
      (pss_one (ps_ret (pe_callTy call_tuple_of (by rfl) T.m_tuple (by decide +kernel) (pa_cons (pv 2) pa_nil))))))), ?_⟩
    refine ⟨by show 1 ≤ sizeLine; decide, fun l nl => ⟨l, 8, _, rfl, rfl, upd_same, by decide, by decide, by show 1 * 8 ≤ sizeLine; decide, fun L nL => ?_⟩⟩
    have sl := same_upd (o := .lst [.int 0]) nl
    have sL := same_upd (o := .lst (boxV [0, 0, 0, 0, 0, 0, 0, 0])) nL
    have hp2 := (hp.same sl).same sL
    have nLp : L ≠ p := (hp.same sl).ne_new nL
    have nL0 : H L = none := sl.free nL
    have b2 : But p H (upd (upd H l (.lst [.int 0])) L (.lst (boxV [0, 0, 0, 0, 0, 0, 0, 0]))) := But.of (sl.trans sL)
    refine ⟨.ref p, rfl, p, 8, rfl, by decide, by decide, hp2, fun H3 k b3 hp3 k0 k1 => ⟨_, _, rfl, rfl, ?_⟩⟩
    have eL3 := b3 _ _ nLp (upd_same (a := L) (o := .lst (boxV [0, 0, 0, 0, 0, 0, 0, 0])))
    have hm : ∀ b : Bool, 0 < (9 : Int) - 2 * (if b then 1 else 0) ∧ (9 : Int) - 2 * (if b then 1 else 0) < 100 := by decide
    refine ⟨.ref p, rfl, .int n, rfl, _, _, rfl, rfl, .inr ⟨_, rfl, _, _, rfl, rfl, .inl ⟨by decide, by decide⟩, _, _, rfl, rfl, p, _, rfl, (hm _).1, Int.lt_trans (hm _).2 (by decide), hp3, fun H4 r b4 hp4 r0 r1 => ?_⟩⟩
    have r100 := Int.lt_trans r1 (hm _).2
    refine ⟨r, rfl, by omega, by omega, for_range (n := r.toNat) (fun i σ H' => But p H H' ∧ Pool H' p ∧ ∃ y4 box, σ = [some (.ref p), some (.int n), some (.ref L), some (.int (1 + k)), y4] ∧ H' L = some (.lst (boxV box)) ∧ box.length = 8) ⟨(b2.trans b3).trans b4, hp4, _, _, rfl, b4 _ _ nLp eL3, rfl⟩ ?_ ?_⟩
    · rintro i σ H5 hi ⟨b5, hp5, y4, box, rfl, eL, lb⟩
      refine ⟨.ref L, rfl, .ref p, rfl, .int (1 + k), rfl, p, 1 + k, rfl, by omega, by omega, hp5, fun H6 j b6 hp6 j0 j1 => ?_⟩
      obtain ⟨j, rfl⟩ : ∃ jj : Nat, j = jj := ⟨j.toNat, by omega⟩
      have hj : j < box.length := by omega
      have eb : box[j]? = some box[j] := List.getElem?_eq_getElem hj
      have eL6 := b6 _ _ nLp eL
      have lbv : (boxV box).length = box.length := List.length_map _
      refine ⟨L, boxV box, j, .int (box[j] : Nat), rfl, rfl, .inl (.inl eL6), by unfold boxV; rw [List.getElem?_map, eb]; rfl, _, _, rfl, rfl, L, boxV box, j, j, rfl, rfl, eL6, Evl.ixN_nat (by omega), ?_⟩
      refine ⟨(b5.trans b6).mut nL0, hp6.upd nLp, _, box.set j (box[j] + 1), rfl, ?_, by rw [List.length_set]; exact lb⟩
      rw [upd_same, box_set eb]
    · rintro σ H5 ⟨b5, hp5, y4, box, rfl, eL, lb⟩
      refine ⟨.ref L, rfl, L, _, rfl, .inl ⟨.inl (.inl eL), fun t nt => ?_⟩⟩
      have st := same_upd (o := .tup (boxV box)) nt
      exact q _ t box (b5.trans (But.of st)) (hp5.same st) (b5.free (hp5.ne_new nt) nt) upd_same lb
--@@SPLIT
theorem parts_len (e : Ent) : e.parts.length ≤ 3 := by
  cases e <;> show (_ + 1) ≤ 3 <;> simp [Ent.rest]
/-! ### data that can be shown -/
structure Good (d : PyData) (n w : Nat) : Prop where
  sh : d.showable = true
  nd : d.hasDict = false
  dep : d.depth ≤ n
  lay : d.canLay0 = true
  short : d.intsShort 13 = true
  wt : d.weight ≤ w
structure GoodL (ds : List PyData) (n w : Nat) : Prop where
  sh : PyData.showableAll ds = true
  nd : PyData.hasDictAll ds = false
  dep : PyData.depthAll ds ≤ n
  lay : PyData.canLayAll0 ds = true
  short : PyData.intsShortAll 13 ds = true
  wt : PyData.weightAll ds ≤ (w + 1) * ds.length
theorem good_all {n w : Nat} : ∀ ds : List PyData, (∀ d ∈ ds, Good d n w) → GoodL ds n w
  | [], _ => ⟨rfl, rfl, Nat.zero_le _, rfl, rfl, Nat.zero_le _⟩
  | d :: ds, h => by
    have i := good_all ds (fun x hx => h x (List.mem_cons_of_mem _ hx))
    have g := h d List.mem_cons_self
    refine ⟨?_, ?_, ?_, ?_, ?_, ?_⟩
    · show (d.showable && PyData.showableAll ds) = true
      rw [g.sh, i.sh]; rfl
    · show (d.hasDict || PyData.hasDictAll ds) = false
      rw [g.nd, i.nd]; rfl
    · exact Nat.max_le.mpr ⟨g.dep, i.dep⟩
    · show (d.canLay0 && PyData.canLayAll0 ds) = true
      rw [g.lay, i.lay]; rfl
    · show (PyData.intsShort 13 d && PyData.intsShortAll 13 ds) = true
      rw [g.short, i.short]; rfl
    · have h1 := g.wt
      have h2 := i.wt
      show d.weight + 1 + PyData.weightAll ds ≤ (w + 1) * (ds.length + 1)
      rw [Nat.mul_add]
      omega
theorem GoodL.list {ds : List PyData} {n w : Nat} (h : GoodL ds n w) : Good (.list ds) (n + 1) ((w + 1) * ds.length) := ⟨h.sh, h.nd, Nat.succ_le_succ h.dep, h.lay, h.short, h.wt⟩
theorem GoodL.tuple {ds : List PyData} {n w : Nat} (h : GoodL ds n w) : Good (.tuple ds) (n + 1) ((w + 1) * ds.length) := ⟨h.sh, h.nd, Nat.succ_le_succ h.dep, h.lay, h.short, h.wt⟩
theorem Good.more {d : PyData} {n w m v : Nat} (h : Good d n w) (h1 : n ≤ m) (h2 : w ≤ v) : Good d m v := ⟨h.sh, h.nd, Nat.le_trans h.dep h1, h.lay, h.short, Nat.le_trans h.wt h2⟩
theorem Good.shown {d : PyData} {n w : Nat} (h : Good d n w) (hn : n ≤ 60) (hw : w ≤ 1000000) : d.shown.length ≤ sizeLine := by
  have h1 := h.dep
  have h2 := h.wt
  have l : PyData.layable0 d = true := by
    show (d.canLay0 && decide (d.depth ≤ 64) && decide (d.weight ≤ 2 ^ 20)) = true
    rw [h.lay, decide_eq_true (by omega), decide_eq_true (by omega)]
    rfl
  exact Nat.le_trans (PyProof.Rows.shown_le13 l h.short) (by decide)
theorem good_str {z : Str} (h1 : z.length ≤ 12) (h2 : PyData.strOk z = true) : Good (.str z) 1 12 := ⟨rfl, rfl, Nat.zero_le _, h2, rfl, h1⟩
theorem good_int : ∀ n : Fin 9, Good (.int ((n.val : Int) + 1)) 1 12 := by
  have h : ∀ n : Fin 9, (PyData.int ((n.val : Int) + 1)).showable = true ∧ (PyData.int ((n.val : Int) + 1)).intsShort 13 = true ∧ (PyData.int ((n.val : Int) + 1)).weight ≤ 12 := by decide +kernel
  exact fun n => ⟨(h n).1, rfl, Nat.zero_le _, rfl, (h n).2.1, (h n).2.2⟩
theorem lt_ok : ∀ l : Fin 4, (Lt l).length ≤ 12 ∧ PyData.strOk (Lt l) = true := by decide +kernel
theorem good_part {e : Ent} (h : e.ok) : ∀ d ∈ e.parts, Good d 1 12 := by
  intro d hd
  rcases List.mem_cons.mp hd with hd | hd
  · rw [hd]; exact good_str (ws_ok _).2 (ws_ok _).1
  cases e with
  | face l => rw [List.mem_singleton.mp hd]; exact good_str (lt_ok l).1 (lt_ok l).2
  | go n => rw [List.mem_singleton.mp hd]; exact good_int n
  | sign z => rw [List.mem_singleton.mp hd]; exact good_str h.1 h.2.1
  | spy n z =>
    rcases List.mem_cons.mp hd with hd | hd
    · rw [hd]; exact good_int n
    · rw [List.mem_singleton.mp hd]; exact good_str h.1 h.2.1
  | turn q => cases hd
  | bump => cases hd
  | bare => cases hd
  | swap => cases hd
theorem good_ent {e : Ent} (h : e.ok) {d : PyData} (hs : seqD d = some e.parts) : Good d 2 39 := by
  have g := good_all e.parts (good_part h)
  have l := parts_len e
  have lw : (12 + 1) * e.parts.length ≤ 39 := by omega
  cases d with
  | list ds => cases hs; exact g.list.more (Nat.le_refl _) lw
  | tuple ds => cases hs; exact g.tuple.more (Nat.le_refl _) lw
  | _ => cases hs
theorem good_rows {es : List Ent} (h : ∀ e ∈ es, e.ok) {ds : List PyData} (hs : ds.map seqD = es.map fun e => some e.parts) : GoodL ds 2 39 := by
  refine good_all ds fun d hd => ?_
  obtain ⟨i, hi⟩ := List.mem_iff_getElem?.mp hd
  have e1 : (ds.map seqD)[i]? = some (seqD d) := by rw [List.getElem?_map, hi]; rfl
  rw [hs, List.getElem?_map] at e1
  cases e2 : es[i]? with
  | none => rw [e2] at e1; cases e1
  | some e =>
    rw [e2] at e1
    exact good_ent (h e (List.mem_of_getElem? e2)) (Option.some.inj e1).symm
theorem nm_strOk {z : Str} (h : nmL z.cps.toList = true) : PyData.strOk z = true := ok_of_mem fun c hc => small_ok c (of_decide_eq_true (List.all_eq_true.mp (Bool.and_eq_true_iff.mp (show (shL z.cps.toList && z.cps.toList.all smC) = true from h)).2 c hc))
theorem strs_lay : ∀ zs : List Str, (∀ z ∈ zs, PyData.strOk z = true) → PyData.canLayAll0 (zs.map PyData.str) = true ∧ PyData.depthAll (zs.map PyData.str) ≤ 2
  | [], _ => ⟨rfl, Nat.zero_le _⟩
  | z :: r, h => by
    obtain ⟨i1, i2⟩ := strs_lay r (fun x hx => h x (List.mem_cons_of_mem _ hx))
    refine ⟨?_, ?_⟩
    · show (PyData.strOk z && PyData.canLayAll0 (r.map PyData.str)) = true
      rw [i1, h z List.mem_cons_self]
      rfl
    · exact Nat.max_le.mpr ⟨Nat.zero_le 2, i2⟩
theorem lay_sh {ds : List PyData} (h : PyData.canLayAll0 ds = true ∧ PyData.depthAll ds ≤ 10) : SeqAt.shaped (.list ds) = true := by
  refine Bool.and_eq_true_iff.mpr ⟨h.1, decide_eq_true ?_⟩
  show PyData.depthAll _ + 1 ≤ 64
  have := h.2
  omega
/-! ### shapes of an atlas's parts -/
theorem box_dpa {K : PySem.W.Frag} {H : Hp} : ∀ box : List Nat, DpAll K H (boxV box) (box.map fun n => PyData.int (n : Nat))
  | [] => .nil
  | n :: r => .cons (.int _) (box_dpa r)
theorem ints_layB : ∀ box : List Nat, PyData.canLayAll0 (box.map fun n => PyData.int (n : Nat)) = true ∧ PyData.depthAll (box.map fun n => PyData.int (n : Nat)) ≤ 10
  | [] => ⟨rfl, Nat.zero_le _⟩
  | n :: r => by
    obtain ⟨i1, i2⟩ := ints_layB r
    refine ⟨?_, ?_⟩
    · show (true && PyData.canLayAll0 (r.map fun n => PyData.int (n : Nat))) = true
      rw [i1]
      rfl
    · exact Nat.max_le.mpr ⟨Nat.zero_le 10, i2⟩
theorem strs_dp {K : PySem.W.Frag} {H : Hp} : ∀ ws : List Str, DpAll K H (ws.map V.str) (ws.map PyData.str)
  | [] => .nil
  | z :: r => .cons (.str z) (strs_dp r)
theorem logD_good {r : Row} (ro : RowOk r) : Good (logD r) 3 4000 := by
  have h : (r.2.map Ent.tup).map seqD = r.2.map fun e => some e.parts := by
    rw [List.map_map]
    rfl
  refine (good_rows ro.ok h).tuple.more (Nat.le_refl _) ?_
  rw [List.length_map]
  have := ro.len
  omega
theorem logs_shaped {rs : List Row} (h : ∀ r ∈ rs, RowOk r) : SeqAt.shaped (.tuple (rs.map logD)) = true := by
  have g := (good_all (n := 3) (w := 4000) (rs.map logD) (fun d hd => by
    obtain ⟨r, hr, rfl⟩ := List.mem_map.mp hd
    exact logD_good (h r hr))).tuple
  exact Bool.and_eq_true_iff.mpr ⟨g.lay, decide_eq_true (Nat.le_trans g.dep (by decide))⟩
theorem nms_shaped {rs : List Row} (h : ∀ r ∈ rs, RowOk r) : SeqAt.shaped (.tuple ((nms rs).map PyData.str)) = true := by
  have l := strs_lay (nms rs) (fun z hz => by
    obtain ⟨r, hr, rfl⟩ := List.mem_map.mp hz
    exact nm_strOk (h r hr).nm)
  refine Bool.and_eq_true_iff.mpr ⟨l.1, decide_eq_true ?_⟩
  have := l.2
  show PyData.depthAll _ + 1 ≤ 64
  omega
theorem box_shaped (box : List Nat) : SeqAt.shaped (.tuple (box.map fun n => PyData.int (n : Nat))) = true := by
  have l := ints_layB box
  refine Bool.and_eq_true_iff.mpr ⟨l.1, decide_eq_true ?_⟩
  have := l.2
  show PyData.depthAll _ + 1 ≤ 64
  omega
/-! ### == of atlases, whatever it answers -/
def boxD (box : List Nat) : PyData := .tuple (box.map fun n => PyData.int (n : Nat))
def eqA (box : List Nat) (rs : List Row) (box2 : List Nat) (rs2 : List Row) : Bool := PyData.eqv (boxD box) (boxD box2) && (PyData.eqv (.tuple ((nms rs).map PyData.str)) (.tuple ((nms rs2).map PyData.str)) && PyData.eqv (.tuple (rs.map logD)) (.tuple (rs2.map logD)))
def spEqA (K : PySem.W.Frag) (C : Addr) : Sp := fun vs H Q _ => ∃ (a : Addr) (y : V), vs = [.ref a, y] ∧ ((∃ (b : Addr) (box box2 : List Nat) (rs rs2 : List Row), y = .ref b ∧ AtlasAt K C H a box rs ∧ AtlasAt K C H b box2 rs2 ∧ (∀ r ∈ rs, RowOk r) ∧ (∀ r ∈ rs2, RowOk r) ∧ Q (.bl (eqA box rs box2 rs2)) H) ∨ (∃ t : Value, TyX K H y t ∧ PySem.W.kitOne K t (.ref C) = some false ∧ Q (.bl false) H))
theorem ok_Atlas_eqA (T : Top w K mg) : FnOk P w K mg base CX0 1 T.a_Atlas_eq T.fd_Atlas_eq ["self", "other"] (spEqA K T.a_Atlas) := by
  refine T.F_Atlas_eq.ok sc_Atlas_eq (fun vs H Q E h => ?_) (fun cdv A outer s H vs Q E hr h => ?_)
  · obtain ⟨a, y, rfl, _⟩ := h
    rfl
  · obtain ⟨a, y, rfl, h⟩ := h
    refine ⟨_, (pss_one (ps_ret (pe_and (pe_callB call_isi (by rfl) T.m_isinstance (by decide +kernel) (pa_cons (pv 1) (pa_cons (pe_glob (v := .ref T.a_Atlas) (by rfl) T.g_Atlas rfl) pa_nil))) (pe_and (pe_cmpR (op_eqD hr.units) (pe_fld (pv 0) rfl) (pe_fld (pv 1) rfl) (nomark _)) (pe_and (pe_cmpR (op_eqD hr.units) (pe_fld (pv 0) rfl) (pe_fld (pv 1) rfl) (nomark _)) (pe_one (pe_cmpR (op_eqD hr.units) (pe_fld (pv 0) rfl) (pe_fld (pv 1) rfl) (nomark _)))))))), ?_⟩
    rcases h with ⟨b, box, box2, rs, rs2, rfl, hA, hB, hok, hok2, q⟩ | ⟨t, ty, kt, q⟩
    · obtain ⟨dx, bx, nx, lx, ls, on, po, h1, h2, h3, h4, h5⟩ := hA
      obtain ⟨dy, bY, ny, lY, ms, om, pm, g1, g2, g3, g4, g5⟩ := hB
      have t3 : SqT K H nx (namV rs) := .inl (.inr ⟨on, h3⟩)
      have u3 : SqT K H ny (namV rs2) := .inl (.inr ⟨om, g3⟩)
      unfold eqA boxD at q
      refine ⟨.ref b, rfl, _, _, _, _, true, rfl, .own _, .base (.ins g1 T.cl_Atlas T.ty_Atlas.1 T.ty_Atlas.2.1 T.ty_Atlas.2.2.1 T.ty_Atlas.2.2.2), kit_same, _, rfl, iteT ?_⟩
      refine ⟨.ref a, rfl, a, T.a_Atlas, dx, _, _, rfl, h1, T.cl_Atlas, T.nf_Atlas_box, fl_box bx nx lx, .ref b, rfl, b, T.a_Atlas, dy, _, _, rfl, g1, T.cl_Atlas, T.nf_Atlas_box, fl_box bY ny lY, _, _, .tup h2 (box_dpa box), .tup g2 (box_dpa box2), box_shaped box, box_shaped box2, _, rfl, ?_⟩
      generalize PyData.eqv (.tuple (box.map fun n => PyData.int (n : Nat))) (.tuple (box2.map fun n => PyData.int (n : Nat))) = b1 at q ⊢
      cases b1 with
      | false => exact iteF q
      | true =>
        refine iteT ⟨.ref a, rfl, a, T.a_Atlas, dx, _, _, rfl, h1, T.cl_Atlas, T.nf_Atlas_names, fl_names bx nx lx, .ref b, rfl, b, T.a_Atlas, dy, _, _, rfl, g1, T.cl_Atlas, T.nf_Atlas_names, fl_names bY ny lY, _, _, .tup t3 (strs_dp (nms rs)), .tup u3 (strs_dp (nms rs2)), nms_shaped hok, nms_shaped hok2, _, rfl, ?_⟩
        generalize PyData.eqv (.tuple ((nms rs).map PyData.str)) (.tuple ((nms rs2).map PyData.str)) = b2 at q ⊢
        cases b2 with
        | false => exact iteF q
        | true => exact iteT ⟨.ref a, rfl, a, T.a_Atlas, dx, _, _, rfl, h1, T.cl_Atlas, T.nf_Atlas_logs, fl_logs bx nx lx, .ref b, rfl, b, T.a_Atlas, dy, _, _, rfl, g1, T.cl_Atlas, T.nf_Atlas_logs, fl_logs bY ny lY, _, _, .tup h4 h5, .tup g4 g5, logs_shaped hok, logs_shaped hok2, q⟩
    · exact ⟨y, rfl, _, _, _, _, false, rfl, .own _, ty, kt, _, rfl, iteF q⟩
/-- what is due: the boxes, and the rows sorted -/
def rowD2 (r : Row) : PyData := .tuple [.str r.1, logD r]
theorem rows_eqv : ∀ rs rs2 : List Row, PyData.eqvAll (rs.map rowD2) (rs2.map rowD2) = (PyData.eqvAll ((nms rs).map PyData.str) ((nms rs2).map PyData.str) && PyData.eqvAll (rs.map logD) (rs2.map logD))
  | [], [] => by simp [nms, PyData.eqvAll]
  | [], r :: rs => by simp [nms, PyData.eqvAll]
  | r :: rs, [] => by simp [nms, PyData.eqvAll]
  | r :: rs, q :: qs => by
    have ih := rows_eqv rs qs
    have e1 : PyData.eqv (rowD2 r) (rowD2 q) = (PyData.eqv (.str r.1) (.str q.1) && PyData.eqv (logD r) (logD q)) := by
      unfold rowD2
      simp only [PyData.eqv, PyData.eqvAll, Bool.and_true]
    unfold nms at ih ⊢
    rw [List.map_cons, List.map_cons, List.map_cons, List.map_cons, List.map_cons, List.map_cons, List.map_cons, List.map_cons, PyData.eqvAll, PyData.eqvAll, PyData.eqvAll, e1, ih]
    generalize PyData.eqv (.str r.1) (.str q.1) = a
    generalize PyData.eqv (logD r) (logD q) = b
    generalize PyData.eqvAll _ _ = c
    generalize PyData.eqvAll _ _ = d
    cases a <;> cases b <;> cases c <;> cases d <;> rfl
theorem eqA_due (box : List Nat) (rs : List Row) (box2 : List Nat) (rs2 : List Row) : eqA box rs box2 rs2 = (PyData.eqv (boxD box) (boxD box2) && PyData.eqv (.list (rs.map rowD2)) (.list (rs2.map rowD2))) := by
  unfold eqA
  have e1 : PyData.eqv (.list (rs.map rowD2)) (.list (rs2.map rowD2)) = PyData.eqvAll (rs.map rowD2) (rs2.map rowD2) := by rw [PyData.eqv]
  have e2 : PyData.eqv (.tuple ((nms rs).map PyData.str)) (.tuple ((nms rs2).map PyData.str)) = PyData.eqvAll ((nms rs).map PyData.str) ((nms rs2).map PyData.str) := by rw [PyData.eqv]
  have e3 : PyData.eqv (.tuple (rs.map logD)) (.tuple (rs2.map logD)) = PyData.eqvAll (rs.map logD) (rs2.map logD) := by rw [PyData.eqv]
  rw [e1, e2, e3, rows_eqv]
/-! ### the law's own rows: a name within a list, a log as lists -/
theorem isiK {X : Cx} {K : PySem.W.Frag} (h : X.K = K) : CallR X (.builtin "isinstance") (rIsi K) := h ▸ call_isi
def kLst (K : PySem.W.Frag) : List V → Hp → VK → Prop := fun xs H Q => ∃ p ys, xs = [.ref p] ∧ (SqL K H p ys ∨ SqT K H p ys) ∧ ∀ l, H l = none → Q (.ref l) (upd H l (.lst ys))
theorem list_ofK {X : Cx} {K : PySem.W.Frag} (h : X.K = K) : CallR X (.type "list") (kLst K) := by
  subst h
  exact call_list_of
def kTup (K : PySem.W.Frag) : List V → Hp → VK → Prop := fun xs H Q => ∃ p ys, xs = [.ref p] ∧ ((SqL K H p ys ∧ ∀ l, H l = none → Q (.ref l) (upd H l (.tup ys))) ∨ (SqT K H p ys ∧ Q (.ref p) H))
theorem tuple_ofK {X : Cx} {K : PySem.W.Frag} (h : X.K = K) : CallR X (.type "tuple") (kTup K) := by
  subst h
  exact call_tuple_of
def rInL (K : PySem.W.Frag) : R2 := fun x y H Q => rIn K false x y H Q ∨ rInD K x y H Q
theorem op_inL {X : Cx} (hu : X.A.units + 65 < cLine) : OpR X (compareOp .In) (rInL X.K) := fun pins s σ H x y v u Q I rx ry g => g.elim (op_in_seq pins s σ H x y v u Q I rx ry) (op_inD hu pins s σ H x y v u Q I rx ry)
def rNotInL (K : PySem.W.Frag) : R2 := fun x y H Q => rIn K true x y H Q ∨ rNotInD K x y H Q
theorem op_notInL {X : Cx} (hu : X.A.units + 65 < cLine) : OpR X (compareOp .NotIn) (rNotInL X.K) := fun pins s σ H x y v u Q I rx ry g => g.elim (op_notIn_seq pins s σ H x y v u Q I rx ry) (op_notInD hu pins s σ H x y v u Q I rx ry)
section
variable {K : PySem.W.Frag} {H : Hp} {v : V} {d : PyData} {Q : VK} {p : Addr} {ws : List Str}
theorem inL_of (hd : Dp K H v d) (g : gp d = true) (hp : SqL K H p (ws.map V.str)) (hs : SeqAt.shaped (.list (ws.map PyData.str)) = true) (q : Q (.bl (inW d ws)) H) : rInL K v (.ref p) H Q := by
  cases hd with
  | lst h a => exact .inr ⟨_, _, .lst h a, .lst hp (dpa_strs ws), g, hs, by rw [inW_deep (fun s => by simp [PyData.eqv, eqS])]; exact q⟩
  | tup h a => exact .inr ⟨_, _, .tup h a, .lst hp (dpa_strs ws), g, hs, by rw [inW_deep (fun s => by simp [PyData.eqv, eqS])]; exact q⟩
  | str z => exact .inl ⟨p, _, rfl, .inl hp, rfl, flat_strs ws, by rw [← inW_flat (v := .str z) (d := .str z) (fun s => rfl)] at q; exact q⟩
  | non => exact .inl ⟨p, _, rfl, .inl hp, rfl, flat_strs ws, by rw [← inW_flat (v := .non) (d := .none) (fun s => rfl)] at q; exact q⟩
  | bl b => exact .inl ⟨p, _, rfl, .inl hp, rfl, flat_strs ws, by rw [← inW_flat (v := .bl b) (d := .bool b) (fun s => rfl)] at q; exact q⟩
  | int i => exact .inl ⟨p, _, rfl, .inl hp, rfl, flat_strs ws, by rw [← inW_flat (v := .int i) (d := .int i) (fun s => rfl)] at q; exact q⟩
theorem notInL_of (hd : Dp K H v d) (g : gp d = true) (hp : SqL K H p (ws.map V.str)) (hs : SeqAt.shaped (.list (ws.map PyData.str)) = true) (q : Q (.bl (!inW d ws)) H) : rNotInL K v (.ref p) H Q := by
  cases hd with
  | lst h a => exact .inr ⟨_, _, .lst h a, .lst hp (dpa_strs ws), g, hs, by rw [inW_deep (fun s => by simp [PyData.eqv, eqS])]; exact q⟩
  | tup h a => exact .inr ⟨_, _, .tup h a, .lst hp (dpa_strs ws), g, hs, by rw [inW_deep (fun s => by simp [PyData.eqv, eqS])]; exact q⟩
  | str z => exact .inl ⟨p, _, rfl, .inl hp, rfl, flat_strs ws, by rw [← inW_flat (v := .str z) (d := .str z) (fun s => rfl)] at q; exact q⟩
  | non => exact .inl ⟨p, _, rfl, .inl hp, rfl, flat_strs ws, by rw [← inW_flat (v := .non) (d := .none) (fun s => rfl)] at q; exact q⟩
  | bl b => exact .inl ⟨p, _, rfl, .inl hp, rfl, flat_strs ws, by rw [← inW_flat (v := .bl b) (d := .bool b) (fun s => rfl)] at q; exact q⟩
  | int i => exact .inl ⟨p, _, rfl, .inl hp, rfl, flat_strs ws, by rw [← inW_flat (v := .int i) (d := .int i) (fun s => rfl)] at q; exact q⟩
end
theorem shaped_nmsL {rs : List Row} (h : ∀ r ∈ rs, RowOk r) : SeqAt.shaped (.list ((nms rs).map PyData.str)) = true := shaped_nms h
/-- an entry that is a tuple as a list -/
def lstD : PyData → PyData
  | .tuple ds => .list ds
  | d => d
theorem lst_seq (d : PyData) : seqD (lstD d) = seqD d := by cases d <;> rfl
theorem lst_tup (d : PyData) : tupD (lstD d) = tupD d := by cases d <;> rfl
theorem lst_tups (es : List PyData) : (es.map lstD).map tupD = es.map tupD := by
  rw [List.map_map]
  exact List.map_congr_left fun d _ => lst_tup d
theorem lst_bad : ∀ (es : List PyData) (f : Bool) (i : Nat), badAt f i (es.map lstD) = badAt f i es
  | [], _, _ => rfl
  | d :: es, f, i => by
    have h1 : entD (lstD d) = entD d := by unfold entD; rw [lst_seq]
    have h2 : headD (lstD d) = headD d := by unfold headD; rw [lst_seq]
    show (if entD (lstD d) = false then some i else if (ndD (lstD d) && !f) = true then some i else badAt (f || fcD (lstD d)) (i + 1) (es.map lstD)) = _
    rw [h1, show ndD (lstD d) = ndD d by unfold ndD; rw [h2], show fcD (lstD d) = fcD d by unfold fcD; rw [h2], lst_bad es]
    rfl
theorem ge_lst {d : PyData} (h : ge d = true) : ge (lstD d) = true := by
  unfold ge
  rw [lst_seq]
  unfold ge at h
  cases d <;> exact h
def spAsLists (K : PySem.W.Frag) : Sp := fun vs H Q _ => ∃ (t : Addr) (xs : List V) (es : List PyData), vs = [.ref t] ∧ SqT K H t xs ∧ DpAll K H xs es ∧ es.length ≤ 100 ∧ ∀ H' r ys, Same H H' → H' r = some (.lst ys) → DpAll K H' ys (es.map lstD) → Q (.ref r) H'
theorem ok_Las_lists (T : Top w K mg) : FnOk P w K mg base CX0 1 T.a_Las_lists T.fd_Las_lists ["_law_log"] (spAsLists K) := by
  refine T.F_Las_lists.ok sc_Las_lists (fun vs H Q E h => ?_) (fun cdv A outer s H vs Q E hr h => ?_)
  · obtain ⟨t, xs, es, rfl, _⟩ := h
    rfl
  · obtain ⟨t, xs, es, rfl, ht, hes, hl, q⟩ := h
    have lx := dpa_len _ _ hes
    refine ⟨_, (pss_one (ps_ret (pe_lc (own := [("_law_entry", 1)]) (g := gName 1) (by rfl) sc_Las_lists.nd (pi_tup (pv 0)) (blkOk_by (own := [("_law_entry", 1)]) (N := ["_law_log", "_law_entry"]) (sc := defScope s_Las_lists) (by decide +kernel)) (fun _ _ _ _ _ => (pg_name (i := 1) sc_Las_lists.nd rfl (Or.inl rfl))) (fun _ _ _ _ _ => pts_nil) (fun _ _ _ _ _ => (pe_ifExp (pt_val (pe_callB (r := rIsi K) (id := "isinstance") (isiK rfl) (by rfl) T.m_isinstance (by decide +kernel) (pa_cons (pv 1) (pa_cons (pe_bltn (v := .ty "tuple") (by rfl) T.m_tuple (by decide +kernel) rfl) pa_nil)))) (pe_callTy (r := kLst K) (T := "list") (list_ofK rfl) (by rfl) T.m_list (by decide +kernel) (pa_cons (pv 1) pa_nil)) (pv 1)))))), ?_⟩
    refine ⟨.ref t, rfl, t, rfl, ⟨xs, ht⟩, fun D nD => lc_it (walk_tup (K := K) (a := t) (xs := xs)) (fun i H' => Same H H' ∧ ∃ ys, H' D = some (.lst ys) ∧ ys.length = i ∧ DpAll K (wo H' (fun c => c = D)) ys ((es.take i).map lstD)) ⟨same_upd nD, [], upd_same, rfl, .nil⟩ (fun i H' _ h => sqt_same h.1 ht) ?_ ?_⟩
    · rintro i v _ H1 hi ⟨sm, ys, eD, ly, hy⟩ ⟨rfl, hv⟩
      obtain ⟨d, fd, gd⟩ := dpa_at _ xs hes i v hv
      have fin : ∀ (H3 : Hp) (y : V), Same H1 H3 → Dp K (wo H3 (fun c => c = D)) y (lstD d) → ∃ acc, H3 D = some (.lst acc) ∧ acc.length < sizeLine ∧ Same H (upd H3 D (.lst (acc ++ [y]))) ∧ ∃ zs, upd H3 D (.lst (acc ++ [y])) D = some (.lst zs) ∧ zs.length = i + 1 ∧ DpAll K (wo (upd H3 D (.lst (acc ++ [y]))) fun c => c = D) zs ((es.take (i + 1)).map lstD) := fun H3 y s3 gy => by
        have m1 : Same (wo H1 (fun c => c = D)) (wo H3 (fun c => c = D)) := fun c o h => by
          have h2 := wo_some h
          rw [wo_in (X := fun c => c = D) h2.1]
          exact s3 _ _ h2.2
        have m2 : Same (wo H3 (fun c => c = D)) (wo (upd H3 D (.lst (ys ++ [y]))) (fun c => c = D)) := fun c o h => by
          have h2 := wo_some h
          rw [wo_in (X := fun c => c = D) h2.1, upd_ne h2.1]
          exact h2.2
        refine ⟨ys, s3 _ _ eD, small1000 (by omega), fun c o h => ?_, _, upd_same, by rw [List.length_append, ly]; rfl, ?_⟩
        · rw [upd_ne (ne_of_none h nD)]
          exact s3 _ _ (sm _ _ h)
        · rw [List.take_add_one, fd, List.map_append]
          exact dpa_snoc (dp_same m2 _ _ gy) _ _ (dpa_same (m1.trans m2) _ _ hy)
      have mH : Same H (wo H1 (fun c => c = D)) := fun c o h => by
        rw [wo_in (X := fun c => c = D) (ne_of_none h nD)]
        exact sm _ _ h
      obtain ⟨x, y, kx, _, _⟩ := kit_seq d
      refine ⟨rfl, v, rfl, _, _, _, _, x, rfl, .ty _, ty_dp (dp_same sm _ _ gd), kit_ty kx, _, rfl, ?_⟩
      cases gd with
      | @tup a0 zs ds0 hq ha =>
        cases (show x = true from by have : kitB "tuple" "tuple" = some x := kx; rw [show kitB "tuple" "tuple" = some true from by decide +kernel] at this; exact (Option.some.inj this).symm)
        refine iteT ⟨_, rfl, _, _, rfl, .inr (sqt_same sm hq), fun l nl => ?_⟩
        have sl := same_upd (o := .lst zs) nl
        refine fin _ _ sl (.lst (.inl (.inl ?_)) (dpa_same (fun c o h => ?_) _ _ ha))
        · rw [wo_in (X := fun c => c = D) (fun z => by rw [z, eD] at nl; cases nl)]
          exact upd_same
        · rw [wo_in (X := fun c => c = D) (ne_of_none h nD)]
          exact sl _ _ (sm _ _ h)
      | lst hq ha =>
        cases (show x = false from by have : kitB "list" "tuple" = some x := kx; rw [show kitB "list" "tuple" = some false from by decide +kernel] at this; exact (Option.some.inj this).symm)
        exact iteF ⟨_, rfl, fin _ _ (Same.refl _) (dp_same mH _ _ (.lst hq ha))⟩
      | non =>
        cases (show x = false from by have : kitB "NoneType" "tuple" = some x := kx; rw [show kitB "NoneType" "tuple" = some false from by decide +kernel] at this; exact (Option.some.inj this).symm)
        exact iteF ⟨_, rfl, fin _ _ (Same.refl _) .non⟩
      | bl b =>
        cases (show x = false from by have : kitB "bool" "tuple" = some x := kx; rw [show kitB "bool" "tuple" = some false from by decide +kernel] at this; exact (Option.some.inj this).symm)
        exact iteF ⟨_, rfl, fin _ _ (Same.refl _) (.bl b)⟩
      | int j =>
        cases (show x = false from by have : kitB "int" "tuple" = some x := kx; rw [show kitB "int" "tuple" = some false from by decide +kernel] at this; exact (Option.some.inj this).symm)
        exact iteF ⟨_, rfl, fin _ _ (Same.refl _) (.int j)⟩
      | str z =>
        cases (show x = false from by have : kitB "str" "tuple" = some x := kx; rw [show kitB "str" "tuple" = some false from by decide +kernel] at this; exact (Option.some.inj this).symm)
        exact iteF ⟨_, rfl, fin _ _ (Same.refl _) (.str z)⟩
    · rintro H1 ⟨sm, ys, eD, ly, hy⟩
      rw [lx, List.take_length] at hy
      exact q _ D ys sm eD (dpa_same wo_same _ _ hy)
/-! ### is the log of a walker the one that is kept -/
/-- a dict of names and logs -/
def KeptD (K : PySem.W.Frag) (H : Hp) (kd : Addr) (rs : List Row) : Prop := ∃ ls, H kd = some (.dK (kvsOf rs ls)) ∧ ls.length = rs.length ∧ DpAll K H ls (rs.map logD)
theorem KeptD.same {K : PySem.W.Frag} {H H' : Hp} {kd : Addr} {rs : List Row} (h : KeptD K H kd rs) (s : Same H H') : KeptD K H' kd rs := let ⟨ls, e, l, a⟩ := h; ⟨ls, s _ _ e, l, dpa_same s _ _ a⟩
def LayD (d : PyData) : Prop := d.canLay0 = true ∧ d.depth ≤ 10
theorem told_shaped {r : Row} (ro : RowOk r) : SeqAt.shaped (.tuple [.str "told", logD r]) = true := by
  have g := logD_good ro
  refine Bool.and_eq_true_iff.mpr ⟨?_, decide_eq_true ?_⟩
  · show (PyData.strOk _ && ((logD r).canLay0 && true)) = true
    rw [g.lay]
    decide +kernel
  · show max 0 (max (logD r).depth 0) + 1 ≤ 64
    have := g.dep
    omega
theorem who_shaped {w : Str} {d : PyData} (hw : PyData.strOk w = true) (h : LayD d) : SeqAt.shaped (.tuple [.str w, d]) = true := by
  refine Bool.and_eq_true_iff.mpr ⟨?_, decide_eq_true ?_⟩
  · show (PyData.strOk w && (d.canLay0 && true)) = true
    rw [hw, h.1]
    rfl
  · show max 0 (max d.depth 0) + 1 ≤ 64
    have := h.2
    omega
theorem nms_perm {rs rs2 : List Row} (h : rs.Perm rs2) : (nms rs).Perm (nms rs2) := h.map _
theorem kv_names {rs : List Row} {ls : List V} (h : ls.length = rs.length) : (kvsOf rs ls).map (fun kv => kV kv.1) = (nms rs).map V.str := by
  have := congrArg (List.map kV) (kvs_keys rs ls h)
  rw [List.map_map, List.map_map] at this
  exact this
def spLogRight (K : PySem.W.Frag) (T : Top w K mg) : Sp := fun vs H Q _ => ∃ (x kd : Addr) (nv : V) (d : PyData) (box : List Nat) (rs rs2 : List Row), vs = [.ref x, .ref kd, nv] ∧ AtlasAt K T.a_Atlas H x box rs ∧ KeptD K H kd rs2 ∧ rs.Perm rs2 ∧ Dp K H nv d ∧ gp d = true ∧ LayD d ∧ siz d ≤ 1000 ∧ Srt rs ∧ (∀ r ∈ rs, RowOk r) ∧ rs.length ≤ 50 ∧ ∀ H', Same H H' → Q (.bl true) H'
theorem ok_Llog_right (T : Top w K mg) : FnOk P w K mg base CX0 7 T.a_Llog_right T.fd_Llog_right ["_law_atlas", "_law_kept", "_law_name_here"] (spLogRight K T) := by
  have G_Atlas_log := ok_Atlas_log (P := P) (w := w) (base := base) T
  refine T.F_Llog_right.ok sc_Llog_right (fun vs H Q E h => ?_) (fun cdv A outer s H vs Q E hr h => ?_)
  · obtain ⟨x, kd, nv, d, box, rs, rs2, rfl, _⟩ := h
    rfl
  · obtain ⟨x, kd, nv, d, box, rs, rs2, rfl, hA, hk, prm, hd, hg, hsh, hz, hsrt, hok, hlen, q⟩ := h
    have hA' := hA
    obtain ⟨dx, b, n, l, ls, on, po, h1, _⟩ := hA'
    refine ⟨_, (pss_cons (ps_set (i := 3) sc_Llog_right.nd rfl (.inl rfl) pe_non)
      (pss_cons (ps_try_as (i := 4) rfl rfl sc_Llog_right.nd rfl rfl ⟨rfl, by decide, .inl T.g_NoWalker⟩ takes0 (fun W pn xe tk _ => (pss_one (ps_set (i := 3) sc_Llog_right.nd rfl (.inl rfl) (pe_tup (pa_cons pe_str (pa_cons (MethE.pe_methS (pv 0) T.cl_Atlas T.me_Atlas_log G_Atlas_log hr T.b_Atlas_log (fun σ => passAt tk σ) (pa_cons (pv 2) pa_nil)) pa_nil)))))) (fun a oe cls d pn hz hf => (pss_one (ps_set (i := 3) sc_Llog_right.nd rfl (.inl rfl) (pe_ifExp (pt_val (ExcM.pe_callP (ok_Lown_NoWalker (P := P) (w := w) (base := base) T hz hf) ⟨(L2H.roomH_of (hr.mono (by decide : 1 ≤ 6))).dp, (L2H.roomH_of (hr.mono (by decide : 1 ≤ 6))).un⟩ List.mem_cons_self (by rfl) T.g_Lown T.F_Lown.kp T.b_Lown (pa_cons (pv 4) pa_nil))) (pe_tup (pa_cons pe_str (pa_cons (pe_xf T.xf_NoWalker T.no_NoWalker_name hz hf (pv 4)) pa_nil))) (pe_tup (pa_cons pe_str pa_nil)))))))
      (pss_one (ps_ret (pe_cmpR (op_eqD hr.units) (pv 3) (pe_ifExp (pt_cmpR (op_inL (units65 hr)) (pv 2) (pe_callTy (call_listD rfl) (by rfl) T.m_list (by decide +kernel) (pa_cons (pv 1) pa_nil)) (by rfl)) (pe_tup (pa_cons pe_str (pa_cons (pe_dget (hu_of hr) (pv 1) (pv 2) (fun _ _ => rfl)) pa_nil))) (pe_tup (pa_cons pe_str (pa_cons (pv 2) pa_nil)))) (nomark _)))))), ?_⟩
    obtain ⟨ks, ek, lk, hks⟩ := hk
    have hok2 : ∀ r ∈ rs2, RowOk r := fun r hr => hok r (prm.mem_iff.mpr hr)
    have nd2 : (nms rs2).Nodup := (nms_perm prm).nodup_iff.mp hsrt.nodup
    refine ⟨.ref x, rfl, x, dx, _, rfl, h1, rfl, nv, rfl, x, nv, d, box, rs, rfl, hA, hd, hg, hz, hsrt.nodup, hok, by omega, fun r hr e lv hlv => ⟨by show 2 ≤ sizeLine; decide, fun t nt => ?_⟩, fun hno H1 dd v' s1 nd ed hv => ⟨true, T.exm_NoWalker, (fun _ a0 na0 => ⟨.ref a0, rfl, rfl, rfl, dd, _, rfl, ed, fun H2 s2 => ⟨_, rfl, iteT ⟨.ref a0, rfl, rfl, rfl, dd, _, v', rfl, s2 _ _ ed, by simp [List.lookup], by show 2 ≤ sizeLine; decide, fun t nt => ?_⟩⟩⟩), fun y => Bool.noConfusion y⟩⟩
    · have st := same_upd (o := .tup [.str "told", lv]) nt
      refine ⟨.ref t, rfl, nv, rfl, .ref kd, rfl, kd, _, rfl, Rd.of (st _ _ ek), fun p np => ?_⟩
      have sp := same_upd (o := .lst ((kvsOf rs2 ks).map fun kv => kV kv.1)) np
      have s2 := st.trans sp
      refine inL_of (ws := nms rs2) (dp_same s2 _ _ hd) hg (.inl (.inl (by rw [← kv_names lk]; exact upd_same))) (shaped_nmsL hok2) ⟨_, rfl, ?_⟩
      rw [inW_nms.mpr ⟨r, prm.mem_iff.mp hr, e⟩]
      subst e
      cases hd
      obtain ⟨m, em⟩ := List.mem_iff_getElem?.mp (prm.mem_iff.mp hr)
      have hm : m < ks.length := by rw [lk]; exact (List.getElem?_eq_some_iff.mp em).1
      have hv := kvs_some rs2 ks m r ks[m] nd2 em (List.getElem?_eq_getElem hm)
      obtain ⟨d2, fd, gd⟩ := dpa_at _ ks hks m ks[m] (List.getElem?_eq_getElem hm)
      rw [List.getElem?_map, em] at fd
      cases fd
      have hg2 := DGet.k (k := Sum.inr r.1) (s2 _ _ ek)
      rw [hv] at hg2
      refine iteT ⟨.ref kd, rfl, _, rfl, kd, ks[m], rfl, hg2, by show 2 ≤ sizeLine; decide, fun t2 n2 => ?_⟩
      have s3 := same_upd (o := .tup [.str "told", ks[m]]) n2
      refine ⟨_, _, .tup (.inl (.inl (s3 _ _ (sp _ _ upd_same)))) (.cons (.str _) (.cons (dp_same (s2.trans s3) _ _ hlv) .nil)), .tup (.inl (.inl upd_same)) (.cons (.str _) (.cons (dp_same (s2.trans s3) _ _ gd) .nil)), told_shaped (hok r hr), told_shaped (hok r hr), ?_⟩
      rw [SeqAt.eqv_refl _ (SeqAt.canLay_of_shaped (told_shaped (hok r hr)))]
      exact q _ (s2.trans s3)
    · have sa := s1.trans s2
      have st := same_upd (o := .tup [.str "NoWalker", v']) nt
      refine ⟨.ref t, rfl, nv, rfl, .ref kd, rfl, kd, _, rfl, Rd.of (st _ _ (sa _ _ ek)), fun p np => ?_⟩
      have sp := same_upd (o := .lst ((kvsOf rs2 ks).map fun kv => kV kv.1)) np
      have s3 := sa.trans (st.trans sp)
      refine inL_of (ws := nms rs2) (dp_same s3 _ _ hd) hg (.inl (.inl (by rw [← kv_names lk]; exact upd_same))) (shaped_nmsL hok2) ⟨_, rfl, ?_⟩
      rw [show inW d (nms rs2) = false from Bool.eq_false_iff.mpr fun h => by obtain ⟨r, hr, e⟩ := inW_nms.mp h; exact hno r (prm.mem_iff.mpr hr) e]
      refine iteF ⟨nv, rfl, by show 2 ≤ sizeLine; decide, fun t2 n2 => ?_⟩
      have s4 := same_upd (o := .tup [.str "NoWalker", nv]) n2
      have sh := who_shaped (w := "NoWalker") (by decide +kernel) hsh
      refine ⟨_, _, .tup (.inl (.inl (s4 _ _ (sp _ _ upd_same)))) (.cons (.str _) (.cons (dp_same ((s2.trans st).trans (sp.trans s4)) _ _ hv) .nil)), .tup (.inl (.inl upd_same)) (.cons (.str _) (.cons (dp_same (s3.trans s4) _ _ hd) .nil)), sh, sh, ?_⟩
      rw [SeqAt.eqv_refl _ (SeqAt.canLay_of_shaped sh)]
      exact q _ (s3.trans s4)
--@@SPLIT
/-! ### tuples in hand: joined, cut, taken once or not at all -/
abbrev X3 (p b l : Addr) : Addr → Prop := fun c => c = p ∨ c = b ∨ c = l
theorem dpa_app2 {K : PySem.W.Frag} {H : Hp} {ys : List V} {es : List PyData} (g : DpAll K H ys es) : ∀ {xs : List V} {ds : List PyData}, DpAll K H xs ds → DpAll K H (xs ++ ys) (ds ++ es)
  | _, [], h => by cases h; exact g
  | _, d :: ds, h => by
    cases h with
    | cons h1 h2 => exact .cons h1 (dpa_app2 g h2)
theorem dpa_drop {K : PySem.W.Frag} {H : Hp} : ∀ (k : Nat) (ds : List PyData) (vs : List V), DpAll K H vs ds → DpAll K H (vs.drop k) (ds.drop k)
  | 0, _, _, h => h
  | k + 1, [], _, h => by cases h; exact .nil
  | k + 1, d :: ds, _, h => by
    cases h with
    | cons h1 h2 => exact dpa_drop k ds _ h2
structure Tw (K : PySem.W.Frag) (p b l : Addr) (H : Hp) (a : Addr) (xs : List V) (ds : List PyData) : Prop where
  sq : SqT K (wo H (X3 p b l)) a xs
  da : DpAll K (wo H (X3 p b l)) xs ds
theorem Tw.same {p b l a : Addr} {H H' : Hp} {xs : List V} {ds : List PyData} (h : Tw K p b l H a xs ds) (s : Same H H') : Tw K p b l H' a xs ds :=
  have w := (But.of s).wo (p := p) (X := X3 p b l) (.inl rfl)
  ⟨sqt_same w h.sq, dpa_same w _ _ h.da⟩
theorem Tw.new {p b l t : Addr} {H : Hp} {xs : List V} {ds : List PyData} (x : HX p (X3 p b l) H) (n : H t = none) (h : DpAll K (wo H (X3 p b l)) xs ds) : Tw K p b l (upd H t (.tup xs)) t xs ds :=
  ⟨.inl (.inl ((wo_in (X := X3 p b l) (x.fresh n)).trans upd_same)), dpa_same ((But.of (same_upd n)).wo (p := p) (X := X3 p b l) (.inl rfl)) _ _ h⟩
theorem cat_ok {p b l a c : Addr} {H : Hp} {xs ys : List V} {ds es : List PyData} {Q : VK} (x : HX p (X3 p b l) H) (ha : Tw K p b l H a xs ds) (hc : Tw K p b l H c ys es) (hl : xs.length + ys.length ≤ 1000)
    (q : ∀ H' r, Same H H' → Tw K p b l H' r (xs ++ ys) (ds ++ es) → Q (.ref r) H') : rCatA K (.ref a) (.ref c) H Q := by
  refine ⟨a, c, xs, ys, rfl, rfl, sqt_same wo_same ha.sq, sqt_same wo_same hc.sq, thou hl, fun e => ?_, fun _ e => ?_, fun _ _ r nr => q _ r (same_upd nr) (Tw.new x nr (dpa_app2 hc.da ha.da))⟩
  · subst e
    have h := ha.da
    cases h
    exact q _ _ (Same.refl _) hc
  · subst e
    have h := hc.da
    cases h
    rw [List.append_nil, List.append_nil] at q
    exact q _ _ (Same.refl _) ha
theorem cut_ok {p b l a : Addr} {H : Hp} {xs : List V} {ds : List PyData} {lo hi : Option Int} {Q : VK} (x : HX p (X3 p b l) H) (ha : Tw K p b l H a xs ds)
    (q : ∀ H' r, Same H H' → Tw K p b l H' r (cutV xs lo hi) ((ds.drop (HT.sIx xs.length 0 lo)).take (HT.sIx xs.length xs.length hi - HT.sIx xs.length 0 lo)) → Q (.ref r) H') : rSlA K (.ref a) lo hi H Q := by
  refine ⟨a, xs, rfl, sqt_same wo_same ha.sq, fun e => ?_, fun _ r nr => q _ r (same_upd nr) (Tw.new x nr (dpa_take _ _ _ (dpa_drop _ _ _ ha.da)))⟩
  have lx := dpa_len _ _ ha.da
  refine q _ _ (Same.refl _) ?_
  unfold cutV
  rw [e.1, e.2, List.drop_zero, List.drop_zero, Nat.sub_zero, List.take_length, lx, List.take_length]
  exact ha
theorem two_ok {p b l a : Addr} {H : Hp} {v : V} {d : PyData} {y : Bool} {Q : VK} (x : HX p (X3 p b l) H) (ha : Tw K p b l H a [v] [d])
    (q : ∀ H' r xs ds, Same H H' → Tw K p b l H' r xs ds → (∀ z ∈ ds, z = d) → ds.length ≤ 1 → Q (.ref r) H') : Rep01.rTwo K (.ref a) (.int (if y = true then 1 else 0)) H Q := by
  refine ⟨a, v, _, rfl, rfl, sqt_same wo_same ha.sq, ?_, fun _ => q _ _ _ _ (Same.refl _) ha (fun z hz => List.mem_singleton.mp hz) (Nat.le_refl 1), fun _ r nr => q _ r [] [] (same_upd nr) (Tw.new x nr .nil) (fun z hz => nomatch hz) (Nat.zero_le _)⟩
  cases y
  · exact .inr rfl
  · exact .inl rfl
theorem ws_gpn : ∀ i : Fin 10, gpn 0 (.str (ws i)) = true := by decide +kernel
theorem lt_gpn : ∀ i : Fin 4, gpn 0 (.str (Lt i)) = true := by decide +kernel
theorem ent_gen {e : Ent} (h : e.ok) : gen 0 (Ent.tup e) = true := by
  refine gen_some (ds := e.parts) rfl ⟨?_, fun x hx => ?_⟩
  · cases e <;> exact Nat.le_of_ble_eq_true rfl
  rcases List.mem_cons.mp hx with hx | hx
  · rw [hx]
    exact ws_gpn _
  cases e with
  | face i => rw [List.mem_singleton.mp hx]; exact lt_gpn i
  | go k => rw [List.mem_singleton.mp hx]; rfl
  | sign z => rw [List.mem_singleton.mp hx]; exact str_gpn (Nat.zero_le _) (by have := h.1; omega) h.2.1
  | spy k z =>
    rcases List.mem_cons.mp hx with hx | hx
    · rw [hx]; rfl
    · rw [List.mem_singleton.mp hx]; exact str_gpn (Nat.zero_le _) (by have := h.1; omega) h.2.1
  | turn q => cases hx
  | bump => cases hx
  | bare => cases hx
  | swap => cases hx
/-! ### a step: whom it is about, and with which log -/
theorem op_neDK {X : Cx} {K : PySem.W.Frag} (h : X.K = K) (hu : X.A.units + 64 < cLine) : OpR X (compareOp .NotEq) (rNeD K) := h ▸ op_neD hu
abbrev OnlyP (p : Addr) : Addr → Prop := X3 p p p
structure NmD (K : PySem.W.Frag) (p : Addr) (H : Hp) (v : V) (d : PyData) : Prop where
  dp : Dp K (wo H (OnlyP p)) v d
  gp : gp d = true
  lay : LayD d
  sz : siz d ≤ 1000
def StepLog (K : PySem.W.Frag) (p : Addr) (H : Hp) (v : V) : Option (List PyData) → Prop
  | none => v = .non
  | some es => ∃ t xs, v = .ref t ∧ SqT K (wo H (OnlyP p)) t xs ∧ DpAll K (wo H (OnlyP p)) xs es ∧ (∀ e ∈ es, ge e = true) ∧ es.length ≤ 100
def spStep (K : PySem.W.Frag) : Sp := fun vs H Q _ => ∃ (p kd : Addr) (rs : List Row), vs = [.ref p, .ref kd] ∧ Pool H p ∧ KeptD K (wo H (OnlyP p)) kd rs ∧ (∀ r ∈ rs, RowOk r) ∧ (nms rs).Nodup ∧ rs.length ≤ 5 ∧
  ∀ H' r nv lv d lo, But p H H' → Pool H' p → (wo H' (OnlyP p)) r = some (.tup [nv, lv]) → NmD K p H' nv d → StepLog K p H' lv lo → (∀ z, nameD d = some z → z ∈ nms rs ∨ rs.length < 5) → Q (.ref r) H'
theorem ok_Lstep (T : Top w K mg) : FnOk P w K mg base CX0 7 T.a_Lstep T.fd_Lstep ["_law_pool_here", "_law_kept"] (spStep K) := by
  have G_Ltake := ok_Ltake (P := P) (w := w) (base := base) T
  have G_Lname := ok_Lname (P := P) (w := w) (base := base) T
  have G_Lspoilt_text := ok_Lspoilt2 (P := P) (w := w) (base := base) T
  have G_Lspoilt_entry := ok_Lspoilt_entry (P := P) (w := w) (base := base) T
  have G_Lsmall_log := ok_Lsmall_log (P := P) (w := w) (base := base) T
  refine T.F_Lstep.ok sc_Lstep (fun vs H Q E h => ?_) (fun cdv A outer s H vs Q E hr h => ?_)
  · obtain ⟨p, kd, rs, rfl, _⟩ := h
    rfl
  · obtain ⟨p, kd, rs, rfl, hp, hk, hok, hnd, hlen, q⟩ := h
    refine ⟨_, (pss_cons (ps_set (i := 2) sc_Lstep.nd rfl (.inl rfl) (pe_op op_cat (pe_callB cr_sortedS (by rfl) T.m_sorted (by decide +kernel) (pa_cons (pe_callTy (call_listD rfl) (by rfl) T.m_list (by decide +kernel) (pa_cons (pv 1) pa_nil)) pa_nil)) (pe_op op_rep (pe_lst (pa_cons (pe_call G_Lname (hr.mono (by decide)) (by rfl) T.g_Lname T.F_Lname.kp T.b_Lname .nil pass0 (pa_cons (pv 0) pa_nil)) pa_nil)) (pe_callTy call_int1 (by rfl) T.m_int (by decide +kernel) (pa_cons (pe_cmpR op_lt (pe_callB call_lenD (by rfl) T.m_len (by decide +kernel) (pa_cons (pv 1) pa_nil)) pe_int (nomark _)) pa_nil)))))
      (pss_cons (ps_set (i := 3) sc_Lstep.nd rfl (.inl rfl) (pe_ix ix_list (pv 2) (pe_call G_Ltake (hr.mono (by decide)) (by rfl) T.g_Ltake T.F_Ltake.kp T.b_Ltake .nil pass0 (pa_cons (pv 0) (pa_cons (pe_callB call_len_seq (by rfl) T.m_len (by decide +kernel) (pa_cons (pv 2) pa_nil)) pa_nil))) (fun _ _ => rfl)))
      (pss_cons (ps_set (i := 4) sc_Lstep.nd rfl (.inl rfl) (pe_ix ix_tup (pe_tup (pa_cons pe_non (pa_cons pe_int (pa_cons (pe_tup (pa_cons pe_str pa_nil)) (pa_cons (pe_lst (pa_cons pe_str pa_nil)) (pa_cons pe_str (pa_cons pe_str (pa_cons pe_str (pa_cons (pe_call G_Lspoilt_text (hr.mono (by decide)) (by rfl) T.g_Lspoilt_text T.F_Lspoilt_text.kp T.b_Lspoilt_text .nil pass0 (pa_cons (pv 0) (pa_cons (pv 3) pa_nil))) pa_nil))))))))) (pe_call G_Ltake (hr.mono (by decide)) (by rfl) T.g_Ltake T.F_Ltake.kp T.b_Ltake .nil pass0 (pa_cons (pv 0) (pa_cons pe_int pa_nil))) (fun _ _ => rfl)))
      (Evl.pss_cut (ps_if (pt_cmpR op_eq (pe_call G_Ltake (hr.mono (by decide)) (by rfl) T.g_Ltake T.F_Ltake.kp T.b_Ltake .nil pass0 (pa_cons (pv 0) (pa_cons pe_int pa_nil))) pe_int (nomark _)) (pss_one (ps_set (i := 3) sc_Lstep.nd rfl (.inl rfl) (pv 4))) pss_nil)
      (Evl.pss_cut (ps_if (PW.pt (pw_and (pt_cmpR op_gt (pe_callB call_lenD (by rfl) T.m_len (by decide +kernel) (pa_cons (pv 1) pa_nil)) pe_int (nomark _)) (pw_and1 (pt_cmpR (op_notInL (units65 hr)) (pv 3) (pe_callTy (call_listD rfl) (by rfl) T.m_list (by decide +kernel) (pa_cons (pv 1) pa_nil)) (by rfl))))) (pss_one (ps_set (i := 3) sc_Lstep.nd rfl (.inl rfl) pe_str)) pss_nil)
      (pss_cons (ps_if (pt_cmpR op_eq (pe_call G_Ltake (hr.mono (by decide)) (by rfl) T.g_Ltake T.F_Ltake.kp T.b_Ltake .nil pass0 (pa_cons (pv 0) (pa_cons pe_int pa_nil))) pe_int (nomark _)) (pss_one (ps_ret (pe_tup (pa_cons (pv 3) (pa_cons pe_non pa_nil))))) pss_nil)
      (pss_cons (ps_set (i := 5) sc_Lstep.nd rfl (.inl rfl) (pe_call G_Lsmall_log hr (by rfl) T.g_Lsmall_log T.F_Lsmall_log.kp T.b_Lsmall_log .nil pass0 (pa_cons (pv 0) (pa_cons (pe_call G_Ltake (hr.mono (by decide)) (by rfl) T.g_Ltake T.F_Ltake.kp T.b_Ltake .nil pass0 (pa_cons (pv 0) (pa_cons pe_int pa_nil))) (pa_cons pe_int pa_nil)))))
      (Evl.pss_cut (ps_if (PW.pt (pw_and (pt_cmpR op_eq (pe_call G_Ltake (hr.mono (by decide)) (by rfl) T.g_Ltake T.F_Ltake.kp T.b_Ltake .nil pass0 (pa_cons (pv 0) (pa_cons pe_int pa_nil))) pe_int (nomark _)) (pw_and1 (pt_cmpR op_gt (pe_callB call_len_seq (by rfl) T.m_len (by decide +kernel) (pa_cons (pv 5) pa_nil)) pe_int (nomark _))))) (pss_cons (ps_set (i := 6) sc_Lstep.nd rfl (.inl rfl) (pe_call G_Ltake (hr.mono (by decide)) (by rfl) T.g_Ltake T.F_Ltake.kp T.b_Ltake .nil pass0 (pa_cons (pv 0) (pa_cons (pe_callB call_len_seq (by rfl) T.m_len (by decide +kernel) (pa_cons (pv 5) pa_nil)) pa_nil))))
      (pss_one (ps_set (i := 5) sc_Lstep.nd rfl (.inl rfl) (pe_op op_catA (pe_op op_catA (pe_slice sl_tupA (pv 5) po_none (po_some (pv 6))) (pe_tup (pa_cons (pe_call G_Lspoilt_entry (hr.mono (by decide)) (by rfl) T.g_Lspoilt_entry T.F_Lspoilt_entry.kp T.b_Lspoilt_entry .nil pass0 (pa_cons (pv 0) (pa_cons (pe_ix ix_tup (pv 5) (pv 6) (fun _ _ => rfl)) pa_nil))) pa_nil))) (pe_slice sl_tupA (pv 5) (po_some (pe_op op_add (pv 6) pe_int)) po_none))))) pss_nil)
      (pss_one (ps_ret (pe_tup (pa_cons (pv 3) (pa_cons (pe_callTy call_tuple_of (by rfl) T.m_tuple (by decide +kernel) (pa_cons (pe_lc (own := [("_law_entry", 7)]) (g := gName 7) (by rfl) sc_Lstep.nd (pi_tup (pv 5)) (blkOk_by (own := [("_law_entry", 7)]) (N := ["_law_pool_here", "_law_kept", "_law_names_here", "_law_name_here", "_law_odd", "_law_log", "_law_at", "_law_entry"]) (sc := defScope s_Lstep) (by decide +kernel)) (fun _ _ _ _ _ => (pg_name (i := 7) sc_Lstep.nd rfl (Or.inl rfl))) (fun _ _ _ _ _ => (pts_one (pt_cmpR (r := rNeD K) (op_neDK rfl hr.units) (pv 7) (pe_tup (pa_cons pe_str pa_nil)) (nomark _)))) (fun _ _ _ _ _ => (pv 7))) pa_nil)) pa_nil))))))))))))), ?_⟩
    have x0 : HX p (OnlyP p) H := ⟨.inl rfl, fun c hc => by
      have e : c = p := hc.elim id fun h => h.elim id id
      rw [e]
      obtain ⟨_, _, _, _, _, ho⟩ := hp
      rw [ho]
      exact fun z => nomatch z⟩
    obtain ⟨ks, ek, lk, hks⟩ := id hk
    have ekH : H kd = some (.dK (kvsOf rs ks)) := wo_same _ _ ek
    refine ⟨.ref kd, rfl, kd, _, rfl, Rd.of ekH, fun l1 n1 => ?_⟩
    have s1 := same_upd (o := .lst ((kvsOf rs ks).map fun kv => kV kv.1)) n1
    refine ⟨l1, nms rs, rfl, .inl (.inl (by rw [← kv_names lk]; exact upd_same)), by unfold nms; rw [List.length_map]; omega, fun ys l2 prm _ n2 => ?_⟩
    have s2 := same_upd (o := .lst (ys.map V.str)) n2
    have s02 := s1.trans s2
    refine ⟨.ref p, rfl, p, rfl, hp.same s02, fun H3 z0 b3 hp3 z1 z8 zm => ⟨by show 1 ≤ sizeLine; decide, fun l3 n3 => ?_⟩⟩
    have nkp : kd ≠ p := fun e => (wo_some ek).1 (.inl e)
    have ys8 : ∀ z ∈ ys, z ∈ nms rs := fun z hz => prm.mem_iff.mp hz
    have ok8 : ∀ z ∈ nms rs, z.length ≤ 8 ∧ PyData.strOk z = true := fun z hz => by
      obtain ⟨r, hr, rfl⟩ := List.mem_map.mp hz
      exact ⟨nm_len (hok r hr), nm_okS (hok r hr)⟩
    have s3 := same_upd (o := .lst [.str z0]) n3
    have B3 : But p H (upd H3 l3 (.lst [.str z0])) := ((But.of s02).trans b3).trans (But.of s3)
    have lys : ys.length = rs.length := by rw [prm.length_eq]; unfold nms; rw [List.length_map]
    have kl : (kvsOf rs ks).length = rs.length := by
      have := congrArg List.length (kvs_keys rs ks lk)
      rw [List.length_map, List.length_map] at this
      unfold nms at this
      rw [List.length_map] at this
      exact this
    refine ⟨.ref kd, rfl, kd, _, rfl, B3 _ _ nkp ekH, _, _, rfl, rfl, .inr ⟨_, rfl, ?_⟩⟩
    rw [kl]
    have e2 : (upd H3 l3 (.lst [.str z0])) l2 = some (.lst (ys.map V.str)) := s3 _ _ (b3 _ _ (fun e => by rw [e] at n2; obtain ⟨_, _, _, _, _, ho⟩ := hp.same s1; rw [ho] at n2; cases n2) upd_same)
    obtain ⟨us, hus, hmem, hne, hl6⟩ : ∃ us : List Str, (ys.map V.str ++ (List.replicate (if decide ((rs.length : Int) < 5) = true then (1 : Int) else 0).toNat [V.str z0]).flatten = us.map V.str) ∧ (∀ z ∈ us, z.length ≤ 8 ∧ PyData.strOk z = true) ∧ 0 < us.length ∧ us.length ≤ 6 := by
      by_cases h5 : (rs.length : Int) < 5
      · rw [decide_eq_true h5, if_pos rfl]
        refine ⟨ys ++ [z0], by rw [List.map_append]; rfl, fun z hz => ?_, by rw [List.length_append]; exact Nat.succ_pos _, by rw [List.length_append, lys]; show rs.length + 1 ≤ 6; omega⟩
        rcases List.mem_append.mp hz with h | h
        · exact ok8 z (ys8 z h)
        · rw [List.mem_singleton.mp h]
          exact ⟨z8, ok_of_mem fun c hc => small_ok c (zm c hc)⟩
      · rw [decide_eq_false h5, if_neg Bool.false_ne_true]
        exact ⟨ys, by show ys.map V.str ++ [] = _; rw [List.append_nil], fun z hz => ok8 z (ys8 z hz), by omega, by omega⟩
    refine ⟨l3, _, [.str z0], rfl, rfl, upd_same, by split <;> decide, by split <;> decide, by split <;> (show 1 * _ ≤ sizeLine; decide), fun l4 n4 => ?_⟩
    have s4 := same_upd (o := .lst (List.replicate (if decide ((rs.length : Int) < 5) = true then (1 : Int) else 0).toNat [V.str z0]).flatten) n4
    refine ⟨l2, l4, ys.map V.str, _, rfl, rfl, s4 _ _ e2, upd_same, by rw [← List.length_append, hus, List.length_map]; exact Nat.le_of_lt (small1000 (by omega)), fun l5 n5 => ?_⟩
    rw [hus]
    have s5 := same_upd (o := .lst (us.map V.str)) n5
    generalize eH5 : upd (upd (upd H3 l3 (.lst [.str z0])) l4 (.lst (List.replicate (if decide ((rs.length : Int) < 5) = true then (1 : Int) else 0).toNat [V.str z0]).flatten)) l5 (.lst (us.map V.str)) = H5
    have e5 : H5 l5 = some (.lst (us.map V.str)) := by rw [← eH5]; exact upd_same
    have b5 : But p H H5 := by rw [← eH5]; exact B3.trans (But.of (s4.trans s5))
    have hp5 : Pool H5 p := by rw [← eH5]; exact (hp3.same s3).same (s4.trans s5)
    have n5p : l5 ≠ p := fun e => by
      obtain ⟨_, _, _, _, _, ho⟩ := hp5
      rw [← e, e5] at ho
      have := congrArg (fun o : Option HO => match o with | some (.lst (v :: _)) => (match v with | .int _ => true | _ => false) | _ => false) ho
      cases us with
      | nil => exact absurd hne (Nat.lt_irrefl _)
      | cons a b => cases this
    have lus : (us.map V.str).length = us.length := List.length_map _
    refine ⟨.ref l5, rfl, .ref p, rfl, .ref l5, rfl, l5, us.map V.str, rfl, .inl (.inl (.inl e5)), p, _, rfl, by omega, by omega, hp5, fun H6 a b6 hp6 a0 a1 => ?_⟩
    obtain ⟨j, rfl⟩ : ∃ j : Nat, a = j := ⟨a.toNat, by omega⟩
    have hj : j < us.length := by omega
    have hz := hmem us[j] (List.getElem_mem hj)
    generalize ez : us[j] = z at hz
    have hx : (us.map V.str)[j]? = some (.str z) := by rw [List.getElem?_map, List.getElem?_eq_getElem hj, ez]; rfl
    refine ⟨l5, us.map V.str, (j : Int), .str z, rfl, rfl, .inl (.inl (b6 _ _ n5p e5)), atI_nat hx, ?_⟩
    have b06 := b5.trans b6
    clear eH5
    refine ⟨by show 1 ≤ sizeLine; decide, fun t1 m1 => ⟨by show 1 ≤ sizeLine; decide, fun t2 m2 => ?_⟩⟩
    have u1 := same_upd (o := .tup [.str "ann"]) m1
    have u2 := same_upd (o := .lst [.str "ann"]) m2
    refine ⟨.ref p, rfl, .str z, rfl, p, z, rfl, by omega, hz.2, (hp6.same u1).same u2, fun H7 z2 b7 hp7 hz2 oz2 => ⟨by show 8 ≤ sizeLine; decide, fun t3 m3 => ?_⟩⟩
    generalize evs : ([.non, .int 7, .ref t1, .ref t2, .str "", .str "Ann", .str "ninelette", .str z2] : List V) = vs8 at m3 ⊢
    have u3 := same_upd (o := .tup vs8) m3
    refine ⟨.ref p, rfl, p, 8, rfl, by decide, by decide, hp7.same u3, fun H8 a8 b8 hp8 c0 c1 => ?_⟩
    have e8 : H8 t3 = some (.tup vs8) := b8 _ _ (hp7.ne_new m3) upd_same
    have b68 : But p (upd (upd H6 t1 (.tup [.str "ann"])) t2 (.lst [.str "ann"])) H8 := (b7.trans (But.of u3)).trans b8
    have nt1 : t1 ≠ p := hp6.ne_new m1
    have nt2 : t2 ≠ p := (hp6.same u1).ne_new m2
    have hin : ∀ {c : Addr} {o : HO}, c ≠ p → H8 c = some o → wo H8 (OnlyP p) c = some o := fun n h => (wo_in (X := OnlyP p) (fun z => n (z.elim id fun z => z.elim id id))).trans h
    have d1 : Dp K (wo H8 (OnlyP p)) (.ref t1) (.tuple [.str "ann"]) := .tup (.inl (.inl (hin nt1 (b68 _ _ nt1 (u2 _ _ upd_same))))) (.cons (.str _) .nil)
    have d2 : Dp K (wo H8 (OnlyP p)) (.ref t2) (.list [.str "ann"]) := .lst (.inl (.inl (hin nt2 (b68 _ _ nt2 upd_same)))) (.cons (.str _) .nil)
    have strD' : ∀ {w : Str}, w.length ≤ 1000 → PyData.strOk w = true → NmD K p H8 (.str w) (.str w) := fun h o => ⟨.str _, decide_eq_true h, ⟨o, Nat.zero_le _⟩, siz_str _⟩
    obtain ⟨ov, od, ho, hod⟩ : ∃ v d, atI vs8 a8 = some v ∧ NmD K p H8 v d := by
      subst evs
      obtain rfl | rfl | rfl | rfl | rfl | rfl | rfl | rfl : a8 = 0 ∨ a8 = 1 ∨ a8 = 2 ∨ a8 = 3 ∨ a8 = 4 ∨ a8 = 5 ∨ a8 = 6 ∨ a8 = 7 := by omega
      · exact ⟨_, _, rfl, .non, rfl, ⟨rfl, Nat.zero_le _⟩, by simp [siz]⟩
      · exact ⟨_, _, rfl, .int 7, rfl, ⟨rfl, Nat.zero_le _⟩, siz_int _⟩
      · exact ⟨_, _, rfl, d1, by decide +kernel, by unfold LayD; decide +kernel, by decide +kernel⟩
      · exact ⟨_, _, rfl, d2, by decide +kernel, by unfold LayD; decide +kernel, by decide +kernel⟩
      · exact ⟨_, _, rfl, strD' (by decide +kernel) (by decide +kernel)⟩
      · exact ⟨_, _, rfl, strD' (by decide +kernel) (by decide +kernel)⟩
      · exact ⟨_, _, rfl, strD' (by decide +kernel) (by decide +kernel)⟩
      · exact ⟨_, _, rfl, strD' (by omega) oz2⟩
    have hzd : NmD K p H8 (.str z) (.str z) := strD' (by omega) hz.2
    refine ⟨t3, vs8, a8, ov, rfl, rfl, .inl (.inl e8), ho, ?_⟩
    have b08 : But p H H8 := (b06.trans (But.of (u1.trans u2))).trans b68
    have keepN : ∀ {H1 H2 : Hp} {v : V} {d : PyData}, NmD K p H1 v d → But p H1 H2 → NmD K p H2 v d := fun h b => ⟨dp_same (b.wo (X := OnlyP p) (.inl rfl)) _ _ h.dp, h.gp, h.lay, h.sz⟩
    refine ⟨fun σ H' => But p H H' ∧ Pool H' p ∧ ∃ nv d, NmD K p H' nv d ∧ σ = [some (.ref p), some (.ref kd), some (.ref l5), some nv, some ov, none, none, none], ?_, ?_⟩
    · refine ⟨.ref p, rfl, p, 5, rfl, by decide, by decide, hp8, fun H9 a9 b9 hp9 _ _ => ⟨rfl, _, rfl, ite2 (fun _ => ?_) (fun _ => ?_)⟩⟩
      · exact ⟨ov, rfl, b08.trans b9, hp9, ov, od, keepN hod b9, rfl⟩
      · exact ⟨b08.trans b9, hp9, _, _, keepN hzd b9, rfl⟩
    rintro σ H9 ⟨b09, hp9, nv, d, hn, rfl⟩
    refine ⟨fun σ H' => But p H H' ∧ Pool H' p ∧ ∃ nv d, NmD K p H' nv d ∧ (∀ z, nameD d = some z → z ∈ nms rs ∨ rs.length < 5) ∧ σ = [some (.ref p), some (.ref kd), some (.ref l5), some nv, some ov, none, none, none], ?_, ?_⟩
    · refine ⟨.ref kd, rfl, kd, _, rfl, b09 _ _ nkp ekH, _, _, rfl, rfl, _, rfl, ?_⟩
      refine ite2 (fun e => ?_) (fun e => ?_)
      · have e9 := b09 _ _ nkp ekH
        refine ⟨nv, rfl, .ref kd, rfl, kd, _, rfl, Rd.of e9, fun l6 n6 => ?_⟩
        have s6 := same_upd (o := .lst ((kvsOf rs ks).map fun kv => kV kv.1)) n6
        refine notInL_of (ws := nms rs) (dp_same (wo_same.trans s6) _ _ hn.dp) hn.gp (.inl (.inl (by rw [← kv_names lk]; exact upd_same))) (shaped_nmsL hok) ⟨_, rfl, ?_⟩
        cases hin : inW d (nms rs) with
        | false => exact iteT ⟨b09.trans (But.of s6), hp9.same s6, .str "Ann", .str "Ann", ⟨.str _, by decide +kernel, by unfold LayD; decide +kernel, siz_str _⟩, fun z hz => (by rw [show nameD (.str "Ann") = none by decide +kernel] at hz; cases hz), rfl⟩
        | true =>
          refine iteF ⟨b09.trans (But.of s6), hp9.same s6, nv, d, keepN hn (But.of s6), fun z hz => .inl ?_, rfl⟩
          obtain ⟨r, hr, e⟩ := inW_nms.mp hin
          rw [(name_str hn.dp hz).2] at e
          rw [PyData.str.inj e]
          exact List.mem_map.mpr ⟨r, hr, rfl⟩
      · refine ⟨b09, hp9, nv, d, hn, fun z _ => .inr ?_, rfl⟩
        have : ¬ (4 : Int) < ((kvsOf rs ks).length : Int) := fun h => e (decide_eq_true h)
        omega
    rintro σ H10 ⟨b10, hp10, nv, d, hn, hnew, rfl⟩
    refine ⟨.ref p, rfl, p, 3, rfl, by decide, by decide, hp10, fun H11 a11 b11 hp11 _ _ => ⟨rfl, _, rfl, ite2 (fun _ => ?_) (fun _ => ?_)⟩⟩
    · refine ⟨nv, rfl, by show 2 ≤ sizeLine; decide, fun r nr => ?_⟩
      have sr := same_upd (o := .tup [nv, .non]) nr
      exact q _ r nv .non d none ((b10.trans b11).trans (But.of sr)) (hp11.same sr) ((wo_in (X := OnlyP p) (fun z => hp11.ne_new nr (z.elim id fun z => z.elim id id))).trans upd_same) (keepN hn (b11.trans (But.of sr))) rfl hnew
    refine ⟨.ref p, rfl, .ref p, rfl, p, 6, rfl, by decide, by decide, hp11, fun H12 m b12 hp12 m0 m6 => ?_⟩
    refine ⟨p, m, 0, rfl, m0, by omega, hp12, fun H13 t es b13 hp13 hdt hlen5 hoke hright _ => ?_⟩
    have hnl := keepN (keepN (keepN hn b11) b12) b13
    have b10' := ((b10.trans b11).trans b12).trans b13
    have hpo : ∀ c o, OnlyP p c → H13 c = some o → ∃ l, o = .lst l := fun c o hc h => by
      have e : c = p := hc.elim id fun z => z.elim id id
      obtain ⟨_, _, _, _, _, ho⟩ := hp13
      rw [e, ho] at h
      exact ⟨_, (Option.some.inj h).symm⟩
    have hdw : Dp K (wo H13 (OnlyP p)) (.ref t) (logD (z, es)) := dp_kp (Tp.wo (fun c o hc h => by obtain ⟨l, rfl⟩ := hpo c o hc h; rfl)) 2 _ _ (log_okD (r := (z, es)) (by show es.length ≤ _; omega)) hdt
    obtain ⟨t', xs, et, hsx, hdx⟩ := logD_ref hdw
    cases et
    have hgen : ∀ e ∈ es, gen 0 e.tup = true := fun e he => ent_gen (hoke e he)
    have lxs : xs.length = es.length := (dpa_len _ _ hdx).trans (List.length_map _)
    have hes6 : es.length ≤ 6 := by omega
    have hxp : ∀ {H' : Hp}, Pool H' p → HX p (OnlyP p) H' := fun hp' => ⟨.inl rfl, fun c hc => by
      have e : c = p := hc.elim id fun h => h.elim id id
      obtain ⟨_, _, _, _, _, ho⟩ := hp'
      rw [e, ho]
      exact fun z => nomatch z⟩
    refine ⟨fun σ H' => But p H H' ∧ Pool H' p ∧ NmD K p H' nv d ∧ ∃ t xs ds y6, Tw K p p p H' t xs ds ∧ (∀ e ∈ ds, gen 1 e = true) ∧ ds.length ≤ 6 ∧ σ = [some (.ref p), some (.ref kd), some (.ref l5), some nv, some ov, some (.ref t), y6, none], ?_, ?_⟩
    · have stay : ∀ H', But p H13 H' → Pool H' p → But p H H' ∧ Pool H' p ∧ NmD K p H' nv d ∧ ∃ t' xs ds y6, Tw K p p p H' t' xs ds ∧ (∀ e ∈ ds, gen 1 e = true) ∧ ds.length ≤ 6 ∧ [some (V.ref p), some (.ref kd), some (.ref l5), some nv, some ov, some (.ref t), none, none] = [some (.ref p), some (.ref kd), some (.ref l5), some nv, some ov, some (.ref t'), y6, none] := fun H' b hp' => ⟨b10'.trans b, hp', keepN hnl b, t, xs, es.map Ent.tup, none, ⟨sqt_same (b.wo (X := OnlyP p) (.inl rfl)) hsx, dpa_same (b.wo (X := OnlyP p) (.inl rfl)) _ _ hdx⟩, fun e he => by obtain ⟨x, hx, rfl⟩ := List.mem_map.mp he; exact gen_more (Nat.zero_le 1) (hgen x hx), by rw [List.length_map]; omega, rfl⟩
      refine ⟨.ref p, rfl, p, 3, rfl, by decide, by decide, hp13, fun H14 a14 b14 hp14 _ _ => ⟨rfl, _, rfl, ite2 (fun e => ?_) (fun e => ?_)⟩⟩
      · refine ⟨.ref t, rfl, t, xs, rfl, .inr (sqt_same ((b14.wo (X := OnlyP p) (.inl rfl)).trans wo_same) hsx), _, _, rfl, rfl, _, rfl, ite2 (fun e2 => ?_) (fun e2 => ?_)⟩
        · have h0 : 0 < xs.length := by have : (0 : Int) < (xs.length : Int) := of_decide_eq_true e2; omega
          refine ⟨.ref p, rfl, .ref t, rfl, t, xs, rfl, .inr (sqt_same ((b14.wo (X := OnlyP p) (.inl rfl)).trans wo_same) hsx), p, _, rfl, by omega, by omega, hp14, fun H15 i b15 hp15 i0 i1 => ?_⟩
          have b135 := b14.trans b15
          obtain ⟨ii, rfl⟩ : ∃ ii : Nat, i = ii := ⟨i.toNat, by omega⟩
          have w135 := b135.wo (X := OnlyP p) (.inl rfl)
          have tw5 : Tw K p p p H15 t xs (es.map Ent.tup) := ⟨sqt_same w135 hsx, dpa_same w135 _ _ hdx⟩
          have hi : ii < xs.length := by omega
          have hx7 : xs[ii]? = some xs[ii] := List.getElem?_eq_getElem hi
          refine ⟨.ref t, rfl, .int ii, rfl, ii, rfl, cut_ok (hxp hp15) tw5 fun H9 c s9 twc => ?_⟩
          have hp9 := hp15.same s9
          have tw9 := tw5.same s9
          obtain ⟨d7, fd7, gd7⟩ := dpa_at _ xs tw9.da ii _ hx7
          obtain ⟨x7, ex7, rfl⟩ := List.mem_map.mp (List.mem_of_getElem? fd7)
          obtain ⟨a7, exa⟩ := dp_ref gd7
          rw [exa] at hx7 gd7
          have gg := ent_gen (hoke x7 ex7)
          refine ⟨.ref p, rfl, .ref t, rfl, .int ii, rfl, t, xs, ii, _, rfl, rfl, sqt_same wo_same tw9.sq, atI_nat hx7, p, a7, 0, x7.parts, OnlyP p, rfl, hp9, hxp hp9, by decide, ?_, ?_, gd7, fun H8 v d b8 hp8 hv gv => ?_⟩
          · exact List.cons_ne_nil _ _
          · exact gg
          have tw8 : Tw K p p p H8 t xs (es.map Ent.tup) := ⟨sqt_same (b8.wo (X := OnlyP p) (.inl rfl)) tw9.sq, dpa_same (b8.wo (X := OnlyP p) (.inl rfl)) _ _ tw9.da⟩
          have twc8 : Tw K p p p H8 c _ _ := ⟨sqt_same (b8.wo (X := OnlyP p) (.inl rfl)) twc.sq, dpa_same (b8.wo (X := OnlyP p) (.inl rfl)) _ _ twc.da⟩
          refine ⟨by show 1 ≤ sizeLine; decide, fun t2 nt2 => ?_⟩
          have tv := Tw.new (K := K) (xs := [v]) (ds := [d]) (hxp hp8) nt2 (.cons hv .nil)
          have st := same_upd (o := .tup [v]) nt2
          have lc1 : (((es.map Ent.tup).drop (HT.sIx xs.length 0 none)).take (HT.sIx xs.length xs.length (some (ii : Int)) - HT.sIx xs.length 0 none)).length ≤ ii := by
            rw [List.length_take, HT.sIx_nat]
            omega
          have lc2 : (((es.map Ent.tup).drop (HT.sIx xs.length 0 (some ((ii : Int) + 1)))).take (HT.sIx xs.length xs.length none - HT.sIx xs.length 0 (some ((ii : Int) + 1)))).length ≤ es.length - (ii + 1) := by
            have e : HT.sIx xs.length 0 (some ((ii : Int) + 1)) = min (ii + 1) xs.length := HT.sIx_nat _ _ (ii + 1)
            rw [List.length_take, List.length_drop, e, List.length_map]
            omega
          have lcv := dpa_len _ _ twc8.da
          refine cat_ok (hxp (hp8.same st)) (twc8.same st) tv (by show _ + 1 ≤ 1000; omega) fun HD r2 sD tw2 => ?_
          have hpD := (hp8.same st).same sD
          refine ⟨.ref t, rfl, .int ii, rfl, ii, 1, rfl, rfl, (ii : Int) + 1, rfl, ?_⟩
          unfold tNoPart
          refine cut_ok (hxp hpD) ((tw8.same st).same sD) fun HE r3 sE tw3 => ?_
          have lc3 := dpa_len _ _ tw3.da
          have l2s := dpa_len _ _ tw2.da
          have l2d : ∀ A B : List PyData, (A ++ B).length = A.length + B.length := fun A B => List.length_append
          have l1 : [d].length = 1 := rfl
          rw [l2d, l1] at l2s
          refine cat_ok (hxp (hpD.same sE)) (tw2.same sE) tw3 (by omega) fun HF r4 sF tw4 => ?_
          have bF : But p H13 HF := (((b135.trans (But.of s9)).trans b8).trans (But.of (st.trans sD))).trans (But.of (sE.trans sF))
          refine ⟨b10'.trans bF, (hpD.same sE).same sF, keepN hnl bF, r4, _, _, _, tw4, fun x hx => ?_, ?_, rfl⟩
          · rcases List.mem_append.mp hx with h | h
            · rcases List.mem_append.mp h with h | h
              · obtain ⟨y, hy, rfl⟩ := List.mem_map.mp (List.mem_of_mem_drop (List.mem_of_mem_take h))
                exact gen_more (Nat.zero_le 1) (hgen y hy)
              · rw [List.mem_singleton.mp h]
                exact gv
            · obtain ⟨y, hy, rfl⟩ := List.mem_map.mp (List.mem_of_mem_drop (List.mem_of_mem_take h))
              exact gen_more (Nat.zero_le 1) (hgen y hy)
          · rw [l2d, l2d, l1]
            omega
        · exact stay H14 b14 hp14
      · exact ite2 (fun z => nomatch z) (fun _ => stay H14 b14 hp14)
    rintro σ H15 ⟨b15, hp15, hn15, t5, xs5, ds5, y6, tw, hgs, hl5, rfl⟩
    have hw : ∀ {H' : Hp}, Same H15 H' → Same (wo H15 (OnlyP p)) (wo H' (OnlyP p)) := fun s => (But.of s).wo (p := p) (X := OnlyP p) (.inl rfl)
    have l5x : xs5.length = ds5.length := dpa_len _ _ tw.da
    refine ⟨nv, rfl, .ref t5, rfl, t5, rfl, ⟨xs5, sqt_same wo_same tw.sq⟩, fun DD nD => lc_it (walk_tup (K := K) (a := t5) (xs := xs5)) (fun i H' => Same H15 H' ∧ ∃ zs fs, H' DD = some (.lst zs) ∧ zs.length ≤ i ∧ DpAll K (wo H15 (OnlyP p)) zs fs ∧ ∀ e ∈ fs, gen 1 e = true) ⟨same_upd nD, [], [], upd_same, Nat.le_refl _, .nil, fun _ h => nomatch h⟩ (fun i H' _ h => sqt_same (wo_same.trans h.1) tw.sq) ?_ ?_⟩
    · rintro i v _ H1 hi ⟨sm, zs, fs, eD, lz, hz, hg⟩ ⟨rfl, hv⟩
      obtain ⟨dd, fd, gd⟩ := dpa_at _ xs5 tw.da i v hv
      have hgd := hgs dd (List.mem_of_getElem? fd)
      refine ⟨rfl, v, rfl, by show 1 ≤ sizeLine; decide, fun t8 n8 => ?_⟩
      have s8 := same_upd (o := .tup [.str "swap"]) n8
      refine ⟨dd, .tuple [.str "swap"], dp_same ((wo_same.trans sm).trans s8) _ _ gd, .tup (.inl (.inl upd_same)) (.cons (.str _) .nil), gen_shaped hgd, by decide +kernel, _, rfl, ite2 (fun _ => ?_) (fun _ => ?_)⟩
      · refine ⟨v, rfl, zs, s8 _ _ eD, small1000 (by omega), fun c o h => ?_, zs ++ [v], fs ++ [dd], upd_same, by rw [List.length_append]; exact Nat.succ_le_succ lz, dpa_snoc gd _ _ hz, fun e he => ?_⟩
        · rw [upd_ne (ne_of_none h nD)]
          exact s8 _ _ (sm _ _ h)
        · rcases List.mem_append.mp he with h | h
          · exact hg e h
          · rw [List.mem_singleton.mp h]
            exact hgd
      · exact ⟨sm.trans s8, zs, fs, s8 _ _ eD, Nat.le_succ_of_le lz, hz, hg⟩
    · rintro H1 ⟨sm, zs, fs, eD, lz, hz, hg⟩
      refine ⟨DD, zs, rfl, .inl ⟨.inl (.inl eD), fun l nl => ⟨by show 2 ≤ sizeLine; decide, fun r nr => ?_⟩⟩⟩
      have sl := same_upd (o := .tup zs) nl
      have sr := same_upd (o := .tup [nv, .ref l]) nr
      have s3 := (sm.trans sl).trans sr
      have hp1 := hp15.same sm
      have lzf := dpa_len _ _ hz
      have off : ∀ {c : Addr}, c ≠ p → ¬ OnlyP p c := fun n z => n (z.elim id fun z => z.elim id id)
      refine q _ r nv (.ref l) d (some fs) (b15.trans (But.of s3)) (hp15.same s3) ((wo_in (X := OnlyP p) (off ((hp1.same sl).ne_new nr))).trans upd_same) (keepN hn15 (But.of s3)) ⟨l, zs, rfl, .inl (.inl ((wo_in (X := OnlyP p) (off (hp1.ne_new nl))).trans (sr _ _ upd_same))), dpa_same (hw s3) _ _ hz, fun e he => gen_ge (by decide) (hg e he), by omega⟩ hnew
--@@SPLIT
theorem ok_Lwhole (T : Top w K mg) : FnOk P w K mg base CX0 1 T.a_Lwhole T.fd_Lwhole ["_law_thing"] spWhole := by
  refine T.F_Lwhole.ok sc_Lwhole (fun vs H Q E h => ?_) (fun cdv A outer s H vs Q E hr h => ?_)
  · obtain ⟨i, rfl, _⟩ := h
    rfl
  · obtain ⟨i, rfl, q⟩ := h
    refine ⟨_, (pss_one (ps_ret (pe_and (pe_callB call_isi (by rfl) T.m_isinstance (by decide +kernel) (pa_cons (pv 0) (pa_cons (pe_bltn (v := .ty "int") (by rfl) T.m_int (by decide +kernel) rfl) pa_nil))) (pe_one (pe_not (pe_callB call_isi (by rfl) T.m_isinstance (by decide +kernel) (pa_cons (pv 0) (pa_cons (pe_bltn (v := .ty "bool") (by rfl) T.m_bool (by decide +kernel) rfl) pa_nil)))))))), ?_⟩
    refine ⟨.int i, rfl, _, _, _, _, true, rfl, .ty _, .base (.int i), kit_ty (by decide +kernel), _, rfl, iteT ?_⟩
    exact ⟨.int i, rfl, _, _, _, _, false, rfl, .ty _, .base (.int i), kit_ty (by decide +kernel), _, rfl, q⟩
def spSame (K : PySem.W.Frag) (n : Nat) : Sp := fun vs H Q _ => ∃ (x y : V) (d : PyData), vs = [x, y] ∧ Dp K H x d ∧ Dp K H y d ∧ okD n d = true ∧ ∀ H', Same H H' → Q (.bl true) H'
theorem ok_Lsame0 (T : Top w K mg) : FnOk P w K mg base CX0 2 T.a_Lsame T.fd_Lsame ["_law_found", "_law_due"] (spSame K 0) := by
  have G_Lwhole := ok_Lwhole (P := P) (w := w) (base := base) T
  refine T.F_Lsame.ok sc_Lsame (fun vs H Q E h => ?_) (fun cdv A outer s H vs Q E hr h => ?_)
  · obtain ⟨x, y, d, rfl, _⟩ := h
    rfl
  · obtain ⟨x, y, d, rfl, hx, hy, ok, q⟩ := h
    refine ⟨_, (pss_cons (ps_if (pt_val (pe_callB call_isi (by rfl) T.m_isinstance (by decide +kernel) (pa_cons (pv 1) (pa_cons (pe_bltn (v := .ty "tuple") (by rfl) T.m_tuple (by decide +kernel) rfl) pa_nil)))) pss_never pss_nil)
      (pss_cons (ps_if (pt_cmpR op_isN (pv 1) pe_non (nomark _)) (pss_one (ps_ret (pe_cmpR op_isN (pv 0) pe_non (nomark _)))) pss_nil)
      (pss_cons (ps_if (pt_val (pe_callB call_isi (by rfl) T.m_isinstance (by decide +kernel) (pa_cons (pv 1) (pa_cons (pe_bltn (v := .ty "bool") (by rfl) T.m_bool (by decide +kernel) rfl) pa_nil)))) (pss_one (ps_ret (pe_and (pe_callB call_isi (by rfl) T.m_isinstance (by decide +kernel) (pa_cons (pv 0) (pa_cons (pe_bltn (v := .ty "bool") (by rfl) T.m_bool (by decide +kernel) rfl) pa_nil))) (pe_one (pe_cmpR op_eq (pv 0) (pv 1) (nomark _)))))) pss_nil)
      (pss_cons (ps_if (pt_val (pe_callB call_isi (by rfl) T.m_isinstance (by decide +kernel) (pa_cons (pv 1) (pa_cons (pe_bltn (v := .ty "str") (by rfl) T.m_str (by decide +kernel) rfl) pa_nil)))) (pss_one (ps_ret (pe_and (pe_callB call_isi (by rfl) T.m_isinstance (by decide +kernel) (pa_cons (pv 0) (pa_cons (pe_bltn (v := .ty "str") (by rfl) T.m_str (by decide +kernel) rfl) pa_nil))) (pe_one (pe_cmpR op_eq (pv 0) (pv 1) (nomark _)))))) pss_nil)
      (pss_one (ps_ret (pe_and (pe_call G_Lwhole (hr.mono (by omega)) (by rfl) T.g_Lwhole T.F_Lwhole.kp T.b_Lwhole .nil pass0 (pa_cons (pv 0) pa_nil)) (pe_one (pe_cmpR op_eq (pv 0) (pv 1) (nomark _)))))))))), ?_⟩
    have Q0 := q H (Same.refl H)
    cases d with
    | none =>
      cases hx
      cases hy
      exact ⟨.non, rfl, _, _, _, _, false, rfl, .ty _, .base .non, kit_ty (by decide +kernel), _, rfl, iteF ⟨.non, rfl, rfl, _, rfl, iteT ⟨.non, rfl, rfl, Q0⟩⟩⟩
    | bool b =>
      cases hx
      cases hy
      refine ⟨.bl b, rfl, _, _, _, _, false, rfl, .ty _, .base (.bl b), kit_ty (by decide +kernel), _, rfl, iteF ⟨.bl b, rfl, rfl, _, rfl, iteF ?_⟩⟩
      refine ⟨.bl b, rfl, _, _, _, _, true, rfl, .ty _, .base (.bl b), kit_ty (by decide +kernel), _, rfl, iteT ?_⟩
      refine ⟨.bl b, rfl, _, _, _, _, true, rfl, .ty _, .base (.bl b), kit_ty (by decide +kernel), _, rfl, iteT ⟨.bl b, rfl, .bl b, rfl, rfl, ?_⟩⟩
      rw [decide_eq_true rfl]
      exact Q0
    | int i =>
      cases hx
      cases hy
      refine ⟨.int i, rfl, _, _, _, _, false, rfl, .ty _, .base (.int i), kit_ty (by decide +kernel), _, rfl, iteF ⟨.int i, rfl, rfl, _, rfl, iteF ?_⟩⟩
      refine ⟨.int i, rfl, _, _, _, _, false, rfl, .ty _, .base (.int i), kit_ty (by decide +kernel), _, rfl, iteF ?_⟩
      refine ⟨.int i, rfl, _, _, _, _, false, rfl, .ty _, .base (.int i), kit_ty (by decide +kernel), _, rfl, iteF ?_⟩
      refine ⟨.int i, rfl, i, rfl, _, rfl, iteT ⟨.int i, rfl, .int i, rfl, rfl, ?_⟩⟩
      rw [decide_eq_true rfl]
      exact Q0
    | str z =>
      cases hx
      cases hy
      refine ⟨.str z, rfl, _, _, _, _, false, rfl, .ty _, .base (.str z), kit_ty (by decide +kernel), _, rfl, iteF ⟨.str z, rfl, rfl, _, rfl, iteF ?_⟩⟩
      refine ⟨.str z, rfl, _, _, _, _, false, rfl, .ty _, .base (.str z), kit_ty (by decide +kernel), _, rfl, iteF ?_⟩
      refine ⟨.str z, rfl, _, _, _, _, true, rfl, .ty _, .base (.str z), kit_ty (by decide +kernel), _, rfl, iteT ?_⟩
      refine ⟨.str z, rfl, _, _, _, _, true, rfl, .ty _, .base (.str z), kit_ty (by decide +kernel), _, rfl, iteT ⟨.str z, rfl, .str z, rfl, rfl, ?_⟩⟩
      rw [decide_eq_true rfl]
      exact Q0
    | list ds => cases ok
    | tuple ds => cases ok
    | dict ds => cases ok
theorem ok_LsameS (T : Top w K mg) {n : Nat} (G_Lsame : FnOk P w K mg base CX0 (n + 2) T.a_Lsame T.fd_Lsame ["_law_found", "_law_due"] (spSame K n)) : FnOk P w K mg base CX0 (n + 3) T.a_Lsame T.fd_Lsame ["_law_found", "_law_due"] (spSame K (n + 1)) := by
  have G_Lwhole := ok_Lwhole (P := P) (w := w) (base := base) T
  refine T.F_Lsame.ok sc_Lsame (fun vs H Q E h => ?_) (fun cdv A outer s H vs Q E hr h => ?_)
  · obtain ⟨x, y, d, rfl, _⟩ := h
    rfl
  · obtain ⟨x, y, d, rfl, hx, hy, ok, q⟩ := h
    refine ⟨_, (pss_cons (ps_if (pt_val (pe_callB call_isi (by rfl) T.m_isinstance (by decide +kernel) (pa_cons (pv 1) (pa_cons (pe_bltn (v := .ty "tuple") (by rfl) T.m_tuple (by decide +kernel) rfl) pa_nil)))) (pss_cons (ps_if (PW.pt (pw_or (pt_not (pt_val (pe_callB call_isi (by rfl) T.m_isinstance (by decide +kernel) (pa_cons (pv 0) (pa_cons (pe_bltn (v := .ty "tuple") (by rfl) T.m_tuple (by decide +kernel) rfl) pa_nil))))) (pw_or1 (pt_cmpR op_ne (pe_callB call_len_seq (by rfl) T.m_len (by decide +kernel) (pa_cons (pv 0) pa_nil)) (pe_callB call_len_seq (by rfl) T.m_len (by decide +kernel) (pa_cons (pv 1) pa_nil)) (nomark _))))) (pss_one (ps_ret pe_bl)) pss_nil)
      (pss_one (ps_ret (pe_callB (cr_all rfl) (by rfl) T.m_all (by decide +kernel) (pa_cons (pe_lc (own := [("_law_one", 2), ("_law_other", 3)]) (g := gTup K 2 (gCons (gName 2) (gCons (gName 3) gNil))) (by rfl) sc_Lsame.nd (RZ.pi_zipA (by rfl) T.m_zip (pa_cons (pv 0) (pa_cons (pv 1) pa_nil))) (blkOk_by (own := [("_law_one", 2), ("_law_other", 3)]) (N := ["_law_found", "_law_due", "_law_one", "_law_other"]) (sc := defScope s_Lsame) (by decide +kernel)) (fun _ _ _ _ _ => (pg_tup rfl (pgs_cons (pg_name (i := 2) sc_Lsame.nd rfl (Or.inl rfl)) (pgs_cons (pg_name (i := 3) sc_Lsame.nd rfl (Or.inl rfl)) pgs_nil)))) (fun _ _ _ _ _ => pts_nil) (fun _ _ _ _ _ => (pe_call G_Lsame hr (by rfl) T.g_Lsame T.F_Lsame.kp T.b_Lsame .nil pass0 (pa_cons (pv 2) (pa_cons (pv 3) pa_nil))))) pa_nil))))) pss_nil)
      (pss_cons (ps_if (pt_cmpR op_isN (pv 1) pe_non (nomark _)) (pss_one (ps_ret (pe_cmpR op_isN (pv 0) pe_non (nomark _)))) pss_nil)
      (pss_cons (ps_if (pt_val (pe_callB call_isi (by rfl) T.m_isinstance (by decide +kernel) (pa_cons (pv 1) (pa_cons (pe_bltn (v := .ty "bool") (by rfl) T.m_bool (by decide +kernel) rfl) pa_nil)))) (pss_one (ps_ret (pe_and (pe_callB call_isi (by rfl) T.m_isinstance (by decide +kernel) (pa_cons (pv 0) (pa_cons (pe_bltn (v := .ty "bool") (by rfl) T.m_bool (by decide +kernel) rfl) pa_nil))) (pe_one (pe_cmpR op_eq (pv 0) (pv 1) (nomark _)))))) pss_nil)
      (pss_cons (ps_if (pt_val (pe_callB call_isi (by rfl) T.m_isinstance (by decide +kernel) (pa_cons (pv 1) (pa_cons (pe_bltn (v := .ty "str") (by rfl) T.m_str (by decide +kernel) rfl) pa_nil)))) (pss_one (ps_ret (pe_and (pe_callB call_isi (by rfl) T.m_isinstance (by decide +kernel) (pa_cons (pv 0) (pa_cons (pe_bltn (v := .ty "str") (by rfl) T.m_str (by decide +kernel) rfl) pa_nil))) (pe_one (pe_cmpR op_eq (pv 0) (pv 1) (nomark _)))))) pss_nil)
      (pss_one (ps_ret (pe_and (pe_call G_Lwhole (hr.mono (by omega)) (by rfl) T.g_Lwhole T.F_Lwhole.kp T.b_Lwhole .nil pass0 (pa_cons (pv 0) pa_nil)) (pe_one (pe_cmpR op_eq (pv 0) (pv 1) (nomark _)))))))))), ?_⟩
    have Q0 := q H (Same.refl H)
    cases d with
    | none =>
      cases hx
      cases hy
      exact ⟨.non, rfl, _, _, _, _, false, rfl, .ty _, .base .non, kit_ty (by decide +kernel), _, rfl, iteF ⟨.non, rfl, rfl, _, rfl, iteT ⟨.non, rfl, rfl, Q0⟩⟩⟩
    | bool b =>
      cases hx
      cases hy
      refine ⟨.bl b, rfl, _, _, _, _, false, rfl, .ty _, .base (.bl b), kit_ty (by decide +kernel), _, rfl, iteF ⟨.bl b, rfl, rfl, _, rfl, iteF ?_⟩⟩
      refine ⟨.bl b, rfl, _, _, _, _, true, rfl, .ty _, .base (.bl b), kit_ty (by decide +kernel), _, rfl, iteT ?_⟩
      refine ⟨.bl b, rfl, _, _, _, _, true, rfl, .ty _, .base (.bl b), kit_ty (by decide +kernel), _, rfl, iteT ⟨.bl b, rfl, .bl b, rfl, rfl, ?_⟩⟩
      rw [decide_eq_true rfl]
      exact Q0
    | int i =>
      cases hx
      cases hy
      refine ⟨.int i, rfl, _, _, _, _, false, rfl, .ty _, .base (.int i), kit_ty (by decide +kernel), _, rfl, iteF ⟨.int i, rfl, rfl, _, rfl, iteF ?_⟩⟩
      refine ⟨.int i, rfl, _, _, _, _, false, rfl, .ty _, .base (.int i), kit_ty (by decide +kernel), _, rfl, iteF ?_⟩
      refine ⟨.int i, rfl, _, _, _, _, false, rfl, .ty _, .base (.int i), kit_ty (by decide +kernel), _, rfl, iteF ?_⟩
      refine ⟨.int i, rfl, i, rfl, _, rfl, iteT ⟨.int i, rfl, .int i, rfl, rfl, ?_⟩⟩
      rw [decide_eq_true rfl]
      exact Q0
    | str z =>
      cases hx
      cases hy
      refine ⟨.str z, rfl, _, _, _, _, false, rfl, .ty _, .base (.str z), kit_ty (by decide +kernel), _, rfl, iteF ⟨.str z, rfl, rfl, _, rfl, iteF ?_⟩⟩
      refine ⟨.str z, rfl, _, _, _, _, false, rfl, .ty _, .base (.str z), kit_ty (by decide +kernel), _, rfl, iteF ?_⟩
      refine ⟨.str z, rfl, _, _, _, _, true, rfl, .ty _, .base (.str z), kit_ty (by decide +kernel), _, rfl, iteT ?_⟩
      refine ⟨.str z, rfl, _, _, _, _, true, rfl, .ty _, .base (.str z), kit_ty (by decide +kernel), _, rfl, iteT ⟨.str z, rfl, .str z, rfl, rfl, ?_⟩⟩
      rw [decide_eq_true rfl]
      exact Q0
    | list ds => cases ok
    | dict ds => cases ok
    | tuple ds =>
      cases hx with
      | @tup a xs _ sx ax =>
        cases hy with
        | @tup b ys _ sy ay =>
          have lx := dpa_len ds xs ax
          have ly := dpa_len ds ys ay
          obtain ⟨okL, okA⟩ := Bool.and_eq_true_iff.mp (show (decide (ds.length ≤ 1000) && ds.all fun d => okD n d) = true from ok)
          have okl : ds.length ≤ 1000 := of_decide_eq_true okL
          refine ⟨.ref b, rfl, _, _, _, _, true, rfl, .ty _, ty_tup sy, kit_ty (by decide +kernel), _, rfl, iteT ?_⟩
          refine ⟨.ref a, rfl, _, _, _, _, true, rfl, .ty _, ty_tup sx, kit_ty (by decide +kernel), _, rfl, iteF ?_⟩
          refine ⟨.ref a, rfl, a, xs, rfl, .inr sx, .ref b, rfl, b, ys, rfl, .inr sy, rfl, _, rfl, iteN (by rw [lx, ly]) ?_⟩
          refine ⟨.ref a, rfl, .ref b, rfl, a, b, xs, ys, rfl, .inr ⟨sx, sy, fun D hD => lc_it (walk_zipT (xs := xs) (ys := ys) (n := ds.length) (by omega)) (fun i H' => Same H H' ∧ H' D = some (.lst ((List.replicate i true).map V.bl))) ⟨same_upd hD, upd_same⟩ (fun i H' _ h => ⟨sqt_same h.1 sx, sqt_same h.1 sy⟩) ?_ ?_⟩⟩
          · rintro i v H1 H2 hi ⟨sm, eD⟩ ⟨t, u1, u2, rfl, nt, rfl, e1, e2⟩
            have st : Same H1 (upd H1 t (.tup [u1, u2])) := same_upd nt
            obtain ⟨d1, f1, g1⟩ := dpa_at ds xs ax i u1 e1
            obtain ⟨d2, f2, g2⟩ := dpa_at ds ys ay i u2 e2
            have ed : d2 = d1 := Option.some.inj (f2.symm.trans f1)
            subst ed
            have okd : okD n d2 = true := List.all_eq_true.mp okA d2 (List.mem_of_getElem? f1)
            refine ⟨t, [u1, u2], rfl, .inl (.inl upd_same), rfl, u1, [u2], rfl, u2, [], rfl, rfl, rfl, ?_⟩
            refine ⟨u1, rfl, u2, rfl, u1, u2, d2, rfl, dp_same (sm.trans st) d2 u1 g1, dp_same (sm.trans st) d2 u2 g2, okd, fun H3 s3 => ?_⟩
            refine ⟨_, s3 _ _ (st _ _ eD), ?_, ?_, ?_⟩
            · rw [List.length_map, List.length_replicate]
              exact small1000 (by omega)
            · exact fun b' o e => by
                rw [upd_ne (ne_of_none e hD)]
                exact s3 _ _ (st _ _ (sm _ _ e))
            · rw [upd_same, List.replicate_succ', List.map_append]
              rfl
          · rintro H1 ⟨sm, eD⟩
            refine ⟨_, List.replicate ds.length true, rfl, .inl (.inl eD), ?_⟩
            rw [all_true]
            exact q _ sm
theorem ok_Lsame (T : Top w K mg) : ∀ n : Nat, FnOk P w K mg base CX0 (n + 2) T.a_Lsame T.fd_Lsame ["_law_found", "_law_due"] (spSame K n)
  | 0 => ok_Lsame0 T
  | n + 1 => ok_LsameS T (ok_Lsame T n)
theorem kit_tyC {K : PySem.W.Frag} {C : Addr} {T : String} {b : Bool} (h1 : PySem.W.isClsIn K C = true) (h2 : PySem.W.typeIn K (.ref C) = some (.type "type")) (h3 : PySem.W.subIn K (.type T) (.ref C) = some b) : PySem.W.kitOne K (.type T) (.ref C) = some b := by
  unfold PySem.W.kitOne
  rw [show (Value.type T == Value.ref C) = false from rfl, if_neg Bool.false_ne_true]
  show (if ((PySem.W.clsIn K C).isSome && PySem.W.typeIn K (.ref C) == some (.type "type")) = true then PySem.W.subIn K (.type T) (.ref C) else none) = some b
  rw [if_pos (by rw [show (PySem.W.clsIn K C).isSome = true from h1, h2]; rfl)]
  exact h3
/-! ### the law -/
theorem eqA_refl {b : List Nat} {rs : List Row} (h : ∀ r ∈ rs, RowOk r) : eqA b rs b rs = true := by
  unfold eqA boxD
  rw [SeqAt.eqv_refl _ (SeqAt.canLay_of_shaped (box_shaped b)), SeqAt.eqv_refl _ (SeqAt.canLay_of_shaped (nms_shaped h)), SeqAt.eqv_refl _ (SeqAt.canLay_of_shaped (logs_shaped h))]
  rfl
theorem nf_own {K : PySem.W.Frag} {C : Addr} : PySem.W.notFirst K C (.ref C) = true := by simp [PySem.W.notFirst]
theorem badB_ints : ∀ (box : List Nat) (i : Nat), badB i (box.map fun n : Nat => PyData.int (n : Nat)) = none
  | [], _ => rfl
  | n :: r, i => (if_pos (decide_eq_true (Int.natCast_nonneg n))).trans (badB_ints r (i + 1))
theorem boxR_ok {box : List Nat} (h : box.length = 8) : boxR (box.map fun n : Nat => PyData.int (n : Nat)) = none :=
  (if_pos (by rw [List.length_map]; exact h)).trans (badB_ints box 0)
theorem row_pair {K : PySem.W.Frag} {H : Hp} {v : V} {r : Row} (h : RowAt K H v r) : PairD K H v (rowQ r) := by
  obtain ⟨t, l, rfl, h1, h2⟩ := h
  obtain ⟨l', xs, e, hx, ha⟩ := logD_ref h2
  cases e
  exact ⟨t, .str r.1, l, xs, rfl, .inr (.inl (.inl h1)), .str _, .inr hx, ha⟩
theorem rows_pairs {K : PySem.W.Frag} {H : Hp} {vs : List V} {rs : List Row} (h : RowsAt K H vs rs) : PairsD K H vs (rs.map rowQ) :=
  ⟨by rw [List.length_map]; exact h.len, fun i v hv => let ⟨r, fr, hr⟩ := h.at_ hv; ⟨rowQ r, by rw [List.getElem?_map, fr]; rfl, row_pair hr⟩⟩
theorem made_of {box : List Nat} {rs : List Row} (h8 : box.length = 8) (ok : ∀ r ∈ rs, RowOk r) (nd : (nms rs).Nodup) : atlasR (box.map fun n : Nat => PyData.int (n : Nat)) (rs.map rowQ) = .made := by
  unfold atlasR
  rw [boxR_ok h8]
  have := rows_made rs [] [] ok nd fun _ _ h => nomatch h
  rw [List.append_nil] at this
  exact this
theorem rows_kvs {K : PySem.W.Frag} {H : Hp} {vs : List V} {rs : List Row} (h : RowsAt K H vs rs) : ∃ (ps : List Addr) (ls : List V), vs = ps.map V.ref ∧ ls.length = rs.length ∧ Paired (fun p kv => SqT K H p [kV kv.1, kv.2]) ps (kvsOf rs ls) ∧ DpAll K H ls (rs.map logD) := by
  induction h with
  | nil => exact ⟨[], [], rfl, rfl, .nil, .nil⟩
  | cons h1 _ ih =>
    obtain ⟨ps, ls, rfl, ll, hp, hd⟩ := ih
    obtain ⟨t, l, rfl, e, d⟩ := h1
    exact ⟨t :: ps, .ref l :: ls, rfl, by rw [List.length_cons, List.length_cons, ll], .cons (.inl (.inl e)) hp, .cons d hd⟩
theorem merge_kvs : ∀ (rs : List Row) (ls : List V) (rs0 : List Row) (ls0 : List V), ls.length = rs.length → ls0.length = rs0.length → (nms (rs0 ++ rs)).Nodup → mergeK (kvsOf rs0 ls0) (kvsOf rs ls) = kvsOf (rs0 ++ rs) (ls0 ++ ls)
  | [], [], rs0, ls0, _, _, _ => by rw [List.append_nil, List.append_nil]; rfl
  | r :: rs, v :: ls, rs0, ls0, h, h0, nd => by
    have out : r.1 ∉ nms rs0 := fun m => by
      unfold nms at nd m
      rw [List.map_append] at nd
      exact (List.nodup_append.mp nd).2.2 _ m _ List.mem_cons_self rfl
    show mergeK (putK (kvsOf rs0 ls0) (Sum.inr r.1) v) (kvsOf rs ls) = _
    rw [putK_new _ (kvs_none rs0 ls0 r.1 out), ← kvs_snoc rs0 ls0 r v h0, merge_kvs rs ls (rs0 ++ [r]) (ls0 ++ [v]) (Nat.succ.inj h) (by rw [List.length_append, List.length_append, h0]; rfl) (by rw [List.append_assoc]; exact nd), List.append_assoc, List.append_assoc]
    rfl
theorem inW_perm {rs rs2 : List Row} (h : rs.Perm rs2) (d : PyData) : inW d (nms rs2) = inW d (nms rs) := by
  rw [Bool.eq_iff_iff, inW_nms, inW_nms]
  exact ⟨fun ⟨r, m, e⟩ => ⟨r, h.mem_iff.mpr m, e⟩, fun ⟨r, m, e⟩ => ⟨r, h.mem_iff.mp m, e⟩⟩
/-- what is due: the refusal, or nothing -/
def dueA (rs : List Row) (d : PyData) (lo : Option (List PyData)) : PyData := (refusal rs d lo).getD (.tuple [])
theorem refusal_lst (rs : List Row) (d : PyData) (es : List PyData) : refusal rs d (some (es.map lstD)) = refusal rs d (some es) := by
  unfold refusal
  simp only [lst_bad]
theorem after_lst {rs rs' : List Row} {d : PyData} {es : List PyData} (h : After rs d rs' (some (es.map lstD))) : After rs d rs' (some es) := by
  obtain ⟨z, ents, h1, h2, h3⟩ := h
  exact ⟨z, ents, h1, by rw [← lst_tups]; exact h2, h3⟩
/-- the answer: a refusal, or an atlas made -/
def Ans (K : PySem.W.Frag) (C : Addr) (box : List Nat) (rs : List Row) (d : PyData) (lo : Option (List PyData)) (H : Hp) (f : Addr) : Prop :=
  (∃ a, refusal rs d lo = some a ∧ Dp K H (.ref f) a) ∨ (refusal rs d lo = none ∧ ∃ y rs', After rs d rs' lo ∧ Srt rs' ∧ H f = some (.tup [.str "told", .ref y]) ∧ AtlasAt K C H y box rs')
theorem items_pairs {K : PySem.W.Frag} {H : Hp} : ∀ {ts : List Addr} {rk : List Row} {ks : List V}, Paired (fun (t : Addr) (q : Key × V) => H t = some (.tup [kV q.1, q.2])) ts (kvsOf rk ks) → ks.length = rk.length → DpAll K H ks (rk.map logD) → RowsAt K H (ts.map V.ref) rk
  | [], [], [], _, _, _ => .nil
  | t :: ts, r :: rk, k :: ks, hp, hl, hd => by
    cases hp with
    | cons h1 hp =>
      cases hd with
      | cons d1 hd =>
        obtain ⟨l, _, rfl, _⟩ := logD_ref d1
        exact .cons ⟨t, l, rfl, h1, d1⟩ (items_pairs hp (Nat.succ.inj hl) hd)
  | [], _ :: _, _ :: _, hp, _, _ => nomatch hp
  | _ :: _, [], [], hp, _, _ => nomatch hp
  | _, [], _ :: _, _, hl, _ => nomatch hl
  | _, _ :: _, [], _, hl, _ => nomatch hl
/-- made again from the items of the dict: the same atlas -/
theorem remade (T : Top w K mg) {H : Hp} {y dy B S : Addr} {vs : List V} {rk rs : List Row} {box : List Nat} {Q : VK} {E : XK} (ny : H y = none) (ndy : H dy = none) (eB : H B = some (.tup (boxV box))) (h8 : box.length = 8) (eS : H S = some (.lst vs)) (hrs : RowsAt K H vs rk)
    (ok : ∀ r ∈ rk, RowOk r) (nd : (nms rk).Nodup) (l5 : rk.length ≤ 50) (prm : rs.Perm rk) (srt : Srt rs) (q : ∀ H', Same H H' → AtlasAt K T.a_Atlas H' y box rs → Q .non H') : spInitX K T [.ref y, .ref B, .ref S] (upd (upd H dy (.own y)) y (.ins T.a_Atlas dy [])) Q E := by
  have s6 : Same H (upd (upd H dy (.own y)) y (.ins T.a_Atlas dy [])) := fun c o h => by
    rw [upd_ne (ne_of_none h ny)]
    exact same_upd ndy _ _ h
  have er := made_of h8 ok nd
  refine ⟨y, dy, B, S, boxV box, _, vs, rk.map rowQ, rfl, upd_same, .inr (.inl (.inl (s6 _ _ eB))), dpa_ints box, by rw [List.length_map]; omega, .inl (.inl (.inl (s6 _ _ eS))), rows_pairs (hrs.tp (fun r hr => by have := (ok r hr).len; omega) (Tp.of s6)), fun qq hqq => ?_, by rw [List.length_map]; omega, fun _ H6 box' rs1 rs' bt eb _ em _ _ prm' srt' at_ => ?_, fun i hi => by (rw [er] at hi; cases hi), fun i hi => by (rw [er] at hi; cases hi), fun i hi => by (rw [er] at hi; cases hi), fun z i hi => by (rw [er] at hi; cases hi)⟩
  · obtain ⟨r, hr, rfl⟩ := List.mem_map.mp hqq
    exact ok_QOk (ok r hr)
  · cases ints_inj eb
    cases rows_eq em
    have e : rs' = rs := srt_uniq (prm'.trans prm.symm) srt' srt
    subst e
    exact q H6 (fun c o h => bt _ _ (ne_of_none h ny) (s6 _ _ h)) at_
theorem refusal_shape {rs : List Row} {d a : PyData} {lo : Option (List PyData)} (h : refusal rs d lo = some a) (l : LayD d) : ∃ x xs, a = .tuple (x :: xs) ∧ SeqAt.shaped a = true := by
  unfold refusal at h
  cases lo with
  | none =>
    dsimp only at h
    split at h
    · cases h
    · cases h
      exact ⟨_, _, rfl, who_shaped (by decide +kernel) l⟩
  | some es =>
    dsimp only at h
    cases en : nameD d with
    | none =>
      rw [en] at h
      cases h
      exact ⟨_, _, rfl, who_shaped (by decide +kernel) l⟩
    | some z =>
      rw [en] at h
      dsimp only at h
      cases eb : badAt false 0 es with
      | none => rw [eb] at h; cases h
      | some i =>
        rw [eb] at h
        cases h
        have ez : d = .str z := by
          unfold nameD at en
          cases d with
          | str w => dsimp only at en; split at en <;> first | (cases en; rfl) | cases en
          | _ => cases en
        subst ez
        refine ⟨_, _, rfl, Bool.and_eq_true_iff.mpr ⟨?_, decide_eq_true ?_⟩⟩
        · show (PyData.strOk _ && (PyData.strOk z && (true && true))) = true
          rw [show PyData.strOk z = true from l.1]
          decide +kernel
        · show max 0 (max 0 (max 0 0)) + 1 ≤ 64
          decide
theorem drop_kvs {K : PySem.W.Frag} {H : Hp} (z : Str) : ∀ (rs : List Row) (ks : List V), ks.length = rs.length → DpAll K H ks (rs.map logD) → ∃ ks', dropK (kvsOf rs ks) (Sum.inr z : Key) = kvsOf (withQ rs (.str z)) ks' ∧ ks'.length = (withQ rs (.str z)).length ∧ DpAll K H ks' ((withQ rs (.str z)).map logD)
  | [], [], _, _ => ⟨[], rfl, rfl, .nil⟩
  | r :: rs, k :: ks, h, hd => by
    cases hd with
    | cons d1 hd =>
      obtain ⟨ks', e1, e2, e3⟩ := drop_kvs z rs ks (Nat.succ.inj h) hd
      by_cases e : r.1 = z
      · subst e
        have w : withQ (r :: rs) (.str r.1) = withQ rs (.str r.1) := by
          unfold withQ
          rw [List.filter_cons, if_neg (by rw [show eqS (.str r.1) r.1 = true from beq_self_eq_true _]; decide)]
        refine ⟨ks', ?_, by rw [w]; exact e2, by rw [w]; exact e3⟩
        rw [w, ← e1]
        simp [kvsOf, dropK]
      · have w : withQ (r :: rs) (.str z) = r :: withQ rs (.str z) := by
          unfold withQ
          rw [List.filter_cons, if_pos (by rw [show eqS (.str z) r.1 = false from beq_eq_false_iff_ne.mpr e]; rfl)]
        refine ⟨k :: ks', ?_, by rw [w, List.length_cons, List.length_cons, e2], by rw [w]; exact .cons d1 e3⟩
        rw [w]
        show _ = (Sum.inr r.1, k) :: kvsOf (withQ rs (.str z)) ks'
        rw [← e1]
        simp [kvsOf, dropK, e]
theorem withQ_out {rs : List Row} {z : Str} (h : z ∉ nms rs) : withQ rs (.str z) = rs := by
  unfold withQ
  refine List.filter_eq_self.mpr fun r hr => ?_
  rw [show eqS (.str z) r.1 = false from beq_eq_false_iff_ne.mpr fun e => h (e ▸ List.mem_map.mpr ⟨r, hr, rfl⟩)]
  rfl
theorem map_out {v : V} {z : Str} : ∀ (rs : List Row) (ks : List V), z ∉ nms rs → ((kvsOf rs ks).map fun kv => if kv.1 = (Sum.inr z : Key) then (kv.1, v) else kv) = kvsOf rs ks
  | [], _, _ => rfl
  | _ :: _, [], _ => rfl
  | r :: rs, k :: ks, h => by
    have n : ¬ (Sum.inr r.1 : Key) = Sum.inr z := fun e => h (by rw [← Sum.inr.inj e]; exact List.mem_cons_self)
    show (if (Sum.inr r.1 : Key) = Sum.inr z then ((Sum.inr r.1 : Key), v) else (Sum.inr r.1, k)) :: _ = (Sum.inr r.1, k) :: kvsOf rs ks
    rw [if_neg n]
    exact congrArg (List.cons _) (map_out (v := v) rs ks fun m => h (List.mem_cons_of_mem _ m))
theorem put_map {K : PySem.W.Frag} {H : Hp} {z : Str} {ents : List Ent} {v : V} (dv : Dp K H v (logD (z, ents))) : ∀ (rs : List Row) (ks : List V), ks.length = rs.length → (nms rs).Nodup → z ∈ nms rs → DpAll K H ks (rs.map logD) →
    ∃ rsN ksN, ((kvsOf rs ks).map fun kv => if kv.1 = (Sum.inr z : Key) then (kv.1, v) else kv) = kvsOf rsN ksN ∧ ksN.length = rsN.length ∧ DpAll K H ksN (rsN.map logD) ∧ rsN.Perm (withQ rs (.str z) ++ [(z, ents)])
  | [], _, _, _, hz, _ => nomatch hz
  | r :: rs, [], h, _, _, _ => nomatch h
  | r :: rs, k :: ks, h, nd, hz, hd => by
    obtain ⟨n1, n2⟩ := List.nodup_cons.mp (show (r.1 :: nms rs).Nodup from nd)
    cases hd with
    | cons d1 hd =>
      by_cases e : r.1 = z
      · subst e
        refine ⟨(r.1, ents) :: rs, v :: ks, ?_, by rw [List.length_cons, List.length_cons, Nat.succ.inj h], .cons dv hd, ?_⟩
        · show (if (Sum.inr r.1 : Key) = Sum.inr r.1 then ((Sum.inr r.1 : Key), v) else (Sum.inr r.1, k)) :: _ = (Sum.inr r.1, v) :: kvsOf rs ks
          rw [if_pos rfl]
          exact congrArg (List.cons _) (map_out (v := v) rs ks n1)
        · have w : withQ (r :: rs) (.str r.1) = rs := by
            have := withQ_out n1
            unfold withQ at this ⊢
            rw [List.filter_cons, if_neg (by rw [show eqS (.str r.1) r.1 = true from beq_self_eq_true _]; decide), this]
          rw [w]
          exact (List.perm_append_singleton (r.1, ents) rs).symm
      · have hz' : z ∈ nms rs := (List.mem_cons.mp (show z ∈ r.1 :: nms rs from hz)).resolve_left fun x => e x.symm
        obtain ⟨rsN, ksN, e1, e2, e3, e4⟩ := put_map dv rs ks (Nat.succ.inj h) n2 hz' hd
        have n : ¬ (Sum.inr r.1 : Key) = Sum.inr z := fun x => e (Sum.inr.inj x)
        refine ⟨r :: rsN, k :: ksN, ?_, by rw [List.length_cons, List.length_cons, e2], .cons d1 e3, ?_⟩
        · show (if (Sum.inr r.1 : Key) = Sum.inr z then ((Sum.inr r.1 : Key), v) else (Sum.inr r.1, k)) :: _ = (Sum.inr r.1, k) :: kvsOf rsN ksN
          rw [if_neg n]
          exact congrArg (List.cons _) e1
        · have w : withQ (r :: rs) (.str z) = r :: withQ rs (.str z) := by
            unfold withQ
            rw [List.filter_cons, if_pos (by rw [show eqS (.str z) r.1 = false from beq_eq_false_iff_ne.mpr e]; rfl)]
          rw [w]
          exact e4.cons r
theorem withQ_lt {rs : List Row} {z : Str} (h : z ∈ nms rs) : (withQ rs (.str z)).length < rs.length := by
  obtain ⟨r, hr, e⟩ := List.mem_map.mp h
  unfold withQ
  refine List.length_filter_lt_length_iff_exists.mpr ⟨r, hr, ?_⟩
  rw [show eqS (.str z) r.1 = true from by subst e; exact beq_self_eq_true _]
  decide
theorem after_few {rs rn : List Row} {d : PyData} {lo : Option (List PyData)} (ok : ∀ r ∈ rs, RowOk r) (l : rs.length ≤ 5) (hnew : ∀ z, nameD d = some z → z ∈ nms rs ∨ rs.length < 5) (h : After rs d rn lo) : (∀ r ∈ rn, RowOk r) ∧ rn.length ≤ 5 := by
  cases lo with
  | none =>
    have h : rn.Perm (withQ rs d) := h
    refine ⟨fun r hr => ok r (List.mem_filter.mp (h.mem_iff.mp hr)).1, ?_⟩
    have := List.length_filter_le (fun r : Row => !eqS d r.1) rs
    rw [h.length_eq]
    unfold withQ
    omega
  | some es =>
    obtain ⟨z, ents, rfl, et, ro, h⟩ := h
    refine ⟨fun r hr => ?_, ?_⟩
    · rcases List.mem_append.mp (h.mem_iff.mp hr) with m | m
      · exact ok r (List.mem_filter.mp m).1
      · rw [List.mem_singleton.mp m]
        exact ro
    · have := List.length_filter_le (fun r : Row => !eqS (.str z) r.1) rs
      rw [h.length_eq, List.length_append]
      show (withQ rs (.str z)).length + 1 ≤ 5
      rcases hnew z (name_nmD ro) with m | m
      · have := withQ_lt m
        omega
      · unfold withQ
        omega
theorem over_kd {K : PySem.W.Frag} {C : Addr} {H : Hp} {p B kd f yy : Addr} {kvs : List (Key × V)} {bs fs : List V} {box : List Nat} {rn : List Row} (ekd : H kd = some (.dK kvs)) (nkp : kd ≠ p) (hp : Pool H p) (eB : H B = some (.tup bs)) (ef : H f = some (.tup fs)) (hA : AtlasAt K C H yy box rn) (l : ∀ r ∈ rn, r.2.length ≤ 1000) (o : HO) :
    Pool (upd H kd o) p ∧ upd H kd o B = some (.tup bs) ∧ upd H kd o f = some (.tup fs) ∧ AtlasAt K C (upd H kd o) yy box rn :=
  ⟨hp.upd nkp, (upd_ne (fun e => by rw [e, ekd] at eB; cases eB)).trans eB, (upd_ne (fun e => by rw [e, ekd] at ef; cases ef)).trans ef, hA.kp l (Kp.upd ekd rfl)⟩
theorem put_any {K : PySem.W.Frag} {H : Hp} {z : Str} {ents : List Ent} {v : V} (dv : Dp K H v (logD (z, ents))) (rs : List Row) (ks : List V) (h : ks.length = rs.length) (nd : (nms rs).Nodup) (hd : DpAll K H ks (rs.map logD)) :
    ∃ rsN ksN, putK (kvsOf rs ks) (Sum.inr z : Key) v = kvsOf rsN ksN ∧ ksN.length = rsN.length ∧ DpAll K H ksN (rsN.map logD) ∧ rsN.Perm (withQ rs (.str z) ++ [(z, ents)]) := by
  by_cases hz : z ∈ nms rs
  · obtain ⟨rsN, ksN, e1, e2⟩ := put_map dv rs ks h nd hz hd
    refine ⟨rsN, ksN, ?_, e2⟩
    unfold putK
    rw [if_pos]
    · exact e1
    · refine List.any_eq_true.mpr ?_
      have m : (Sum.inr z : Key) ∈ (kvsOf rs ks).map (·.1) := by
        rw [kvs_keys rs ks h]
        exact List.mem_map.mpr ⟨z, hz, rfl⟩
      obtain ⟨kv, h1, h2⟩ := List.mem_map.mp m
      exact ⟨kv, h1, decide_eq_true h2⟩
  · refine ⟨rs ++ [(z, ents)], ks ++ [v], ?_, by rw [List.length_append, List.length_append, h]; rfl, ?_, by rw [withQ_out hz]⟩
    · rw [putK_new _ (kvs_none rs ks z hz)]
      exact (kvs_snoc rs ks (z, ents) v h).symm
    · rw [List.map_append]
      exact dpa_snoc dv _ _ hd
def spLaw (K : PySem.W.Frag) : Sp := fun vs H Q _ => ∃ (a : Addr) (ns : List Int), vs = [.ref a] ∧ SqL K H a (ns.map V.int) ∧ ns.length ≤ 63 ∧ ∀ H', Q (.bl true) H'
theorem ok_law (T : Top w K mg) : FnOk P w K mg base CX0 14 T.a_law T.fd_law ["_law_script"] (spLaw K) := by
  have G_Lpool := ok_Lpool (P := P) (w := w) (base := base) T
  have G_Ltake := ok_Ltake (P := P) (w := w) (base := base) T
  have G_Lnames := ok_Lnames (P := P) (w := w) (base := base) T
  have G_Lsmall_log := ok_Lsmall_log (P := P) (w := w) (base := base) T
  have G_Lsmall_box := ok_Lsmall_box (P := P) (w := w) (base := base) T
  have G_Atlas_init := ok_Atlas_init (P := P) (w := w) (base := base) T
  have G_Atlas_eq := ok_Atlas_eqA (P := P) (w := w) (base := base) T
  have G_Lstep := ok_Lstep (P := P) (w := w) (base := base) T
  have G_Llog_right := ok_Llog_right (P := P) (w := w) (base := base) T
  have G_Lis_name := ok_Lis_name (P := P) (w := w) (base := base) T
  have G_Lbad_at := ok_Lbad_at (P := P) (w := w) (base := base) T
  have G_Lasked := ok_Lasked (P := P) (w := w) (base := base) T
  have G_Las_lists := ok_Las_lists (P := P) (w := w) (base := base) T
  have G_Lsame := ok_Lsame (P := P) (w := w) (base := base) T 1
  refine T.F_law.ok sc_law (fun vs H Q E h => ?_) (fun cdv A outer s H vs Q E hr h => ?_)
  · obtain ⟨a, ns, rfl, _⟩ := h
    rfl
  · obtain ⟨a, ns, rfl, hS, hlen, q⟩ := h
    refine ⟨_, (pss_cons (ps_set (i := 1) sc_law.nd rfl (.inr rfl) (pe_call G_Lpool (hr.mono (by decide)) (by rfl) T.g_Lpool T.F_Lpool.kp T.b_Lpool .nil pass0 (pa_cons (pv 0) (pa_cons pe_int pa_nil))))
      (pss_cons (ps_set (i := 2) sc_law.nd rfl (.inr rfl) (pe_call G_Lnames (hr.mono (by decide)) (by rfl) T.g_Lnames T.F_Lnames.kp T.b_Lnames .nil pass0 (pa_cons (pv 1) (pa_cons (pe_call G_Ltake (hr.mono (by decide)) (by rfl) T.g_Ltake T.F_Ltake.kp T.b_Ltake .nil pass0 (pa_cons (pv 1) (pa_cons pe_int pa_nil))) pa_nil))))
      (pss_cons (ps_setLc (i := 4) (own := [("_law_name_here", 3)]) (g := gName 3) (by rfl) sc_law.nd rfl rfl (sw_true rfl rfl rfl (by decide +kernel)) (SeqW.pi_seq (pv 2)) (blkOk_by (own := [("_law_name_here", 3)]) (N := ["_law_script", "_law_pool_here", "_law_names_here", "_law_name_here", "_law_rows", "_law_box", "_law_atlas", "_law_kept", "_law_turn", "_law_log", "_law_due", "_law_found", "_law_entry"]) (sc := defScope s_law) (by decide +kernel)) (fun _ _ _ _ _ => (pg_name (i := 3) sc_law.nd rfl (Or.inl rfl))) (fun _ _ _ _ _ => pts_nil) (fun _ _ _ _ _ => (pe_tup (pa_cons (pv 3) (pa_cons (pe_call G_Lsmall_log (hr.mono (by decide)) (by rfl) T.g_Lsmall_log T.F_Lsmall_log.kp T.b_Lsmall_log .nil pass0 (pa_cons (pv 1) (pa_cons (pe_call G_Ltake (hr.mono (by decide)) (by rfl) T.g_Ltake T.F_Ltake.kp T.b_Ltake .nil pass0 (pa_cons (pv 1) (pa_cons pe_int pa_nil))) (pa_cons (pe_callTy call_int1 (by rfl) T.m_int (by decide +kernel) (pa_cons (pe_cmpR op_eq (pv 3) (pe_ix (r := rIx K) (SeqW.ix_seqK rfl) (pv 2) pe_int (fun _ _ => rfl)) (nomark _)) pa_nil)) pa_nil)))) pa_nil)))))
      (pss_cons (ps_set (i := 5) sc_law.nd rfl (.inl rfl) (pe_call G_Lsmall_box (hr.mono (by decide)) (by rfl) T.g_Lsmall_box T.F_Lsmall_box.kp T.b_Lsmall_box .nil pass0 (pa_cons (pv 1) (pa_cons pe_int pa_nil))))
      (pss_cons (ps_par (i := 6) (j := 7) (by rfl) sc_law.nd rfl rfl (by decide) rfl rfl (pa_cons (pe_make T.mk_Atlas G_Atlas_init (hr.mono (by decide)) (by rfl) T.g_Atlas T.b_Atlas_init .nil passL (pa_cons (pv 5) (pa_cons (pv 4) pa_nil))) (pa_cons (pe_callTy (call_dictP rfl) (by rfl) T.m_dict (by decide +kernel) (pa_cons (pv 4) pa_nil)) pa_nil)) (by rfl))
      (pss_cons (ps_for PassesOwn.never rfl (pi_range1 (by rfl) T.m_range (pa_cons pe_int pa_nil)) (pg_name (i := 8) sc_law.nd rfl (.inl rfl)) (pss_cons (ps_asg (pe_call G_Lstep (hr.mono (by decide)) (by rfl) T.g_Lstep T.F_Lstep.kp T.b_Lstep .nil pass0 (pa_cons (pv 1) (pa_cons (pv 7) pa_nil))) (pg_tup rfl (pgs_cons (pg_name (i := 3) sc_law.nd rfl (.inl rfl)) (pgs_cons (pg_name (i := 9) sc_law.nd rfl (.inl rfl)) pgs_nil))))
      (pss_cons (ps_set (i := 10) sc_law.nd rfl (.inl rfl) (pe_tup pa_nil))
      (pss_cons (ps_if (pt_not (pt_val (pe_call G_Llog_right (hr.mono (by decide)) (by rfl) T.g_Llog_right T.F_Llog_right.kp T.b_Llog_right .nil pass0 (pa_cons (pv 6) (pa_cons (pv 7) (pa_cons (pv 3) pa_nil)))))) (pss_one (ps_ret pe_bl)) pss_nil)
      (Evl.pss_cut (ps_if (PW.pt (pw_and (pt_cmpR op_isN (pv 9) pe_non (nomark _)) (pw_and1 (pt_cmpR (op_notInL (units65 hr)) (pv 3) (pe_callTy (call_listD rfl) (by rfl) T.m_list (by decide +kernel) (pa_cons (pv 7) pa_nil)) (by rfl))))) (pss_one (ps_set (i := 10) sc_law.nd rfl (.inl rfl) (pe_tup (pa_cons pe_str (pa_cons (pv 3) pa_nil))))) (pss_one (ps_if (PW.pt (pw_and (pt_cmpR op_notN (pv 9) pe_non (nomark _)) (pw_and1 (pt_not (pt_val (pe_call G_Lis_name (hr.mono (by decide)) (by rfl) T.g_Lis_name T.F_Lis_name.kp T.b_Lis_name .nil pass0 (pa_cons (pv 3) pa_nil))))))) (pss_one (ps_set (i := 10) sc_law.nd rfl (.inl rfl) (pe_tup (pa_cons pe_str (pa_cons (pv 3) pa_nil))))) (pss_one (ps_if (PW.pt (pw_and (pt_cmpR op_notN (pv 9) pe_non (nomark _)) (pw_and1 (pt_cmpR op_notN (pe_call G_Lbad_at (hr.mono (by decide)) (by rfl) T.g_Lbad_at T.F_Lbad_at.kp T.b_Lbad_at .nil pass0 (pa_cons (pv 9) pa_nil)) pe_non (nomark _))))) (pss_one (ps_set (i := 10) sc_law.nd rfl (.inl rfl) (pe_tup (pa_cons pe_str (pa_cons (pv 3) (pa_cons (pe_call G_Lbad_at (hr.mono (by decide)) (by rfl) T.g_Lbad_at T.F_Lbad_at.kp T.b_Lbad_at .nil pass0 (pa_cons (pv 9) pa_nil)) pa_nil)))))) pss_nil)))))
      (Evl.pss_cut (ps_set (i := 11) sc_law.nd rfl (.inl rfl) (pe_call G_Lasked hr (by rfl) T.g_Lasked T.F_Lasked.kp T.b_Lasked .nil pass0 (pa_cons (pv 6) (pa_cons (pv 3) (pa_cons (pe_ifExp (PW.pt (pw_and (pt_cmpR op_notN (pv 9) pe_non (nomark _)) (pw_and1 (pt_cmpR op_eq (pe_op op_mod (pv 8) pe_int) pe_int (nomark _))))) (pe_call G_Las_lists (hr.mono (by decide)) (by rfl) T.g_Las_lists T.F_Las_lists.kp T.b_Las_lists .nil pass0 (pa_cons (pv 9) pa_nil)) (pv 9)) pa_nil)))))
      (pss_cons (ps_if (PW.pt (pw_or (pt_cmpR (OwnE.op_neO G_Atlas_eq T.ne_Atlas.1 T.ne_Atlas.2 T.me_Atlas_eq.1 T.me_Atlas_eq.2 T.b_Atlas_eq pass0 (hr.mono (by decide))) (pv 6) (pe_make T.mk_Atlas G_Atlas_init (hr.mono (by decide)) (by rfl) T.g_Atlas T.b_Atlas_init .nil passL (pa_cons (pv 5) (pa_cons (LiI.pe_listItems (by rfl) (pv 7) (by rfl) T.m_list (by decide +kernel)) pa_nil))) (nomark _)) (pw_or1 (PW.pt (pw_and (pt_cmpR (op_neD hr.units) (pv 10) (pe_tup pa_nil) (nomark _)) (pw_and1 (pt_cmpR (op_neD hr.units) (pv 11) (pv 10) (nomark _)))))))) (pss_one (ps_ret pe_bl)) pss_nil)
      (pss_cons (ps_if (PW.pt (pw_and (pt_cmpR (op_eqD hr.units) (pv 10) (pe_tup pa_nil) (nomark _)) (pw_and1 (PW.pt (pw_or (pt_cmpR op_ne (pe_ix ix_tup (pv 11) pe_int (fun _ _ => rfl)) pe_str (nomark _)) (pw_or1 (pt_not (pt_val (pe_callB call_isi (by rfl) T.m_isinstance (by decide +kernel) (pa_cons (pe_ix ix_tup (pv 11) pe_int (fun _ _ => rfl)) (pa_cons (pe_glob (v := .ref T.a_Atlas) (by rfl) T.g_Atlas rfl) pa_nil))))))))))) (pss_one (ps_ret pe_bl)) pss_nil)
      (pss_one (ps_if (pt_cmpR (op_eqD hr.units) (pv 10) (pe_tup pa_nil) (nomark _)) (Evl.pss_cut (ps_if (pt_cmpR op_isN (pv 9) pe_non (nomark _)) (pss_one (ps_expr (pe_dpop1 (pv 7) (pv 3) ⟨by rfl, by rfl, by rfl, by rfl⟩))) (pss_one (ps_dput (hu_of hr) (pv 7) (pv 3) (pe_callTy call_tuple_of (by rfl) T.m_tuple (by decide +kernel) (pa_cons (pe_lc (own := [("_law_entry", 12)]) (g := gName 12) (by rfl) sc_law.nd (pi_tup (pv 9)) (blkOk_by (own := [("_law_entry", 12)]) (N := ["_law_script", "_law_pool_here", "_law_names_here", "_law_name_here", "_law_rows", "_law_box", "_law_atlas", "_law_kept", "_law_turn", "_law_log", "_law_due", "_law_found", "_law_entry"]) (sc := defScope s_law) (by decide +kernel)) (fun _ _ _ _ _ => (pg_name (i := 12) sc_law.nd rfl (Or.inl rfl))) (fun _ _ _ _ _ => pts_nil) (fun _ _ _ _ _ => (pe_callTy (r := kTup K) (T := "tuple") (tuple_ofK rfl) (by rfl) T.m_tuple (by decide +kernel) (pa_cons (pv 12) pa_nil)))) pa_nil)) rfl)))
      (pss_cons (ps_if (pt_cmpR (OwnE.op_neO G_Atlas_eq T.ne_Atlas.1 T.ne_Atlas.2 T.me_Atlas_eq.1 T.me_Atlas_eq.2 T.b_Atlas_eq pass0 (hr.mono (by decide))) (pe_ix ix_tup (pv 11) pe_int (fun _ _ => rfl)) (pe_make T.mk_Atlas G_Atlas_init (hr.mono (by decide)) (by rfl) T.g_Atlas T.b_Atlas_init .nil passL (pa_cons (pv 5) (pa_cons (LiI.pe_listItems (by rfl) (pv 7) (by rfl) T.m_list (by decide +kernel)) pa_nil))) (nomark _)) (pss_one (ps_ret pe_bl)) pss_nil)
      (pss_one (ps_set (i := 6) sc_law.nd rfl (.inl rfl) (pe_ix ix_tup (pv 11) pe_int (fun _ _ => rfl)))))) pss_nil))))))))))
      (pss_one (ps_ret (pe_call G_Lsame (hr.mono (by decide)) (by rfl) T.g_Lsame T.F_Lsame.kp T.b_Lsame .nil pass0 (pa_cons (pe_fld (pv 6) rfl) (pa_cons (pe_callTy call_tuple_of (by rfl) T.m_tuple (by decide +kernel) (pa_cons (pe_callB cr_sortedS (by rfl) T.m_sorted (by decide +kernel) (pa_cons (pe_callTy (call_listD rfl) (by rfl) T.m_list (by decide +kernel) (pa_cons (pv 7) pa_nil)) pa_nil)) pa_nil)) pa_nil))))))))))), ?_⟩
    refine ⟨.ref a, rfl, a, ns, 0, rfl, hS, hlen, by decide, fun H1 p sm np hp => ?_⟩
    refine ⟨.ref p, rfl, .ref p, rfl, p, 4, rfl, by decide, by decide, hp, fun H2 k b2 hp2 k0 k1 => ?_⟩
    obtain ⟨m, rfl⟩ : ∃ m : Nat, k = m := ⟨k.toNat, by omega⟩
    refine ⟨p, m, rfl, by omega, hp2, fun H3 L zs b3 hp3 nL eL lz nd hzs => ?_⟩
    have nLp : L ≠ p := hp2.ne_new nL
    refine ⟨.ref L, rfl, L, zs.map V.str, rfl, (fun H' => H' L = some (.lst (zs.map V.str))), .inl (fun _ h => .inl (.inl h)), eL, fun J G wk hG => fun D nD => lc_it wk (fun i H' => (∀ c o, c ≠ p → c ≠ D → H3 c = some o → H' c = some o) ∧ Pool H' p ∧ ∃ vs rs, H' D = some (.lst vs) ∧ RowsAt K H' vs rs ∧ nms rs = zs.take i ∧ ∀ r ∈ rs, RowOk r)
      ⟨fun c o _ n h => (upd_ne n).trans h, ⟨hp3.choose, hp3.choose_spec.choose, hp3.choose_spec.choose_spec.choose, hp3.choose_spec.choose_spec.choose_spec.choose, hp3.choose_spec.choose_spec.choose_spec.choose_spec.1, (upd_ne (Ne.symm (hp3.ne_new nD))).trans hp3.choose_spec.choose_spec.choose_spec.choose_spec.2⟩, [], [], upd_same, .nil, by rw [List.take_zero]; rfl, fun _ h => nomatch h⟩ (fun i H' _ h => hG _ (h.1 _ _ nLp (ne_of_none eL nD) eL)) ?_ ?_⟩
    · rintro i v _ H4 hi ⟨kp, hp4, vs, rs, eD, hrs, en, rok⟩ ⟨rfl, hv⟩
      rw [List.length_map] at hi
      rw [List.getElem?_map] at hv
      have ez := List.getElem?_eq_getElem hi
      rw [ez] at hv
      cases hv
      have nDp : D ≠ p := hp3.ne_new nD
      have nLD : L ≠ D := ne_of_none eL nD
      have e4 := kp _ _ nLp nLD eL
      obtain ⟨z0, hz0⟩ : ∃ z0, (zs.map V.str)[0]? = some (.str z0) := by
        cases zs with
        | nil => exact absurd hi (Nat.not_lt_zero _)
        | cons z r => exact ⟨z, rfl⟩
      refine ⟨rfl, .str zs[i], rfl, .ref p, rfl, .ref p, rfl, p, 6, rfl, by decide, by decide, hp4, fun H5 m5 b5 hp5 m50 m56 => ?_⟩
      refine ⟨.str zs[i], rfl, .ref L, rfl, ixA (j := 0) (.inl (.inl (.inl (b5 _ _ nLp e4)))) hz0 ⟨rfl, .inr ⟨_, rfl, p, m5, _, rfl, m50, by omega, hp5, fun H6 t es b6 hp6 hd le oke hright _ => ⟨by show 2 ≤ sizeLine; decide, fun tt ntt => ?_⟩⟩⟩⟩
      have st := same_upd (o := .tup [.str zs[i], .ref t]) ntt
      have b46 := b5.trans b6
      have r1000 : ∀ r ∈ rs, r.2.length ≤ 1000 := fun r hr => by have := (rok r hr).len; omega
      have nzi := hzs zs[i] (List.getElem_mem hi)
      have ro : RowOk (zs[i], es) := ⟨nzi, oke, hright, by show es.length ≤ 100; omega⟩
      have nttD : tt ≠ D := fun e => by rw [e, b46 _ _ nDp eD] at ntt; cases ntt
      have tpD : Tp (upd H6 tt (.tup [.str zs[i], .ref t])) (upd (upd H6 tt (.tup [.str zs[i], .ref t])) D (.lst (vs ++ [.ref tt]))) := Tp.lst (st _ _ (b46 _ _ nDp eD))
      refine ⟨vs, st _ _ (b46 _ _ nDp eD), small1000 (by have := hrs.len; have h2 := congrArg List.length en; unfold nms at h2; rw [List.length_map, List.length_take] at h2; omega), fun c o n1 n2 h => ?_, ?_, vs ++ [.ref tt], rs ++ [(zs[i], es)], upd_same, ?_, ?_, fun r hr => ?_⟩
      · rw [upd_ne n2]
        exact st _ _ (b46 _ _ n1 (kp _ _ n1 n2 h))
      · obtain ⟨l1, l2, l3, l4, l5, l6⟩ := hp6.same st
        exact ⟨l1, l2, l3, l4, l5, (upd_ne (Ne.symm nDp)).trans l6⟩
      · refine RowsAt.snoc ((hrs.tp r1000 ((Tp.but hp4 b46).trans (Tp.of st))).tp r1000 tpD) ⟨tt, t, rfl, (upd_ne nttD).trans upd_same, ?_⟩
        exact dp_kp tpD 2 _ _ (log_okD (by have := ro.len; omega)) (dp_same st _ _ hd)
      · unfold nms at en ⊢
        rw [List.map_append, en, List.take_add_one, ez]
        rfl
      · rcases List.mem_append.mp hr with h | h
        · exact rok r h
        · rw [List.mem_singleton.mp h]
          exact ro
    rintro H4 ⟨kp, hp4, vs, rs, eD, hrs, en, rok⟩
    rw [List.length_map, List.take_length] at en
    have nDp : D ≠ p := hp3.ne_new nD
    refine ⟨.ref p, rfl, p, 5, rfl, hp4, fun H5 B box b5 hp5 nB eB h8 => ?_⟩
    have r1000 : ∀ r ∈ rs, r.2.length ≤ 1000 := fun r hr => by have := (rok r hr).len; omega
    have eD5 := b5 _ _ nDp eD
    have hrs5 := hrs.tp r1000 (Tp.but hp4 b5)
    have ndr : (nms rs).Nodup := by rw [en]; exact nd
    have lrs : rs.length ≤ 3 := by
      have := congrArg List.length en
      unfold nms at this
      rw [List.length_map, lz] at this
      omega
    refine ⟨.ref B, rfl, .ref D, rfl, fun x dx nx ndx nex => ?_⟩
    have s6 : Same H5 (upd (upd H5 dx (.own x)) x (.ins T.a_Atlas dx [])) := fun c o h => by
      rw [upd_ne (ne_of_none h nx)]
      exact same_upd ndx _ _ h
    have er := made_of h8 rok ndr
    refine ⟨x, dx, B, D, boxV box, _, vs, rs.map rowQ, rfl, upd_same, .inr (.inl (.inl (s6 _ _ eB))), dpa_ints box, by rw [List.length_map]; omega, .inl (.inl (.inl (s6 _ _ eD5))), (rows_pairs (hrs5.tp r1000 (Tp.of s6))), fun qq hqq => ?_, by rw [List.length_map]; omega, fun _ H6 box' rs1 rs' bt eb _ em _ _ prm srt at_ => ⟨rfl, ?_⟩, fun i hi => by (rw [er] at hi; cases hi), fun i hi => by (rw [er] at hi; cases hi), fun i hi => by (rw [er] at hi; cases hi), fun z i hi => by (rw [er] at hi; cases hi)⟩
    · obtain ⟨r, hr, rfl⟩ := List.mem_map.mp hqq
      exact ok_QOk (rok r hr)
    cases ints_inj eb
    cases rows_eq em
    have s56 : Same H5 H6 := fun c o h => bt _ _ (ne_of_none h nx) (s6 _ _ h)
    have hrs6 := hrs5.tp r1000 (Tp.of s56)
    obtain ⟨ps, ls, evs, ll, hpair, hld⟩ := rows_kvs hrs6
    refine ⟨.ref D, rfl, D, ps, kvsOf rs ls, rfl, .inl (.inl (by rw [← evs]; exact s56 _ _ eD5)), hpair, fun kd nkd => ?_⟩
    rw [show mergeK [] (kvsOf rs ls) = kvsOf rs ls from merge_kvs rs ls [] [] ll rfl ndr]
    have s7 := same_upd (o := .dK (kvsOf rs ls)) nkd
    have k7 : KeptD K (upd H6 kd (.dK (kvsOf rs ls))) kd rs := ⟨ls, upd_same, ll, dpa_same s7 _ _ hld⟩
    have a7 := at_.same s7
    have hp7 := (hp5.same s56).same s7
    have e7 := s7 _ _ (s56 _ _ eB)
    have nkp : kd ≠ p := (hp5.same s56).ne_new nkd
    have rok' : ∀ r ∈ rs', RowOk r := fun r hr => rok r (prm.mem_iff.mp hr)
    refine ⟨_, _, rfl, 4, rfl, by decide, by decide, for_range (n := 4) (fun i σ H' => ∃ (x : Addr) (rs rs2 : List Row) (y3 y8 y9 y10 y11 y12 : Option V), σ = [some (.ref a), some (.ref p), some (.ref L), y3, some (.ref D), some (.ref B), some (.ref x), some (.ref kd), y8, y9, y10, y11, y12] ∧ Pool H' p ∧ H' B = some (.tup (boxV box)) ∧ AtlasAt K T.a_Atlas H' x box rs ∧ KeptD K H' kd rs2 ∧ rs.Perm rs2 ∧ Srt rs ∧ (∀ r ∈ rs, RowOk r) ∧ rs.length ≤ 5)
      ⟨x, rs', rs, none, none, none, none, none, none, rfl, hp7, e7, a7, k7, prm, srt, rok', by rw [prm.length_eq]; omega⟩ ?_ ?_⟩
    · rintro i σ H8 hi ⟨x8, ra, rk, y3, y8, y9, y10, y11, y12, rfl, hp8, e8, hA8, hk8, prm8, srt8, rok8, l8⟩
      have ndk : (nms rk).Nodup := (nms_perm prm8).nodup_iff.mp srt8.nodup
      have rokk : ∀ r ∈ rk, RowOk r := fun r hr => rok8 r (prm8.mem_iff.mpr hr)
      have lk5 : rk.length ≤ 5 := by rw [← prm8.length_eq]; exact l8
      have k1000 : ∀ d ∈ rk.map logD, okD 2 d = true := fun d hd => by
        obtain ⟨r, hr, rfl⟩ := List.mem_map.mp hd
        exact log_okD (by have := (rokk r hr).len; omega)
      have offp : ∀ {c : Addr}, c ≠ p → ¬ OnlyP p c := fun n z => n (z.elim id fun z => z.elim id id)
      have tpw : ∀ {H' : Hp}, Pool H' p → Tp H' (wo H' (OnlyP p)) := fun hp' => Tp.wo fun c o hc h => by
        have e : c = p := hc.elim id fun z => z.elim id id
        obtain ⟨_, _, _, _, _, ho⟩ := hp'
        rw [e, ho] at h
        cases h
        rfl
      obtain ⟨ks, ek, lk, hks⟩ := id hk8
      refine ⟨.ref p, rfl, .ref kd, rfl, p, kd, rk, rfl, hp8, ⟨ks, (wo_in (X := OnlyP p) (offp nkp)).trans ek, lk, dpa_tp (tpw hp8) k1000 hks⟩, rokk, ndk, lk5, fun H9 r nv lv d lo b9 hp9 er hn hl hnew => ?_⟩
      have kp9 : Kp H8 H9 := Kp.but hp8 b9
      have hA9 := hA8.kp (fun r hr => by have := (rok8 r hr).len; omega) kp9
      have hk9 : KeptD K H9 kd rk := ⟨ks, b9 _ _ nkp ek, lk, dpa_tp kp9.tp k1000 hks⟩
      have nBp : B ≠ p := fun e => by
        obtain ⟨_, _, _, _, _, ho⟩ := hp8
        rw [← e, e8] at ho
        cases ho
      have e9 := b9 _ _ nBp e8
      have hd9 : Dp K H9 nv d := dp_same wo_same _ _ hn.dp
      refine ⟨r, _, rfl, .inl (.inl (wo_same _ _ er)), rfl, _, _, rfl, _, _, rfl, rfl, by show 0 ≤ sizeLine; decide, fun d0 nd0 => ?_⟩
      have s10 := same_upd (o := .tup []) nd0
      refine ⟨.ref x8, rfl, .ref kd, rfl, nv, rfl, x8, kd, nv, d, box, ra, rk, rfl, hA9.same s10, hk9.same s10, prm8, dp_same s10 _ _ hd9, hn.gp, hn.lay, hn.sz, srt8, rok8, by omega, fun H11 s11 => ⟨_, rfl, iteF ?_⟩⟩
      have hd11 : Dp K H11 nv d := dp_same (s10.trans s11) _ _ hd9
      have hk11 := (hk9.same s10).same s11
      have e0 : H11 d0 = some (.tup []) := s11 _ _ upd_same
      obtain ⟨y8', hy8⟩ : ∃ y8', y8' = (some (V.int (0 + (i : Int)))) := ⟨_, rfl⟩
      refine ⟨fun σ H' => Same H11 H' ∧ ∃ dd, σ = [some (.ref a), some (.ref p), some (.ref L), some nv, some (.ref D), some (.ref B), some (.ref x8), some (.ref kd), y8', some lv, some (.ref dd), y11, y12] ∧ Dp K H' (.ref dd) (dueA ra d lo), ?_, ?_⟩
      · subst hy8
        cases lo with
        | none =>
          cases (show lv = .non from hl)
          obtain ⟨ks1, ek1, lk1, _⟩ := hk11
          refine ⟨_, rfl, rfl, _, rfl, iteDY (decide_eq_true rfl) ⟨nv, rfl, .ref kd, rfl, kd, _, rfl, Rd.of ek1, fun l6 n6 => ?_⟩⟩
          have s6' := same_upd (o := .lst ((kvsOf rk ks1).map fun kv => kV kv.1)) n6
          refine notInL_of (ws := nms rk) (dp_same s6' _ _ hd11) hn.gp (.inl (.inl (by rw [← kv_names lk1]; exact upd_same))) (shaped_nmsL rokk) ⟨_, rfl, ?_⟩
          rw [inW_perm prm8]
          cases hin : inW d (nms ra) with
          | false =>
            refine iteT ⟨nv, rfl, by show 2 ≤ sizeLine; decide, fun t9 n9 => ⟨s6'.trans (same_upd n9), t9, rfl, ?_⟩⟩
            have s9' := same_upd (o := .tup [.str "NoWalker", nv]) n9
            rw [show dueA ra d none = .tuple [.str "NoWalker", d] from by unfold dueA refusal; rw [hin]; rfl]
            exact .tup (.inl (.inl upd_same)) (.cons (.str _) (.cons (dp_same (s6'.trans s9') _ _ hd11) .nil))
          | true =>
            have nn : (!decide (V.non = V.non)) = false := by rw [decide_eq_true rfl]; rfl
            refine iteF ⟨_, rfl, rfl, _, rfl, iteDN nn ⟨_, rfl, rfl, _, rfl, iteDN nn ⟨s6', d0, rfl, ?_⟩⟩⟩
            rw [show dueA ra d none = .tuple [] from by unfold dueA refusal; rw [hin]; rfl]
            exact .tup (.inl (.inl (s6' _ _ e0))) .nil
        | some es =>
          obtain ⟨tl, txs, rfl, htl, hdl, hge, hll⟩ := hl
          have yn : (!decide (V.ref tl = V.non)) = true := by rw [decide_eq_false (fun h => nomatch h)]; rfl
          have th11 : Th K H11 nv := th_dp hd11 hn.gp
          have htl11 := sqt_same (wo_same.trans (s10.trans s11)) htl
          have hdl11 := dpa_same (wo_same.trans (s10.trans s11)) _ _ hdl
          refine ⟨_, rfl, rfl, _, rfl, iteDN (decide_eq_false (fun h => nomatch h)) ⟨_, rfl, rfl, _, rfl, iteDY yn ⟨nv, rfl, nv, rfl, th11, fun H13 s13 => ⟨_, rfl, ?_⟩⟩⟩⟩
          rw [name_nm hd11]
          cases en : nameD d with
          | none =>
            refine iteT ⟨nv, rfl, by show 2 ≤ sizeLine; decide, fun t9 n9 => ⟨s13.trans (same_upd n9), t9, rfl, ?_⟩⟩
            have s9' := same_upd (o := .tup [.str "NoName", nv]) n9
            rw [show dueA ra d (some es) = .tuple [.str "NoName", d] from by unfold dueA refusal; rw [en]; rfl]
            exact .tup (.inl (.inl upd_same)) (.cons (.str _) (.cons (dp_same (s13.trans s9') _ _ hd11) .nil))
          | some z =>
            obtain ⟨rfl, rfl⟩ := name_str hd11 en
            refine iteF ⟨_, rfl, rfl, _, rfl, iteDY yn ⟨.ref tl, rfl, tl, txs, es, rfl, sqt_same s13 htl11, dpa_same s13 _ _ hdl11, hge, by omega, fun H14 s14 => ⟨rfl, _, rfl, ?_⟩⟩⟩
            cases eb : badAt false 0 es with
            | none =>
              refine iteDN (by rw [decide_eq_true rfl]; rfl) ⟨s13.trans s14, d0, rfl, ?_⟩
              rw [show dueA ra (.str z) (some es) = .tuple [] from by unfold dueA refusal; rw [en]; show (match badAt false 0 es with | some i => _ | none => _ : Option PyData).getD _ = _; rw [eb]; rfl]
              exact .tup (.inl (.inl ((s13.trans s14) _ _ e0))) .nil
            | some ib =>
              refine iteDY (by rw [decide_eq_false (fun h => nomatch h)]; rfl) ⟨.str z, rfl, .ref tl, rfl, tl, txs, es, rfl, sqt_same (s13.trans s14) htl11, dpa_same (s13.trans s14) _ _ hdl11, hge, by omega, fun H15 s15 => ?_⟩
              rw [eb]
              refine ⟨by show 3 ≤ sizeLine; decide, fun t9 n9 => ⟨((s13.trans s14).trans s15).trans (same_upd n9), t9, rfl, ?_⟩⟩
              rw [show dueA ra (.str z) (some es) = .tuple [.str "BadLog", .str z, .int (ib : Int)] from by unfold dueA refusal; rw [en]; show (match badAt false 0 es with | some i => _ | none => _ : Option PyData).getD _ = _; rw [eb]; rfl]
              exact .tup (.inl (.inl upd_same)) (.cons (.str _) (.cons (.str _) (.cons (.int _) .nil)))
      rintro σ H12 ⟨s12, dd, rfl, hdue⟩
      subst hy8
      have s812 := (s10.trans s11).trans s12
      have hA12 := hA9.same s812
      have hd12 := dp_same s812 _ _ hd9
      refine ⟨fun σ H' => Same H12 H' ∧ ∃ f, σ = [some (.ref a), some (.ref p), some (.ref L), some nv, some (.ref D), some (.ref B), some (.ref x8), some (.ref kd), some (.int (0 + (i : Int))), some lv, some (.ref dd), some (.ref f), y12] ∧ Ans K T.a_Atlas box ra d lo H' f, ?_, ?_⟩
      · cases lo with
        | none =>
          cases (show lv = .non from hl)
          have nn : (!decide (V.non = V.non)) = false := by rw [decide_eq_true rfl]; rfl
          refine ⟨.ref x8, rfl, nv, rfl, _, rfl, rfl, _, rfl, iteDN nn ⟨_, rfl, x8, nv, .non, d, none, box, ra, rfl, hA12, h8, boxR_ok h8, hd12, hn.gp, hn.sz, rfl, srt8, rok8, by omega, fun H' r a s' er' dp => ⟨s', r, rfl, .inl ⟨a, er', dp⟩⟩, fun er' H' r y rs' s' af sr eq at_ => ⟨s', r, rfl, .inr ⟨er', y, rs', af, sr, eq, at_⟩⟩⟩⟩
        | some es =>
          obtain ⟨tl, txs, rfl, htl, hdl, hge, hll⟩ := hl
          have yn : (!decide (V.ref tl = V.non)) = true := by rw [decide_eq_false (fun h => nomatch h)]; rfl
          have htl12 := sqt_same (wo_same.trans s812) htl
          have hdl12 := dpa_same (wo_same.trans s812) _ _ hdl
          refine ⟨.ref x8, rfl, nv, rfl, _, rfl, rfl, _, rfl, iteDY yn ⟨_, rfl, _, _, rfl, rfl, (show (0 : Int) < 2 by decide), rfl, _, rfl, ite2 (fun _ => ?_) (fun _ => ?_)⟩⟩
          · refine ⟨.ref tl, rfl, tl, txs, es, rfl, htl12, hdl12, hll, fun H13 r13 ys13 s13 e13 d13 => ?_⟩
            exact ⟨x8, nv, .ref r13, d, some (es.map lstD), box, ra, rfl, hA12.same s13, h8, boxR_ok h8, dp_same s13 _ _ hd12, hn.gp, hn.sz, ⟨r13, ys13, rfl, .inl (.inl (.inl e13)), d13, fun e he => by obtain ⟨x, hx, rfl⟩ := List.mem_map.mp he; exact ge_lst (hge x hx), by rw [List.length_map]; exact hll⟩, srt8, rok8, by omega, fun H' r a s' er' dp => ⟨s13.trans s', r, rfl, .inl ⟨a, by rw [← refusal_lst]; exact er', dp⟩⟩, fun er' H' r y rs' s' af sr eq at_ => ⟨s13.trans s', r, rfl, .inr ⟨by rw [← refusal_lst]; exact er', y, rs', after_lst af, sr, eq, at_⟩⟩⟩
          · exact ⟨_, rfl, x8, nv, .ref tl, d, some es, box, ra, rfl, hA12, h8, boxR_ok h8, hd12, hn.gp, hn.sz, ⟨tl, txs, rfl, .inr htl12, hdl12, hge, hll⟩, srt8, rok8, by omega, fun H' r a s' er' dp => ⟨s', r, rfl, .inl ⟨a, er', dp⟩⟩, fun er' H' r y rs' s' af sr eq at_ => ⟨s', r, rfl, .inr ⟨er', y, rs', af, sr, eq, at_⟩⟩⟩
      rintro σ H16 ⟨s16, f, rfl, hans⟩
      have s16' := s812.trans s16
      have hA16 := hA9.same s16'
      obtain ⟨k16, ek16, lk16, hd16⟩ := hk9.same s16'
      have eB16 := s16' _ _ e9
      obtain ⟨dxa, ba, na, la, lsa, ona, poa, ha1, _⟩ := id hA16
      refine ⟨.ref x8, rfl, .ref B, rfl, .ref kd, rfl, kd, _, rfl, ek16, fun H17 S ts kp17' nS nts _ eS hpr y dy ny ndy _ => ?_⟩
      have kp17 : Same H16 H17 := kp17'
      have hd17 := dpa_same kp17 _ _ hd16
      refine remade T ny ndy (kp17 _ _ eB16) h8 eS (items_pairs hpr lk16 hd17) rokk ndk (by omega) prm8 srt8 fun H18 s18 hA18 => ⟨rfl, ?_⟩
      obtain ⟨dyy, by_, ny_, ly_, lsy, ony, poy, hy1, _⟩ := id hA18
      have sa := kp17.trans s18
      refine ⟨x8, y, dxa, dyy, _, _, rfl, rfl, sa _ _ ha1, hy1, ?_⟩
      refine ⟨x8, .ref y, rfl, .inl ⟨y, box, box, ra, ra, rfl, hA16.same sa, hA18, rok8, rok8, _, rfl, _, rfl, ?_⟩⟩
      rw [eqA_refl rok8]
      refine iteF ⟨.ref dd, rfl, by show 0 ≤ sizeLine; decide, fun t0 nt0 => ?_⟩
      have s19 := same_upd (o := .tup []) nt0
      have sb := sa.trans s19
      have hdue19 := dp_same (s16.trans sb) _ _ hdue
      rcases hans with ⟨ax, erf, hax⟩ | ⟨erf, yy, rn, haf, hsn, eff, hAn⟩
      · have edue : dueA ra d lo = ax := by unfold dueA; rw [erf]; rfl
        rw [edue] at hdue19
        obtain ⟨x1, xs1, eax, shx⟩ := refusal_shape erf hn.lay
        have hax19 := dp_same sb _ _ hax
        refine ⟨ax, .tuple [], hdue19, .tup (.inl (.inl upd_same)) .nil, shx, by decide +kernel, _, rfl, ?_⟩
        have nq : PyData.eqv ax (.tuple []) = false := by rw [eax]; simp [PyData.eqv, PyData.eqvAll]
        rw [nq]
        refine iteT ⟨.ref f, rfl, .ref dd, rfl, ax, ax, hax19, hdue19, shx, shx, _, rfl, ?_⟩
        rw [SeqAt.eqv_refl _ (SeqAt.canLay_of_shaped shx)]
        refine iteF ⟨.ref dd, rfl, by show 0 ≤ sizeLine; decide, fun t1 nt1 => ?_⟩
        have s20 := same_upd (o := .tup []) nt1
        refine ⟨ax, .tuple [], dp_same s20 _ _ hdue19, .tup (.inl (.inl upd_same)) .nil, shx, by decide +kernel, _, rfl, ?_⟩
        rw [nq]
        refine iteF ⟨.ref dd, rfl, by show 0 ≤ sizeLine; decide, fun t2 nt2 => ?_⟩
        have s21 := same_upd (o := .tup []) nt2
        have s22 := (sb.trans s20).trans s21
        refine ⟨ax, .tuple [], dp_same (s20.trans s21) _ _ hdue19, .tup (.inl (.inl upd_same)) .nil, shx, by decide +kernel, _, rfl, ?_⟩
        rw [nq]
        exact iteF ⟨x8, ra, rk, _, _, _, _, _, _, rfl, hp9.same (s16'.trans s22), s22 _ _ eB16, hA16.same s22, ⟨k16, s22 _ _ ek16, lk16, dpa_same s22 _ _ hd16⟩, prm8, srt8, rok8, l8⟩
      · have edue : dueA ra d lo = .tuple [] := by unfold dueA; rw [erf]; rfl
        rw [edue] at hdue19
        have sh0 : SeqAt.shaped (.tuple []) = true := by decide +kernel
        have q0 : PyData.eqv (.tuple []) (.tuple []) = true := SeqAt.eqv_refl _ (SeqAt.canLay_of_shaped sh0)
        refine ⟨.tuple [], .tuple [], hdue19, .tup (.inl (.inl upd_same)) .nil, sh0, sh0, _, rfl, ?_⟩
        rw [q0]
        refine iteF ⟨.ref dd, rfl, by show 0 ≤ sizeLine; decide, fun t1 nt1 => ?_⟩
        have s20 := same_upd (o := .tup []) nt1
        refine ⟨.tuple [], .tuple [], dp_same s20 _ _ hdue19, .tup (.inl (.inl upd_same)) .nil, sh0, sh0, _, rfl, ?_⟩
        rw [q0]
        have eff20 := s20 _ _ (sb _ _ eff)
        have hAn20 := hAn.same (sb.trans s20)
        obtain ⟨dxn, bn, nn, ln, lsn, onn, pon, hn1, _⟩ := id hAn20
        refine iteT ⟨.ref f, rfl, f, _, 0, _, rfl, rfl, .inl (.inl eff20), atI_nat (j := 0) rfl, rfl, _, rfl, ?_⟩
        refine iteDN (by rw [decide_eq_true rfl]; rfl) ⟨.ref f, rfl, f, _, 1, _, rfl, rfl, .inl (.inl eff20), atI_nat (j := 1) rfl, _, _, _, _, true, rfl, .own _, .base (.ins hn1 T.cl_Atlas T.ty_Atlas.1 T.ty_Atlas.2.1 T.ty_Atlas.2.2.1 T.ty_Atlas.2.2.2), kit_same, _, rfl, ?_⟩
        refine ⟨.ref dd, rfl, by show 0 ≤ sizeLine; decide, fun t2 nt2 => ?_⟩
        have s21 := same_upd (o := .tup []) nt2
        have s22 := (sb.trans s20).trans s21
        refine ⟨.tuple [], .tuple [], dp_same (s20.trans s21) _ _ hdue19, .tup (.inl (.inl upd_same)) .nil, sh0, sh0, _, rfl, ?_⟩
        rw [q0]
        have hAn22 := hAn.same s22
        have eff22 := s22 _ _ eff
        obtain ⟨rokn, ln5⟩ := after_few rok8 (by omega) (fun z hz => (hnew z hz).imp (fun m => (nms_perm prm8).mem_iff.mpr m) fun l => by rw [prm8.length_eq]; exact l) haf
        have hp22 := hp9.same (s16'.trans s22)
        have eB22 := s22 _ _ eB16
        have ek22 := s22 _ _ ek16
        have hd22 := dpa_same s22 _ _ hd16
        have rn1000 : ∀ r ∈ rn, r.2.length ≤ 1000 := fun r hr => by have := (rokn r hr).len; omega
        have p22 : (withQ ra d).Perm (withQ rk d) := prm8.filter _
        refine iteT ⟨fun σ H' => ∃ rk' y12', σ = [some (.ref a), some (.ref p), some (.ref L), some nv, some (.ref D), some (.ref B), some (.ref x8), some (.ref kd), some (.int (0 + (i : Int))), some lv, some (.ref dd), some (.ref f), y12'] ∧ Pool H' p ∧ H' B = some (.tup (boxV box)) ∧ H' f = some (.tup [.str "told", .ref yy]) ∧ AtlasAt K T.a_Atlas H' yy box rn ∧ KeptD K H' kd rk' ∧ rn.Perm rk', ?_, ?_⟩
        · cases lo with
          | none =>
            cases (show lv = .non from hl)
            have hin : inW d (nms ra) = true := by
              cases e : inW d (nms ra) with
              | true => rfl
              | false =>
                unfold refusal at erf
                dsimp only at erf
                rw [e] at erf
                cases erf
            obtain ⟨r0, hr0, e0⟩ := inW_nms.mp hin
            obtain ⟨m, hm⟩ := List.mem_iff_getElem?.mp (prm8.mem_iff.mp hr0)
            obtain ⟨k, hkv⟩ : ∃ k, k16[m]? = some k := ⟨_, List.getElem?_eq_getElem (by have := (List.getElem?_eq_some_iff.mp hm).1; omega)⟩
            obtain ⟨ks', e1, e2, e3⟩ := drop_kvs r0.1 rk k16 lk16 hd22
            obtain ⟨o1, o2, o3, o4⟩ := over_kd ek22 nkp hp22 eB22 eff22 hAn22 rn1000 (.dK (dropK (kvsOf rk k16) (Sum.inr r0.1 : Key)))
            have env : nv = .str r0.1 := by
              rw [e0] at hd9
              cases hd9
              rfl
            refine ⟨_, rfl, rfl, _, rfl, iteDY (decide_eq_true rfl) ⟨.ref kd, rfl, kd, rfl, .inl ⟨_, Rd.of ek22⟩, nv, rfl, kvsOf rk k16, Sum.inr r0.1, k, ek22, env, kvs_some rk k16 m r0 k ndk hm hkv, withQ rk d, y12, rfl, o1, o2, o3, o4, ⟨ks', ?_, ?_, ?_⟩, ?_⟩⟩
            · rw [e1, e0]
              exact upd_same
            · rw [e0]
              exact e2
            · rw [e0]
              exact dpa_tp (Kp.upd ek22 rfl).tp (fun d hd => by obtain ⟨r, hr, rfl⟩ := List.mem_map.mp hd; exact log_okD (by have := (rokk r (List.mem_filter.mp hr).1).len; omega)) e3
            · exact (show rn.Perm (withQ ra d) from haf).trans p22
          | some es =>
            obtain ⟨tl, txs, rfl, htl, hdl, hge, hll⟩ := hl
            obtain ⟨z, ents, e0, et, ro, prn⟩ := haf
            have env : nv = .str z := by
              rw [e0] at hd9
              cases hd9
              rfl
            have htl22 := sqt_same (wo_same.trans (s16'.trans s22)) htl
            have hdl22 := dpa_same (wo_same.trans (s16'.trans s22)) _ _ hdl
            have ltx := dpa_len _ _ hdl
            refine ⟨_, rfl, rfl, _, rfl, iteDN (decide_eq_false (fun h => nomatch h)) ?_⟩
            generalize upd (upd (upd H18 t0 (.tup [])) t1 (.tup [])) t2 (.tup []) = Hc at hp22 eB22 ek22 hd22 eff22 hAn22 htl22 hdl22 ⊢
            refine ⟨.ref tl, rfl, tl, rfl, ⟨txs, htl22⟩, fun D2 nD2 => lc_it (walk_tup (K := K) (a := tl) (xs := txs)) (fun i' H' => Same Hc H' ∧ ∃ ys, H' D2 = some (.lst ys) ∧ ys.length = i' ∧ DpAll K (wo H' (fun c => c = D2)) ys ((es.take i').map tupD)) ⟨same_upd nD2, [], upd_same, rfl, .nil⟩ (fun i' H' _ h => sqt_same h.1 htl22) ?_ ?_⟩
            · rintro i' v _ H1 hi ⟨sm, ys, eD, ly, hy⟩ ⟨rfl, hv⟩
              obtain ⟨d', fd, gd⟩ := dpa_at _ txs hdl22 i' v hv
              obtain ⟨e', he'⟩ : ∃ e' : Ent, tupD d' = e'.tup := by
                have h1 : (es.map tupD)[i']? = some (tupD d') := by rw [List.getElem?_map, fd]; rfl
                rw [et, List.getElem?_map] at h1
                cases h2 : ents[i']? with
                | none => rw [h2] at h1; cases h1
                | some e' => rw [h2] at h1; exact ⟨e', (Option.some.inj h1).symm⟩
              have fin : ∀ (H3 : Hp) (y : V), Same H1 H3 → Dp K (wo H3 (fun c => c = D2)) y (tupD d') → ∃ acc, H3 D2 = some (.lst acc) ∧ acc.length < sizeLine ∧ Same Hc (upd H3 D2 (.lst (acc ++ [y]))) ∧ ∃ zs, upd H3 D2 (.lst (acc ++ [y])) D2 = some (.lst zs) ∧ zs.length = i' + 1 ∧ DpAll K (wo (upd H3 D2 (.lst (acc ++ [y]))) fun c => c = D2) zs ((es.take (i' + 1)).map tupD) := fun H3 y s3 gy => by
                have m1 : Same (wo H1 (fun c => c = D2)) (wo H3 (fun c => c = D2)) := fun c o h => by
                  have h2 := wo_some h
                  rw [wo_in (X := fun c => c = D2) h2.1]
                  exact s3 _ _ h2.2
                have m2 : Same (wo H3 (fun c => c = D2)) (wo (upd H3 D2 (.lst (ys ++ [y]))) (fun c => c = D2)) := fun c o h => by
                  have h2 := wo_some h
                  rw [wo_in (X := fun c => c = D2) h2.1, upd_ne h2.1]
                  exact h2.2
                refine ⟨ys, s3 _ _ eD, small1000 (by omega), fun c o h => ?_, _, upd_same, by rw [List.length_append, ly]; rfl, ?_⟩
                · rw [upd_ne (ne_of_none h nD2)]
                  exact s3 _ _ (sm _ _ h)
                · rw [List.take_add_one, fd, List.map_append]
                  exact dpa_snoc (dp_same m2 _ _ gy) _ _ (dpa_same (m1.trans m2) _ _ hy)
              cases gd with
              | @tup a0 zs ds0 hq ha =>
                have mH : Same Hc (wo H1 (fun c => c = D2)) := fun c o h => by
                  rw [wo_in (X := fun c => c = D2) (ne_of_none h nD2)]
                  exact sm _ _ h
                exact ⟨rfl, _, rfl, a0, zs, rfl, .inr ⟨sqt_same sm hq, fin H1 _ (Same.refl _) (.tup (sqt_same mH hq) (dpa_same mH _ _ ha))⟩⟩
              | @lst a0 zs ds0 hq ha =>
                refine ⟨rfl, _, rfl, a0, zs, rfl, .inl ⟨sm.seq hq, fun l nl => fin _ _ (same_upd nl) (.tup (.inl (.inl ?_)) (dpa_same (fun c o h => ?_) _ _ ha))⟩⟩
                · rw [wo_in (X := fun c => c = D2) (fun z => by rw [z, eD] at nl; cases nl)]
                  exact upd_same
                · rw [wo_in (X := fun c => c = D2) (ne_of_none h nD2)]
                  exact same_upd nl _ _ (sm _ _ h)
              | non => exact absurd he' (fun h => nomatch h)
              | bl b => exact absurd he' (fun h => nomatch h)
              | int j => exact absurd he' (fun h => nomatch h)
              | str s => exact absurd he' (fun h => nomatch h)
            · rintro H1 ⟨sm, ys, eD, ly, hy⟩
              rw [ltx, List.take_length, et] at hy
              refine ⟨D2, ys, rfl, .inl ⟨.inl (.inl eD), fun q2 nq2 => ?_⟩⟩
              have sq := same_upd (o := .tup ys) nq2
              have s1q := sm.trans sq
              have hlog : Dp K (upd H1 q2 (.tup ys)) (.ref q2) (logD (z, ents)) := .tup (.inl (.inl upd_same)) (dpa_same (wo_same.trans sq) _ _ hy)
              obtain ⟨o1, o2, o3, o4⟩ := over_kd (s1q _ _ ek22) nkp (hp22.same s1q) (s1q _ _ eB22) (s1q _ _ eff22) (hAn22.same s1q) rn1000 (.dK (putK (kvsOf rk k16) (Sum.inr z : Key) (.ref q2)))
              obtain ⟨rsN, ksN, e1, e2, e3, e4⟩ := put_any hlog rk k16 lk16 ndk (dpa_same s1q _ _ hd22)
              refine ⟨.ref kd, rfl, nv, rfl, kd, upd (upd H1 q2 (.tup ys)) kd (.dK (putK (kvsOf rk k16) (Sum.inr z : Key) (.ref q2))), rfl, ?_, rsN, _, rfl, o1, o2, o3, o4, ⟨ksN, ?_, e2, ?_⟩, ?_⟩
              · rw [env]
                exact DPut.k (k := (Sum.inr z : Key)) (s1q _ _ ek22) (small1000 (by have := kvs_len rk k16; omega))
              · rw [e1]
                exact upd_same
              · refine dpa_tp (n := 2) (Kp.upd (s1q _ _ ek22) rfl).tp (fun d hd => ?_) e3
                obtain ⟨r, hr, rfl⟩ := List.mem_map.mp hd
                refine log_okD ?_
                rcases List.mem_append.mp (e4.mem_iff.mp hr) with m | m
                · have := (rokk r (List.mem_filter.mp m).1).len
                  omega
                · have ro' : RowOk r := by rw [List.mem_singleton.mp m]; exact ro
                  have := ro'.len
                  omega
              · rw [e0] at prn p22
                exact prn.trans ((p22.append_right _).trans e4.symm)
        · rintro σ H23 ⟨rk', y12', rfl, hp23, eB23, ef23, hA23, ⟨k23, ek23, lk23, hd23⟩, prn⟩
          have rokk' : ∀ r ∈ rk', RowOk r := fun r hr => rokn r (prn.mem_iff.mpr hr)
          have ndk' : (nms rk').Nodup := (nms_perm prn).nodup_iff.mp hsn.nodup
          refine ⟨.ref f, rfl, f, _, 1, _, rfl, rfl, .inl (.inl ef23), atI_nat (j := 1) rfl, .ref B, rfl, .ref kd, rfl, kd, _, rfl, ek23, fun H24 S ts kp24' nS nts _ eS hpr y dy ny ndy _ => ?_⟩
          have kp24 : Same H23 H24 := kp24'
          have hd24 := dpa_same kp24 _ _ hd23
          refine remade T ny ndy (kp24 _ _ eB23) h8 eS (items_pairs hpr lk23 hd24) rokk' ndk' (by rw [← prn.length_eq]; omega) prn hsn fun H25 s25 hA25 => ⟨rfl, ?_⟩
          obtain ⟨d25, b25, n25, l25, ls25, on25, po25, h25, _⟩ := id hA25
          have sc := kp24.trans s25
          obtain ⟨d23, b23, n23, l23, ls23, on23, po23, h23, _⟩ := id hA23
          refine ⟨yy, y, d23, d25, _, _, rfl, rfl, sc _ _ h23, h25, ?_⟩
          refine ⟨yy, .ref y, rfl, .inl ⟨y, box, box, rn, rn, rfl, hA23.same sc, hA25, rokn, rokn, _, rfl, _, rfl, ?_⟩⟩
          rw [eqA_refl rokn]
          exact iteF ⟨.ref f, rfl, f, _, 1, _, rfl, rfl, .inl (.inl (sc _ _ ef23)), atI_nat (j := 1) rfl, yy, rn, rk', _, _, _, _, _, _, rfl, hp23.same sc, sc _ _ eB23, hA23.same sc, ⟨k23, sc _ _ ek23, lk23, dpa_same sc _ _ hd23⟩, prn, hsn, rokn, ln5⟩
    · rintro σ H8 ⟨x8, ra, rk, y3, y8, y9, y10, y11, y12, rfl, hp8, e8, hA8, hk8, prm8, srt8, rok8, l8⟩
      obtain ⟨dx8, bb, n8, l8', ls8, on8, po8, h81, h82, h83, h84, h85⟩ := hA8
      obtain ⟨ks, ek, lk, hks⟩ := hk8
      refine ⟨.ref x8, rfl, x8, T.a_Atlas, dx8, _, _, rfl, h81, T.cl_Atlas, T.nf_Atlas_names, fl_names bb n8 l8', .ref kd, rfl, kd, _, rfl, Rd.of ek, fun q1 nq1 => ?_⟩
      have t1 := same_upd (o := .lst ((kvsOf rk ks).map fun kv => kV kv.1)) nq1
      refine ⟨q1, nms rk, rfl, .inl (.inl (by rw [← kv_names lk]; exact upd_same)), by unfold nms; rw [List.length_map, ← prm8.length_eq]; omega, fun ys q2 pr srt2 nq2 => ?_⟩
      have t2 := same_upd (o := .lst (ys.map V.str)) nq2
      refine ⟨q2, _, rfl, .inl ⟨.inl (.inl upd_same), fun q3 nq3 => ?_⟩⟩
      have t3 := same_upd (o := .tup (ys.map V.str)) nq3
      obtain ⟨rs9, pr9, e9⟩ := perm_lift (f := fun r : Row => r.1) pr
      have nd9 : (nms rs9).Nodup := ((nms_perm pr9).trans (nms_perm prm8.symm)).nodup_iff.mpr srt8.nodup
      have srt9 : Srt rs9 := srt_of nd9 (by rw [show nms rs9 = ys from e9]; exact sortedS_pw ys srt2)
      have e10 : rs9 = ra := srt_uniq (pr9.trans prm8.symm) srt9 srt8
      subst e10
      have eys : ys.map V.str = namV rs9 := by unfold namV; rw [show nms rs9 = ys from e9]
      refine ⟨.ref n8, .ref q3, .tuple ((nms rs9).map PyData.str), rfl, .tup (.inl (.inr ⟨on8, t3 _ _ (t2 _ _ (t1 _ _ h83))⟩)) (dpa_strs (nms rs9)), .tup (.inl (.inl ?_)) (dpa_strs (nms rs9)), ?_, fun H9 _ => q H9⟩
      · rw [show (nms rs9).map V.str = ys.map V.str from eys.symm]
        exact upd_same
      · refine Bool.and_eq_true_iff.mpr ⟨decide_eq_true (by rw [List.length_map]; unfold nms; rw [List.length_map]; omega), List.all_eq_true.mpr fun d hd => ?_⟩
        obtain ⟨z, _, rfl⟩ := List.mem_map.mp hd
        rfl
--@@SPLIT
end
theorem all_mk {l : PySem.W.OpenLaw} {w : World} {K : PySem.W.Frag} {h : Heap} {mg : Str → Option Value} {fa : Addr} (X : K.In h) (G : h.Ns mainGlobals mg) (hfa : mg "law" = some (.ref fa))
    {f_Atlas : Addr}
    {f_is_whole : Addr} {od_is_whole an_is_whole : Option Addr} {sl_is_whole : Array (Option Value)} {oc_is_whole kV_is_whole dc_is_whole pm_is_whole cd_is_whole ct_is_whole : Value}
    {f_is_row : Addr} {od_is_row an_is_row : Option Addr} {sl_is_row : Array (Option Value)} {oc_is_row kV_is_row dc_is_row pm_is_row cd_is_row ct_is_row : Value}
    {f_laid_out : Addr} {od_laid_out an_laid_out : Option Addr} {sl_laid_out : Array (Option Value)} {oc_laid_out kV_laid_out dc_laid_out pm_laid_out cd_laid_out ct_laid_out : Value}
    {f_kept : Addr} {od_kept an_kept : Option Addr} {sl_kept : Array (Option Value)} {oc_kept kV_kept dc_kept pm_kept cd_kept ct_kept : Value}
    {f_is_letter : Addr} {od_is_letter an_is_letter : Option Addr} {sl_is_letter : Array (Option Value)} {oc_is_letter kV_is_letter dc_is_letter pm_is_letter cd_is_letter ct_is_letter : Value}
    {f_is_short_text : Addr} {od_is_short_text an_is_short_text : Option Addr} {sl_is_short_text : Array (Option Value)} {oc_is_short_text kV_is_short_text dc_is_short_text pm_is_short_text cd_is_short_text ct_is_short_text : Value}
    {f_are_small : Addr} {od_are_small an_are_small : Option Addr} {sl_are_small : Array (Option Value)} {oc_are_small kV_are_small dc_are_small pm_are_small cd_are_small ct_are_small : Value}
    {f_is_name : Addr} {od_is_name an_is_name : Option Addr} {sl_is_name : Array (Option Value)} {oc_is_name kV_is_name dc_is_name pm_is_name cd_is_name ct_is_name : Value}
    {f_is_lone : Addr} {od_is_lone an_is_lone : Option Addr} {sl_is_lone : Array (Option Value)} {oc_is_lone kV_is_lone dc_is_lone pm_is_lone cd_is_lone ct_is_lone : Value}
    {f_is_sign : Addr} {od_is_sign an_is_sign : Option Addr} {sl_is_sign : Array (Option Value)} {oc_is_sign kV_is_sign dc_is_sign pm_is_sign cd_is_sign ct_is_sign : Value}
    {f_is_many : Addr} {od_is_many an_is_many : Option Addr} {sl_is_many : Array (Option Value)} {oc_is_many kV_is_many dc_is_many pm_is_many cd_is_many ct_is_many : Value}
    {f_is_pair_entry : Addr} {od_is_pair_entry an_is_pair_entry : Option Addr} {sl_is_pair_entry : Array (Option Value)} {oc_is_pair_entry kV_is_pair_entry dc_is_pair_entry pm_is_pair_entry cd_is_pair_entry ct_is_pair_entry : Value}
    {f_is_entry : Addr} {od_is_entry an_is_entry : Option Addr} {sl_is_entry : Array (Option Value)} {oc_is_entry kV_is_entry dc_is_entry pm_is_entry cd_is_entry ct_is_entry : Value}
    {f_held_log : Addr} {od_held_log an_held_log : Option Addr} {sl_held_log : Array (Option Value)} {oc_held_log kV_held_log dc_held_log pm_held_log cd_held_log ct_held_log : Value}
    {f_held_box : Addr} {od_held_box an_held_box : Option Addr} {sl_held_box : Array (Option Value)} {oc_held_box kV_held_box dc_held_box pm_held_box cd_held_box ct_held_box : Value}
    {f_held_log_of : Addr} {od_held_log_of an_held_log_of : Option Addr} {sl_held_log_of : Array (Option Value)} {oc_held_log_of kV_held_log_of dc_held_log_of pm_held_log_of cd_held_log_of ct_held_log_of : Value}
    {f_Lany_entry : Addr} {od_Lany_entry an_Lany_entry : Option Addr} {sl_Lany_entry : Array (Option Value)} {oc_Lany_entry kV_Lany_entry dc_Lany_entry pm_Lany_entry cd_Lany_entry ct_Lany_entry : Value}
    {f_Lany_log : Addr} {od_Lany_log an_Lany_log : Option Addr} {sl_Lany_log : Array (Option Value)} {oc_Lany_log kV_Lany_log dc_Lany_log pm_Lany_log cd_Lany_log ct_Lany_log : Value}
    {f_Lis_name : Addr} {od_Lis_name an_Lis_name : Option Addr} {sl_Lis_name : Array (Option Value)} {oc_Lis_name kV_Lis_name dc_Lis_name pm_Lis_name cd_Lis_name ct_Lis_name : Value}
    {f_Lis_sign : Addr} {od_Lis_sign an_Lis_sign : Option Addr} {sl_Lis_sign : Array (Option Value)} {oc_Lis_sign kV_Lis_sign dc_Lis_sign pm_Lis_sign cd_Lis_sign ct_Lis_sign : Value}
    {f_Lis_many : Addr} {od_Lis_many an_Lis_many : Option Addr} {sl_Lis_many : Array (Option Value)} {oc_Lis_many kV_Lis_many dc_Lis_many pm_Lis_many cd_Lis_many ct_Lis_many : Value}
    {f_Lis_entry : Addr} {od_Lis_entry an_Lis_entry : Option Addr} {sl_Lis_entry : Array (Option Value)} {oc_Lis_entry kV_Lis_entry dc_Lis_entry pm_Lis_entry cd_Lis_entry ct_Lis_entry : Value}
    {f_Lbad_at : Addr} {od_Lbad_at an_Lbad_at : Option Addr} {sl_Lbad_at : Array (Option Value)} {oc_Lbad_at kV_Lbad_at dc_Lbad_at pm_Lbad_at cd_Lbad_at ct_Lbad_at : Value}
    {f_Lspoilt_text : Addr} {od_Lspoilt_text an_Lspoilt_text : Option Addr} {sl_Lspoilt_text : Array (Option Value)} {oc_Lspoilt_text kV_Lspoilt_text dc_Lspoilt_text pm_Lspoilt_text cd_Lspoilt_text ct_Lspoilt_text : Value}
    {f_Lspoilt_entry : Addr} {od_Lspoilt_entry an_Lspoilt_entry : Option Addr} {sl_Lspoilt_entry : Array (Option Value)} {oc_Lspoilt_entry kV_Lspoilt_entry dc_Lspoilt_entry pm_Lspoilt_entry cd_Lspoilt_entry ct_Lspoilt_entry : Value}
    {f_Lown : Addr} {od_Lown an_Lown : Option Addr} {sl_Lown : Array (Option Value)} {oc_Lown kV_Lown dc_Lown pm_Lown cd_Lown ct_Lown : Value}
    {f_Lsmall_log : Addr} {od_Lsmall_log an_Lsmall_log : Option Addr} {sl_Lsmall_log : Array (Option Value)} {oc_Lsmall_log kV_Lsmall_log dc_Lsmall_log pm_Lsmall_log cd_Lsmall_log ct_Lsmall_log : Value}
    {f_Lsmall_box : Addr} {od_Lsmall_box an_Lsmall_box : Option Addr} {sl_Lsmall_box : Array (Option Value)} {oc_Lsmall_box kV_Lsmall_box dc_Lsmall_box pm_Lsmall_box cd_Lsmall_box ct_Lsmall_box : Value}
    {f_Lpool : Addr} {od_Lpool an_Lpool : Option Addr} {sl_Lpool : Array (Option Value)} {oc_Lpool kV_Lpool dc_Lpool pm_Lpool cd_Lpool ct_Lpool : Value}
    {f_Ltake : Addr} {od_Ltake an_Ltake : Option Addr} {sl_Ltake : Array (Option Value)} {oc_Ltake kV_Ltake dc_Ltake pm_Ltake cd_Ltake ct_Ltake : Value}
    {f_Lwhole : Addr} {od_Lwhole an_Lwhole : Option Addr} {sl_Lwhole : Array (Option Value)} {oc_Lwhole kV_Lwhole dc_Lwhole pm_Lwhole cd_Lwhole ct_Lwhole : Value}
    {f_Lsame : Addr} {od_Lsame an_Lsame : Option Addr} {sl_Lsame : Array (Option Value)} {oc_Lsame kV_Lsame dc_Lsame pm_Lsame cd_Lsame ct_Lsame : Value}
    {f_Lanything : Addr} {od_Lanything an_Lanything : Option Addr} {sl_Lanything : Array (Option Value)} {oc_Lanything kV_Lanything dc_Lanything pm_Lanything cd_Lanything ct_Lanything : Value}
    {f_Lname : Addr} {od_Lname an_Lname : Option Addr} {sl_Lname : Array (Option Value)} {oc_Lname kV_Lname dc_Lname pm_Lname cd_Lname ct_Lname : Value}
    {f_Lnames : Addr} {od_Lnames an_Lnames : Option Addr} {sl_Lnames : Array (Option Value)} {oc_Lnames kV_Lnames dc_Lnames pm_Lnames cd_Lnames ct_Lnames : Value}
    {f_Lsign : Addr} {od_Lsign an_Lsign : Option Addr} {sl_Lsign : Array (Option Value)} {oc_Lsign kV_Lsign dc_Lsign pm_Lsign cd_Lsign ct_Lsign : Value}
    {f_Lasked : Addr} {od_Lasked an_Lasked : Option Addr} {sl_Lasked : Array (Option Value)} {oc_Lasked kV_Lasked dc_Lasked pm_Lasked cd_Lasked ct_Lasked : Value}
    {f_Lstep : Addr} {od_Lstep an_Lstep : Option Addr} {sl_Lstep : Array (Option Value)} {oc_Lstep kV_Lstep dc_Lstep pm_Lstep cd_Lstep ct_Lstep : Value}
    {f_Las_lists : Addr} {od_Las_lists an_Las_lists : Option Addr} {sl_Las_lists : Array (Option Value)} {oc_Las_lists kV_Las_lists dc_Las_lists pm_Las_lists cd_Las_lists ct_Las_lists : Value}
    {f_Llog_right : Addr} {od_Llog_right an_Llog_right : Option Addr} {sl_Llog_right : Array (Option Value)} {oc_Llog_right kV_Llog_right dc_Llog_right pm_Llog_right cd_Llog_right ct_Llog_right : Value}
    {f_law : Addr} {od_law an_law : Option Addr} {sl_law : Array (Option Value)} {oc_law kV_law dc_law pm_law cd_law ct_law : Value}
    {f_Atlas_init : Addr} {od_Atlas_init an_Atlas_init : Option Addr} {sl_Atlas_init : Array (Option Value)} {oc_Atlas_init kV_Atlas_init dc_Atlas_init pm_Atlas_init cd_Atlas_init ct_Atlas_init : Value}
    {q_Atlas_init e_Atlas_init : Addr} {dd_Atlas_init de_Atlas_init : Option Addr} {sq_Atlas_init se_Atlas_init : Array (Option Value)} {nq_Atlas_init ne_Atlas_init : Nat}
    {f_Atlas_log : Addr} {od_Atlas_log an_Atlas_log : Option Addr} {sl_Atlas_log : Array (Option Value)} {oc_Atlas_log kV_Atlas_log dc_Atlas_log pm_Atlas_log cd_Atlas_log ct_Atlas_log : Value}
    {f_Atlas_with_log : Addr} {od_Atlas_with_log an_Atlas_with_log : Option Addr} {sl_Atlas_with_log : Array (Option Value)} {oc_Atlas_with_log kV_Atlas_with_log dc_Atlas_with_log pm_Atlas_with_log cd_Atlas_with_log ct_Atlas_with_log : Value}
    {f_Atlas_without : Addr} {od_Atlas_without an_Atlas_without : Option Addr} {sl_Atlas_without : Array (Option Value)} {oc_Atlas_without kV_Atlas_without dc_Atlas_without pm_Atlas_without cd_Atlas_without ct_Atlas_without : Value}
    {f_Atlas_eq : Addr} {od_Atlas_eq an_Atlas_eq : Option Addr} {sl_Atlas_eq : Array (Option Value)} {oc_Atlas_eq kV_Atlas_eq dc_Atlas_eq pm_Atlas_eq cd_Atlas_eq ct_Atlas_eq : Value}
    {f_STEPS : Addr}
    {es_STEPS : Array DictEntry} {n_STEPS : Nat}
    
    
    
    {q_STEPS_0 : Addr}
    {dd_STEPS_0 : Option Addr} {sl_STEPS_0 : Array (Option Value)} {nn_STEPS_0 : Nat} {tk_STEPS_0_0 : Tok} {tk_STEPS_0_1 : Tok}
    {q_STEPS_1 : Addr}
    {dd_STEPS_1 : Option Addr} {sl_STEPS_1 : Array (Option Value)} {nn_STEPS_1 : Nat} {tk_STEPS_1_0 : Tok} {tk_STEPS_1_1 : Tok}
    {q_STEPS_2 : Addr}
    {dd_STEPS_2 : Option Addr} {sl_STEPS_2 : Array (Option Value)} {nn_STEPS_2 : Nat} {tk_STEPS_2_0 : Tok} {tk_STEPS_2_1 : Tok}
    {q_STEPS_3 : Addr}
    {dd_STEPS_3 : Option Addr} {sl_STEPS_3 : Array (Option Value)} {nn_STEPS_3 : Nat} {tk_STEPS_3_0 : Tok} {tk_STEPS_3_1 : Tok}
    {t_SMALL : Tok}
    {t_GREAT : Tok}
    {t_LONGEST : Tok}
    {f_WORDS_ALONE : Addr}
    {dd_WORDS_ALONE : Option Addr} {sl_WORDS_ALONE : Array (Option Value)} {nn_WORDS_ALONE : Nat} {tk_WORDS_ALONE_0 : Tok} {tk_WORDS_ALONE_1 : Tok} {tk_WORDS_ALONE_2 : Tok} {tk_WORDS_ALONE_3 : Tok} {tk_WORDS_ALONE_4 : Tok} {tk_WORDS_ALONE_5 : Tok}
    {f_WORDS_BEHIND_A_FACE : Addr}
    {dd_WORDS_BEHIND_A_FACE : Option Addr} {sl_WORDS_BEHIND_A_FACE : Array (Option Value)} {nn_WORDS_BEHIND_A_FACE : Nat} {tk_WORDS_BEHIND_A_FACE_0 : Tok} {tk_WORDS_BEHIND_A_FACE_1 : Tok} {tk_WORDS_BEHIND_A_FACE_2 : Tok} {tk_WORDS_BEHIND_A_FACE_3 : Tok} {tk_WORDS_BEHIND_A_FACE_4 : Tok} {tk_WORDS_BEHIND_A_FACE_5 : Tok}
    {t_HOW_MANY_LOTS : Tok}
    {f_NoLot : Addr}
    {f_BadLog : Addr}
    {f_NoDealing : Addr}
    {f_BadBox : Addr}
    {f_NoName : Addr}
    {f_Twice : Addr}
    {f_NoWalker : Addr}
    {f_NeedleError : Addr}
    {nm_D qn_D : Str} {ns_D : Addr} {bs_D bm_D : List Value} {sn_D : List Str} {sub_D : List Value} {ab_D : Bool} {col_D : Option Bool} {dd_D : Option Addr} {m0_D m1_D m2_D m3_D m5_D : Option Value}
    {f_init : Addr} {od_init an_init : Option Addr} {sl_init : Array (Option Value)} {oc_init kV_init dc_init pm_init cd_init ct_init : Value}
    {nm_D_BadBox qn_D_BadBox : Str} {ns_D_BadBox : Addr} {bs_D_BadBox bm_D_BadBox : List Value} {sn_D_BadBox : List Str} {sub_D_BadBox : List Value} {ab_D_BadBox : Bool} {col_D_BadBox : Option Bool} {dd_D_BadBox : Option Addr} {m0_D_BadBox m1_D_BadBox m2_D_BadBox m3_D_BadBox m5_D_BadBox : Option Value}
    {f_init_BadBox : Addr} {od_init_BadBox an_init_BadBox : Option Addr} {sl_init_BadBox : Array (Option Value)} {oc_init_BadBox kV_init_BadBox dc_init_BadBox pm_init_BadBox cd_init_BadBox ct_init_BadBox : Value}
    {nm_D_NoName qn_D_NoName : Str} {ns_D_NoName : Addr} {bs_D_NoName bm_D_NoName : List Value} {sn_D_NoName : List Str} {sub_D_NoName : List Value} {ab_D_NoName : Bool} {col_D_NoName : Option Bool} {dd_D_NoName : Option Addr} {m0_D_NoName m1_D_NoName m2_D_NoName m3_D_NoName m5_D_NoName : Option Value}
    {f_init_NoName : Addr} {od_init_NoName an_init_NoName : Option Addr} {sl_init_NoName : Array (Option Value)} {oc_init_NoName kV_init_NoName dc_init_NoName pm_init_NoName cd_init_NoName ct_init_NoName : Value}
    {nm_D_Twice qn_D_Twice : Str} {ns_D_Twice : Addr} {bs_D_Twice bm_D_Twice : List Value} {sn_D_Twice : List Str} {sub_D_Twice : List Value} {ab_D_Twice : Bool} {col_D_Twice : Option Bool} {dd_D_Twice : Option Addr} {m0_D_Twice m1_D_Twice m2_D_Twice m3_D_Twice m5_D_Twice : Option Value}
    {f_init_Twice : Addr} {od_init_Twice an_init_Twice : Option Addr} {sl_init_Twice : Array (Option Value)} {oc_init_Twice kV_init_Twice dc_init_Twice pm_init_Twice cd_init_Twice ct_init_Twice : Value}
    {nm_D_NoWalker qn_D_NoWalker : Str} {ns_D_NoWalker : Addr} {bs_D_NoWalker bm_D_NoWalker : List Value} {sn_D_NoWalker : List Str} {sub_D_NoWalker : List Value} {ab_D_NoWalker : Bool} {col_D_NoWalker : Option Bool} {dd_D_NoWalker : Option Addr} {m0_D_NoWalker m1_D_NoWalker m2_D_NoWalker m3_D_NoWalker m5_D_NoWalker : Option Value}
    {f_init_NoWalker : Addr} {od_init_NoWalker an_init_NoWalker : Option Addr} {sl_init_NoWalker : Array (Option Value)} {oc_init_NoWalker kV_init_NoWalker dc_init_NoWalker pm_init_NoWalker cd_init_NoWalker ct_init_NoWalker : Value}
    
    
    
    
    
    
    
    
    (A_Atlas : PySem.W.nsIn K mainGlobals "Atlas" = some (some (.ref f_Atlas))) (pg_Atlas : PySem.W.plainGet K f_Atlas Str.empty = true) (hd_Atlas : PySem.W.hasDictIn K f_Atlas = true) (po_Atlas : PySem.W.plainOver K f_Atlas = true) (sa_Atlas : PySem.W.findIn K (.ref f_Atlas) "__setattr__" = some (some (.builtin "object.__setattr__"))) (mk_Atlas : PySem.W.makesIn K f_Atlas = true) (kc_Atlas : PySem.W.keepIn K (.ref f_Atlas) = true)
    (nf_Atlas_box : PySem.W.findIn K (.ref f_Atlas) "box" = some none)
    (nf_Atlas_names : PySem.W.findIn K (.ref f_Atlas) "names" = some none)
    (nf_Atlas_logs : PySem.W.findIn K (.ref f_Atlas) "logs" = some none)
    (A_is_whole : PySem.W.nsIn K mainGlobals "is_whole" = some (some (.ref f_is_whole))) (L_is_whole : K.lookup f_is_whole = some ⟨oc_is_whole, od_is_whole, .func (PySem.W.fnOf "is_whole" "is_whole" (defArgs s_is_whole) (defBody s_is_whole) (defScope s_is_whole) .none kV_is_whole dc_is_whole pm_is_whole an_is_whole cd_is_whole ct_is_whole), sl_is_whole⟩) (C_is_whole : PySem.W.codeIn K cd_is_whole "is_whole" = true) (K_is_whole : PySem.W.keepIn K (.ref f_is_whole) = true)
    (A_is_row : PySem.W.nsIn K mainGlobals "is_row" = some (some (.ref f_is_row))) (L_is_row : K.lookup f_is_row = some ⟨oc_is_row, od_is_row, .func (PySem.W.fnOf "is_row" "is_row" (defArgs s_is_row) (defBody s_is_row) (defScope s_is_row) .none kV_is_row dc_is_row pm_is_row an_is_row cd_is_row ct_is_row), sl_is_row⟩) (C_is_row : PySem.W.codeIn K cd_is_row "is_row" = true) (K_is_row : PySem.W.keepIn K (.ref f_is_row) = true)
    (A_laid_out : PySem.W.nsIn K mainGlobals "laid_out" = some (some (.ref f_laid_out))) (L_laid_out : K.lookup f_laid_out = some ⟨oc_laid_out, od_laid_out, .func (PySem.W.fnOf "laid_out" "laid_out" (defArgs s_laid_out) (defBody s_laid_out) (defScope s_laid_out) .none kV_laid_out dc_laid_out pm_laid_out an_laid_out cd_laid_out ct_laid_out), sl_laid_out⟩) (C_laid_out : PySem.W.codeIn K cd_laid_out "laid_out" = true) (K_laid_out : PySem.W.keepIn K (.ref f_laid_out) = true)
    (A_kept : PySem.W.nsIn K mainGlobals "kept" = some (some (.ref f_kept))) (L_kept : K.lookup f_kept = some ⟨oc_kept, od_kept, .func (PySem.W.fnOf "kept" "kept" (defArgs s_kept) (defBody s_kept) (defScope s_kept) .none kV_kept dc_kept pm_kept an_kept cd_kept ct_kept), sl_kept⟩) (C_kept : PySem.W.codeIn K cd_kept "kept" = true) (K_kept : PySem.W.keepIn K (.ref f_kept) = true)
    (A_is_letter : PySem.W.nsIn K mainGlobals "is_letter" = some (some (.ref f_is_letter))) (L_is_letter : K.lookup f_is_letter = some ⟨oc_is_letter, od_is_letter, .func (PySem.W.fnOf "is_letter" "is_letter" (defArgs s_is_letter) (defBody s_is_letter) (defScope s_is_letter) .none kV_is_letter dc_is_letter pm_is_letter an_is_letter cd_is_letter ct_is_letter), sl_is_letter⟩) (C_is_letter : PySem.W.codeIn K cd_is_letter "is_letter" = true) (K_is_letter : PySem.W.keepIn K (.ref f_is_letter) = true)
    (A_is_short_text : PySem.W.nsIn K mainGlobals "is_short_text" = some (some (.ref f_is_short_text))) (L_is_short_text : K.lookup f_is_short_text = some ⟨oc_is_short_text, od_is_short_text, .func (PySem.W.fnOf "is_short_text" "is_short_text" (defArgs s_is_short_text) (defBody s_is_short_text) (defScope s_is_short_text) .none kV_is_short_text dc_is_short_text pm_is_short_text an_is_short_text cd_is_short_text ct_is_short_text), sl_is_short_text⟩) (C_is_short_text : PySem.W.codeIn K cd_is_short_text "is_short_text" = true) (K_is_short_text : PySem.W.keepIn K (.ref f_is_short_text) = true)
    (A_are_small : PySem.W.nsIn K mainGlobals "are_small" = some (some (.ref f_are_small))) (L_are_small : K.lookup f_are_small = some ⟨oc_are_small, od_are_small, .func (PySem.W.fnOf "are_small" "are_small" (defArgs s_are_small) (defBody s_are_small) (defScope s_are_small) .none kV_are_small dc_are_small pm_are_small an_are_small cd_are_small ct_are_small), sl_are_small⟩) (C_are_small : PySem.W.codeIn K cd_are_small "are_small" = true) (K_are_small : PySem.W.keepIn K (.ref f_are_small) = true)
    (A_is_name : PySem.W.nsIn K mainGlobals "is_name" = some (some (.ref f_is_name))) (L_is_name : K.lookup f_is_name = some ⟨oc_is_name, od_is_name, .func (PySem.W.fnOf "is_name" "is_name" (defArgs s_is_name) (defBody s_is_name) (defScope s_is_name) .none kV_is_name dc_is_name pm_is_name an_is_name cd_is_name ct_is_name), sl_is_name⟩) (C_is_name : PySem.W.codeIn K cd_is_name "is_name" = true) (K_is_name : PySem.W.keepIn K (.ref f_is_name) = true)
    (A_is_lone : PySem.W.nsIn K mainGlobals "is_lone" = some (some (.ref f_is_lone))) (L_is_lone : K.lookup f_is_lone = some ⟨oc_is_lone, od_is_lone, .func (PySem.W.fnOf "is_lone" "is_lone" (defArgs s_is_lone) (defBody s_is_lone) (defScope s_is_lone) .none kV_is_lone dc_is_lone pm_is_lone an_is_lone cd_is_lone ct_is_lone), sl_is_lone⟩) (C_is_lone : PySem.W.codeIn K cd_is_lone "is_lone" = true) (K_is_lone : PySem.W.keepIn K (.ref f_is_lone) = true)
    (A_is_sign : PySem.W.nsIn K mainGlobals "is_sign" = some (some (.ref f_is_sign))) (L_is_sign : K.lookup f_is_sign = some ⟨oc_is_sign, od_is_sign, .func (PySem.W.fnOf "is_sign" "is_sign" (defArgs s_is_sign) (defBody s_is_sign) (defScope s_is_sign) .none kV_is_sign dc_is_sign pm_is_sign an_is_sign cd_is_sign ct_is_sign), sl_is_sign⟩) (C_is_sign : PySem.W.codeIn K cd_is_sign "is_sign" = true) (K_is_sign : PySem.W.keepIn K (.ref f_is_sign) = true)
    (A_is_many : PySem.W.nsIn K mainGlobals "is_many" = some (some (.ref f_is_many))) (L_is_many : K.lookup f_is_many = some ⟨oc_is_many, od_is_many, .func (PySem.W.fnOf "is_many" "is_many" (defArgs s_is_many) (defBody s_is_many) (defScope s_is_many) .none kV_is_many dc_is_many pm_is_many an_is_many cd_is_many ct_is_many), sl_is_many⟩) (C_is_many : PySem.W.codeIn K cd_is_many "is_many" = true) (K_is_many : PySem.W.keepIn K (.ref f_is_many) = true)
    (A_is_pair_entry : PySem.W.nsIn K mainGlobals "is_pair_entry" = some (some (.ref f_is_pair_entry))) (L_is_pair_entry : K.lookup f_is_pair_entry = some ⟨oc_is_pair_entry, od_is_pair_entry, .func (PySem.W.fnOf "is_pair_entry" "is_pair_entry" (defArgs s_is_pair_entry) (defBody s_is_pair_entry) (defScope s_is_pair_entry) .none kV_is_pair_entry dc_is_pair_entry pm_is_pair_entry an_is_pair_entry cd_is_pair_entry ct_is_pair_entry), sl_is_pair_entry⟩) (C_is_pair_entry : PySem.W.codeIn K cd_is_pair_entry "is_pair_entry" = true) (K_is_pair_entry : PySem.W.keepIn K (.ref f_is_pair_entry) = true)
    (A_is_entry : PySem.W.nsIn K mainGlobals "is_entry" = some (some (.ref f_is_entry))) (L_is_entry : K.lookup f_is_entry = some ⟨oc_is_entry, od_is_entry, .func (PySem.W.fnOf "is_entry" "is_entry" (defArgs s_is_entry) (defBody s_is_entry) (defScope s_is_entry) .none kV_is_entry dc_is_entry pm_is_entry an_is_entry cd_is_entry ct_is_entry), sl_is_entry⟩) (C_is_entry : PySem.W.codeIn K cd_is_entry "is_entry" = true) (K_is_entry : PySem.W.keepIn K (.ref f_is_entry) = true)
    (A_held_log : PySem.W.nsIn K mainGlobals "held_log" = some (some (.ref f_held_log))) (L_held_log : K.lookup f_held_log = some ⟨oc_held_log, od_held_log, .func (PySem.W.fnOf "held_log" "held_log" (defArgs s_held_log) (defBody s_held_log) (defScope s_held_log) .none kV_held_log dc_held_log pm_held_log an_held_log cd_held_log ct_held_log), sl_held_log⟩) (C_held_log : PySem.W.codeIn K cd_held_log "held_log" = true) (K_held_log : PySem.W.keepIn K (.ref f_held_log) = true)
    (A_held_box : PySem.W.nsIn K mainGlobals "held_box" = some (some (.ref f_held_box))) (L_held_box : K.lookup f_held_box = some ⟨oc_held_box, od_held_box, .func (PySem.W.fnOf "held_box" "held_box" (defArgs s_held_box) (defBody s_held_box) (defScope s_held_box) .none kV_held_box dc_held_box pm_held_box an_held_box cd_held_box ct_held_box), sl_held_box⟩) (C_held_box : PySem.W.codeIn K cd_held_box "held_box" = true) (K_held_box : PySem.W.keepIn K (.ref f_held_box) = true)
    (A_held_log_of : PySem.W.nsIn K mainGlobals "held_log_of" = some (some (.ref f_held_log_of))) (L_held_log_of : K.lookup f_held_log_of = some ⟨oc_held_log_of, od_held_log_of, .func (PySem.W.fnOf "held_log_of" "held_log_of" (defArgs s_held_log_of) (defBody s_held_log_of) (defScope s_held_log_of) .none kV_held_log_of dc_held_log_of pm_held_log_of an_held_log_of cd_held_log_of ct_held_log_of), sl_held_log_of⟩) (C_held_log_of : PySem.W.codeIn K cd_held_log_of "held_log_of" = true) (K_held_log_of : PySem.W.keepIn K (.ref f_held_log_of) = true)
    (A_Lany_entry : PySem.W.nsIn K mainGlobals "_law_any_entry" = some (some (.ref f_Lany_entry))) (L_Lany_entry : K.lookup f_Lany_entry = some ⟨oc_Lany_entry, od_Lany_entry, .func (PySem.W.fnOf "_law_any_entry" "_law_any_entry" (defArgs s_Lany_entry) (defBody s_Lany_entry) (defScope s_Lany_entry) .none kV_Lany_entry dc_Lany_entry pm_Lany_entry an_Lany_entry cd_Lany_entry ct_Lany_entry), sl_Lany_entry⟩) (C_Lany_entry : PySem.W.codeIn K cd_Lany_entry "_law_any_entry" = true) (K_Lany_entry : PySem.W.keepIn K (.ref f_Lany_entry) = true)
    (A_Lany_log : PySem.W.nsIn K mainGlobals "_law_any_log" = some (some (.ref f_Lany_log))) (L_Lany_log : K.lookup f_Lany_log = some ⟨oc_Lany_log, od_Lany_log, .func (PySem.W.fnOf "_law_any_log" "_law_any_log" (defArgs s_Lany_log) (defBody s_Lany_log) (defScope s_Lany_log) .none kV_Lany_log dc_Lany_log pm_Lany_log an_Lany_log cd_Lany_log ct_Lany_log), sl_Lany_log⟩) (C_Lany_log : PySem.W.codeIn K cd_Lany_log "_law_any_log" = true) (K_Lany_log : PySem.W.keepIn K (.ref f_Lany_log) = true)
    (A_Lis_name : PySem.W.nsIn K mainGlobals "_law_is_name" = some (some (.ref f_Lis_name))) (L_Lis_name : K.lookup f_Lis_name = some ⟨oc_Lis_name, od_Lis_name, .func (PySem.W.fnOf "_law_is_name" "_law_is_name" (defArgs s_Lis_name) (defBody s_Lis_name) (defScope s_Lis_name) .none kV_Lis_name dc_Lis_name pm_Lis_name an_Lis_name cd_Lis_name ct_Lis_name), sl_Lis_name⟩) (C_Lis_name : PySem.W.codeIn K cd_Lis_name "_law_is_name" = true) (K_Lis_name : PySem.W.keepIn K (.ref f_Lis_name) = true)
    (A_Lis_sign : PySem.W.nsIn K mainGlobals "_law_is_sign" = some (some (.ref f_Lis_sign))) (L_Lis_sign : K.lookup f_Lis_sign = some ⟨oc_Lis_sign, od_Lis_sign, .func (PySem.W.fnOf "_law_is_sign" "_law_is_sign" (defArgs s_Lis_sign) (defBody s_Lis_sign) (defScope s_Lis_sign) .none kV_Lis_sign dc_Lis_sign pm_Lis_sign an_Lis_sign cd_Lis_sign ct_Lis_sign), sl_Lis_sign⟩) (C_Lis_sign : PySem.W.codeIn K cd_Lis_sign "_law_is_sign" = true) (K_Lis_sign : PySem.W.keepIn K (.ref f_Lis_sign) = true)
    (A_Lis_many : PySem.W.nsIn K mainGlobals "_law_is_many" = some (some (.ref f_Lis_many))) (L_Lis_many : K.lookup f_Lis_many = some ⟨oc_Lis_many, od_Lis_many, .func (PySem.W.fnOf "_law_is_many" "_law_is_many" (defArgs s_Lis_many) (defBody s_Lis_many) (defScope s_Lis_many) .none kV_Lis_many dc_Lis_many pm_Lis_many an_Lis_many cd_Lis_many ct_Lis_many), sl_Lis_many⟩) (C_Lis_many : PySem.W.codeIn K cd_Lis_many "_law_is_many" = true) (K_Lis_many : PySem.W.keepIn K (.ref f_Lis_many) = true)
    (A_Lis_entry : PySem.W.nsIn K mainGlobals "_law_is_entry" = some (some (.ref f_Lis_entry))) (L_Lis_entry : K.lookup f_Lis_entry = some ⟨oc_Lis_entry, od_Lis_entry, .func (PySem.W.fnOf "_law_is_entry" "_law_is_entry" (defArgs s_Lis_entry) (defBody s_Lis_entry) (defScope s_Lis_entry) .none kV_Lis_entry dc_Lis_entry pm_Lis_entry an_Lis_entry cd_Lis_entry ct_Lis_entry), sl_Lis_entry⟩) (C_Lis_entry : PySem.W.codeIn K cd_Lis_entry "_law_is_entry" = true) (K_Lis_entry : PySem.W.keepIn K (.ref f_Lis_entry) = true)
    (A_Lbad_at : PySem.W.nsIn K mainGlobals "_law_bad_at" = some (some (.ref f_Lbad_at))) (L_Lbad_at : K.lookup f_Lbad_at = some ⟨oc_Lbad_at, od_Lbad_at, .func (PySem.W.fnOf "_law_bad_at" "_law_bad_at" (defArgs s_Lbad_at) (defBody s_Lbad_at) (defScope s_Lbad_at) .none kV_Lbad_at dc_Lbad_at pm_Lbad_at an_Lbad_at cd_Lbad_at ct_Lbad_at), sl_Lbad_at⟩) (C_Lbad_at : PySem.W.codeIn K cd_Lbad_at "_law_bad_at" = true) (K_Lbad_at : PySem.W.keepIn K (.ref f_Lbad_at) = true)
    (A_Lspoilt_text : PySem.W.nsIn K mainGlobals "_law_spoilt_text" = some (some (.ref f_Lspoilt_text))) (L_Lspoilt_text : K.lookup f_Lspoilt_text = some ⟨oc_Lspoilt_text, od_Lspoilt_text, .func (PySem.W.fnOf "_law_spoilt_text" "_law_spoilt_text" (defArgs s_Lspoilt_text) (defBody s_Lspoilt_text) (defScope s_Lspoilt_text) .none kV_Lspoilt_text dc_Lspoilt_text pm_Lspoilt_text an_Lspoilt_text cd_Lspoilt_text ct_Lspoilt_text), sl_Lspoilt_text⟩) (C_Lspoilt_text : PySem.W.codeIn K cd_Lspoilt_text "_law_spoilt_text" = true) (K_Lspoilt_text : PySem.W.keepIn K (.ref f_Lspoilt_text) = true)
    (A_Lspoilt_entry : PySem.W.nsIn K mainGlobals "_law_spoilt_entry" = some (some (.ref f_Lspoilt_entry))) (L_Lspoilt_entry : K.lookup f_Lspoilt_entry = some ⟨oc_Lspoilt_entry, od_Lspoilt_entry, .func (PySem.W.fnOf "_law_spoilt_entry" "_law_spoilt_entry" (defArgs s_Lspoilt_entry) (defBody s_Lspoilt_entry) (defScope s_Lspoilt_entry) .none kV_Lspoilt_entry dc_Lspoilt_entry pm_Lspoilt_entry an_Lspoilt_entry cd_Lspoilt_entry ct_Lspoilt_entry), sl_Lspoilt_entry⟩) (C_Lspoilt_entry : PySem.W.codeIn K cd_Lspoilt_entry "_law_spoilt_entry" = true) (K_Lspoilt_entry : PySem.W.keepIn K (.ref f_Lspoilt_entry) = true)
    (A_Lown : PySem.W.nsIn K mainGlobals "_law_own" = some (some (.ref f_Lown))) (L_Lown : K.lookup f_Lown = some ⟨oc_Lown, od_Lown, .func (PySem.W.fnOf "_law_own" "_law_own" (defArgs s_Lown) (defBody s_Lown) (defScope s_Lown) .none kV_Lown dc_Lown pm_Lown an_Lown cd_Lown ct_Lown), sl_Lown⟩) (C_Lown : PySem.W.codeIn K cd_Lown "_law_own" = true) (K_Lown : PySem.W.keepIn K (.ref f_Lown) = true)
    (A_Lsmall_log : PySem.W.nsIn K mainGlobals "_law_small_log" = some (some (.ref f_Lsmall_log))) (L_Lsmall_log : K.lookup f_Lsmall_log = some ⟨oc_Lsmall_log, od_Lsmall_log, .func (PySem.W.fnOf "_law_small_log" "_law_small_log" (defArgs s_Lsmall_log) (defBody s_Lsmall_log) (defScope s_Lsmall_log) .none kV_Lsmall_log dc_Lsmall_log pm_Lsmall_log an_Lsmall_log cd_Lsmall_log ct_Lsmall_log), sl_Lsmall_log⟩) (C_Lsmall_log : PySem.W.codeIn K cd_Lsmall_log "_law_small_log" = true) (K_Lsmall_log : PySem.W.keepIn K (.ref f_Lsmall_log) = true)
    (A_Lsmall_box : PySem.W.nsIn K mainGlobals "_law_small_box" = some (some (.ref f_Lsmall_box))) (L_Lsmall_box : K.lookup f_Lsmall_box = some ⟨oc_Lsmall_box, od_Lsmall_box, .func (PySem.W.fnOf "_law_small_box" "_law_small_box" (defArgs s_Lsmall_box) (defBody s_Lsmall_box) (defScope s_Lsmall_box) .none kV_Lsmall_box dc_Lsmall_box pm_Lsmall_box an_Lsmall_box cd_Lsmall_box ct_Lsmall_box), sl_Lsmall_box⟩) (C_Lsmall_box : PySem.W.codeIn K cd_Lsmall_box "_law_small_box" = true) (K_Lsmall_box : PySem.W.keepIn K (.ref f_Lsmall_box) = true)
    (A_Lpool : PySem.W.nsIn K mainGlobals "_law_pool" = some (some (.ref f_Lpool))) (L_Lpool : K.lookup f_Lpool = some ⟨oc_Lpool, od_Lpool, .func (PySem.W.fnOf "_law_pool" "_law_pool" (defArgs s_Lpool) (defBody s_Lpool) (defScope s_Lpool) .none kV_Lpool dc_Lpool pm_Lpool an_Lpool cd_Lpool ct_Lpool), sl_Lpool⟩) (C_Lpool : PySem.W.codeIn K cd_Lpool "_law_pool" = true) (K_Lpool : PySem.W.keepIn K (.ref f_Lpool) = true)
    (A_Ltake : PySem.W.nsIn K mainGlobals "_law_take" = some (some (.ref f_Ltake))) (L_Ltake : K.lookup f_Ltake = some ⟨oc_Ltake, od_Ltake, .func (PySem.W.fnOf "_law_take" "_law_take" (defArgs s_Ltake) (defBody s_Ltake) (defScope s_Ltake) .none kV_Ltake dc_Ltake pm_Ltake an_Ltake cd_Ltake ct_Ltake), sl_Ltake⟩) (C_Ltake : PySem.W.codeIn K cd_Ltake "_law_take" = true) (K_Ltake : PySem.W.keepIn K (.ref f_Ltake) = true)
    (A_Lwhole : PySem.W.nsIn K mainGlobals "_law_whole" = some (some (.ref f_Lwhole))) (L_Lwhole : K.lookup f_Lwhole = some ⟨oc_Lwhole, od_Lwhole, .func (PySem.W.fnOf "_law_whole" "_law_whole" (defArgs s_Lwhole) (defBody s_Lwhole) (defScope s_Lwhole) .none kV_Lwhole dc_Lwhole pm_Lwhole an_Lwhole cd_Lwhole ct_Lwhole), sl_Lwhole⟩) (C_Lwhole : PySem.W.codeIn K cd_Lwhole "_law_whole" = true) (K_Lwhole : PySem.W.keepIn K (.ref f_Lwhole) = true)
    (A_Lsame : PySem.W.nsIn K mainGlobals "_law_same" = some (some (.ref f_Lsame))) (L_Lsame : K.lookup f_Lsame = some ⟨oc_Lsame, od_Lsame, .func (PySem.W.fnOf "_law_same" "_law_same" (defArgs s_Lsame) (defBody s_Lsame) (defScope s_Lsame) .none kV_Lsame dc_Lsame pm_Lsame an_Lsame cd_Lsame ct_Lsame), sl_Lsame⟩) (C_Lsame : PySem.W.codeIn K cd_Lsame "_law_same" = true) (K_Lsame : PySem.W.keepIn K (.ref f_Lsame) = true)
    (A_Lanything : PySem.W.nsIn K mainGlobals "_law_anything" = some (some (.ref f_Lanything))) (L_Lanything : K.lookup f_Lanything = some ⟨oc_Lanything, od_Lanything, .func (PySem.W.fnOf "_law_anything" "_law_anything" (defArgs s_Lanything) (defBody s_Lanything) (defScope s_Lanything) .none kV_Lanything dc_Lanything pm_Lanything an_Lanything cd_Lanything ct_Lanything), sl_Lanything⟩) (C_Lanything : PySem.W.codeIn K cd_Lanything "_law_anything" = true) (K_Lanything : PySem.W.keepIn K (.ref f_Lanything) = true)
    (A_Lname : PySem.W.nsIn K mainGlobals "_law_name" = some (some (.ref f_Lname))) (L_Lname : K.lookup f_Lname = some ⟨oc_Lname, od_Lname, .func (PySem.W.fnOf "_law_name" "_law_name" (defArgs s_Lname) (defBody s_Lname) (defScope s_Lname) .none kV_Lname dc_Lname pm_Lname an_Lname cd_Lname ct_Lname), sl_Lname⟩) (C_Lname : PySem.W.codeIn K cd_Lname "_law_name" = true) (K_Lname : PySem.W.keepIn K (.ref f_Lname) = true)
    (A_Lnames : PySem.W.nsIn K mainGlobals "_law_names" = some (some (.ref f_Lnames))) (L_Lnames : K.lookup f_Lnames = some ⟨oc_Lnames, od_Lnames, .func (PySem.W.fnOf "_law_names" "_law_names" (defArgs s_Lnames) (defBody s_Lnames) (defScope s_Lnames) .none kV_Lnames dc_Lnames pm_Lnames an_Lnames cd_Lnames ct_Lnames), sl_Lnames⟩) (C_Lnames : PySem.W.codeIn K cd_Lnames "_law_names" = true) (K_Lnames : PySem.W.keepIn K (.ref f_Lnames) = true)
    (A_Lsign : PySem.W.nsIn K mainGlobals "_law_sign" = some (some (.ref f_Lsign))) (L_Lsign : K.lookup f_Lsign = some ⟨oc_Lsign, od_Lsign, .func (PySem.W.fnOf "_law_sign" "_law_sign" (defArgs s_Lsign) (defBody s_Lsign) (defScope s_Lsign) .none kV_Lsign dc_Lsign pm_Lsign an_Lsign cd_Lsign ct_Lsign), sl_Lsign⟩) (C_Lsign : PySem.W.codeIn K cd_Lsign "_law_sign" = true) (K_Lsign : PySem.W.keepIn K (.ref f_Lsign) = true)
    (A_Lasked : PySem.W.nsIn K mainGlobals "_law_asked" = some (some (.ref f_Lasked))) (L_Lasked : K.lookup f_Lasked = some ⟨oc_Lasked, od_Lasked, .func (PySem.W.fnOf "_law_asked" "_law_asked" (defArgs s_Lasked) (defBody s_Lasked) (defScope s_Lasked) .none kV_Lasked dc_Lasked pm_Lasked an_Lasked cd_Lasked ct_Lasked), sl_Lasked⟩) (C_Lasked : PySem.W.codeIn K cd_Lasked "_law_asked" = true) (K_Lasked : PySem.W.keepIn K (.ref f_Lasked) = true)
    (A_Lstep : PySem.W.nsIn K mainGlobals "_law_step" = some (some (.ref f_Lstep))) (L_Lstep : K.lookup f_Lstep = some ⟨oc_Lstep, od_Lstep, .func (PySem.W.fnOf "_law_step" "_law_step" (defArgs s_Lstep) (defBody s_Lstep) (defScope s_Lstep) .none kV_Lstep dc_Lstep pm_Lstep an_Lstep cd_Lstep ct_Lstep), sl_Lstep⟩) (C_Lstep : PySem.W.codeIn K cd_Lstep "_law_step" = true) (K_Lstep : PySem.W.keepIn K (.ref f_Lstep) = true)
    (A_Las_lists : PySem.W.nsIn K mainGlobals "_law_as_lists" = some (some (.ref f_Las_lists))) (L_Las_lists : K.lookup f_Las_lists = some ⟨oc_Las_lists, od_Las_lists, .func (PySem.W.fnOf "_law_as_lists" "_law_as_lists" (defArgs s_Las_lists) (defBody s_Las_lists) (defScope s_Las_lists) .none kV_Las_lists dc_Las_lists pm_Las_lists an_Las_lists cd_Las_lists ct_Las_lists), sl_Las_lists⟩) (C_Las_lists : PySem.W.codeIn K cd_Las_lists "_law_as_lists" = true) (K_Las_lists : PySem.W.keepIn K (.ref f_Las_lists) = true)
    (A_Llog_right : PySem.W.nsIn K mainGlobals "_law_log_right" = some (some (.ref f_Llog_right))) (L_Llog_right : K.lookup f_Llog_right = some ⟨oc_Llog_right, od_Llog_right, .func (PySem.W.fnOf "_law_log_right" "_law_log_right" (defArgs s_Llog_right) (defBody s_Llog_right) (defScope s_Llog_right) .none kV_Llog_right dc_Llog_right pm_Llog_right an_Llog_right cd_Llog_right ct_Llog_right), sl_Llog_right⟩) (C_Llog_right : PySem.W.codeIn K cd_Llog_right "_law_log_right" = true) (K_Llog_right : PySem.W.keepIn K (.ref f_Llog_right) = true)
    (A_law : PySem.W.nsIn K mainGlobals "law" = some (some (.ref f_law))) (L_law : K.lookup f_law = some ⟨oc_law, od_law, .func (PySem.W.fnOf "law" "law" (defArgs s_law) (defBody s_law) (defScope s_law) .none kV_law dc_law pm_law an_law cd_law ct_law), sl_law⟩) (C_law : PySem.W.codeIn K cd_law "law" = true) (K_law : PySem.W.keepIn K (.ref f_law) = true)
    (A_Atlas_init : PySem.W.findIn K (.ref f_Atlas) "__init__" = some (some (.ref f_Atlas_init))) (i_Atlas_init : PySem.W.isFn K (.ref f_Atlas_init) = true) (L_Atlas_init : K.lookup f_Atlas_init = some ⟨oc_Atlas_init, od_Atlas_init, .func (PySem.W.fnOf "__init__" "Atlas.__init__" (defArgs s_Atlas_init) (defBody s_Atlas_init) (defScope s_Atlas_init) (.ref q_Atlas_init) kV_Atlas_init dc_Atlas_init pm_Atlas_init an_Atlas_init cd_Atlas_init ct_Atlas_init), sl_Atlas_init⟩) (C_Atlas_init : PySem.W.codeIn K cd_Atlas_init "Atlas.__init__" = true) (K_Atlas_init : PySem.W.keepIn K (.ref f_Atlas_init) = true)
    (V_Atlas_init : K.lookup q_Atlas_init = some ⟨.type "tuple", dd_Atlas_init, .seq #[.ref e_Atlas_init] nq_Atlas_init, sq_Atlas_init⟩) (W_Atlas_init : K.lookup e_Atlas_init = some ⟨.type "tuple", de_Atlas_init, .seq #[] ne_Atlas_init, se_Atlas_init⟩)
    (A_Atlas_log : PySem.W.findIn K (.ref f_Atlas) "log" = some (some (.ref f_Atlas_log))) (i_Atlas_log : PySem.W.isFn K (.ref f_Atlas_log) = true) (L_Atlas_log : K.lookup f_Atlas_log = some ⟨oc_Atlas_log, od_Atlas_log, .func (PySem.W.fnOf "log" "Atlas.log" (defArgs s_Atlas_log) (defBody s_Atlas_log) (defScope s_Atlas_log) .none kV_Atlas_log dc_Atlas_log pm_Atlas_log an_Atlas_log cd_Atlas_log ct_Atlas_log), sl_Atlas_log⟩) (C_Atlas_log : PySem.W.codeIn K cd_Atlas_log "Atlas.log" = true) (K_Atlas_log : PySem.W.keepIn K (.ref f_Atlas_log) = true)
    (A_Atlas_with_log : PySem.W.findIn K (.ref f_Atlas) "with_log" = some (some (.ref f_Atlas_with_log))) (i_Atlas_with_log : PySem.W.isFn K (.ref f_Atlas_with_log) = true) (L_Atlas_with_log : K.lookup f_Atlas_with_log = some ⟨oc_Atlas_with_log, od_Atlas_with_log, .func (PySem.W.fnOf "with_log" "Atlas.with_log" (defArgs s_Atlas_with_log) (defBody s_Atlas_with_log) (defScope s_Atlas_with_log) .none kV_Atlas_with_log dc_Atlas_with_log pm_Atlas_with_log an_Atlas_with_log cd_Atlas_with_log ct_Atlas_with_log), sl_Atlas_with_log⟩) (C_Atlas_with_log : PySem.W.codeIn K cd_Atlas_with_log "Atlas.with_log" = true) (K_Atlas_with_log : PySem.W.keepIn K (.ref f_Atlas_with_log) = true)
    (A_Atlas_without : PySem.W.findIn K (.ref f_Atlas) "without" = some (some (.ref f_Atlas_without))) (i_Atlas_without : PySem.W.isFn K (.ref f_Atlas_without) = true) (L_Atlas_without : K.lookup f_Atlas_without = some ⟨oc_Atlas_without, od_Atlas_without, .func (PySem.W.fnOf "without" "Atlas.without" (defArgs s_Atlas_without) (defBody s_Atlas_without) (defScope s_Atlas_without) .none kV_Atlas_without dc_Atlas_without pm_Atlas_without an_Atlas_without cd_Atlas_without ct_Atlas_without), sl_Atlas_without⟩) (C_Atlas_without : PySem.W.codeIn K cd_Atlas_without "Atlas.without" = true) (K_Atlas_without : PySem.W.keepIn K (.ref f_Atlas_without) = true)
    (A_Atlas_eq : PySem.W.findIn K (.ref f_Atlas) "__eq__" = some (some (.ref f_Atlas_eq))) (i_Atlas_eq : PySem.W.isFn K (.ref f_Atlas_eq) = true) (L_Atlas_eq : K.lookup f_Atlas_eq = some ⟨oc_Atlas_eq, od_Atlas_eq, .func (PySem.W.fnOf "__eq__" "Atlas.__eq__" (defArgs s_Atlas_eq) (defBody s_Atlas_eq) (defScope s_Atlas_eq) .none kV_Atlas_eq dc_Atlas_eq pm_Atlas_eq an_Atlas_eq cd_Atlas_eq ct_Atlas_eq), sl_Atlas_eq⟩) (C_Atlas_eq : PySem.W.codeIn K cd_Atlas_eq "Atlas.__eq__" = true) (K_Atlas_eq : PySem.W.keepIn K (.ref f_Atlas_eq) = true)
    (A_STEPS : PySem.W.nsIn K mainGlobals "STEPS" = some (some (.ref f_STEPS)))
    (D_STEPS : K.lookup f_STEPS = some ⟨.type "dict", none, .dict es_STEPS n_STEPS, #[]⟩)
    (Y_STEPS : PySem.W.KeysLit w.params es_STEPS.toList)
    (lo_STEPS : (f_STEPS == sysModules) = false)
    (ke_STEPS : Keys es_STEPS.toList ["n", "e", "s", "w"])
    (N_STEPS_0 : PySem.W.nsIn K f_STEPS "n" = some (some (.ref q_STEPS_0)))
    (V_STEPS_0 : K.lookup q_STEPS_0 = some ⟨.type "tuple", dd_STEPS_0, .seq #[.int (0) tk_STEPS_0_0, .int (1) tk_STEPS_0_1] nn_STEPS_0, sl_STEPS_0⟩)
    (N_STEPS_1 : PySem.W.nsIn K f_STEPS "e" = some (some (.ref q_STEPS_1)))
    (V_STEPS_1 : K.lookup q_STEPS_1 = some ⟨.type "tuple", dd_STEPS_1, .seq #[.int (1) tk_STEPS_1_0, .int (0) tk_STEPS_1_1] nn_STEPS_1, sl_STEPS_1⟩)
    (N_STEPS_2 : PySem.W.nsIn K f_STEPS "s" = some (some (.ref q_STEPS_2)))
    (V_STEPS_2 : K.lookup q_STEPS_2 = some ⟨.type "tuple", dd_STEPS_2, .seq #[.int (0) tk_STEPS_2_0, .int (-1) tk_STEPS_2_1] nn_STEPS_2, sl_STEPS_2⟩)
    (N_STEPS_3 : PySem.W.nsIn K f_STEPS "w" = some (some (.ref q_STEPS_3)))
    (V_STEPS_3 : K.lookup q_STEPS_3 = some ⟨.type "tuple", dd_STEPS_3, .seq #[.int (-1) tk_STEPS_3_0, .int (0) tk_STEPS_3_1] nn_STEPS_3, sl_STEPS_3⟩)
    (A_SMALL : PySem.W.nsIn K mainGlobals "SMALL" = some (some (.str "abcdefghijklmnopqrstuvwxyz" t_SMALL)))
    (A_GREAT : PySem.W.nsIn K mainGlobals "GREAT" = some (some (.str "ABCDEFGHIJKLMNOPQRSTUVWXYZ" t_GREAT)))
    (A_LONGEST : PySem.W.nsIn K mainGlobals "LONGEST" = some (some (.int 8 t_LONGEST)))
    (A_WORDS_ALONE : PySem.W.nsIn K mainGlobals "WORDS_ALONE" = some (some (.ref f_WORDS_ALONE)))
    (V_WORDS_ALONE : K.lookup f_WORDS_ALONE = some ⟨.type "tuple", dd_WORDS_ALONE, .seq #[.str "left" tk_WORDS_ALONE_0, .str "right" tk_WORDS_ALONE_1, .str "back" tk_WORDS_ALONE_2, .str "bump" tk_WORDS_ALONE_3, .str "bare" tk_WORDS_ALONE_4, .str "swap" tk_WORDS_ALONE_5] nn_WORDS_ALONE, sl_WORDS_ALONE⟩)
    (A_WORDS_BEHIND_A_FACE : PySem.W.nsIn K mainGlobals "WORDS_BEHIND_A_FACE" = some (some (.ref f_WORDS_BEHIND_A_FACE)))
    (V_WORDS_BEHIND_A_FACE : K.lookup f_WORDS_BEHIND_A_FACE = some ⟨.type "tuple", dd_WORDS_BEHIND_A_FACE, .seq #[.str "left" tk_WORDS_BEHIND_A_FACE_0, .str "right" tk_WORDS_BEHIND_A_FACE_1, .str "back" tk_WORDS_BEHIND_A_FACE_2, .str "go" tk_WORDS_BEHIND_A_FACE_3, .str "bump" tk_WORDS_BEHIND_A_FACE_4, .str "spy" tk_WORDS_BEHIND_A_FACE_5] nn_WORDS_BEHIND_A_FACE, sl_WORDS_BEHIND_A_FACE⟩)
    (A_HOW_MANY_LOTS : PySem.W.nsIn K mainGlobals "HOW_MANY_LOTS" = some (some (.int 8 t_HOW_MANY_LOTS)))
    (Z_abs : PySem.W.nsIn K mainGlobals "abs" = some none)
    (Z_all : PySem.W.nsIn K mainGlobals "all" = some none)
    (Z_any : PySem.W.nsIn K mainGlobals "any" = some none)
    (Z_bool : PySem.W.nsIn K mainGlobals "bool" = some none)
    (Z_dict : PySem.W.nsIn K mainGlobals "dict" = some none)
    (Z_enumerate : PySem.W.nsIn K mainGlobals "enumerate" = some none)
    (Z_int : PySem.W.nsIn K mainGlobals "int" = some none)
    (Z_isinstance : PySem.W.nsIn K mainGlobals "isinstance" = some none)
    (Z_len : PySem.W.nsIn K mainGlobals "len" = some none)
    (Z_list : PySem.W.nsIn K mainGlobals "list" = some none)
    (Z_range : PySem.W.nsIn K mainGlobals "range" = some none)
    (Z_sorted : PySem.W.nsIn K mainGlobals "sorted" = some none)
    (Z_str : PySem.W.nsIn K mainGlobals "str" = some none)
    (Z_tuple : PySem.W.nsIn K mainGlobals "tuple" = some none)
    (Z_zip : PySem.W.nsIn K mainGlobals "zip" = some none)
    (A_NoLot : PySem.W.nsIn K mainGlobals "NoLot" = some (some (.ref f_NoLot)))
    (A_BadLog : PySem.W.nsIn K mainGlobals "BadLog" = some (some (.ref f_BadLog)))
    (A_NoDealing : PySem.W.nsIn K mainGlobals "NoDealing" = some (some (.ref f_NoDealing)))
    (A_BadBox : PySem.W.nsIn K mainGlobals "BadBox" = some (some (.ref f_BadBox)))
    (A_NoName : PySem.W.nsIn K mainGlobals "NoName" = some (some (.ref f_NoName)))
    (A_Twice : PySem.W.nsIn K mainGlobals "Twice" = some (some (.ref f_Twice)))
    (A_NoWalker : PySem.W.nsIn K mainGlobals "NoWalker" = some (some (.ref f_NoWalker)))
    (A_NeedleError : PySem.W.nsIn K mainGlobals "NeedleError" = some (some (.ref f_NeedleError)))
    (ic_NoLot : PySem.W.isClsIn K f_NoLot = true) (ty_NoLot : PySem.W.typeIn K (.ref f_NoLot) = some (.type "type")) (su_NoLot : PySem.W.subIn K (.ref f_BadLog) (.ref f_NoLot) = some false)
    (ne_NoLot : (Value.ref f_BadLog == Value.ref f_NoLot) = false)
    (ic_BadLog : PySem.W.isClsIn K f_BadLog = true) (ty_BadLog : PySem.W.typeIn K (.ref f_BadLog) = some (.type "type")) (su_BadLog : PySem.W.subIn K (.ref f_BadLog) (.ref f_BadLog) = some true)
    (ic_NoDealing : PySem.W.isClsIn K f_NoDealing = true) (ty_NoDealing : PySem.W.typeIn K (.ref f_NoDealing) = some (.type "type")) (su_NoDealing : PySem.W.subIn K (.ref f_BadLog) (.ref f_NoDealing) = some false)
    (ne_NoDealing : (Value.ref f_BadLog == Value.ref f_NoDealing) = false)
    (ic_BadBox : PySem.W.isClsIn K f_BadBox = true) (ty_BadBox : PySem.W.typeIn K (.ref f_BadBox) = some (.type "type")) (su_BadBox : PySem.W.subIn K (.ref f_BadLog) (.ref f_BadBox) = some false)
    (ne_BadBox : (Value.ref f_BadLog == Value.ref f_BadBox) = false)
    (ic_NoName : PySem.W.isClsIn K f_NoName = true) (ty_NoName : PySem.W.typeIn K (.ref f_NoName) = some (.type "type")) (su_NoName : PySem.W.subIn K (.ref f_BadLog) (.ref f_NoName) = some false)
    (ne_NoName : (Value.ref f_BadLog == Value.ref f_NoName) = false)
    (ic_Twice : PySem.W.isClsIn K f_Twice = true) (ty_Twice : PySem.W.typeIn K (.ref f_Twice) = some (.type "type")) (su_Twice : PySem.W.subIn K (.ref f_BadLog) (.ref f_Twice) = some false)
    (ne_Twice : (Value.ref f_BadLog == Value.ref f_Twice) = false)
    (ic_NoWalker : PySem.W.isClsIn K f_NoWalker = true) (ty_NoWalker : PySem.W.typeIn K (.ref f_NoWalker) = some (.type "type")) (su_NoWalker : PySem.W.subIn K (.ref f_BadLog) (.ref f_NoWalker) = some false)
    (ne_NoWalker : (Value.ref f_BadLog == Value.ref f_NoWalker) = false)
    (ic_NeedleError : PySem.W.isClsIn K f_NeedleError = true) (ty_NeedleError : PySem.W.typeIn K (.ref f_NeedleError) = some (.type "type")) (su_NeedleError : PySem.W.subIn K (.ref f_BadLog) (.ref f_NeedleError) = some true)
    (ne_NeedleError : (Value.ref f_BadLog == Value.ref f_NeedleError) = false)
    (su_BadBox_NoLot : PySem.W.subIn K (.ref f_BadBox) (.ref f_NoLot) = some false)
    (ne_BadBox_NoLot : (Value.ref f_BadBox == Value.ref f_NoLot) = false)
    (su_BadBox_BadLog : PySem.W.subIn K (.ref f_BadBox) (.ref f_BadLog) = some false)
    (ne_BadBox_BadLog : (Value.ref f_BadBox == Value.ref f_BadLog) = false)
    (su_BadBox_NoDealing : PySem.W.subIn K (.ref f_BadBox) (.ref f_NoDealing) = some false)
    (ne_BadBox_NoDealing : (Value.ref f_BadBox == Value.ref f_NoDealing) = false)
    (su_BadBox_BadBox : PySem.W.subIn K (.ref f_BadBox) (.ref f_BadBox) = some true)
    (su_BadBox_NoName : PySem.W.subIn K (.ref f_BadBox) (.ref f_NoName) = some false)
    (ne_BadBox_NoName : (Value.ref f_BadBox == Value.ref f_NoName) = false)
    (su_BadBox_Twice : PySem.W.subIn K (.ref f_BadBox) (.ref f_Twice) = some false)
    (ne_BadBox_Twice : (Value.ref f_BadBox == Value.ref f_Twice) = false)
    (su_BadBox_NoWalker : PySem.W.subIn K (.ref f_BadBox) (.ref f_NoWalker) = some false)
    (ne_BadBox_NoWalker : (Value.ref f_BadBox == Value.ref f_NoWalker) = false)
    (su_BadBox_NeedleError : PySem.W.subIn K (.ref f_BadBox) (.ref f_NeedleError) = some true)
    (ne_BadBox_NeedleError : (Value.ref f_BadBox == Value.ref f_NeedleError) = false)
    (su_NoName_NoLot : PySem.W.subIn K (.ref f_NoName) (.ref f_NoLot) = some false)
    (ne_NoName_NoLot : (Value.ref f_NoName == Value.ref f_NoLot) = false)
    (su_NoName_BadLog : PySem.W.subIn K (.ref f_NoName) (.ref f_BadLog) = some false)
    (ne_NoName_BadLog : (Value.ref f_NoName == Value.ref f_BadLog) = false)
    (su_NoName_NoDealing : PySem.W.subIn K (.ref f_NoName) (.ref f_NoDealing) = some false)
    (ne_NoName_NoDealing : (Value.ref f_NoName == Value.ref f_NoDealing) = false)
    (su_NoName_BadBox : PySem.W.subIn K (.ref f_NoName) (.ref f_BadBox) = some false)
    (ne_NoName_BadBox : (Value.ref f_NoName == Value.ref f_BadBox) = false)
    (su_NoName_NoName : PySem.W.subIn K (.ref f_NoName) (.ref f_NoName) = some true)
    (su_NoName_Twice : PySem.W.subIn K (.ref f_NoName) (.ref f_Twice) = some false)
    (ne_NoName_Twice : (Value.ref f_NoName == Value.ref f_Twice) = false)
    (su_NoName_NoWalker : PySem.W.subIn K (.ref f_NoName) (.ref f_NoWalker) = some false)
    (ne_NoName_NoWalker : (Value.ref f_NoName == Value.ref f_NoWalker) = false)
    (su_NoName_NeedleError : PySem.W.subIn K (.ref f_NoName) (.ref f_NeedleError) = some true)
    (ne_NoName_NeedleError : (Value.ref f_NoName == Value.ref f_NeedleError) = false)
    (su_Twice_NoLot : PySem.W.subIn K (.ref f_Twice) (.ref f_NoLot) = some false)
    (ne_Twice_NoLot : (Value.ref f_Twice == Value.ref f_NoLot) = false)
    (su_Twice_BadLog : PySem.W.subIn K (.ref f_Twice) (.ref f_BadLog) = some false)
    (ne_Twice_BadLog : (Value.ref f_Twice == Value.ref f_BadLog) = false)
    (su_Twice_NoDealing : PySem.W.subIn K (.ref f_Twice) (.ref f_NoDealing) = some false)
    (ne_Twice_NoDealing : (Value.ref f_Twice == Value.ref f_NoDealing) = false)
    (su_Twice_BadBox : PySem.W.subIn K (.ref f_Twice) (.ref f_BadBox) = some false)
    (ne_Twice_BadBox : (Value.ref f_Twice == Value.ref f_BadBox) = false)
    (su_Twice_NoName : PySem.W.subIn K (.ref f_Twice) (.ref f_NoName) = some false)
    (ne_Twice_NoName : (Value.ref f_Twice == Value.ref f_NoName) = false)
    (su_Twice_Twice : PySem.W.subIn K (.ref f_Twice) (.ref f_Twice) = some true)
    (su_Twice_NoWalker : PySem.W.subIn K (.ref f_Twice) (.ref f_NoWalker) = some false)
    (ne_Twice_NoWalker : (Value.ref f_Twice == Value.ref f_NoWalker) = false)
    (su_Twice_NeedleError : PySem.W.subIn K (.ref f_Twice) (.ref f_NeedleError) = some true)
    (ne_Twice_NeedleError : (Value.ref f_Twice == Value.ref f_NeedleError) = false)
    (su_NoWalker_NoLot : PySem.W.subIn K (.ref f_NoWalker) (.ref f_NoLot) = some false)
    (ne_NoWalker_NoLot : (Value.ref f_NoWalker == Value.ref f_NoLot) = false)
    (su_NoWalker_BadLog : PySem.W.subIn K (.ref f_NoWalker) (.ref f_BadLog) = some false)
    (ne_NoWalker_BadLog : (Value.ref f_NoWalker == Value.ref f_BadLog) = false)
    (su_NoWalker_NoDealing : PySem.W.subIn K (.ref f_NoWalker) (.ref f_NoDealing) = some false)
    (ne_NoWalker_NoDealing : (Value.ref f_NoWalker == Value.ref f_NoDealing) = false)
    (su_NoWalker_BadBox : PySem.W.subIn K (.ref f_NoWalker) (.ref f_BadBox) = some false)
    (ne_NoWalker_BadBox : (Value.ref f_NoWalker == Value.ref f_BadBox) = false)
    (su_NoWalker_NoName : PySem.W.subIn K (.ref f_NoWalker) (.ref f_NoName) = some false)
    (ne_NoWalker_NoName : (Value.ref f_NoWalker == Value.ref f_NoName) = false)
    (su_NoWalker_Twice : PySem.W.subIn K (.ref f_NoWalker) (.ref f_Twice) = some false)
    (ne_NoWalker_Twice : (Value.ref f_NoWalker == Value.ref f_Twice) = false)
    (su_NoWalker_NoWalker : PySem.W.subIn K (.ref f_NoWalker) (.ref f_NoWalker) = some true)
    (su_NoWalker_NeedleError : PySem.W.subIn K (.ref f_NoWalker) (.ref f_NeedleError) = some true)
    (ne_NoWalker_NeedleError : (Value.ref f_NoWalker == Value.ref f_NeedleError) = false)
    (Z_ValueError : PySem.W.nsIn K mainGlobals "ValueError" = some none)
    (su_VE : PySem.W.subIn K (.ref f_BadLog) (.type "ValueError") = some true)
    (X_D : K.lookup f_BadLog = some (excClassObj nm_D qn_D f_BadLog ns_D bs_D bm_D true sn_D sub_D ab_D col_D dd_D m0_D m1_D m2_D m3_D m5_D "ValueError.__new__")) (bm_ok : PySem.HandSPX.refsVE bm_D = true)
    (sa_D : PySem.W.findIn K (.ref f_BadLog) "__setattr__" = some (some (.builtin "object.__setattr__"))) (ga_D : PySem.W.findIn K (.ref f_BadLog) "__getattribute__" = some (some (.builtin "BaseException.__getattribute__"))) (gg_D : PySem.W.findIn K (.ref f_BadLog) "__getattr__" = some none)
    (no_name : PySem.W.findIn K (.ref f_BadLog) "name" = some none)
    (no_at : PySem.W.findIn K (.ref f_BadLog) "at" = some none)
    (I_D : PySem.W.findIn K (.ref f_BadLog) "__init__" = some (some (.ref f_init))) (t_init : PySem.W.typeIn K (.ref f_init) = some (.type "function"))
    (L_init : K.lookup f_init = some ⟨oc_init, od_init, .func (PySem.W.fnOf "__init__" "BadLog.__init__" (defArgs s_init) (defBody s_init) (defScope s_init) .none kV_init dc_init pm_init an_init cd_init ct_init), sl_init⟩) (C_init : PySem.W.codeIn K cd_init "BadLog.__init__" = true) (K_init : PySem.W.keepIn K (.ref f_init) = true)
    (k_D : PySem.W.keepIn K (.ref f_BadLog) = true) (e_D : PySem.W.subIn K (.ref f_BadLog) (.type "BaseException") = some true) (h_D : PySem.W.hasDictIn K f_BadLog = true)
    (ca_D : PySem.W.findIn K (.ref f_BadLog) "__class__" = some (some (.builtin "object.__class__"))) (cn_D : PySem.W.specialIn K (.builtin "object.__class__") "__get__" = some (some (.builtin "getset_descriptor.__get__"))) (ct_D : PySem.W.takesIn K (.builtin "object.__class__") = some true) (cm_D : PySem.W.mroIn K f_BadLog (.type "object") = some true)
    (su_VE_BadBox : PySem.W.subIn K (.ref f_BadBox) (.type "ValueError") = some true)
    (X_D_BadBox : K.lookup f_BadBox = some (excClassObj nm_D_BadBox qn_D_BadBox f_BadBox ns_D_BadBox bs_D_BadBox bm_D_BadBox true sn_D_BadBox sub_D_BadBox ab_D_BadBox col_D_BadBox dd_D_BadBox m0_D_BadBox m1_D_BadBox m2_D_BadBox m3_D_BadBox m5_D_BadBox "ValueError.__new__")) (bm_ok_BadBox : PySem.HandSPX.refsVE bm_D_BadBox = true)
    (sa_D_BadBox : PySem.W.findIn K (.ref f_BadBox) "__setattr__" = some (some (.builtin "object.__setattr__"))) (ga_D_BadBox : PySem.W.findIn K (.ref f_BadBox) "__getattribute__" = some (some (.builtin "BaseException.__getattribute__"))) (gg_D_BadBox : PySem.W.findIn K (.ref f_BadBox) "__getattr__" = some none)
    (no_BadBox_at : PySem.W.findIn K (.ref f_BadBox) "at" = some none)
    (I_D_BadBox : PySem.W.findIn K (.ref f_BadBox) "__init__" = some (some (.ref f_init_BadBox))) (t_init_BadBox : PySem.W.typeIn K (.ref f_init_BadBox) = some (.type "function"))
    (L_init_BadBox : K.lookup f_init_BadBox = some ⟨oc_init_BadBox, od_init_BadBox, .func (PySem.W.fnOf "__init__" "BadBox.__init__" (defArgs s_init_BadBox) (defBody s_init_BadBox) (defScope s_init_BadBox) .none kV_init_BadBox dc_init_BadBox pm_init_BadBox an_init_BadBox cd_init_BadBox ct_init_BadBox), sl_init_BadBox⟩) (C_init_BadBox : PySem.W.codeIn K cd_init_BadBox "BadBox.__init__" = true) (K_init_BadBox : PySem.W.keepIn K (.ref f_init_BadBox) = true)
    (k_D_BadBox : PySem.W.keepIn K (.ref f_BadBox) = true) (e_D_BadBox : PySem.W.subIn K (.ref f_BadBox) (.type "BaseException") = some true) (h_D_BadBox : PySem.W.hasDictIn K f_BadBox = true)
    (ca_D_BadBox : PySem.W.findIn K (.ref f_BadBox) "__class__" = some (some (.builtin "object.__class__"))) (cn_D_BadBox : PySem.W.specialIn K (.builtin "object.__class__") "__get__" = some (some (.builtin "getset_descriptor.__get__"))) (ct_D_BadBox : PySem.W.takesIn K (.builtin "object.__class__") = some true) (cm_D_BadBox : PySem.W.mroIn K f_BadBox (.type "object") = some true)
    (su_VE_NoName : PySem.W.subIn K (.ref f_NoName) (.type "ValueError") = some true)
    (X_D_NoName : K.lookup f_NoName = some (excClassObj nm_D_NoName qn_D_NoName f_NoName ns_D_NoName bs_D_NoName bm_D_NoName true sn_D_NoName sub_D_NoName ab_D_NoName col_D_NoName dd_D_NoName m0_D_NoName m1_D_NoName m2_D_NoName m3_D_NoName m5_D_NoName "ValueError.__new__")) (bm_ok_NoName : PySem.HandSPX.refsVE bm_D_NoName = true)
    (sa_D_NoName : PySem.W.findIn K (.ref f_NoName) "__setattr__" = some (some (.builtin "object.__setattr__"))) (ga_D_NoName : PySem.W.findIn K (.ref f_NoName) "__getattribute__" = some (some (.builtin "BaseException.__getattribute__"))) (gg_D_NoName : PySem.W.findIn K (.ref f_NoName) "__getattr__" = some none)
    (no_NoName_name : PySem.W.findIn K (.ref f_NoName) "name" = some none)
    (I_D_NoName : PySem.W.findIn K (.ref f_NoName) "__init__" = some (some (.ref f_init_NoName))) (t_init_NoName : PySem.W.typeIn K (.ref f_init_NoName) = some (.type "function"))
    (L_init_NoName : K.lookup f_init_NoName = some ⟨oc_init_NoName, od_init_NoName, .func (PySem.W.fnOf "__init__" "NoName.__init__" (defArgs s_init_NoName) (defBody s_init_NoName) (defScope s_init_NoName) .none kV_init_NoName dc_init_NoName pm_init_NoName an_init_NoName cd_init_NoName ct_init_NoName), sl_init_NoName⟩) (C_init_NoName : PySem.W.codeIn K cd_init_NoName "NoName.__init__" = true) (K_init_NoName : PySem.W.keepIn K (.ref f_init_NoName) = true)
    (k_D_NoName : PySem.W.keepIn K (.ref f_NoName) = true) (e_D_NoName : PySem.W.subIn K (.ref f_NoName) (.type "BaseException") = some true) (h_D_NoName : PySem.W.hasDictIn K f_NoName = true)
    (ca_D_NoName : PySem.W.findIn K (.ref f_NoName) "__class__" = some (some (.builtin "object.__class__"))) (cn_D_NoName : PySem.W.specialIn K (.builtin "object.__class__") "__get__" = some (some (.builtin "getset_descriptor.__get__"))) (ct_D_NoName : PySem.W.takesIn K (.builtin "object.__class__") = some true) (cm_D_NoName : PySem.W.mroIn K f_NoName (.type "object") = some true)
    (su_VE_Twice : PySem.W.subIn K (.ref f_Twice) (.type "ValueError") = some true)
    (X_D_Twice : K.lookup f_Twice = some (excClassObj nm_D_Twice qn_D_Twice f_Twice ns_D_Twice bs_D_Twice bm_D_Twice true sn_D_Twice sub_D_Twice ab_D_Twice col_D_Twice dd_D_Twice m0_D_Twice m1_D_Twice m2_D_Twice m3_D_Twice m5_D_Twice "ValueError.__new__")) (bm_ok_Twice : PySem.HandSPX.refsVE bm_D_Twice = true)
    (sa_D_Twice : PySem.W.findIn K (.ref f_Twice) "__setattr__" = some (some (.builtin "object.__setattr__"))) (ga_D_Twice : PySem.W.findIn K (.ref f_Twice) "__getattribute__" = some (some (.builtin "BaseException.__getattribute__"))) (gg_D_Twice : PySem.W.findIn K (.ref f_Twice) "__getattr__" = some none)
    (no_Twice_name : PySem.W.findIn K (.ref f_Twice) "name" = some none)
    (I_D_Twice : PySem.W.findIn K (.ref f_Twice) "__init__" = some (some (.ref f_init_Twice))) (t_init_Twice : PySem.W.typeIn K (.ref f_init_Twice) = some (.type "function"))
    (L_init_Twice : K.lookup f_init_Twice = some ⟨oc_init_Twice, od_init_Twice, .func (PySem.W.fnOf "__init__" "Twice.__init__" (defArgs s_init_Twice) (defBody s_init_Twice) (defScope s_init_Twice) .none kV_init_Twice dc_init_Twice pm_init_Twice an_init_Twice cd_init_Twice ct_init_Twice), sl_init_Twice⟩) (C_init_Twice : PySem.W.codeIn K cd_init_Twice "Twice.__init__" = true) (K_init_Twice : PySem.W.keepIn K (.ref f_init_Twice) = true)
    (k_D_Twice : PySem.W.keepIn K (.ref f_Twice) = true) (e_D_Twice : PySem.W.subIn K (.ref f_Twice) (.type "BaseException") = some true) (h_D_Twice : PySem.W.hasDictIn K f_Twice = true)
    (ca_D_Twice : PySem.W.findIn K (.ref f_Twice) "__class__" = some (some (.builtin "object.__class__"))) (cn_D_Twice : PySem.W.specialIn K (.builtin "object.__class__") "__get__" = some (some (.builtin "getset_descriptor.__get__"))) (ct_D_Twice : PySem.W.takesIn K (.builtin "object.__class__") = some true) (cm_D_Twice : PySem.W.mroIn K f_Twice (.type "object") = some true)
    (su_VE_NoWalker : PySem.W.subIn K (.ref f_NoWalker) (.type "ValueError") = some true)
    (X_D_NoWalker : K.lookup f_NoWalker = some (excClassObj nm_D_NoWalker qn_D_NoWalker f_NoWalker ns_D_NoWalker bs_D_NoWalker bm_D_NoWalker true sn_D_NoWalker sub_D_NoWalker ab_D_NoWalker col_D_NoWalker dd_D_NoWalker m0_D_NoWalker m1_D_NoWalker m2_D_NoWalker m3_D_NoWalker m5_D_NoWalker "ValueError.__new__")) (bm_ok_NoWalker : PySem.HandSPX.refsVE bm_D_NoWalker = true)
    (sa_D_NoWalker : PySem.W.findIn K (.ref f_NoWalker) "__setattr__" = some (some (.builtin "object.__setattr__"))) (ga_D_NoWalker : PySem.W.findIn K (.ref f_NoWalker) "__getattribute__" = some (some (.builtin "BaseException.__getattribute__"))) (gg_D_NoWalker : PySem.W.findIn K (.ref f_NoWalker) "__getattr__" = some none)
    (no_NoWalker_name : PySem.W.findIn K (.ref f_NoWalker) "name" = some none)
    (I_D_NoWalker : PySem.W.findIn K (.ref f_NoWalker) "__init__" = some (some (.ref f_init_NoWalker))) (t_init_NoWalker : PySem.W.typeIn K (.ref f_init_NoWalker) = some (.type "function"))
    (L_init_NoWalker : K.lookup f_init_NoWalker = some ⟨oc_init_NoWalker, od_init_NoWalker, .func (PySem.W.fnOf "__init__" "NoWalker.__init__" (defArgs s_init_NoWalker) (defBody s_init_NoWalker) (defScope s_init_NoWalker) .none kV_init_NoWalker dc_init_NoWalker pm_init_NoWalker an_init_NoWalker cd_init_NoWalker ct_init_NoWalker), sl_init_NoWalker⟩) (C_init_NoWalker : PySem.W.codeIn K cd_init_NoWalker "NoWalker.__init__" = true) (K_init_NoWalker : PySem.W.keepIn K (.ref f_init_NoWalker) = true)
    (k_D_NoWalker : PySem.W.keepIn K (.ref f_NoWalker) = true) (e_D_NoWalker : PySem.W.subIn K (.ref f_NoWalker) (.type "BaseException") = some true) (h_D_NoWalker : PySem.W.hasDictIn K f_NoWalker = true)
    (ca_D_NoWalker : PySem.W.findIn K (.ref f_NoWalker) "__class__" = some (some (.builtin "object.__class__"))) (cn_D_NoWalker : PySem.W.specialIn K (.builtin "object.__class__") "__get__" = some (some (.builtin "getset_descriptor.__get__"))) (ct_D_NoWalker : PySem.W.takesIn K (.builtin "object.__class__") = some true) (cm_D_NoWalker : PySem.W.mroIn K f_NoWalker (.type "object") = some true)
    (tc1_Atlas : PySem.W.findIn K (.ref f_Atlas) (PySem.Str.ofString "__class__") = some (some (.builtin "object.__class__"))) (tc2_Atlas : PySem.W.specialIn K (.builtin "object.__class__") (PySem.Str.ofString "__get__") = some (some (.builtin "getset_descriptor.__get__"))) (tc3_Atlas : PySem.W.takesIn K (.builtin "object.__class__") = some true) (tc4_Atlas : PySem.W.mroIn K f_Atlas (.type "object") = some true)
    (tn1_Atlas : PySem.W.findIn K (.ref f_Atlas) (PySem.Str.ofString "__ne__") = some (some (.builtin "object.__ne__"))) (tn2_Atlas : PySem.W.subIn K (.ref f_Atlas) (.type "object") = some true) (ic_Atlas : PySem.W.isClsIn K f_Atlas = true) (tt_Atlas : PySem.W.typeIn K (.ref f_Atlas) = some (.type "type"))
    (ns_NoneType : PySem.W.subIn K (.ref f_Atlas) (.type "NoneType") = some false) (nf_NoneType : PySem.W.subIn K (.type "NoneType") (.ref f_Atlas) = some false)
    (ns_bool : PySem.W.subIn K (.ref f_Atlas) (.type "bool") = some false) (nf_bool : PySem.W.subIn K (.type "bool") (.ref f_Atlas) = some false)
    (ns_int : PySem.W.subIn K (.ref f_Atlas) (.type "int") = some false) (nf_int : PySem.W.subIn K (.type "int") (.ref f_Atlas) = some false)
    (ns_str : PySem.W.subIn K (.ref f_Atlas) (.type "str") = some false) (nf_str : PySem.W.subIn K (.type "str") (.ref f_Atlas) = some false)
    (ns_list : PySem.W.subIn K (.ref f_Atlas) (.type "list") = some false) (nf_list : PySem.W.subIn K (.type "list") (.ref f_Atlas) = some false)
    (ns_tuple : PySem.W.subIn K (.ref f_Atlas) (.type "tuple") = some false) (nf_tuple : PySem.W.subIn K (.type "tuple") (.ref f_Atlas) = some false) :
    ∃ fd : FuncData, (∀ (s : Shared) (v : Value), BindsTo s fd ⟨[v], []⟩ [("_law_script", v)]) ∧ ∀ base : Heap, K.In base → base.Ns mainGlobals mg → FnOk l.prog w K mg base CX0 14 fa fd ["_law_script"] (spLaw K) := by
  have e := hfa.symm.trans (PySem.W.mg_of X G A_law)
  cases e
  let T : Top w K mg := {
    a_Atlas := f_Atlas, g_Atlas := PySem.W.mg_of X G A_Atlas, cl_Atlas := ⟨pg_Atlas, hd_Atlas, po_Atlas, sa_Atlas⟩,
    nf_Atlas_box := nf_Atlas_box,
    nf_Atlas_names := nf_Atlas_names,
    nf_Atlas_logs := nf_Atlas_logs,
    a_is_whole := f_is_whole, fd_is_whole := _, F_is_whole := fun_mk (st := s_is_whole) L_is_whole C_is_whole K_is_whole,
    b_is_whole := (fun_mk (st := s_is_whole) L_is_whole C_is_whole K_is_whole).binds (ps := ["thing"]) fun _ _ _ _ _ _ us hl => match us, hl with | [_], _ => rfl,
    g_is_whole := PySem.W.mg_of X G A_is_whole,
    a_is_row := f_is_row, fd_is_row := _, F_is_row := fun_mk (st := s_is_row) L_is_row C_is_row K_is_row,
    b_is_row := (fun_mk (st := s_is_row) L_is_row C_is_row K_is_row).binds (ps := ["thing"]) fun _ _ _ _ _ _ us hl => match us, hl with | [_], _ => rfl,
    g_is_row := PySem.W.mg_of X G A_is_row,
    a_laid_out := f_laid_out, fd_laid_out := _, F_laid_out := fun_mk (st := s_laid_out) L_laid_out C_laid_out K_laid_out,
    b_laid_out := (fun_mk (st := s_laid_out) L_laid_out C_laid_out K_laid_out).binds (ps := ["thing"]) fun _ _ _ _ _ _ us hl => match us, hl with | [_], _ => rfl,
    g_laid_out := PySem.W.mg_of X G A_laid_out,
    a_kept := f_kept, fd_kept := _, F_kept := fun_mk (st := s_kept) L_kept C_kept K_kept,
    b_kept := (fun_mk (st := s_kept) L_kept C_kept K_kept).binds (ps := ["thing"]) fun _ _ _ _ _ _ us hl => match us, hl with | [_], _ => rfl,
    g_kept := PySem.W.mg_of X G A_kept,
    a_is_letter := f_is_letter, fd_is_letter := _, F_is_letter := fun_mk (st := s_is_letter) L_is_letter C_is_letter K_is_letter,
    b_is_letter := (fun_mk (st := s_is_letter) L_is_letter C_is_letter K_is_letter).binds (ps := ["thing"]) fun _ _ _ _ _ _ us hl => match us, hl with | [_], _ => rfl,
    g_is_letter := PySem.W.mg_of X G A_is_letter,
    a_is_short_text := f_is_short_text, fd_is_short_text := _, F_is_short_text := fun_mk (st := s_is_short_text) L_is_short_text C_is_short_text K_is_short_text,
    b_is_short_text := (fun_mk (st := s_is_short_text) L_is_short_text C_is_short_text K_is_short_text).binds (ps := ["thing"]) fun _ _ _ _ _ _ us hl => match us, hl with | [_], _ => rfl,
    g_is_short_text := PySem.W.mg_of X G A_is_short_text,
    a_are_small := f_are_small, fd_are_small := _, F_are_small := fun_mk (st := s_are_small) L_are_small C_are_small K_are_small,
    b_are_small := (fun_mk (st := s_are_small) L_are_small C_are_small K_are_small).binds (ps := ["text"]) fun _ _ _ _ _ _ us hl => match us, hl with | [_], _ => rfl,
    g_are_small := PySem.W.mg_of X G A_are_small,
    a_is_name := f_is_name, fd_is_name := _, F_is_name := fun_mk (st := s_is_name) L_is_name C_is_name K_is_name,
    b_is_name := (fun_mk (st := s_is_name) L_is_name C_is_name K_is_name).binds (ps := ["thing"]) fun _ _ _ _ _ _ us hl => match us, hl with | [_], _ => rfl,
    g_is_name := PySem.W.mg_of X G A_is_name,
    a_is_lone := f_is_lone, fd_is_lone := _, F_is_lone := fun_mk (st := s_is_lone) L_is_lone C_is_lone K_is_lone,
    b_is_lone := (fun_mk (st := s_is_lone) L_is_lone C_is_lone K_is_lone).binds (ps := ["thing"]) fun _ _ _ _ _ _ us hl => match us, hl with | [_], _ => rfl,
    g_is_lone := PySem.W.mg_of X G A_is_lone,
    a_is_sign := f_is_sign, fd_is_sign := _, F_is_sign := fun_mk (st := s_is_sign) L_is_sign C_is_sign K_is_sign,
    b_is_sign := (fun_mk (st := s_is_sign) L_is_sign C_is_sign K_is_sign).binds (ps := ["thing"]) fun _ _ _ _ _ _ us hl => match us, hl with | [_], _ => rfl,
    g_is_sign := PySem.W.mg_of X G A_is_sign,
    a_is_many := f_is_many, fd_is_many := _, F_is_many := fun_mk (st := s_is_many) L_is_many C_is_many K_is_many,
    b_is_many := (fun_mk (st := s_is_many) L_is_many C_is_many K_is_many).binds (ps := ["thing"]) fun _ _ _ _ _ _ us hl => match us, hl with | [_], _ => rfl,
    g_is_many := PySem.W.mg_of X G A_is_many,
    a_is_pair_entry := f_is_pair_entry, fd_is_pair_entry := _, F_is_pair_entry := fun_mk (st := s_is_pair_entry) L_is_pair_entry C_is_pair_entry K_is_pair_entry,
    b_is_pair_entry := (fun_mk (st := s_is_pair_entry) L_is_pair_entry C_is_pair_entry K_is_pair_entry).binds (ps := ["word", "part"]) fun _ _ _ _ _ _ us hl => match us, hl with | [_, _], _ => rfl,
    g_is_pair_entry := PySem.W.mg_of X G A_is_pair_entry,
    a_is_entry := f_is_entry, fd_is_entry := _, F_is_entry := fun_mk (st := s_is_entry) L_is_entry C_is_entry K_is_entry,
    b_is_entry := (fun_mk (st := s_is_entry) L_is_entry C_is_entry K_is_entry).binds (ps := ["thing"]) fun _ _ _ _ _ _ us hl => match us, hl with | [_], _ => rfl,
    g_is_entry := PySem.W.mg_of X G A_is_entry,
    a_held_log := f_held_log, fd_held_log := _, F_held_log := fun_mk (st := s_held_log) L_held_log C_held_log K_held_log,
    b_held_log := (fun_mk (st := s_held_log) L_held_log C_held_log K_held_log).binds (ps := ["entries"]) fun _ _ _ _ _ _ us hl => match us, hl with | [_], _ => rfl,
    g_held_log := PySem.W.mg_of X G A_held_log,
    a_held_box := f_held_box, fd_held_box := _, F_held_box := fun_mk (st := s_held_box) L_held_box C_held_box K_held_box,
    b_held_box := (fun_mk (st := s_held_box) L_held_box C_held_box K_held_box).binds (ps := ["box"]) fun _ _ _ _ _ _ us hl => match us, hl with | [_], _ => rfl,
    g_held_box := PySem.W.mg_of X G A_held_box,
    a_held_log_of := f_held_log_of, fd_held_log_of := _, F_held_log_of := fun_mk (st := s_held_log_of) L_held_log_of C_held_log_of K_held_log_of,
    b_held_log_of := (fun_mk (st := s_held_log_of) L_held_log_of C_held_log_of K_held_log_of).binds (ps := ["name", "log"]) fun _ _ _ _ _ _ us hl => match us, hl with | [_, _], _ => rfl,
    g_held_log_of := PySem.W.mg_of X G A_held_log_of,
    a_Lany_entry := f_Lany_entry, fd_Lany_entry := _, F_Lany_entry := fun_mk (st := s_Lany_entry) L_Lany_entry C_Lany_entry K_Lany_entry,
    b_Lany_entry := (fun_mk (st := s_Lany_entry) L_Lany_entry C_Lany_entry K_Lany_entry).binds (ps := ["_law_pool_here", "_law_looks"]) fun _ _ _ _ _ _ us hl => match us, hl with | [_, _], _ => rfl,
    g_Lany_entry := PySem.W.mg_of X G A_Lany_entry,
    a_Lany_log := f_Lany_log, fd_Lany_log := _, F_Lany_log := fun_mk (st := s_Lany_log) L_Lany_log C_Lany_log K_Lany_log,
    b_Lany_log := (fun_mk (st := s_Lany_log) L_Lany_log C_Lany_log K_Lany_log).binds (ps := ["_law_pool_here", "_law_many", "_law_swaps"]) fun _ _ _ _ _ _ us hl => match us, hl with | [_, _, _], _ => rfl,
    g_Lany_log := PySem.W.mg_of X G A_Lany_log,
    a_Lis_name := f_Lis_name, fd_Lis_name := _, F_Lis_name := fun_mk (st := s_Lis_name) L_Lis_name C_Lis_name K_Lis_name,
    b_Lis_name := (fun_mk (st := s_Lis_name) L_Lis_name C_Lis_name K_Lis_name).binds (ps := ["_law_thing"]) fun _ _ _ _ _ _ us hl => match us, hl with | [_], _ => rfl,
    g_Lis_name := PySem.W.mg_of X G A_Lis_name,
    a_Lis_sign := f_Lis_sign, fd_Lis_sign := _, F_Lis_sign := fun_mk (st := s_Lis_sign) L_Lis_sign C_Lis_sign K_Lis_sign,
    b_Lis_sign := (fun_mk (st := s_Lis_sign) L_Lis_sign C_Lis_sign K_Lis_sign).binds (ps := ["_law_thing"]) fun _ _ _ _ _ _ us hl => match us, hl with | [_], _ => rfl,
    g_Lis_sign := PySem.W.mg_of X G A_Lis_sign,
    a_Lis_many := f_Lis_many, fd_Lis_many := _, F_Lis_many := fun_mk (st := s_Lis_many) L_Lis_many C_Lis_many K_Lis_many,
    b_Lis_many := (fun_mk (st := s_Lis_many) L_Lis_many C_Lis_many K_Lis_many).binds (ps := ["_law_thing"]) fun _ _ _ _ _ _ us hl => match us, hl with | [_], _ => rfl,
    g_Lis_many := PySem.W.mg_of X G A_Lis_many,
    a_Lis_entry := f_Lis_entry, fd_Lis_entry := _, F_Lis_entry := fun_mk (st := s_Lis_entry) L_Lis_entry C_Lis_entry K_Lis_entry,
    b_Lis_entry := (fun_mk (st := s_Lis_entry) L_Lis_entry C_Lis_entry K_Lis_entry).binds (ps := ["_law_thing"]) fun _ _ _ _ _ _ us hl => match us, hl with | [_], _ => rfl,
    g_Lis_entry := PySem.W.mg_of X G A_Lis_entry,
    a_Lbad_at := f_Lbad_at, fd_Lbad_at := _, F_Lbad_at := fun_mk (st := s_Lbad_at) L_Lbad_at C_Lbad_at K_Lbad_at,
    b_Lbad_at := (fun_mk (st := s_Lbad_at) L_Lbad_at C_Lbad_at K_Lbad_at).binds (ps := ["_law_entries"]) fun _ _ _ _ _ _ us hl => match us, hl with | [_], _ => rfl,
    g_Lbad_at := PySem.W.mg_of X G A_Lbad_at,
    a_Lspoilt_text := f_Lspoilt_text, fd_Lspoilt_text := _, F_Lspoilt_text := fun_mk (st := s_Lspoilt_text) L_Lspoilt_text C_Lspoilt_text K_Lspoilt_text,
    b_Lspoilt_text := (fun_mk (st := s_Lspoilt_text) L_Lspoilt_text C_Lspoilt_text K_Lspoilt_text).binds (ps := ["_law_pool_here", "_law_text"]) fun _ _ _ _ _ _ us hl => match us, hl with | [_, _], _ => rfl,
    g_Lspoilt_text := PySem.W.mg_of X G A_Lspoilt_text,
    a_Lspoilt_entry := f_Lspoilt_entry, fd_Lspoilt_entry := _, F_Lspoilt_entry := fun_mk (st := s_Lspoilt_entry) L_Lspoilt_entry C_Lspoilt_entry K_Lspoilt_entry,
    b_Lspoilt_entry := (fun_mk (st := s_Lspoilt_entry) L_Lspoilt_entry C_Lspoilt_entry K_Lspoilt_entry).binds (ps := ["_law_pool_here", "_law_entry"]) fun _ _ _ _ _ _ us hl => match us, hl with | [_, _], _ => rfl,
    g_Lspoilt_entry := PySem.W.mg_of X G A_Lspoilt_entry,
    a_Lown := f_Lown, fd_Lown := _, F_Lown := fun_mk (st := s_Lown) L_Lown C_Lown K_Lown,
    b_Lown := (fun_mk (st := s_Lown) L_Lown C_Lown K_Lown).binds (ps := ["_law_e"]) fun _ _ _ _ _ _ us hl => match us, hl with | [_], _ => rfl,
    g_Lown := PySem.W.mg_of X G A_Lown,
    a_Lsmall_log := f_Lsmall_log, fd_Lsmall_log := _, F_Lsmall_log := fun_mk (st := s_Lsmall_log) L_Lsmall_log C_Lsmall_log K_Lsmall_log,
    b_Lsmall_log := (fun_mk (st := s_Lsmall_log) L_Lsmall_log C_Lsmall_log K_Lsmall_log).binds (ps := ["_law_pool_here", "_law_many", "_law_swaps"]) fun _ _ _ _ _ _ us hl => match us, hl with | [_, _, _], _ => rfl,
    g_Lsmall_log := PySem.W.mg_of X G A_Lsmall_log,
    a_Lsmall_box := f_Lsmall_box, fd_Lsmall_box := _, F_Lsmall_box := fun_mk (st := s_Lsmall_box) L_Lsmall_box C_Lsmall_box K_Lsmall_box,
    b_Lsmall_box := (fun_mk (st := s_Lsmall_box) L_Lsmall_box C_Lsmall_box K_Lsmall_box).binds (ps := ["_law_pool_here", "_law_legs"]) fun _ _ _ _ _ _ us hl => match us, hl with | [_, _], _ => rfl,
    g_Lsmall_box := PySem.W.mg_of X G A_Lsmall_box,
    a_Lpool := f_Lpool, fd_Lpool := _, F_Lpool := fun_mk (st := s_Lpool) L_Lpool C_Lpool K_Lpool,
    b_Lpool := (fun_mk (st := s_Lpool) L_Lpool C_Lpool K_Lpool).binds (ps := ["_law_script", "_law_k"]) fun _ _ _ _ _ _ us hl => match us, hl with | [_, _], _ => rfl,
    g_Lpool := PySem.W.mg_of X G A_Lpool,
    a_Ltake := f_Ltake, fd_Ltake := _, F_Ltake := fun_mk (st := s_Ltake) L_Ltake C_Ltake K_Ltake,
    b_Ltake := (fun_mk (st := s_Ltake) L_Ltake C_Ltake K_Ltake).binds (ps := ["_law_pool_here", "_law_wide"]) fun _ _ _ _ _ _ us hl => match us, hl with | [_, _], _ => rfl,
    g_Ltake := PySem.W.mg_of X G A_Ltake,
    a_Lwhole := f_Lwhole, fd_Lwhole := _, F_Lwhole := fun_mk (st := s_Lwhole) L_Lwhole C_Lwhole K_Lwhole,
    b_Lwhole := (fun_mk (st := s_Lwhole) L_Lwhole C_Lwhole K_Lwhole).binds (ps := ["_law_thing"]) fun _ _ _ _ _ _ us hl => match us, hl with | [_], _ => rfl,
    g_Lwhole := PySem.W.mg_of X G A_Lwhole,
    a_Lsame := f_Lsame, fd_Lsame := _, F_Lsame := fun_mk (st := s_Lsame) L_Lsame C_Lsame K_Lsame,
    b_Lsame := (fun_mk (st := s_Lsame) L_Lsame C_Lsame K_Lsame).binds (ps := ["_law_found", "_law_due"]) fun _ _ _ _ _ _ us hl => match us, hl with | [_, _], _ => rfl,
    g_Lsame := PySem.W.mg_of X G A_Lsame,
    a_Lanything := f_Lanything, fd_Lanything := _, F_Lanything := fun_mk (st := s_Lanything) L_Lanything C_Lanything K_Lanything,
    b_Lanything := (fun_mk (st := s_Lanything) L_Lanything C_Lanything K_Lanything).binds (ps := ["_law_pool_here"]) fun _ _ _ _ _ _ us hl => match us, hl with | [_], _ => rfl,
    g_Lanything := PySem.W.mg_of X G A_Lanything,
    a_Lname := f_Lname, fd_Lname := _, F_Lname := fun_mk (st := s_Lname) L_Lname C_Lname K_Lname,
    b_Lname := (fun_mk (st := s_Lname) L_Lname C_Lname K_Lname).binds (ps := ["_law_pool_here"]) fun _ _ _ _ _ _ us hl => match us, hl with | [_], _ => rfl,
    g_Lname := PySem.W.mg_of X G A_Lname,
    a_Lnames := f_Lnames, fd_Lnames := _, F_Lnames := fun_mk (st := s_Lnames) L_Lnames C_Lnames K_Lnames,
    b_Lnames := (fun_mk (st := s_Lnames) L_Lnames C_Lnames K_Lnames).binds (ps := ["_law_pool_here", "_law_many"]) fun _ _ _ _ _ _ us hl => match us, hl with | [_, _], _ => rfl,
    g_Lnames := PySem.W.mg_of X G A_Lnames,
    a_Lsign := f_Lsign, fd_Lsign := _, F_Lsign := fun_mk (st := s_Lsign) L_Lsign C_Lsign K_Lsign,
    b_Lsign := (fun_mk (st := s_Lsign) L_Lsign C_Lsign K_Lsign).binds (ps := ["_law_pool_here", "_law_lone"]) fun _ _ _ _ _ _ us hl => match us, hl with | [_, _], _ => rfl,
    g_Lsign := PySem.W.mg_of X G A_Lsign,
    a_Lasked := f_Lasked, fd_Lasked := _, F_Lasked := fun_mk (st := s_Lasked) L_Lasked C_Lasked K_Lasked,
    b_Lasked := (fun_mk (st := s_Lasked) L_Lasked C_Lasked K_Lasked).binds (ps := ["_law_atlas", "_law_name_here", "_law_log"]) fun _ _ _ _ _ _ us hl => match us, hl with | [_, _, _], _ => rfl,
    g_Lasked := PySem.W.mg_of X G A_Lasked,
    a_Lstep := f_Lstep, fd_Lstep := _, F_Lstep := fun_mk (st := s_Lstep) L_Lstep C_Lstep K_Lstep,
    b_Lstep := (fun_mk (st := s_Lstep) L_Lstep C_Lstep K_Lstep).binds (ps := ["_law_pool_here", "_law_kept"]) fun _ _ _ _ _ _ us hl => match us, hl with | [_, _], _ => rfl,
    g_Lstep := PySem.W.mg_of X G A_Lstep,
    a_Las_lists := f_Las_lists, fd_Las_lists := _, F_Las_lists := fun_mk (st := s_Las_lists) L_Las_lists C_Las_lists K_Las_lists,
    b_Las_lists := (fun_mk (st := s_Las_lists) L_Las_lists C_Las_lists K_Las_lists).binds (ps := ["_law_log"]) fun _ _ _ _ _ _ us hl => match us, hl with | [_], _ => rfl,
    g_Las_lists := PySem.W.mg_of X G A_Las_lists,
    a_Llog_right := f_Llog_right, fd_Llog_right := _, F_Llog_right := fun_mk (st := s_Llog_right) L_Llog_right C_Llog_right K_Llog_right,
    b_Llog_right := (fun_mk (st := s_Llog_right) L_Llog_right C_Llog_right K_Llog_right).binds (ps := ["_law_atlas", "_law_kept", "_law_name_here"]) fun _ _ _ _ _ _ us hl => match us, hl with | [_, _, _], _ => rfl,
    g_Llog_right := PySem.W.mg_of X G A_Llog_right,
    a_law := fa, fd_law := _, F_law := fun_mk (st := s_law) L_law C_law K_law,
    b_law := (fun_mk (st := s_law) L_law C_law K_law).binds (ps := ["_law_script"]) fun _ _ _ _ _ _ us hl => match us, hl with | [_], _ => rfl,
    g_law := PySem.W.mg_of X G A_law,
    a_Atlas_init := f_Atlas_init, fd_Atlas_init := _, e_Atlas_init := e_Atlas_init, ee_Atlas_init := fun H => .inr ⟨_, _, _, W_Atlas_init, rfl, rfl, Nat.zero_le _, .nil⟩, F_Atlas_init := (FunD.mk ⟨_, _, _, _, _, _, _, _, _, _, rfl, L_Atlas_init, C_Atlas_init, .inr ⟨(by intro z; cases z), _, _, _, _, rfl, V_Atlas_init, rfl, (.cons rfl .nil)⟩, .inl rfl⟩ K_Atlas_init : FunD K "__init__" "Atlas.__init__" (defArgs s_Atlas_init) (defBody s_Atlas_init) (defScope s_Atlas_init) [.ref e_Atlas_init] [] f_Atlas_init _),
    b1_Atlas_init := (FunD.mk ⟨_, _, _, _, _, _, _, _, _, _, rfl, L_Atlas_init, C_Atlas_init, .inr ⟨(by intro z; cases z), _, _, _, _, rfl, V_Atlas_init, rfl, (.cons rfl .nil)⟩, .inl rfl⟩ K_Atlas_init : FunD K "__init__" "Atlas.__init__" (defArgs s_Atlas_init) (defBody s_Atlas_init) (defScope s_Atlas_init) [.ref e_Atlas_init] [] f_Atlas_init _).binds1 (ps := ["self", "box", "logs"]) 2 0 (by intro z; cases z) rfl (fun _ _ _ _ _ _ _ us its hu hi => match us, its, hu, hi with | [_, _], [_], _, _ => ⟨_, rfl, rfl⟩),
    b_Atlas_init := by
      obtain ⟨ds, hv, hb⟩ := (FunD.mk ⟨_, _, _, _, _, _, _, _, _, _, rfl, L_Atlas_init, C_Atlas_init, .inr ⟨(by intro z; cases z), _, _, _, _, rfl, V_Atlas_init, rfl, (.cons rfl .nil)⟩, .inl rfl⟩ K_Atlas_init : FunD K "__init__" "Atlas.__init__" (defArgs s_Atlas_init) (defBody s_Atlas_init) (defScope s_Atlas_init) [.ref e_Atlas_init] [] f_Atlas_init _).binds1 (ps := ["self", "box", "logs"]) 3 1 (by intro z; cases z) rfl (fun _ _ _ _ _ _ _ us its hu hi => match us, its, hu, hi with | [_, _, _], [_], _, _ => ⟨_, rfl, rfl⟩)
      cases hv
      exact hb,
    mk_Atlas := ⟨mk_Atlas, A_Atlas_init, i_Atlas_init, kc_Atlas⟩,
    a_Atlas_log := f_Atlas_log, fd_Atlas_log := _, F_Atlas_log := fun_mk (st := s_Atlas_log) L_Atlas_log C_Atlas_log K_Atlas_log,
    b_Atlas_log := (fun_mk (st := s_Atlas_log) L_Atlas_log C_Atlas_log K_Atlas_log).binds (ps := ["self", "name"]) fun _ _ _ _ _ _ us hl => match us, hl with | [_, _], _ => rfl,
    me_Atlas_log := ⟨A_Atlas_log, i_Atlas_log, K_Atlas_log⟩,
    a_Atlas_with_log := f_Atlas_with_log, fd_Atlas_with_log := _, F_Atlas_with_log := fun_mk (st := s_Atlas_with_log) L_Atlas_with_log C_Atlas_with_log K_Atlas_with_log,
    b_Atlas_with_log := (fun_mk (st := s_Atlas_with_log) L_Atlas_with_log C_Atlas_with_log K_Atlas_with_log).binds (ps := ["self", "name", "log"]) fun _ _ _ _ _ _ us hl => match us, hl with | [_, _, _], _ => rfl,
    me_Atlas_with_log := ⟨A_Atlas_with_log, i_Atlas_with_log, K_Atlas_with_log⟩,
    a_Atlas_without := f_Atlas_without, fd_Atlas_without := _, F_Atlas_without := fun_mk (st := s_Atlas_without) L_Atlas_without C_Atlas_without K_Atlas_without,
    b_Atlas_without := (fun_mk (st := s_Atlas_without) L_Atlas_without C_Atlas_without K_Atlas_without).binds (ps := ["self", "name"]) fun _ _ _ _ _ _ us hl => match us, hl with | [_, _], _ => rfl,
    me_Atlas_without := ⟨A_Atlas_without, i_Atlas_without, K_Atlas_without⟩,
    a_Atlas_eq := f_Atlas_eq, fd_Atlas_eq := _, F_Atlas_eq := fun_mk (st := s_Atlas_eq) L_Atlas_eq C_Atlas_eq K_Atlas_eq,
    b_Atlas_eq := (fun_mk (st := s_Atlas_eq) L_Atlas_eq C_Atlas_eq K_Atlas_eq).binds (ps := ["self", "other"]) fun _ _ _ _ _ _ us hl => match us, hl with | [_, _], _ => rfl,
    me_Atlas_eq := ⟨A_Atlas_eq, i_Atlas_eq, K_Atlas_eq⟩,
    a_STEPS := f_STEPS, g_STEPS := PySem.W.mg_of X G A_STEPS,
    es_STEPS := _, n_STEPS := _, kd_STEPS := ⟨D_STEPS, Y_STEPS, lo_STEPS⟩,
    ns_STEPS := ns_keys D_STEPS ke_STEPS,
    v_STEPS_0 := ⟨_, ⟨_, _, _, D_STEPS, Y_STEPS, N_STEPS_0, rfl⟩, fun H => .inr ⟨_, _, _, V_STEPS_0, rfl, rfl, by show 2 ≤ sizeLine; decide, (.cons ⟨_, rfl⟩ (.cons ⟨_, rfl⟩ .nil))⟩⟩,
    v_STEPS_1 := ⟨_, ⟨_, _, _, D_STEPS, Y_STEPS, N_STEPS_1, rfl⟩, fun H => .inr ⟨_, _, _, V_STEPS_1, rfl, rfl, by show 2 ≤ sizeLine; decide, (.cons ⟨_, rfl⟩ (.cons ⟨_, rfl⟩ .nil))⟩⟩,
    v_STEPS_2 := ⟨_, ⟨_, _, _, D_STEPS, Y_STEPS, N_STEPS_2, rfl⟩, fun H => .inr ⟨_, _, _, V_STEPS_2, rfl, rfl, by show 2 ≤ sizeLine; decide, (.cons ⟨_, rfl⟩ (.cons ⟨_, rfl⟩ .nil))⟩⟩,
    v_STEPS_3 := ⟨_, ⟨_, _, _, D_STEPS, Y_STEPS, N_STEPS_3, rfl⟩, fun H => .inr ⟨_, _, _, V_STEPS_3, rfl, rfl, by show 2 ≤ sizeLine; decide, (.cons ⟨_, rfl⟩ (.cons ⟨_, rfl⟩ .nil))⟩⟩,
    g_SMALL := ⟨_, PySem.W.mg_of X G A_SMALL⟩,
    g_GREAT := ⟨_, PySem.W.mg_of X G A_GREAT⟩,
    g_LONGEST := ⟨_, PySem.W.mg_of X G A_LONGEST⟩,
    a_WORDS_ALONE := f_WORDS_ALONE, g_WORDS_ALONE := PySem.W.mg_of X G A_WORDS_ALONE,
    v_WORDS_ALONE := fun H => .inr ⟨_, _, _, V_WORDS_ALONE, rfl, rfl, by show 6 ≤ sizeLine; decide, (.cons ⟨_, rfl⟩ (.cons ⟨_, rfl⟩ (.cons ⟨_, rfl⟩ (.cons ⟨_, rfl⟩ (.cons ⟨_, rfl⟩ (.cons ⟨_, rfl⟩ .nil))))))⟩,
    a_WORDS_BEHIND_A_FACE := f_WORDS_BEHIND_A_FACE, g_WORDS_BEHIND_A_FACE := PySem.W.mg_of X G A_WORDS_BEHIND_A_FACE,
    v_WORDS_BEHIND_A_FACE := fun H => .inr ⟨_, _, _, V_WORDS_BEHIND_A_FACE, rfl, rfl, by show 6 ≤ sizeLine; decide, (.cons ⟨_, rfl⟩ (.cons ⟨_, rfl⟩ (.cons ⟨_, rfl⟩ (.cons ⟨_, rfl⟩ (.cons ⟨_, rfl⟩ (.cons ⟨_, rfl⟩ .nil))))))⟩,
    g_HOW_MANY_LOTS := ⟨_, PySem.W.mg_of X G A_HOW_MANY_LOTS⟩,
    a_NoLot := f_NoLot,
    g_NoLot := PySem.W.mg_of X G A_NoLot,
    a_BadLog := f_BadLog,
    g_BadLog := PySem.W.mg_of X G A_BadLog,
    a_NoDealing := f_NoDealing,
    g_NoDealing := PySem.W.mg_of X G A_NoDealing,
    a_BadBox := f_BadBox,
    g_BadBox := PySem.W.mg_of X G A_BadBox,
    a_NoName := f_NoName,
    g_NoName := PySem.W.mg_of X G A_NoName,
    a_Twice := f_Twice,
    g_Twice := PySem.W.mg_of X G A_Twice,
    a_NoWalker := f_NoWalker,
    g_NoWalker := PySem.W.mg_of X G A_NoWalker,
    a_NeedleError := f_NeedleError,
    g_NeedleError := PySem.W.mg_of X G A_NeedleError,
    kit_NoLot := kit_other ne_NoLot ic_NoLot ty_NoLot su_NoLot,
    kit_BadLog := kit_same,
    kit_NoDealing := kit_other ne_NoDealing ic_NoDealing ty_NoDealing su_NoDealing,
    kit_BadBox := kit_other ne_BadBox ic_BadBox ty_BadBox su_BadBox,
    kit_NoName := kit_other ne_NoName ic_NoName ty_NoName su_NoName,
    kit_Twice := kit_other ne_Twice ic_Twice ty_Twice su_Twice,
    kit_NoWalker := kit_other ne_NoWalker ic_NoWalker ty_NoWalker su_NoWalker,
    kit_NeedleError := kit_other ne_NeedleError ic_NeedleError ty_NeedleError su_NeedleError,
    kit_BadBox_NoLot := kit_other ne_BadBox_NoLot ic_NoLot ty_NoLot su_BadBox_NoLot,
    kit_BadBox_BadLog := kit_other ne_BadBox_BadLog ic_BadLog ty_BadLog su_BadBox_BadLog,
    kit_BadBox_NoDealing := kit_other ne_BadBox_NoDealing ic_NoDealing ty_NoDealing su_BadBox_NoDealing,
    kit_BadBox_BadBox := kit_same,
    kit_BadBox_NoName := kit_other ne_BadBox_NoName ic_NoName ty_NoName su_BadBox_NoName,
    kit_BadBox_Twice := kit_other ne_BadBox_Twice ic_Twice ty_Twice su_BadBox_Twice,
    kit_BadBox_NoWalker := kit_other ne_BadBox_NoWalker ic_NoWalker ty_NoWalker su_BadBox_NoWalker,
    kit_BadBox_NeedleError := kit_other ne_BadBox_NeedleError ic_NeedleError ty_NeedleError su_BadBox_NeedleError,
    kit_NoName_NoLot := kit_other ne_NoName_NoLot ic_NoLot ty_NoLot su_NoName_NoLot,
    kit_NoName_BadLog := kit_other ne_NoName_BadLog ic_BadLog ty_BadLog su_NoName_BadLog,
    kit_NoName_NoDealing := kit_other ne_NoName_NoDealing ic_NoDealing ty_NoDealing su_NoName_NoDealing,
    kit_NoName_BadBox := kit_other ne_NoName_BadBox ic_BadBox ty_BadBox su_NoName_BadBox,
    kit_NoName_NoName := kit_same,
    kit_NoName_Twice := kit_other ne_NoName_Twice ic_Twice ty_Twice su_NoName_Twice,
    kit_NoName_NoWalker := kit_other ne_NoName_NoWalker ic_NoWalker ty_NoWalker su_NoName_NoWalker,
    kit_NoName_NeedleError := kit_other ne_NoName_NeedleError ic_NeedleError ty_NeedleError su_NoName_NeedleError,
    kit_Twice_NoLot := kit_other ne_Twice_NoLot ic_NoLot ty_NoLot su_Twice_NoLot,
    kit_Twice_BadLog := kit_other ne_Twice_BadLog ic_BadLog ty_BadLog su_Twice_BadLog,
    kit_Twice_NoDealing := kit_other ne_Twice_NoDealing ic_NoDealing ty_NoDealing su_Twice_NoDealing,
    kit_Twice_BadBox := kit_other ne_Twice_BadBox ic_BadBox ty_BadBox su_Twice_BadBox,
    kit_Twice_NoName := kit_other ne_Twice_NoName ic_NoName ty_NoName su_Twice_NoName,
    kit_Twice_Twice := kit_same,
    kit_Twice_NoWalker := kit_other ne_Twice_NoWalker ic_NoWalker ty_NoWalker su_Twice_NoWalker,
    kit_Twice_NeedleError := kit_other ne_Twice_NeedleError ic_NeedleError ty_NeedleError su_Twice_NeedleError,
    kit_NoWalker_NoLot := kit_other ne_NoWalker_NoLot ic_NoLot ty_NoLot su_NoWalker_NoLot,
    kit_NoWalker_BadLog := kit_other ne_NoWalker_BadLog ic_BadLog ty_BadLog su_NoWalker_BadLog,
    kit_NoWalker_NoDealing := kit_other ne_NoWalker_NoDealing ic_NoDealing ty_NoDealing su_NoWalker_NoDealing,
    kit_NoWalker_BadBox := kit_other ne_NoWalker_BadBox ic_BadBox ty_BadBox su_NoWalker_BadBox,
    kit_NoWalker_NoName := kit_other ne_NoWalker_NoName ic_NoName ty_NoName su_NoWalker_NoName,
    kit_NoWalker_Twice := kit_other ne_NoWalker_Twice ic_Twice ty_Twice su_NoWalker_Twice,
    kit_NoWalker_NoWalker := kit_same,
    kit_NoWalker_NeedleError := kit_other ne_NoWalker_NeedleError ic_NeedleError ty_NeedleError su_NoWalker_NeedleError,
    m_ValueError := PySem.W.mg_none_of X G Z_ValueError,
    kit_VE := kit_ve su_VE,
    no_name := no_name,
    no_at := no_at,
    oex := ⟨⟨_, _, _, _, _, _, _, _, _, _, _, _, _, _, _, X_D, bm_ok⟩, sa_D, e_D, ty_BadLog, k_D⟩,
    a_init := f_init,
    fd_init := _,
    F_init := fun_mk (st := s_init) L_init C_init K_init,
    b_init := (fun_mk (st := s_init) L_init C_init K_init).binds (ps := ["self", "name", "at"]) fun _ _ _ _ _ _ us hl => match us, hl with | [_, _, _], _ => rfl,
    iC := I_D,
    tI := t_init,
    xf := ⟨ga_D, gg_D, e_D, h_D⟩,
    exc := ⟨ga_D, gg_D, e_D, h_D, ca_D, cn_D, ct_D, cm_D⟩,
    exm := PySem.W.exm_ref e_D h_D ty_BadLog su_BadLog,
    kit_VE_BadBox := kit_ve su_VE_BadBox,
    no_BadBox_at := no_BadBox_at,
    oex_BadBox := ⟨⟨_, _, _, _, _, _, _, _, _, _, _, _, _, _, _, X_D_BadBox, bm_ok_BadBox⟩, sa_D_BadBox, e_D_BadBox, ty_BadBox, k_D_BadBox⟩,
    a_init_BadBox := f_init_BadBox,
    fd_init_BadBox := _,
    F_init_BadBox := fun_mk (st := s_init_BadBox) L_init_BadBox C_init_BadBox K_init_BadBox,
    b_init_BadBox := (fun_mk (st := s_init_BadBox) L_init_BadBox C_init_BadBox K_init_BadBox).binds (ps := ["self", "at"]) fun _ _ _ _ _ _ us hl => match us, hl with | [_, _], _ => rfl,
    iC_BadBox := I_D_BadBox,
    tI_BadBox := t_init_BadBox,
    xf_BadBox := ⟨ga_D_BadBox, gg_D_BadBox, e_D_BadBox, h_D_BadBox⟩,
    exc_BadBox := ⟨ga_D_BadBox, gg_D_BadBox, e_D_BadBox, h_D_BadBox, ca_D_BadBox, cn_D_BadBox, ct_D_BadBox, cm_D_BadBox⟩,
    exm_BadBox := PySem.W.exm_ref e_D_BadBox h_D_BadBox ty_BadBox su_BadBox_BadBox,
    kit_VE_NoName := kit_ve su_VE_NoName,
    no_NoName_name := no_NoName_name,
    oex_NoName := ⟨⟨_, _, _, _, _, _, _, _, _, _, _, _, _, _, _, X_D_NoName, bm_ok_NoName⟩, sa_D_NoName, e_D_NoName, ty_NoName, k_D_NoName⟩,
    a_init_NoName := f_init_NoName,
    fd_init_NoName := _,
    F_init_NoName := fun_mk (st := s_init_NoName) L_init_NoName C_init_NoName K_init_NoName,
    b_init_NoName := (fun_mk (st := s_init_NoName) L_init_NoName C_init_NoName K_init_NoName).binds (ps := ["self", "name"]) fun _ _ _ _ _ _ us hl => match us, hl with | [_, _], _ => rfl,
    iC_NoName := I_D_NoName,
    tI_NoName := t_init_NoName,
    xf_NoName := ⟨ga_D_NoName, gg_D_NoName, e_D_NoName, h_D_NoName⟩,
    exc_NoName := ⟨ga_D_NoName, gg_D_NoName, e_D_NoName, h_D_NoName, ca_D_NoName, cn_D_NoName, ct_D_NoName, cm_D_NoName⟩,
    exm_NoName := PySem.W.exm_ref e_D_NoName h_D_NoName ty_NoName su_NoName_NoName,
    kit_VE_Twice := kit_ve su_VE_Twice,
    no_Twice_name := no_Twice_name,
    oex_Twice := ⟨⟨_, _, _, _, _, _, _, _, _, _, _, _, _, _, _, X_D_Twice, bm_ok_Twice⟩, sa_D_Twice, e_D_Twice, ty_Twice, k_D_Twice⟩,
    a_init_Twice := f_init_Twice,
    fd_init_Twice := _,
    F_init_Twice := fun_mk (st := s_init_Twice) L_init_Twice C_init_Twice K_init_Twice,
    b_init_Twice := (fun_mk (st := s_init_Twice) L_init_Twice C_init_Twice K_init_Twice).binds (ps := ["self", "name"]) fun _ _ _ _ _ _ us hl => match us, hl with | [_, _], _ => rfl,
    iC_Twice := I_D_Twice,
    tI_Twice := t_init_Twice,
    xf_Twice := ⟨ga_D_Twice, gg_D_Twice, e_D_Twice, h_D_Twice⟩,
    exc_Twice := ⟨ga_D_Twice, gg_D_Twice, e_D_Twice, h_D_Twice, ca_D_Twice, cn_D_Twice, ct_D_Twice, cm_D_Twice⟩,
    exm_Twice := PySem.W.exm_ref e_D_Twice h_D_Twice ty_Twice su_Twice_Twice,
    kit_VE_NoWalker := kit_ve su_VE_NoWalker,
    no_NoWalker_name := no_NoWalker_name,
    oex_NoWalker := ⟨⟨_, _, _, _, _, _, _, _, _, _, _, _, _, _, _, X_D_NoWalker, bm_ok_NoWalker⟩, sa_D_NoWalker, e_D_NoWalker, ty_NoWalker, k_D_NoWalker⟩,
    a_init_NoWalker := f_init_NoWalker,
    fd_init_NoWalker := _,
    F_init_NoWalker := fun_mk (st := s_init_NoWalker) L_init_NoWalker C_init_NoWalker K_init_NoWalker,
    b_init_NoWalker := (fun_mk (st := s_init_NoWalker) L_init_NoWalker C_init_NoWalker K_init_NoWalker).binds (ps := ["self", "name"]) fun _ _ _ _ _ _ us hl => match us, hl with | [_, _], _ => rfl,
    iC_NoWalker := I_D_NoWalker,
    tI_NoWalker := t_init_NoWalker,
    xf_NoWalker := ⟨ga_D_NoWalker, gg_D_NoWalker, e_D_NoWalker, h_D_NoWalker⟩,
    exc_NoWalker := ⟨ga_D_NoWalker, gg_D_NoWalker, e_D_NoWalker, h_D_NoWalker, ca_D_NoWalker, cn_D_NoWalker, ct_D_NoWalker, cm_D_NoWalker⟩,
    exm_NoWalker := PySem.W.exm_ref e_D_NoWalker h_D_NoWalker ty_NoWalker su_NoWalker_NoWalker,
    exn_BadLog_BadBox := PySem.W.exm_ref e_D_BadBox h_D_BadBox ty_BadBox su_BadBox,
    exn_BadLog_NoName := PySem.W.exm_ref e_D_NoName h_D_NoName ty_NoName su_NoName,
    exn_BadLog_Twice := PySem.W.exm_ref e_D_Twice h_D_Twice ty_Twice su_Twice,
    exn_BadLog_NoWalker := PySem.W.exm_ref e_D_NoWalker h_D_NoWalker ty_NoWalker su_NoWalker,
    exn_BadBox_BadLog := PySem.W.exm_ref e_D h_D ty_BadLog su_BadBox_BadLog,
    exn_BadBox_NoName := PySem.W.exm_ref e_D_NoName h_D_NoName ty_NoName su_BadBox_NoName,
    exn_BadBox_Twice := PySem.W.exm_ref e_D_Twice h_D_Twice ty_Twice su_BadBox_Twice,
    exn_BadBox_NoWalker := PySem.W.exm_ref e_D_NoWalker h_D_NoWalker ty_NoWalker su_BadBox_NoWalker,
    exn_NoName_BadLog := PySem.W.exm_ref e_D h_D ty_BadLog su_NoName_BadLog,
    exn_NoName_BadBox := PySem.W.exm_ref e_D_BadBox h_D_BadBox ty_BadBox su_NoName_BadBox,
    exn_NoName_Twice := PySem.W.exm_ref e_D_Twice h_D_Twice ty_Twice su_NoName_Twice,
    exn_NoName_NoWalker := PySem.W.exm_ref e_D_NoWalker h_D_NoWalker ty_NoWalker su_NoName_NoWalker,
    exn_Twice_BadLog := PySem.W.exm_ref e_D h_D ty_BadLog su_Twice_BadLog,
    exn_Twice_BadBox := PySem.W.exm_ref e_D_BadBox h_D_BadBox ty_BadBox su_Twice_BadBox,
    exn_Twice_NoName := PySem.W.exm_ref e_D_NoName h_D_NoName ty_NoName su_Twice_NoName,
    exn_Twice_NoWalker := PySem.W.exm_ref e_D_NoWalker h_D_NoWalker ty_NoWalker su_Twice_NoWalker,
    exn_NoWalker_BadLog := PySem.W.exm_ref e_D h_D ty_BadLog su_NoWalker_BadLog,
    exn_NoWalker_BadBox := PySem.W.exm_ref e_D_BadBox h_D_BadBox ty_BadBox su_NoWalker_BadBox,
    exn_NoWalker_NoName := PySem.W.exm_ref e_D_NoName h_D_NoName ty_NoName su_NoWalker_NoName,
    exn_NoWalker_Twice := PySem.W.exm_ref e_D_Twice h_D_Twice ty_Twice su_NoWalker_Twice,
    ty_Atlas := ⟨tc1_Atlas, tc2_Atlas, tc3_Atlas, tc4_Atlas⟩,
    ne_Atlas := ⟨tn1_Atlas, tn2_Atlas⟩,
    no_Atlas_NoneType := ⟨ns_NoneType, nf_NoneType, kit_tyC ic_Atlas tt_Atlas nf_NoneType⟩,
    no_Atlas_bool := ⟨ns_bool, nf_bool, kit_tyC ic_Atlas tt_Atlas nf_bool⟩,
    no_Atlas_int := ⟨ns_int, nf_int, kit_tyC ic_Atlas tt_Atlas nf_int⟩,
    no_Atlas_str := ⟨ns_str, nf_str, kit_tyC ic_Atlas tt_Atlas nf_str⟩,
    no_Atlas_list := ⟨ns_list, nf_list, kit_tyC ic_Atlas tt_Atlas nf_list⟩,
    no_Atlas_tuple := ⟨ns_tuple, nf_tuple, kit_tyC ic_Atlas tt_Atlas nf_tuple⟩,
    m_abs := PySem.W.mg_none_of X G Z_abs, m_all := PySem.W.mg_none_of X G Z_all, m_any := PySem.W.mg_none_of X G Z_any, m_bool := PySem.W.mg_none_of X G Z_bool, m_dict := PySem.W.mg_none_of X G Z_dict, m_enumerate := PySem.W.mg_none_of X G Z_enumerate, m_int := PySem.W.mg_none_of X G Z_int, m_isinstance := PySem.W.mg_none_of X G Z_isinstance, m_len := PySem.W.mg_none_of X G Z_len, m_list := PySem.W.mg_none_of X G Z_list, m_range := PySem.W.mg_none_of X G Z_range, m_sorted := PySem.W.mg_none_of X G Z_sorted, m_str := PySem.W.mg_none_of X G Z_str, m_tuple := PySem.W.mg_none_of X G Z_tuple, m_zip := PySem.W.mg_none_of X G Z_zip }
  exact ⟨T.fd_law, fun s v => .of_eq rfl, fun base _ _ => ok_law T⟩
end M
open PySem PySem.W PyProof.Rows
set_option maxHeartbeats 0 in
theorem PySem.Challenge.cw_wayneedle_k19_with_and_without_holds : PySem.Challenge.rw_wayneedle_k19_with_and_without.Holds := by
  w_on; o_law; k_head; (case hw => w_witness2)
  k_fill
  refine L2.walk_of (l := PySem.Challenge.rw_wayneedle_k19_with_and_without) (n := 63) (k := 14) (x := "_law_script") (CX := fun _ => L2.CX0) (sp := fun w => M.spLaw _) rfl (by decide) rfl ⟨rfl, by decide, by decide⟩ (fun w h Y => PySem.W.kIn_of Y) ?F (fun _ _ a ns hl _ hS => ⟨a, ns, rfl, hS, hl, fun _ => rfl⟩) (fun _ _ _ _ _ h => h)
  case F =>
    intro w mg fa h KX G hmg
    refine' M.all_mk KX G hmg ?A_Atlas ?pg_Atlas ?hd_Atlas ?po_Atlas ?sa_Atlas ?mk_Atlas ?kc_Atlas ?nf_Atlas_box ?nf_Atlas_names ?nf_Atlas_logs ?A_is_whole ?L_is_whole ?C_is_whole ?K_is_whole ?A_is_row ?L_is_row ?C_is_row ?K_is_row ?A_laid_out ?L_laid_out ?C_laid_out ?K_laid_out ?A_kept ?L_kept ?C_kept ?K_kept ?A_is_letter ?L_is_letter ?C_is_letter ?K_is_letter ?A_is_short_text ?L_is_short_text ?C_is_short_text ?K_is_short_text ?A_are_small ?L_are_small ?C_are_small ?K_are_small ?A_is_name ?L_is_name ?C_is_name ?K_is_name ?A_is_lone ?L_is_lone ?C_is_lone ?K_is_lone ?A_is_sign ?L_is_sign ?C_is_sign ?K_is_sign ?A_is_many ?L_is_many ?C_is_many ?K_is_many ?A_is_pair_entry ?L_is_pair_entry ?C_is_pair_entry ?K_is_pair_entry ?A_is_entry ?L_is_entry ?C_is_entry ?K_is_entry ?A_held_log ?L_held_log ?C_held_log ?K_held_log ?A_held_box ?L_held_box ?C_held_box ?K_held_box ?A_held_log_of ?L_held_log_of ?C_held_log_of ?K_held_log_of ?A_Lany_entry ?L_Lany_entry ?C_Lany_entry ?K_Lany_entry ?A_Lany_log ?L_Lany_log ?C_Lany_log ?K_Lany_log ?A_Lis_name ?L_Lis_name ?C_Lis_name ?K_Lis_name ?A_Lis_sign ?L_Lis_sign ?C_Lis_sign ?K_Lis_sign ?A_Lis_many ?L_Lis_many ?C_Lis_many ?K_Lis_many ?A_Lis_entry ?L_Lis_entry ?C_Lis_entry ?K_Lis_entry ?A_Lbad_at ?L_Lbad_at ?C_Lbad_at ?K_Lbad_at ?A_Lspoilt_text ?L_Lspoilt_text ?C_Lspoilt_text ?K_Lspoilt_text ?A_Lspoilt_entry ?L_Lspoilt_entry ?C_Lspoilt_entry ?K_Lspoilt_entry ?A_Lown ?L_Lown ?C_Lown ?K_Lown ?A_Lsmall_log ?L_Lsmall_log ?C_Lsmall_log ?K_Lsmall_log ?A_Lsmall_box ?L_Lsmall_box ?C_Lsmall_box ?K_Lsmall_box ?A_Lpool ?L_Lpool ?C_Lpool ?K_Lpool ?A_Ltake ?L_Ltake ?C_Ltake ?K_Ltake ?A_Lwhole ?L_Lwhole ?C_Lwhole ?K_Lwhole ?A_Lsame ?L_Lsame ?C_Lsame ?K_Lsame ?A_Lanything ?L_Lanything ?C_Lanything ?K_Lanything ?A_Lname ?L_Lname ?C_Lname ?K_Lname ?A_Lnames ?L_Lnames ?C_Lnames ?K_Lnames ?A_Lsign ?L_Lsign ?C_Lsign ?K_Lsign ?A_Lasked ?L_Lasked ?C_Lasked ?K_Lasked ?A_Lstep ?L_Lstep ?C_Lstep ?K_Lstep ?A_Las_lists ?L_Las_lists ?C_Las_lists ?K_Las_lists ?A_Llog_right ?L_Llog_right ?C_Llog_right ?K_Llog_right ?A_law ?L_law ?C_law ?K_law ?A_Atlas_init ?i_Atlas_init ?L_Atlas_init ?C_Atlas_init ?K_Atlas_init ?V_Atlas_init ?W_Atlas_init ?A_Atlas_log ?i_Atlas_log ?L_Atlas_log ?C_Atlas_log ?K_Atlas_log ?A_Atlas_with_log ?i_Atlas_with_log ?L_Atlas_with_log ?C_Atlas_with_log ?K_Atlas_with_log ?A_Atlas_without ?i_Atlas_without ?L_Atlas_without ?C_Atlas_without ?K_Atlas_without ?A_Atlas_eq ?i_Atlas_eq ?L_Atlas_eq ?C_Atlas_eq ?K_Atlas_eq ?A_STEPS ?D_STEPS ?Y_STEPS ?lo_STEPS ?ke_STEPS ?N_STEPS_0 ?V_STEPS_0 ?N_STEPS_1 ?V_STEPS_1 ?N_STEPS_2 ?V_STEPS_2 ?N_STEPS_3 ?V_STEPS_3 ?A_SMALL ?A_GREAT ?A_LONGEST ?A_WORDS_ALONE ?V_WORDS_ALONE ?A_WORDS_BEHIND_A_FACE ?V_WORDS_BEHIND_A_FACE ?A_HOW_MANY_LOTS ?Z_abs ?Z_all ?Z_any ?Z_bool ?Z_dict ?Z_enumerate ?Z_int ?Z_isinstance ?Z_len ?Z_list ?Z_range ?Z_sorted ?Z_str ?Z_tuple ?Z_zip ?A_NoLot ?A_BadLog ?A_NoDealing ?A_BadBox ?A_NoName ?A_Twice ?A_NoWalker ?A_NeedleError ?ic_NoLot ?ty_NoLot ?su_NoLot ?ne_NoLot ?ic_BadLog ?ty_BadLog ?su_BadLog ?ic_NoDealing ?ty_NoDealing ?su_NoDealing ?ne_NoDealing ?ic_BadBox ?ty_BadBox ?su_BadBox ?ne_BadBox ?ic_NoName ?ty_NoName ?su_NoName ?ne_NoName ?ic_Twice ?ty_Twice ?su_Twice ?ne_Twice ?ic_NoWalker ?ty_NoWalker ?su_NoWalker ?ne_NoWalker ?ic_NeedleError ?ty_NeedleError ?su_NeedleError ?ne_NeedleError ?su_BadBox_NoLot ?ne_BadBox_NoLot ?su_BadBox_BadLog ?ne_BadBox_BadLog ?su_BadBox_NoDealing ?ne_BadBox_NoDealing ?su_BadBox_BadBox ?su_BadBox_NoName ?ne_BadBox_NoName ?su_BadBox_Twice ?ne_BadBox_Twice ?su_BadBox_NoWalker ?ne_BadBox_NoWalker ?su_BadBox_NeedleError ?ne_BadBox_NeedleError ?su_NoName_NoLot ?ne_NoName_NoLot ?su_NoName_BadLog ?ne_NoName_BadLog ?su_NoName_NoDealing ?ne_NoName_NoDealing ?su_NoName_BadBox ?ne_NoName_BadBox ?su_NoName_NoName ?su_NoName_Twice ?ne_NoName_Twice ?su_NoName_NoWalker ?ne_NoName_NoWalker ?su_NoName_NeedleError ?ne_NoName_NeedleError ?su_Twice_NoLot ?ne_Twice_NoLot ?su_Twice_BadLog ?ne_Twice_BadLog ?su_Twice_NoDealing ?ne_Twice_NoDealing ?su_Twice_BadBox ?ne_Twice_BadBox ?su_Twice_NoName ?ne_Twice_NoName ?su_Twice_Twice ?su_Twice_NoWalker ?ne_Twice_NoWalker ?su_Twice_NeedleError ?ne_Twice_NeedleError ?su_NoWalker_NoLot ?ne_NoWalker_NoLot ?su_NoWalker_BadLog ?ne_NoWalker_BadLog ?su_NoWalker_NoDealing ?ne_NoWalker_NoDealing ?su_NoWalker_BadBox ?ne_NoWalker_BadBox ?su_NoWalker_NoName ?ne_NoWalker_NoName ?su_NoWalker_Twice ?ne_NoWalker_Twice ?su_NoWalker_NoWalker ?su_NoWalker_NeedleError ?ne_NoWalker_NeedleError ?Z_ValueError ?su_VE ?X_D ?bm_ok ?sa_D ?ga_D ?gg_D ?no_name ?no_at ?I_D ?t_init ?L_init ?C_init ?K_init ?k_D ?e_D ?h_D ?ca_D ?cn_D ?ct_D ?cm_D ?su_VE_BadBox ?X_D_BadBox ?bm_ok_BadBox ?sa_D_BadBox ?ga_D_BadBox ?gg_D_BadBox ?no_BadBox_at ?I_D_BadBox ?t_init_BadBox ?L_init_BadBox ?C_init_BadBox ?K_init_BadBox ?k_D_BadBox ?e_D_BadBox ?h_D_BadBox ?ca_D_BadBox ?cn_D_BadBox ?ct_D_BadBox ?cm_D_BadBox ?su_VE_NoName ?X_D_NoName ?bm_ok_NoName ?sa_D_NoName ?ga_D_NoName ?gg_D_NoName ?no_NoName_name ?I_D_NoName ?t_init_NoName ?L_init_NoName ?C_init_NoName ?K_init_NoName ?k_D_NoName ?e_D_NoName ?h_D_NoName ?ca_D_NoName ?cn_D_NoName ?ct_D_NoName ?cm_D_NoName ?su_VE_Twice ?X_D_Twice ?bm_ok_Twice ?sa_D_Twice ?ga_D_Twice ?gg_D_Twice ?no_Twice_name ?I_D_Twice ?t_init_Twice ?L_init_Twice ?C_init_Twice ?K_init_Twice ?k_D_Twice ?e_D_Twice ?h_D_Twice ?ca_D_Twice ?cn_D_Twice ?ct_D_Twice ?cm_D_Twice ?su_VE_NoWalker ?X_D_NoWalker ?bm_ok_NoWalker ?sa_D_NoWalker ?ga_D_NoWalker ?gg_D_NoWalker ?no_NoWalker_name ?I_D_NoWalker ?t_init_NoWalker ?L_init_NoWalker ?C_init_NoWalker ?K_init_NoWalker ?k_D_NoWalker ?e_D_NoWalker ?h_D_NoWalker ?ca_D_NoWalker ?cn_D_NoWalker ?ct_D_NoWalker ?cm_D_NoWalker ?tc1_Atlas ?tc2_Atlas ?tc3_Atlas ?tc4_Atlas ?tn1_Atlas ?tn2_Atlas ?ic_Atlas ?tt_Atlas ?ns_NoneType ?nf_NoneType ?ns_bool ?nf_bool ?ns_int ?nf_int ?ns_str ?nf_str ?ns_list ?nf_list ?ns_tuple ?nf_tuple
    (case A_Atlas => k_is); (case pg_Atlas => k_is); (case hd_Atlas => k_is); (case po_Atlas => k_is); (case sa_Atlas => k_is); (case mk_Atlas => k_is); (case kc_Atlas => k_is); (case nf_Atlas_box => k_is); (case nf_Atlas_names => k_is); (case nf_Atlas_logs => k_is); (case A_is_whole => k_is); (case L_is_whole => k_is); (case C_is_whole => k_is); (case K_is_whole => k_is); (case A_is_row => k_is); (case L_is_row => k_is); (case C_is_row => k_is); (case K_is_row => k_is); (case A_laid_out => k_is); (case L_laid_out => k_is); (case C_laid_out => k_is); (case K_laid_out => k_is); (case A_kept => k_is); (case L_kept => k_is); (case C_kept => k_is); (case K_kept => k_is); (case A_is_letter => k_is); (case L_is_letter => k_is); (case C_is_letter => k_is); (case K_is_letter => k_is); (case A_is_short_text => k_is); (case L_is_short_text => k_is); (case C_is_short_text => k_is); (case K_is_short_text => k_is); (case A_are_small => k_is); (case L_are_small => k_is); (case C_are_small => k_is); (case K_are_small => k_is); (case A_is_name => k_is); (case L_is_name => k_is); (case C_is_name => k_is); (case K_is_name => k_is); (case A_is_lone => k_is); (case L_is_lone => k_is); (case C_is_lone => k_is); (case K_is_lone => k_is); (case A_is_sign => k_is); (case L_is_sign => k_is); (case C_is_sign => k_is); (case K_is_sign => k_is); (case A_is_many => k_is); (case L_is_many => k_is); (case C_is_many => k_is); (case K_is_many => k_is); (case A_is_pair_entry => k_is); (case L_is_pair_entry => k_is); (case C_is_pair_entry => k_is); (case K_is_pair_entry => k_is); (case A_is_entry => k_is); (case L_is_entry => k_is); (case C_is_entry => k_is); (case K_is_entry => k_is); (case A_held_log => k_is); (case L_held_log => k_is); (case C_held_log => k_is); (case K_held_log => k_is); (case A_held_box => k_is); (case L_held_box => k_is); (case C_held_box => k_is); (case K_held_box => k_is); (case A_held_log_of => k_is); (case L_held_log_of => k_is); (case C_held_log_of => k_is); (case K_held_log_of => k_is); (case A_Lany_entry => k_is); (case L_Lany_entry => k_is); (case C_Lany_entry => k_is); (case K_Lany_entry => k_is); (case A_Lany_log => k_is); (case L_Lany_log => k_is); (case C_Lany_log => k_is); (case K_Lany_log => k_is); (case A_Lis_name => k_is); (case L_Lis_name => k_is); (case C_Lis_name => k_is); (case K_Lis_name => k_is); (case A_Lis_sign => k_is); (case L_Lis_sign => k_is); (case C_Lis_sign => k_is); (case K_Lis_sign => k_is); (case A_Lis_many => k_is); (case L_Lis_many => k_is); (case C_Lis_many => k_is); (case K_Lis_many => k_is); (case A_Lis_entry => k_is); (case L_Lis_entry => k_is); (case C_Lis_entry => k_is); (case K_Lis_entry => k_is); (case A_Lbad_at => k_is); (case L_Lbad_at => k_is); (case C_Lbad_at => k_is); (case K_Lbad_at => k_is); (case A_Lspoilt_text => k_is); (case L_Lspoilt_text => k_is); (case C_Lspoilt_text => k_is); (case K_Lspoilt_text => k_is); (case A_Lspoilt_entry => k_is); (case L_Lspoilt_entry => k_is); (case C_Lspoilt_entry => k_is); (case K_Lspoilt_entry => k_is); (case A_Lown => k_is); (case L_Lown => k_is); (case C_Lown => k_is); (case K_Lown => k_is); (case A_Lsmall_log => k_is); (case L_Lsmall_log => k_is); (case C_Lsmall_log => k_is); (case K_Lsmall_log => k_is); (case A_Lsmall_box => k_is); (case L_Lsmall_box => k_is); (case C_Lsmall_box => k_is); (case K_Lsmall_box => k_is); (case A_Lpool => k_is); (case L_Lpool => k_is); (case C_Lpool => k_is); (case K_Lpool => k_is); (case A_Ltake => k_is); (case L_Ltake => k_is); (case C_Ltake => k_is); (case K_Ltake => k_is); (case A_Lwhole => k_is); (case L_Lwhole => k_is); (case C_Lwhole => k_is); (case K_Lwhole => k_is); (case A_Lsame => k_is); (case L_Lsame => k_is); (case C_Lsame => k_is); (case K_Lsame => k_is); (case A_Lanything => k_is); (case L_Lanything => k_is); (case C_Lanything => k_is); (case K_Lanything => k_is); (case A_Lname => k_is); (case L_Lname => k_is); (case C_Lname => k_is); (case K_Lname => k_is); (case A_Lnames => k_is); (case L_Lnames => k_is); (case C_Lnames => k_is); (case K_Lnames => k_is); (case A_Lsign => k_is); (case L_Lsign => k_is); (case C_Lsign => k_is); (case K_Lsign => k_is); (case A_Lasked => k_is); (case L_Lasked => k_is); (case C_Lasked => k_is); (case K_Lasked => k_is); (case A_Lstep => k_is); (case L_Lstep => k_is); (case C_Lstep => k_is); (case K_Lstep => k_is); (case A_Las_lists => k_is); (case L_Las_lists => k_is); (case C_Las_lists => k_is); (case K_Las_lists => k_is); (case A_Llog_right => k_is); (case L_Llog_right => k_is); (case C_Llog_right => k_is); (case K_Llog_right => k_is); (case A_law => k_is); (case L_law => k_is); (case C_law => k_is); (case K_law => k_is); (case A_Atlas_init => k_is); (case i_Atlas_init => k_is); (case L_Atlas_init => k_is); (case C_Atlas_init => k_is); (case K_Atlas_init => k_is); (case V_Atlas_init => k_is); (case W_Atlas_init => k_is); (case A_Atlas_log => k_is); (case i_Atlas_log => k_is); (case L_Atlas_log => k_is); (case C_Atlas_log => k_is); (case K_Atlas_log => k_is); (case A_Atlas_with_log => k_is); (case i_Atlas_with_log => k_is); (case L_Atlas_with_log => k_is); (case C_Atlas_with_log => k_is); (case K_Atlas_with_log => k_is); (case A_Atlas_without => k_is); (case i_Atlas_without => k_is); (case L_Atlas_without => k_is); (case C_Atlas_without => k_is); (case K_Atlas_without => k_is); (case A_Atlas_eq => k_is); (case i_Atlas_eq => k_is); (case L_Atlas_eq => k_is); (case C_Atlas_eq => k_is); (case K_Atlas_eq => k_is); (case A_STEPS => k_is); (case D_STEPS => k_is); (case Y_STEPS => k_keys); (case lo_STEPS => first | rfl | decide +kernel); (case ke_STEPS => exact ⟨⟨_, rfl⟩, ⟨_, rfl⟩, ⟨_, rfl⟩, ⟨_, rfl⟩, True.intro⟩); (case N_STEPS_0 => k_is); (case V_STEPS_0 => k_is); (case N_STEPS_1 => k_is); (case V_STEPS_1 => k_is); (case N_STEPS_2 => k_is); (case V_STEPS_2 => k_is); (case N_STEPS_3 => k_is); (case V_STEPS_3 => k_is); (case A_SMALL => k_is); (case A_GREAT => k_is); (case A_LONGEST => k_is); (case A_WORDS_ALONE => k_is); (case V_WORDS_ALONE => k_is); (case A_WORDS_BEHIND_A_FACE => k_is); (case V_WORDS_BEHIND_A_FACE => k_is); (case A_HOW_MANY_LOTS => k_is); (case Z_abs => k_is); (case Z_all => k_is); (case Z_any => k_is); (case Z_bool => k_is); (case Z_dict => k_is); (case Z_enumerate => k_is); (case Z_int => k_is); (case Z_isinstance => k_is); (case Z_len => k_is); (case Z_list => k_is); (case Z_range => k_is); (case Z_sorted => k_is); (case Z_str => k_is); (case Z_tuple => k_is); (case Z_zip => k_is); (case A_NoLot => k_is); (case A_BadLog => k_is); (case A_NoDealing => k_is); (case A_BadBox => k_is); (case A_NoName => k_is); (case A_Twice => k_is); (case A_NoWalker => k_is); (case A_NeedleError => k_is); (case ic_NoLot => k_is); (case ty_NoLot => k_is); (case su_NoLot => first | rfl | k_is); (case ne_NoLot => first | rfl | decide +kernel); (case ic_BadLog => k_is); (case ty_BadLog => k_is); (case su_BadLog => first | rfl | k_is); (case ic_NoDealing => k_is); (case ty_NoDealing => k_is); (case su_NoDealing => first | rfl | k_is); (case ne_NoDealing => first | rfl | decide +kernel); (case ic_BadBox => k_is); (case ty_BadBox => k_is); (case su_BadBox => first | rfl | k_is); (case ne_BadBox => first | rfl | decide +kernel); (case ic_NoName => k_is); (case ty_NoName => k_is); (case su_NoName => first | rfl | k_is); (case ne_NoName => first | rfl | decide +kernel); (case ic_Twice => k_is); (case ty_Twice => k_is); (case su_Twice => first | rfl | k_is); (case ne_Twice => first | rfl | decide +kernel); (case ic_NoWalker => k_is); (case ty_NoWalker => k_is); (case su_NoWalker => first | rfl | k_is); (case ne_NoWalker => first | rfl | decide +kernel); (case ic_NeedleError => k_is); (case ty_NeedleError => k_is); (case su_NeedleError => first | rfl | k_is); (case ne_NeedleError => first | rfl | decide +kernel); (case su_BadBox_NoLot => first | rfl | k_is); (case ne_BadBox_NoLot => first | rfl | decide +kernel); (case su_BadBox_BadLog => first | rfl | k_is); (case ne_BadBox_BadLog => first | rfl | decide +kernel); (case su_BadBox_NoDealing => first | rfl | k_is); (case ne_BadBox_NoDealing => first | rfl | decide +kernel); (case su_BadBox_BadBox => first | rfl | k_is); (case su_BadBox_NoName => first | rfl | k_is); (case ne_BadBox_NoName => first | rfl | decide +kernel); (case su_BadBox_Twice => first | rfl | k_is); (case ne_BadBox_Twice => first | rfl | decide +kernel); (case su_BadBox_NoWalker => first | rfl | k_is); (case ne_BadBox_NoWalker => first | rfl | decide +kernel); (case su_BadBox_NeedleError => first | rfl | k_is); (case ne_BadBox_NeedleError => first | rfl | decide +kernel); (case su_NoName_NoLot => first | rfl | k_is); (case ne_NoName_NoLot => first | rfl | decide +kernel); (case su_NoName_BadLog => first | rfl | k_is); (case ne_NoName_BadLog => first | rfl | decide +kernel); (case su_NoName_NoDealing => first | rfl | k_is); (case ne_NoName_NoDealing => first | rfl | decide +kernel); (case su_NoName_BadBox => first | rfl | k_is); (case ne_NoName_BadBox => first | rfl | decide +kernel); (case su_NoName_NoName => first | rfl | k_is); (case su_NoName_Twice => first | rfl | k_is); (case ne_NoName_Twice => first | rfl | decide +kernel); (case su_NoName_NoWalker => first | rfl | k_is); (case ne_NoName_NoWalker => first | rfl | decide +kernel); (case su_NoName_NeedleError => first | rfl | k_is); (case ne_NoName_NeedleError => first | rfl | decide +kernel); (case su_Twice_NoLot => first | rfl | k_is); (case ne_Twice_NoLot => first | rfl | decide +kernel); (case su_Twice_BadLog => first | rfl | k_is); (case ne_Twice_BadLog => first | rfl | decide +kernel); (case su_Twice_NoDealing => first | rfl | k_is); (case ne_Twice_NoDealing => first | rfl | decide +kernel); (case su_Twice_BadBox => first | rfl | k_is); (case ne_Twice_BadBox => first | rfl | decide +kernel); (case su_Twice_NoName => first | rfl | k_is); (case ne_Twice_NoName => first | rfl | decide +kernel); (case su_Twice_Twice => first | rfl | k_is); (case su_Twice_NoWalker => first | rfl | k_is); (case ne_Twice_NoWalker => first | rfl | decide +kernel); (case su_Twice_NeedleError => first | rfl | k_is); (case ne_Twice_NeedleError => first | rfl | decide +kernel); (case su_NoWalker_NoLot => first | rfl | k_is); (case ne_NoWalker_NoLot => first | rfl | decide +kernel); (case su_NoWalker_BadLog => first | rfl | k_is); (case ne_NoWalker_BadLog => first | rfl | decide +kernel); (case su_NoWalker_NoDealing => first | rfl | k_is); (case ne_NoWalker_NoDealing => first | rfl | decide +kernel); (case su_NoWalker_BadBox => first | rfl | k_is); (case ne_NoWalker_BadBox => first | rfl | decide +kernel); (case su_NoWalker_NoName => first | rfl | k_is); (case ne_NoWalker_NoName => first | rfl | decide +kernel); (case su_NoWalker_Twice => first | rfl | k_is); (case ne_NoWalker_Twice => first | rfl | decide +kernel); (case su_NoWalker_NoWalker => first | rfl | k_is); (case su_NoWalker_NeedleError => first | rfl | k_is); (case ne_NoWalker_NeedleError => first | rfl | decide +kernel); (case Z_ValueError => k_is); (case su_VE => k_is); (case X_D => k_is); (case bm_ok => decide +kernel); (case sa_D => k_is); (case ga_D => k_is); (case gg_D => k_is); (case no_name => k_is); (case no_at => k_is); (case I_D => k_is); (case t_init => k_is); (case L_init => k_is); (case C_init => k_is); (case K_init => k_is); (case k_D => k_is); (case e_D => k_is); (case h_D => k_is); (case ca_D => k_is); (case cn_D => k_is); (case ct_D => k_is); (case cm_D => k_is); (case su_VE_BadBox => k_is); (case X_D_BadBox => k_is); (case bm_ok_BadBox => decide +kernel); (case sa_D_BadBox => k_is); (case ga_D_BadBox => k_is); (case gg_D_BadBox => k_is); (case no_BadBox_at => k_is); (case I_D_BadBox => k_is); (case t_init_BadBox => k_is); (case L_init_BadBox => k_is); (case C_init_BadBox => k_is); (case K_init_BadBox => k_is); (case k_D_BadBox => k_is); (case e_D_BadBox => k_is); (case h_D_BadBox => k_is); (case ca_D_BadBox => k_is); (case cn_D_BadBox => k_is); (case ct_D_BadBox => k_is); (case cm_D_BadBox => k_is); (case su_VE_NoName => k_is); (case X_D_NoName => k_is); (case bm_ok_NoName => decide +kernel); (case sa_D_NoName => k_is); (case ga_D_NoName => k_is); (case gg_D_NoName => k_is); (case no_NoName_name => k_is); (case I_D_NoName => k_is); (case t_init_NoName => k_is); (case L_init_NoName => k_is); (case C_init_NoName => k_is); (case K_init_NoName => k_is); (case k_D_NoName => k_is); (case e_D_NoName => k_is); (case h_D_NoName => k_is); (case ca_D_NoName => k_is); (case cn_D_NoName => k_is); (case ct_D_NoName => k_is); (case cm_D_NoName => k_is); (case su_VE_Twice => k_is); (case X_D_Twice => k_is); (case bm_ok_Twice => decide +kernel); (case sa_D_Twice => k_is); (case ga_D_Twice => k_is); (case gg_D_Twice => k_is); (case no_Twice_name => k_is); (case I_D_Twice => k_is); (case t_init_Twice => k_is); (case L_init_Twice => k_is); (case C_init_Twice => k_is); (case K_init_Twice => k_is); (case k_D_Twice => k_is); (case e_D_Twice => k_is); (case h_D_Twice => k_is); (case ca_D_Twice => k_is); (case cn_D_Twice => k_is); (case ct_D_Twice => k_is); (case cm_D_Twice => k_is); (case su_VE_NoWalker => k_is); (case X_D_NoWalker => k_is); (case bm_ok_NoWalker => decide +kernel); (case sa_D_NoWalker => k_is); (case ga_D_NoWalker => k_is); (case gg_D_NoWalker => k_is); (case no_NoWalker_name => k_is); (case I_D_NoWalker => k_is); (case t_init_NoWalker => k_is); (case L_init_NoWalker => k_is); (case C_init_NoWalker => k_is); (case K_init_NoWalker => k_is); (case k_D_NoWalker => k_is); (case e_D_NoWalker => k_is); (case h_D_NoWalker => k_is); (case ca_D_NoWalker => k_is); (case cn_D_NoWalker => k_is); (case ct_D_NoWalker => k_is); (case cm_D_NoWalker => k_is); (case tc1_Atlas => k_is); (case tc2_Atlas => k_is); (case tc3_Atlas => k_is); (case tc4_Atlas => k_is); (case tn1_Atlas => k_is); (case tn2_Atlas => k_is); (case ic_Atlas => k_is); (case tt_Atlas => k_is); (case ns_NoneType => k_is); (case nf_NoneType => k_is); (case ns_bool => k_is); (case nf_bool => k_is); (case ns_int => k_is); (case nf_int => k_is); (case ns_str => k_is); (case nf_str => k_is); (case ns_list => k_is); (case nf_list => k_is); (case ns_tuple => k_is); (case nf_tuple => k_is)
