import PyProof.Rows.All
import Wide.All
import OpenK.AllK
import Wide.FinOn
import HandS.ForMost
import HandS.ForExc
import HandS.HotCalls
import HandS.ExcIs
import HandS.ExcInit
import HandS.ExcField
import HandS.Defaults
import HandS.CallSlots
import HandS.Deep
import KE.GoesEnum
import KE.GoesNew
import HandS.IsInst
import HandS.Replace
import HandS.Wide
import HandS.NoneIn
import HandS.Walk
import HandS.Evl
import HandS.More
import HandS.Zip
import HandS.Conv
import KE.KxIndex
import PySem.Challenge.RW_wayneedle_k21_dealings_refused
import HandS.TupMul
import HandS.Star
import HandS.TupAny
import HandS.Flow
import HandS.RaiseMore
import HandS.SortRule
import HandS.Strs
import KE.GoesEnumKw
import HandS.Iter
import HandS.OwnEq
import HandS.FStr
import KE.DataCmp
import HandS.SuiteRaise
import HandS.RaiseFrom
import HandS.ExcInitHot
import PyProof.ListStr
set_option Elab.async false
set_option linter.all false
set_option maxRecDepth 100000
set_option maxHeartbeats 4000000

namespace ExcM
open PySem PySem.W PySem.Spec PySem.Calls PyProof.Rows L2
section
variable {prog : Program} {w : World} {A : Around} {E : Value → Shared → Prop} {s : Shared} {K : PySem.W.Frag} {x D : Addr} {ox od : Obj}
/-- the way of a test that fails -/
theorem not_so {α : Type} {b : Bool} {x y : Sem α} {Q : α → Shared → Prop} (hb : b = false) (q : wpAny (model prog w) A y Q E s) : wpAny (model prog w) A (if b = true then x else y) Q E s := by
  subst hb
  exact q
/-- the class of an own exception that has a dict, asked of its instance -/
theorem asked_class {Q : Option Value → Shared → Prop} (C : ExcC K D) (X : K.In s.heap) (I : PySem.W.InstAt s.heap x ox D (some od)) (h : Q (some (.ref D)) { s with toks := s.toks + 1 }) :
    wpAny (model prog w) A (getAttr? (.ref x) "__class__") Q E s := by
  have found := findObj_data (K := K) (C := D) (od := od) (name := "__class__") (by obtain ⟨q, hq, _⟩ := any_some C.hd; rw [hq]; rfl) C.ha C.hn C.ht
  obtain ⟨hp, g, d, t, os⟩ := s
  have lType := I.type (M := model prog w)
  have lGa := looks_findIn (M := model prog w) X C.hg
  have lGt := looks_findIn (M := model prog w) X C.hk
  have lFind := looks_find (M := model prog w) X I found
  have isB : Looks (model prog w) hp (isInstance (.ref x) (.type "BaseException")) true := lType.andThen (looks_subIn X C.hs)
  have n1 : (false && onTheHeap (Value.builtin "BaseException.__getattribute__")) = false := rfl
  have n2 : (onTheHeap (Value.ref D) && Value.builtin "BaseException.__getattribute__" == Value.builtin "object.__getattribute__") = false := by
    rw [show (Value.builtin "BaseException.__getattribute__" == Value.builtin "object.__getattribute__") = false by decide +kernel]; rfl
  unfold getAttr? getAttrBy?; unfold getAttrBy
  refine wpAny_bind (wpAny_mkText (wpAny_bind (wpAny_attempt (wpAny_holding (wpAny_bind (lType.at (wpAny_bind (lGa.at ?_))))))))
  refine not_so n2 ?_; unfold getAttrByItsOwn hookBefore
  refine wpAny_bind ?_; rw [if_pos (show onTheHeap (Value.ref D) = true from rfl)]
  refine lGt.at ?_; refine wpAny_bind (wpAny_attempt (wpAny_holding ?_))
  unfold callGetattribute; rw [n1, if_neg Bool.false_ne_true]; unfold boundAndCalled
  rw [PySem.F.excAttr_ValueError.ga.bind (.ref x)]; refine wpAny_bind (wpAny_pure ?_)
  refine show wpAny _ _ (call (.builtin "BaseException.__getattribute__") [.ref x, .str "__class__" t]) _ _ _ from wpAny_call (codeAny_call_builtin PySem.F.excAttr_ValueError.ga.plain PySem.F.entry_bexc_ga ?_)
  refine @check_slot (model prog w) _ _ ⟨hp, g, d, t + 1, os⟩ "BaseException.__getattribute__" "BaseException" "__getattribute__" (.ref x) [.str "__class__" t] [] _ (by decide +kernel) (by decide +kernel) isB (PySem.F.args_bexc_ga (.ref x) (.str "__class__" t)) ?_
  unfold Builtin.«object.__getattribute__»; refine wpAny_bind (wpAny_of_eq (a := ((Value.ref x : Value), [Value.str "__class__" t])) (by first | rfl | (simp only [slotArgs]; rfl)) ?_)
  refine wpAny_bind (wpAny_pure (wpAny_bind (lType.at (wpAny_bind (lFind.at ?_)))))
  refine show wpAny _ _ (holding [Value.builtin "object.__class__"] (call (.builtin "getset_descriptor.__get__") [.builtin "object.__class__", .ref x, .ref D]) >>= ret) _ _ _ from wpAny_bind (wpAny_holding (wpAny_call (class_get (s := ⟨hp, g, d, t + 1, os⟩) (ox := ox) (od := some od) X I C.hm ?_)))
  refine wpAny_pure ?_; show wpAny _ _ (handedOut (.ref D)) _ _ _; rw [handedOut_of (v := .ref D) rfl]
  first | exact wpAny_pure (wpAny_pure h) | exact wpAny_pure h | exact wpAny_pure (wpAny_bind (wpAny_pure (wpAny_pure h)))
theorem kit_exc (C : ExcC K D) : KitX K (.ref x) (.ref D) (fun h => PySem.W.InstAt h x ox D (some od)) where
  ty := fun _ _ _ I => I.type
  it := fun _ _ X _ => by
    obtain ⟨q, hq, _⟩ := any_some C.hd
    unfold clsIn at hq; split at hq
    · rename_i c1 d1 q1 l1 ho
      intro A1 Q1 E1 s1 k z; unfold isType loadHead
      exact wpAny_bind (wpAny_loadPart (k _ _ (X _ _ ho)) (wpAny_pure z))
    · cases hq
  ne := fun hh tp tdd tis tn tsl X htp => by
    obtain ⟨q, hq, _⟩ := any_some C.hd
    refine Bool.eq_false_iff.mpr fun z => ?_
    have e : D = tp := Value.ref.inj (beq_iff_eq.mp z)
    subst e; unfold clsIn at hq; split at hq
    · rename_i c1 d1 q1 l1 ho
      cases (X _ _ ho).symm.trans htp
    · cases hq
  ca := fun X I k => asked_class C X I k
end
section
variable {X : Cx}
/-- isinstance of a pinned exception of the class at D, its dict tracked -/
theorem call_isP {D a : Addr} {oe : Obj} {d : Addr} (C : ExcC X.K D) (hp : (a, oe) ∈ X.pn) (hz : Zc (.ref D) (some d) oe) (hf : ∃ vs, oe.data = .fields vs) :
    CallR X (.builtin "isinstance") (fun xs H Q => ∃ (c : V) (cv : Value) (b : Bool) (fs : List (Str × V)), xs = [.ref a, c] ∧ (∀ u, RelV c u → u = cv) ∧ H d = some (.xd fs) ∧ PySem.W.kitOne X.K (.ref D) cv = some b ∧ Q (.bl b) H) := by
  intro pins s σ H xs us Q I rel ask
  obtain ⟨c, cv, b, fs, rfl, hcv, hd, e, q1⟩ := ask
  obtain ⟨w1, w2, rfl, l1, l2⟩ := vals2 rel
  cases (l1 : w1 = Value.ref a)
  cases hcv _ l2
  have P1 := I.pin (a, oe) (List.mem_append_left _ hp)
  obtain ⟨vs, hv⟩ := hf
  obtain ⟨mA, hns, _⟩ := (show ObjOk X.prog X.w H s.heap d (.xd fs) from I.hok d _ hd)
  obtain ⟨od, ho, _⟩ := lookIn_ns hns
  have J : PySem.W.InstAt s.heap a oe D (some od) := ⟨P1.1, hz.1, by unfold PySem.W.notCls; rw [hv] <;> rfl, by rw [hz.2]; exact ho⟩
  exact PySem.W.kia_one (kit_exc C) I.kIn J e (fun z => nomatch z) fun tk => ⟨.bl b, H, I.tok tk, rfl, q1⟩
end
end ExcM
namespace ExcM
open PySem PySem.W PySem.Spec PySem.Calls PyProof.Rows L2
/-! ### a def that is told of the exception that is handled -/
/-- what a def promises where p's object is pinned, whatever is handled -/
structure FnP (P : Program) (w : World) (K : PySem.W.Frag) (mg : Str → Option Value) (base : Heap) (p : Addr × Obj) (k : Nat) (f : Addr) (fd : FuncData) (ps : List Str) (sp : Sp) : Prop where
  len : ∀ (vs : List V) (H : Hp) (Q : VK) (E : XK), sp vs H Q E → vs.length = ps.length
  run : ∀ (A : Around) (outer : List Env) (s : Shared) (H : Hp) (args : Args) (us : List Value) (vs : List V) (Q : VK) (E : XK), L2H.RoomH k A → L2H.PinOk outer H s p → Env0 P w K mg base A outer s H →
    BindsTo s fd args (ps.zip us) → Vals vs us → sp vs H Q E → codeAny (model P w) A (.call (.ref f) args) (CR CX0 outer P w H s Q E) s
section
variable {P : Program} {w : World} {K : PySem.W.Frag} {mg : Str → Option Value} {base : Heap} {p : Addr × Obj}
theorem fun_okP {x qual : Str} {st : Stmt} {f : Addr} {fd : FuncData} {N ps : List Str} {k : Nat} {sp : Sp} (F : Fun K x qual st f fd) (S : FnScope N ps (defScope st)) (len : ∀ vs H Q E, sp vs H Q E → vs.length = ps.length)
    (hbody : ∀ (cdv : Value) (A : Around) (outer : List Env) (s : Shared) (H : Hp) (vs : List V) (Q : VK) (E : XK), L2H.RoomH k (A.deeper (envOfC qual (defScope st) s.heap.objs.size f cdv)) → sp vs H Q E →
      ∃ t, PSs (L2H.cxH CX0 P w K mg base N qual (defScope st) f cdv A outer s H E p) (defBody st) t ∧ t { nx := fun _ H' => Q .non H', rt := Q } (start N vs) H) : FnP P w K mg base p (k + 1) f fd ps sp := by
  obtain ⟨_, _, _, _, _, _, cdv, _, _, rfl, lk, hcd⟩ := F.ex
  refine ⟨len, fun A outer s H args us vs Q E hr hpin e0 hb r hsp => ?_⟩
  have KX : K.In s.heap := e0.mod.kin.keeps (fun b o e => (e0.bs b o e).1)
  have hk2 : ∀ y ∈ ps.zip us, (defScope st).names.lookup y.1 = some .local ∨ ((defScope st).names.lookup y.1 = some .cell ∧ ((cellsFrom (s.heap.objs.size + 1) (defScope st).names []).lookup y.1).isSome = true) := fun ⟨n, v⟩ hy =>
    (S.par n (List.of_mem_zip hy).1).elim .inl (fun q => .inr ⟨q, PySem.W.cellsFrom_some _ _ _ (.inl q)⟩)
  refine codeAny_call_function hr.depth (KX _ _ lk) rfl S.co S.gen rfl (PySem.W.codeRec_of KX hcd) (hb _ _ _ _ (wpAny_newFunctionEnv_cells S.kind hk2 fun env he s1 x => ?_))
  subst he
  refine ⟨(e0.mod.nolimit.keeps fun b o e => (e0.bs b o e).1).keeps x.toInCall.keep, codeAny_func ?_⟩
  obtain ⟨t, ht, hq⟩ := hbody cdv A outer s H vs Q E (hr.deeper _) hsp
  have I := L2H.inv_startH (CX := CX0) (E := E) S hpin e0 (len _ _ _ _ hsp) r x
  refine wpAny_mono (ht.run [] s1 (start N vs) H _ I hq) (fun fl s' hs => ?_) (fun e s' hs => hs)
  match fl, hs with
  | .ret u, ⟨v, σ', H', J, rv, q⟩ => exact ⟨v, H', J.os, J.bare, J.base, J.hok, rv, q⟩
  | .next, ⟨σ', H', J, q⟩ => exact ⟨.non, H', J.os, J.bare, J.base, J.hok, rfl, q⟩
  | .brk, ⟨_, _, _, q⟩ => exact q.elim
  | .cont, ⟨_, _, _, q⟩ => exact q.elim
end
section
variable {X : Cx} {k : Nat} {f : Addr} {fd : FuncData} {ps : List Str} {sp : Sp} {x : Str} {q pos : Pos} {e : Expr} {es : List Expr} {t : TA} {p : Addr × Obj}
theorem pe_callP (F : FnP X.prog X.w X.K X.mg X.base p k f fd ps sp) (hr : L2H.RoomH k X.A) (hp : p ∈ X.pn) (hg : Gl X x) (hm : X.mg x = some (.ref f)) (hk : PySem.W.keepIn X.K (.ref f) = true) (hb : Binds X.K fd ps [])
    (ha : PA X (e :: es) t) (hdb : (x == ("__debug__" : Str)) = false := by decide) (he : starEach (e :: es) X.env = (false, eval e X.env) :: starEach es X.env := by rfl)
    (hpl : (backTo pos (starEach es X.env)).any (·.1) = false := by rfl) : PE X (.Call (.Name x q) (e :: es) [] pos) (tCall sp [] E0 t) := by
  refine ⟨fun pins s σ H Q I h => wpAny_Call_Name_kw (ld_glob I hg hm ?_ hdb)⟩
  refine PySem.W.callWith_K (h₀ := X.base) I.ok.mod.kin hk (thn (ha.run pos pins s σ H _ I h) fun us s1 hh => ?_) he hpl
  obtain ⟨vs, H1, I1, r, q1⟩ := hh
  rw [List.append_nil] at q1
  refine ⟨I1.kIn, ?_⟩
  have hl : us.length = ps.length := by
    rw [← r.length]
    exact F.len _ _ _ _ q1
  have b := hb s1 us I1.kIn (by rw [List.append_nil]; exact hl)
  rw [List.append_nil] at b
  have P1 := I1.pin p (List.mem_append_left _ hp)
  have pin : L2H.PinOk X.stack H1 s1 p := ⟨P1.1, P1.2.1, (fun hm => (List.mem_cons.mp (I1.stkSub p.1 hm)).elim P1.2.2.1 P1.2.2.2.1), P1.2.2.2.2⟩
  refine wpAny_call (codeAny_mono (F.run X.A X.stack s1 H1 ⟨us, []⟩ us vs Q E0 hr pin I1.env0 b r q1) fun r s' hq => ?_)
  match r, hq with
  | .error _, hq => exact hq.elim
  | .ok (.ret u), hq => exact I1.after hq
  | .ok .next, hq => exact hq.elim
  | .ok .brk, hq => exact hq.elim
  | .ok .cont, hq => exact hq.elim
end
end ExcM
/-! ### iterators that hand out pairs (enumerate, zip), over what is a list or a tuple: one turn for all of them, by GoesN -/
namespace PairW
open PySem PySem.Spec PyProof.Rows L2
/-- a sequence and an iterator over it: a tuple (true) or a list (false) -/
def SqB (t : Bool) (h : Heap) (l : Addr) (xs : Array Value) : Prop := match t with
  | true => h.IsTuple l xs
  | false => h.IsList l xs
def ItB (t : Bool) (h : Heap) (it l : Addr) (k : Nat) : Prop := match t with
  | true => h.IsTupleIter it l k
  | false => h.IsListIter it l k
def SqV (t : Bool) (K : PySem.W.Frag) (H : Hp) (a : Addr) (xs : List V) : Prop := match t with
  | true => SqT K H a xs
  | false => SqL K H a xs
def itO (t : Bool) (l : Addr) : Obj := match t with
  | true => { cls := .type "tuple_iterator", data := .fields #[.ref l, .int 0 0] }
  | false => { cls := .type "list_iterator", data := .fields #[.ref l, .int 0 0] }
theorem SqB.lt {t : Bool} {h : Heap} {a : Addr} {xs : Array Value} (q : SqB t h a xs) : a < h.objs.size := by
  cases t <;> (obtain ⟨o, e, _⟩ := q; exact Heap.lt_size e)
theorem ItB.at {t : Bool} {h h' : Heap} {a l : Addr} {k : Nat} (x : ItB t h a l k) (e : ∀ o, h.get? a = some o → h'.get? a = some o) : ItB t h' a l k := by
  cases t
  · exact Heap.IsListIter.at x e
  · exact Heap.IsTupleIter.at x e
theorem ItB.obj {t : Bool} {h : Heap} {a l : Addr} {k : Nat} (x : ItB t h a l k) : ∃ o, h.get? a = some o ∧ ∀ v, o.data ≠ .cell v := by
  cases t <;> (obtain ⟨o, e, _, d⟩ := x; exact ⟨o, e, fun v q => by rw [d] at q; cases q⟩)
theorem itO_is {t : Bool} {h : Heap} {a l : Addr} (e : h.get? a = some (itO t l)) : ItB t h a l 0 := by
  cases t <;> exact ⟨_, e, rfl, rfl⟩
theorem sqv_get {X : Cx} {pins : List (Addr × Obj)} {σ : L2.St} {H : Hp} {s : Shared} {t : Bool} {a : Addr} {xs : List V} (I : Inv X pins σ H s) (h : SqV t X.K H a xs) : ∃ its, Vals xs its ∧ SqB t s.heap a its.toArray := by
  cases t
  · obtain ⟨its, rv, there, _⟩ := I.list h
    exact ⟨its, rv, there.isList⟩
  · obtain ⟨its, rv, there, _⟩ := I.tuple h
    exact ⟨its, rv, there⟩
theorem sqv_inj {X : Cx} {pins : List (Addr × Obj)} {σ : L2.St} {H : Hp} {s : Shared} {t : Bool} {a : Addr} {xs ys : List V} (I : Inv X pins σ H s) (h : SqV t X.K H a xs) (h' : SqV t X.K H a ys) : xs = ys := by
  cases t
  · exact I.list_inj h h'
  · exact I.tuple_inj h h'
theorem draws {prog : Program} {w : World} {A : Around} (hh : A.handled = none) (t : Bool) {it l : Addr} (ne : l ≠ it) (items : Array Value) :
    Draws prog w A it [it, l] items.size (fun i v => items[i]? = some v) (fun i h => ItB t h it l i ∧ SqB t h l items) := by
  cases t
  · exact Draws.list hh it l ne items
  · exact Draws.tuple hh it l ne items
theorem begins (t : Bool) (l : Addr) (items : Array Value) : Begins (.ref l) (itO t l) (fun h => SqB t h l items) := by
  cases t
  · exact begins_list l items
  · exact begins_tuple l items
/-- an iterator stands, made of new cells alone -/
theorem begun {X : Cx} {pins : List (Addr × Obj)} {σ : L2.St} {H : Hp} {s : Shared} {tg : Expr} {J : It} {fp : List Addr} {it : Addr} {tn : Nat → Heap → Prop} {R : It → Hp → Prop} {h' : Heap} (I : Inv X pins σ H s)
    (old : ∀ b o, s.heap.get? b = some o → h'.get? b = some o) (T : Turn X.prog X.w X.K tg J fp it tn) (st : tn 0 h') (new : ∀ b ∈ fp, s.heap.objs.size ≤ b) (q : R J H) : PIE X pins σ tg R (.ref it) { s with heap := h' } :=
  ⟨it, fp, tn, J, H, rfl, I.kept (t' := s.toks) old, T, st, fun b m => I.fpOk (new b m) (I.hok.fresh (new b m)), q⟩
/-- pairs: when there is one, of what it is, when there is none any more -/
structure Prs where
  go : Nat → Hp → Prop
  are : Nat → Hp → V → V → Prop
  stop : Nat → Hp → Prop
def Prs.it (p : Prs) : It where
  go := p.go
  yld := fun i H v H' => ∃ T x y, v = .ref T ∧ H T = none ∧ H' = upd H T (.tup [x, y]) ∧ p.are i H x y
  stop := p.stop
/-- what the iterator that stands at i over the sequences as they are now does: the library's GoesN, with what its pairs are -/
def Does (P : Program) (w : World) (X : Cx) (tg : Expr) (p : Prs) (it : Addr) (wr : List Addr) (tn : Nat → Heap → Prop) (i : Nat) (H : Hp) (s : Shared) : Prop :=
  ∃ (n : Nat) (fp : List Addr) (Y : Nat → Heap → Value → Heap → Prop) (St : Nat → Heap → Prop), GoesN P w X.A tg it fp wr n Y St ∧ St i s.heap ∧ (∀ h, St (i + 1) h → tn (i + 1) h) ∧ (p.stop i H → i = n) ∧
    (p.go i H → i < n ∧ ∀ h0 v h, Y i h0 v h → ∃ T a b x y, v = .ref T ∧ h0.objs.size ≤ T ∧ h.IsTuple T #[a, b] ∧ RelV x a ∧ RelV y b ∧ p.are i H x y)
theorem turn_prs {P : Program} {w : World} {K : PySem.W.Frag} {tg : Expr} {it : Addr} {fp wr : List Addr} {tn : Nat → Heap → Prop} (p : Prs) (mine : it ∈ fp) (hwr : ∀ b ∈ wr, b ∈ fp)
    (obj : ∀ i h, tn i h → ∀ b ∈ fp, ∃ o, h.get? b = some o ∧ ∀ v, o.data ≠ .cell v) (keep : ∀ i h h', tn i h → (∀ b ∈ fp, ∀ o, h.get? b = some o → h'.get? b = some o) → tn i h')
    (self : ∀ (A : Around) (i : Nat) (s : Shared) (Q : Value → Shared → Prop) (E : Value → Shared → Prop), tn i s.heap → Q (.ref it) s → wpAny (model P w) A (pyIter (.ref it)) Q E s)
    (does : ∀ (X : Cx), X.prog = P → X.w = w → X.K = K → X.calm = true → ∀ i pins s σ H, Inv X pins σ H s → tn i s.heap → (p.go i H ∨ p.stop i H) → Does P w X tg p it wr tn i H s) : Turn P w K tg p.it fp it tn where
  mem := mine
  obj := obj
  keep := keep
  self := self
  item := fun X e1 e2 e3 calm i pins s σ H E I free st more => by
    obtain ⟨n, fp', Y, St, W, here, next, _, far⟩ := does X e1 e2 e3 calm i pins s σ H I st (.inl more)
    obtain ⟨lt, pair⟩ := far more
    refine W.goes i s (fun u s2 => ∃ x H', Inv X pins σ H' s2 ∧ RelV x u ∧ p.it.yld i H x H' ∧ tn (i + 1) s2.heap ∧ ∀ b ∈ fp, H' b = none) E lt here fun v h' tk told st' old _ => ?_
    obtain ⟨T, a, b, x, y, rfl, new, tup, ra, rb, are⟩ := pair _ _ _ told
    refine ⟨.ref T, upd H T (.tup [x, y]), I.turnedNew (ch := wr) old (fun c m => free c (hwr c m)) new ⟨by show 2 ≤ sizeLine; decide, [a, b], .cons ra (.cons rb .nil), tup⟩, rfl, ⟨T, x, y, rfl, I.hok.fresh new, rfl, are⟩, next _ st', fun c m => ?_⟩
    obtain ⟨o, ho, _⟩ := obj i _ st c m
    exact (upd_ne (Nat.ne_of_lt (Nat.lt_of_lt_of_le (Heap.lt_size ho) new))).trans (free c m).1
  done := fun X e1 e2 e3 calm i pins s σ H E I free st none => by
    obtain ⟨n, fp', Y, St, W, here, _, last, _⟩ := does X e1 e2 e3 calm i pins s σ H I st (.inr none)
    rw [last none] at here
    exact W.stops s (fun s1 => Inv X pins σ H s1) E here fun h' tk old _ => I.turnedL (ch := wr) old fun c m => free c (hwr c m)
/-! enumerate, from k0 on -/
def PrE (t : Bool) (k0 : Int) (K : PySem.W.Frag) (a : Addr) : Prs where
  go := fun i H => ∃ xs : List V, SqV t K H a xs ∧ i < xs.length
  are := fun i H x y => x = .int (k0 + (i : Nat)) ∧ ∀ xs, SqV t K H a xs → xs[i]? = some y
  stop := fun i H => ∃ xs : List V, SqV t K H a xs ∧ i = xs.length
def TnE (t : Bool) (k0 : Int) (a e it : Addr) (i : Nat) (h : Heap) : Prop := (∃ old, IsEnum h e it (k0 + (i : Int)) old) ∧ ItB t h it a i
theorem turn_e {P : Program} {w : World} {K : PySem.W.Frag} {elts : List Expr} {kk : Nat} {tpos : Pos} {t : Bool} {k0 : Int} {a e it : Addr} (hai : a ≠ it) (hae : a ≠ e) (hei : e ≠ it) :
    Turn P w K (.Tuple elts kk tpos) (PrE t k0 K a).it [e, it] e (TnE t k0 a e it) := by
  refine turn_prs (wr := [e, it]) _ (by simp) (fun _ m => m) (fun i h st b m => ?_) (fun i h h' st k => ?_) (fun A i s Q E st q => ?_) fun X e1 e2 e3 calm i pins s σ H I st told => ?_
  · obtain ⟨⟨_, he⟩, hi⟩ := st
    rcases List.mem_cons.mp m with z | m
    · exact z ▸ ⟨_, he, fun _ q => nomatch q⟩
    · exact List.mem_singleton.mp m ▸ hi.obj
  · obtain ⟨⟨old, he⟩, hi⟩ := st
    exact ⟨⟨old, k e (by simp) _ he⟩, hi.at fun o => k it (by simp) o⟩
  · exact wpAny_pyIter_enum st.1.choose_spec q
  · subst e1 e2 e3
    obtain ⟨xs, hq⟩ : ∃ xs : List V, SqV t X.K H a xs := told.elim (fun ⟨xs, q, _⟩ => ⟨xs, q⟩) fun ⟨xs, q, _⟩ => ⟨xs, q⟩
    obtain ⟨its, rv, there⟩ := sqv_get I hq
    have many : xs.length = its.toArray.size := by rw [List.size_toArray]; exact rv.length
    have D := draws (prog := X.prog) (w := X.w) (A := X.A.in1) (I.ok.hd calm) t hai its.toArray
    refine ⟨_, _, _, _, GoesN.enumFrom k0 D e hei (by simp; exact ⟨hei, Ne.symm hae⟩) (by simp), ⟨st.1, st.2, there⟩, fun h q => ⟨q.1, q.2.1⟩, fun ⟨ys, q, n⟩ => by rw [n, sqv_inj I q hq, many], fun ⟨ys, q, n⟩ => ⟨?_, ?_⟩⟩
    · rw [sqv_inj I q hq, many] at n; exact n
    · rintro h0 v h ⟨T, tk, u, rfl, new, hu, tup⟩
      have ix : i < xs.length := by rw [← sqv_inj I q hq]; exact n
      obtain ⟨u', hu', ru⟩ := rv.get (List.getElem?_eq_getElem ix)
      have same : u' = u := Option.some.inj (hu'.symm.trans (by simpa using hu))
      exact ⟨T, _, u, .int (k0 + (i : Nat)), xs[i], rfl, new, tup, ⟨tk, rfl⟩, same ▸ ru, rfl, fun zs hz => by rw [sqv_inj I hz hq]; exact List.getElem?_eq_getElem ix⟩
theorem walk_e {t : Bool} {k0 : Int} {K : PySem.W.Frag} {a : Addr} {xs : List V} : Walk (PrE t k0 K a).it xs.length (fun H => SqV t K H a xs) (YPair (fun i => some (.int (k0 + (i : Nat)))) (fun i => xs[i]?)) where
  goes := fun i H lt q => ⟨xs, q, lt⟩
  stops := fun H q => ⟨xs, q, rfl⟩
  yields := fun i H v H' _ q ⟨T, x, y, e1, e2, e3, e4, e5⟩ => ⟨T, x, y, e1, e2, e3, by rw [e4], e5 xs q⟩
/-- the two cells of an enumerate that was made just now -/
theorem pie_e {X : Cx} {pins : List (Addr × Obj)} {σ : L2.St} {H : Hp} {s : Shared} {elts : List Expr} {kk : Nat} {tpos : Pos} {t : Bool} {k0 : Int} {a : Addr} {xs : List V} {R : It → Hp → Prop} {h' : Heap} (I : Inv X pins σ H s) (hq : SqV t X.K H a xs)
    (he : IsEnum h' (s.heap.objs.size + 1) s.heap.objs.size k0 .none) (hi : h'.get? s.heap.objs.size = some (itO t a)) (old : ∀ b o, s.heap.get? b = some o → h'.get? b = some o) (q : R (PrE t k0 X.K a).it H) :
    wpAny (model X.prog X.w) X.A (pyIter (.ref (s.heap.objs.size + 1))) (PIE X pins σ (.Tuple elts kk tpos) R) X.xe { s with heap := h' } := by
  obtain ⟨its, _, there⟩ := sqv_get I hq
  have lt := there.lt
  refine wpAny_pyIter_enum he (begun I old (turn_e (t := t) (k0 := k0) (Nat.ne_of_lt lt) (Nat.ne_of_lt (Nat.lt_succ_of_lt lt)) (Nat.succ_ne_self _)) ⟨⟨.none, ?_⟩, itO_is hi⟩ (fun b m => ?_) q)
  · show IsEnum h' _ _ (k0 + 0) _
    rw [Int.add_zero]; exact he
  · rcases List.mem_cons.mp m with z | m
    · exact z ▸ Nat.le_succ _
    · exact Nat.le_of_eq (List.mem_singleton.mp m).symm
/-- enumerate of one thing, whatever its iterator is -/
theorem made_one {v : Value} {o : Obj} {G : Heap → Prop} (B : Begins v o G) : Meets (Builtin.«enumerate.__new__» ⟨[.type "enumerate", v], []⟩) (fun _ R s => G s.heap ∧
    R (.ok (.ret (.ref (s.heap.push o).objs.size))) { s with heap := (s.heap.push o).push { cls := .type "enumerate", data := .fields #[.none, .bool false, .ref s.heap.objs.size, rawInt 0, .none, .none] } }) := .of_wp fun prog w A R ⟨hp, g, dr, tk, os⟩ ⟨stands, ends⟩ => by
  have known := sub_enumerate
  have first : ∀ {A' : Around} {E Q : Value → Shared → Prop}, Q (.ref hp.objs.size) ⟨hp.push o, g, dr, tk, os⟩ → wpAny (model prog w) A' (pyIter v) Q E ⟨hp, g, dr, tk, os⟩ := fun q => B.iter prog w _ _ ⟨hp, g, dr, tk, os⟩ _ stands q
  wp_walk using first
  refine wpAny_stack_any (fun _ => wpAny_pure ?_)
  split
  next c _ _ _ _ _ => cases (c == Value.type "enumerate") <;> (wp_walk using first; exact ⟨_, rfl, ends⟩)
  next => wp_walk using first; exact ⟨_, rfl, ends⟩
theorem call_one {prog : Program} {w : World} {A : Around} {E : Value → Shared → Prop} {s : Shared} {v : Value} {o : Obj} {G : Heap → Prop} {Q : Value → Shared → Prop} (B : Begins v o G) (stands : G s.heap)
    (then_ : ∀ h', IsEnum h' (s.heap.objs.size + 1) s.heap.objs.size 0 .none → h'.get? s.heap.objs.size = some o → (∀ b o, s.heap.get? b = some o → h'.get? b = some o) → Q (.ref (s.heap.objs.size + 1)) { s with heap := h' }) :
    wpAny (model prog w) A (call (.type "enumerate") [v]) Q E s := by
  refine callType_new F.called_enumerate (by decide) (F.typeCall_enumerate_1 _) (F.newCall_enumerate_1 _) (fun obj => F.args_object_init_2 obj _) F.entry_enumerate_new (made_one B) ⟨stands, ?_⟩
  have n1 := Heap.size_push s.heap o
  have last : IsEnum ((s.heap.push o).push { cls := .type "enumerate", data := .fields #[.none, .bool false, .ref s.heap.objs.size, rawInt 0, .none, .none] }) (s.heap.objs.size + 1) s.heap.objs.size 0 .none := n1 ▸ Heap.get?_push_size (s.heap.push o) rfl
  refine n1.symm ▸ ⟨⟨_, last, rfl⟩, then_ _ last ?_ fun b u z => ?_⟩
  · exact Heap.get?_push_of_some _ (Heap.get?_push_size _ B.free)
  · exact Heap.get?_push_of_some _ (Heap.get?_push_of_some _ z)
end PairW
namespace EnumT
open PySem PySem.Spec PyProof.Rows L2 PairW
theorem walk_enumT {K : PySem.W.Frag} {a : Addr} {xs : List V} : Walk (PrE true 0 K a).it xs.length (fun H => SqT K H a xs) (YPair (fun i => some (.int (i : Nat))) (fun i => xs[i]?)) := by
  have w := walk_e (t := true) (k0 := 0) (K := K) (a := a) (xs := xs)
  simp only [Int.zero_add] at w
  exact w
def iEnumT (K : PySem.W.Frag) (ta : TA) : TI := fun σ H R => ta σ H fun vs H1 => ∃ a xs, vs = [.ref a] ∧ SqT K H1 a xs ∧ R (PrE true 0 K a).it H1
theorem pi_enumT {X : Cx} {e : Expr} {ta : TA} {p pos tpos : Pos} {elts : List Expr} {kk : Nat} (hg : Gl X "enumerate") (hm : X.mg "enumerate" = none) (ha : PA X [e] ta)
    (hs : starEach [e] X.env = [(false, eval e X.env)] := by rfl) : PI X (.Tuple elts kk tpos) (.Call (.Name "enumerate" p) [e] [] pos) (iEnumT X.K ta) where
  run := fun pins s σ H R I h => Call_ (ld_blt I hg hm boot_enumerate (PyProof.Rows.callWith_type1 (thn (ha.run pos pins s σ H _ I h) fun us s1 ⟨vs, H1, I1, rv, a, xs, e, hq, q⟩ => by
    subst e
    obtain ⟨_, rfl, rfl⟩ := vals1 rv
    obtain ⟨its, _, there⟩ := sqv_get (t := true) I1 hq
    exact call_one (begins true a its.toArray) there fun h' he hi old => pie_e (t := true) (xs := xs) I1 hq he hi old q) hs rfl))
end EnumT
/-! ### walks over what is a list or a tuple -/
namespace SeqW
open PySem PySem.Spec PySem.Calls PyProof.Rows L2
/-- what stands at a is as it was -/
def Keeps (a : Addr) (H H' : Hp) : Prop := ∀ o, H a = some o → H' a = some o
theorem keeps_v {t : Bool} {K : PySem.W.Frag} {H H' : Hp} {a : Addr} {xs : List V} (k : Keeps a H H') (h : PairW.SqV t K H a xs) : PairW.SqV t K H' a xs := by
  cases t <;> exact h.elim (fun h => .inl (h.elim (fun h => .inl (k _ h)) fun ⟨o, h⟩ => .inr ⟨o, k _ h⟩)) .inr
theorem keeps_l {K : PySem.W.Frag} {H H' : Hp} {a : Addr} {xs : List V} (k : Keeps a H H') (h : SqL K H a xs) : SqL K H' a xs := keeps_v (t := false) k h
theorem keeps_t {K : PySem.W.Frag} {H H' : Hp} {a : Addr} {xs : List V} (k : Keeps a H H') (h : SqT K H a xs) : SqT K H' a xs := keeps_v (t := true) k h
theorem keeps_same {a : Addr} {H H' : Hp} (s : Same H H') : Keeps a H H' := fun o h => s a o h
theorem ix_seqK {X : Cx} {K : PySem.W.Frag} (h : X.K = K) : IxR X (rIx K) := by
  subst h
  exact ix_seq
def iSeq (K : PySem.W.Frag) (tl : TE) : TI := fun σ H R => tl σ H fun x H1 => ∃ a xs, x = .ref a ∧ ∃ Kp : Hp → Prop, ((∀ H', Kp H' → SqL K H' a xs) ∨ (∀ H', Kp H' → SqT K H' a xs)) ∧ Kp H1 ∧ ∀ (J : It) (G : Hp → Prop), Walk J xs.length G (YAt xs) → (∀ H', Kp H' → G H') → R J H1
theorem pi_seq {X : Cx} {tg l : Expr} {tl : TE} (hl : PE X l tl) : PI X tg l (iSeq X.K tl) where
  run := fun pins s σ H R I h => thn (hl.run pins s σ H _ I h) fun v s1 ⟨x, H1, I1, rv, a, xs, e, Kp, side, kp, q⟩ => by
    subst e
    cases rv
    have new : ∀ b ∈ [s1.heap.objs.size], s1.heap.objs.size ≤ b := fun b m => Nat.le_of_eq (List.mem_singleton.mp m).symm
    rcases side with is | is
    · obtain ⟨its, _, there, _⟩ := I1.list (is _ kp)
      exact wpAny_pyIter_list there.isList (PairW.begun I1 (fun _ _ => Heap.get?_push_of_some _) (turn_list a _) ⟨_, Heap.get?_push_size _ rfl, rfl, rfl⟩ new (q _ _ walk_list is))
    · obtain ⟨its, _, there, _⟩ := I1.tuple (is _ kp)
      exact wpAny_pyIter_tuple (show s1.heap.IsTuple a its.toArray from there) (PairW.begun I1 (fun _ _ => Heap.get?_push_of_some _) (turn_tuple a _) ⟨_, Heap.get?_push_size _ rfl, rfl, rfl⟩ new (q _ _ walk_tup is))
def iEnumA (K : PySem.W.Frag) (ta : TA) : TI := fun σ H R => ta σ H fun vs H1 => ∃ a xs, vs = [.ref a] ∧ ∃ Kp : Hp → Prop, ((∀ H', Kp H' → SqL K H' a xs) ∨ (∀ H', Kp H' → SqT K H' a xs)) ∧ Kp H1 ∧ ∀ (J : It) (G : Hp → Prop), Walk J xs.length G (YPair (fun i => some (.int (i : Nat))) (fun i => xs[i]?)) → (∀ H', Kp H' → G H') → R J H1
theorem pi_enumA {X : Cx} {e : Expr} {ta : TA} {p pos tpos : Pos} {elts : List Expr} {kk : Nat} (hg : Gl X "enumerate") (hm : X.mg "enumerate" = none) (ha : PA X [e] ta)
    (hs : starEach [e] X.env = [(false, eval e X.env)] := by rfl) : PI X (.Tuple elts kk tpos) (.Call (.Name "enumerate" p) [e] [] pos) (iEnumA X.K ta) where
  run := fun pins s σ H R I h => Call_ (ld_blt I hg hm boot_enumerate (PyProof.Rows.callWith_type1 (thn (ha.run pos pins s σ H _ I h) fun us s1 ⟨vs, H1, I1, rv, a, xs, e, Kp, side, kp, q⟩ => by
    subst e
    obtain ⟨_, rfl, rfl⟩ := vals1 rv
    have go : ∀ t : Bool, (∀ H', Kp H' → PairW.SqV t X.K H' a xs) → wpAny (model X.prog X.w) X.A (call (.type "enumerate") [.ref a]) (fun v s2 => wpAny (model X.prog X.w) X.A (pyIter v) (PIE X pins σ (.Tuple elts kk tpos) R) X.xe s2) X.xe s1 := fun t is => by
      obtain ⟨its, _, there⟩ := PairW.sqv_get I1 (is _ kp)
      have w := PairW.walk_e (t := t) (k0 := 0) (K := X.K) (a := a) (xs := xs)
      simp only [Int.zero_add] at w
      exact PairW.call_one (PairW.begins t a its.toArray) there fun h' he hi old => PairW.pie_e (xs := xs) I1 (is _ kp) he hi old (q _ _ w is)
    exact side.elim (go false) (go true)) hs rfl))
end SeqW
/-! ### len and == of an instance by its class's own methods -/
namespace OwnI
open PySem PySem.Spec PySem.Calls PyProof.Rows L2
section
variable {X : Cx} {CX : CXT} {k : Nat} {C f : Addr} {fd : FuncData} {ps : List Str} {sp : Sp} {E : XK}
theorem call_lenO (_c : Cls X.K C) (hm : Meth X.K C "__len__" f) (F : FnOk X.prog X.w X.K X.mg X.base CX0 k f fd ps sp) (hr : Room (k + 1) X.A) (hb : Binds X.K fd ps []) :
    CallR X (.builtin "len") (fun xs H Q => ∃ a dx fs, xs = [.ref a] ∧ H a = some (.ins C dx fs) ∧ sp [.ref a] H (fun v H' => ∃ n : Nat, v = .int n ∧ n ≤ sizeLine ∧ Q (.int n) H') E0) := by
  intro pins s σ H xs us Q I r h
  obtain ⟨a, dx, fs, rfl, ha, hsp⟩ := h
  obtain ⟨u, rfl, ru⟩ := vals1 r
  cases (show u = Value.ref a from ru)
  obtain ⟨mA, J, _⟩ := ins_get I.hok ha
  obtain ⟨od, J, _⟩ := J.look
  obtain ⟨m, hF⟩ := I.fr
  refine PySem.W.len_K hF I.ok.mod.kin J hm.at_ hm.fn ?_
  have hl := F.len _ _ _ _ hsp
  have r2 : Vals [V.ref a] [Value.ref a] := .cons rfl .nil
  refine wpAny_call (codeAny_mono (F.run X.A.in1 X.stack s H ⟨[.ref a], []⟩ [.ref a] [.ref a] _ E0 hr.in1 I.env0.in1 (by
    have := hb s [.ref a] I.kIn (by simpa using hl)
    simpa using this) r2 hsp) fun r s' hq => ?_)
  cases r with
  | error e => exact hq.elim
  | ok fl =>
    cases fl with
    | ret w =>
      obtain ⟨z, H', I', rz, n, ez, hn, q⟩ := I.after hq
      subst ez
      obtain ⟨t, rfl⟩ := rz
      have h63 : (n : Int) < 2 ^ 63 := by
        have : sizeLine = 16777216 := sizeLine_eq
        omega
      exact ⟨⟨Int.natCast_nonneg n, h63⟩, .int n, H', I'.tok _, ⟨_, rfl⟩, q⟩
    | next => exact False.elim hq
    | brk => exact False.elim hq
    | cont => exact False.elim hq
end
end OwnI
namespace OwnI
open PySem PySem.Spec PySem.Calls PyProof.Rows L2
theorem funD_ok {P : Program} {w : World} {K : PySem.W.Frag} {mg : Str → Option Value} {base : Heap} {x qual : Str} {params : Arguments} {body : List Stmt} {scope : Scope} {dvs : List V} {kws : List (Str × V)} {f : Addr} {fd : FuncData} {N ps : List Str} {k : Nat} {sp : Sp} (F : FunD K x qual params body scope dvs kws f fd) (S : FnScope N ps scope) (len : ∀ vs H Q E, sp vs H Q E → vs.length = ps.length)
    (hbody : ∀ (cdv : Value) (A : Around) (outer : List Env) (s : Shared) (H : Hp) (vs : List V) (Q : VK) (E : XK), Room k (A.deeper (envOfC qual scope s.heap.objs.size f cdv)) → sp vs H Q E →
      ∃ t, PSs (cxOf CX0 P w K mg base N qual scope f cdv A outer s H E).nox body t ∧ t { nx := fun _ H' => Q .non H', rt := Q } (start N vs) H) : FnOk P w K mg base CX0 (k + 1) f fd ps sp :=
  FunD.ok F S len fun cdv A outer s H vs Q E hr hsp => by
    obtain ⟨t, h, q⟩ := hbody cdv A outer s H vs Q E hr hsp
    exact ⟨t, h.nox, q⟩
end OwnI
/-! ### tuples whose object is known: their methods may be called -/
namespace OwnI
open PySem PySem.Spec PySem.Calls PyProof.Rows L2
def PlainT (o : Obj) : Prop := o.cls = .type "tuple" ∧ o.dict = none
section
variable {X : Cx}
def rTupFrz (K : PySem.W.Frag) : List V → Hp → VK → Prop := fun xs H Q => ∃ p ys, xs = [.ref p] ∧ SqL K H p ys ∧ ∀ l o, PlainT o → H l = none → Q (.ref l) (upd H l (.frz o (.tup ys)))
theorem call_tuple_frz : CallR X (.type "tuple") (rTupFrz X.K) := by
  intro pins s σ H xs us Q I r h
  obtain ⟨p, ys, rfl, hq, q⟩ := h
  obtain ⟨u, rfl, rx⟩ := vals1 r
  cases rx
  obtain ⟨its, r', pl, hz⟩ := I.list hq
  have hlen := r'.length
  refine call_tuple_list pl.isList (fun h' kp => ?_) (by simp only [List.size_toArray] <;> omega)
  have I1 : Inv X pins σ H { s with heap := h' } := I.kept (t' := s.toks) kp
  have I2 : Inv X pins σ (upd H h'.objs.size (.frz { cls := .type "tuple", data := .seq its.toArray } (.tup ys))) { s with heap := h'.push { cls := .type "tuple", data := .seq its.toArray } } :=
    I1.laid (t' := s.toks) (fun b o e => Heap.get?_push_of_some _ e) (Nat.le_refl _) (show ObjOk X.prog X.w _ _ _ (.frz _ (.tup ys)) from ⟨Heap.get?_push_size _ rfl, hz, its, r', IsTup.new _ _⟩)
  exact ⟨.ref h'.objs.size, _, I2, rfl, q _ _ ⟨rfl, rfl⟩ (I1.hok.fresh (Nat.le_refl _))⟩
def tBMF (r : V → List V → Hp → VK → Prop) (to : TE) (t : TA) : TE := fun σ H Q => to σ H fun x H1 => (∃ p o u, x = .ref p ∧ H1 p = some (.frz o u) ∧ PlainT o) ∧ t σ H1 fun xs H2 => r x xs H2 Q
variable {o e : Expr} {es : List Expr} {to : TE} {t : TA} {name : Str} {apos cpos : Pos} {id : String} {r : V → List V → Hp → VK → Prop}
theorem pe_bmF (pa : PlainAttrs "tuple") (slot : Slot "tuple" name id) (hty : typeOf (.builtin id) = pure (.type "method_descriptor")) (hm : MtR X id r) (ho : PE X o to) (ha : PA X (e :: es) t)
    (hbase : attributeBase o name X.env (eval o X.env) = eval o X.env := by rfl)
    (hfew : ((backTo cpos (starEach (e :: es) X.env)).all (fun x => !x.1) && (backToKw cpos (keywordEach [] X.env)).all (fun x => x.1.isSome)
      && decide ((e :: es).length + ([] : List Keyword).length + (if ([] : List Keyword).isEmpty then 0 else 1) < 30)) = true := by rfl)
    (hline : (apos.endLine == cpos.line) = true := by rfl) (hs : starEach (e :: es) X.env = (false, eval e X.env) :: starEach es X.env := by rfl) (hplain : (backTo cpos (starEach es X.env)).any (·.1) = false := by rfl) :
    PE X (.Call (.Attribute o name apos) (e :: es) [] cpos) (tBMF r to t) := by
  refine ⟨fun pins s σ H Q I h => ?_⟩
  refine wpAny_Call_method_late hbase hfew hline rfl (thn (ho.run pins s σ H _ I h) fun v s1 ⟨x, H1, I1, r1, ty, q1⟩ => ?_)
  obtain ⟨p, ob, u, rfl, hp, hc, hd⟩ := ty
  have ev : v = .ref p := r1
  subst ev
  have hg := (I1.hok p _ hp).1
  refine ⟨"tuple", id, pa, slot, hty, ⟨_, hg, hc⟩, (fun a e => by cases e; exact ⟨ob, hg, hd⟩), ?_⟩
  have hA := ha.run cpos pins s1 σ H1 _ I1 q1
  rw [hs] at hA ⊢
  refine Calls.callWith_builtin (by show (false || (backTo cpos (starEach es X.env)).any (·.1)) = false; rw [hplain] <;> rfl) (Calls.evalArgs_plain ?_)
  exact thn hA fun us s2 ⟨vs, H2, I2, r2, q2⟩ => hm pins s2 σ H2 _ vs _ us Q I2 r1 r2 q2
end
end OwnI
/-! ### names unpacked from a list or a tuple; comprehensions with two fors -/
namespace SeqW
open PySem PySem.Spec PySem.Calls PyProof.Rows L2
def gAny (K : PySem.W.Frag) (n : Nat) (t : TGs) : TG := fun v σ H Q => ∃ a xs, v = .ref a ∧ (SqL K H a xs ∨ SqT K H a xs) ∧ xs.length = n ∧ t xs σ H Q
theorem pg_any {X : Cx} {pos : Pos} {es : List Expr} {k : Nat} {t : TGs} {n : Nat} (hc : X.calm = true) (h : PGs X es t)
    (hn : (assignEach es X.env).length = n := by rfl) (hst : (assignEach es X.env).findIdx? (·.1) = none := by rfl) : PG X (.Tuple es k pos) (gAny X.K n t) := by
  refine ⟨fun pins s σ H v u Q I r hw => ?_⟩
  obtain ⟨a, xs, e1, hq, hl, hw⟩ := hw
  rcases hq with hq | hq
  · exact (pg_unl hc h hn hst).run pins s σ H v u Q I r ⟨a, xs, e1, hq, hl, hw⟩
  · exact (pg_tup hc h hn hst).run pins s σ H v u Q I r ⟨a, xs, e1, hq, hl, hw⟩
section
variable {J J1 : It} {n n1 : Nat} {G G1 : Hp → Prop} {Y Y1 : Nat → Hp → V → Hp → Prop} {g g1 : TG} {tt tt1 : TT} {te : TE} {wi1 : TI} {vs vs1 : List Nat} {σ σ2 : L2.St} {H1 H4 : Hp} {D : Addr} {Qd : Hp → Prop}
theorem lc2_it (w : Walk J n G Y) (Pv : Nat → Hp → Prop) (h0 : Pv 0 (upd H1 D (.lst []))) (hG : ∀ i H, i ≤ n → Pv i H → G H)
    (hs : ∀ i x H H', i < n → Pv i H → Y i H x H' → g x (wipe σ vs) H' fun σ2 H2 => wipe σ2 vs = wipe σ vs ∧ tt σ2 H2 fun b H3 =>
      if b = true then wi1 σ2 H3 fun J1 H4 => ∃ W1 : Nat → Nat → Hp → Prop, (∃ m, W1 0 m H4) ∧ ∀ j k H, W1 j k H →
      (J1.stop j H ∧ Pv (i + 1) H) ∨ (J1.go j H ∧ ∃ Nx1 : Hp → Prop, (∀ H', Nx1 H' → ∃ k', k' < k ∧ W1 (j + 1) k' H') ∧ ∀ x H', J1.yld j H x H' → g1 x (wipe σ2 vs1) H' fun σ3 H5 => wipe σ3 vs1 = wipe σ2 vs1 ∧ tt1 σ3 H5 fun b H6 =>
        if b = true then te σ3 H6 fun y H7 => ∃ acc, H7 D = some (.lst acc) ∧ acc.length < sizeLine ∧ Nx1 (upd H7 D (.lst (acc ++ [y]))) else Nx1 H6)
      else Pv (i + 1) H3) (hd : ∀ H, Pv n H → Qd H) :
    ∃ W : Nat → Nat → Hp → Prop, (∃ m, W 0 m (upd H1 D (.lst []))) ∧ ∀ i m H, W i m H →
  (J.stop i H ∧ Qd H) ∨ (J.go i H ∧ ∃ Nx : Hp → Prop, (∀ H', Nx H' → ∃ m', m' < m ∧ W (i + 1) m' H') ∧ ∀ x H', J.yld i H x H' → g x (wipe σ vs) H' fun σ2 H2 => wipe σ2 vs = wipe σ vs ∧ tt σ2 H2 fun b H3 =>
    if b = true then wi1 σ2 H3 fun J1 H4 => ∃ W1 : Nat → Nat → Hp → Prop, (∃ m, W1 0 m H4) ∧ ∀ j k H, W1 j k H →
      (J1.stop j H ∧ Nx H) ∨ (J1.go j H ∧ ∃ Nx1 : Hp → Prop, (∀ H', Nx1 H' → ∃ k', k' < k ∧ W1 (j + 1) k' H') ∧ ∀ x H', J1.yld j H x H' → g1 x (wipe σ2 vs1) H' fun σ3 H5 => wipe σ3 vs1 = wipe σ2 vs1 ∧ tt1 σ3 H5 fun b H6 =>
        if b = true then te σ3 H6 fun y H7 => ∃ acc, H7 D = some (.lst acc) ∧ acc.length < sizeLine ∧ Nx1 (upd H7 D (.lst (acc ++ [y]))) else Nx1 H6)
    else Nx H3) := by
  refine ⟨fun i m H => m = n - i ∧ i ≤ n ∧ Pv i H, ⟨n, by simp, Nat.zero_le _, h0⟩, ?_⟩
  rintro i m H ⟨rfl, hi, p⟩
  have q := hG i H hi p
  by_cases hlt : i < n
  · exact .inr ⟨w.goes i H hlt q, Pv (i + 1), fun H' p' => ⟨n - (i + 1), by omega, rfl, hlt, p'⟩, fun x H' y => hs i x H H' hlt p (w.yields i H x H' hlt q y)⟩
  · have e : i = n := by omega
    subst e
    exact .inl ⟨w.stops H q, hd H p⟩
theorem lc2_in (w : Walk J1 n1 G1 Y1) (Pv : Nat → Hp → Prop) (h0 : Pv 0 H4) (hG : ∀ i H, i ≤ n1 → Pv i H → G1 H)
    (hs : ∀ j x H H', j < n1 → Pv j H → Y1 j H x H' → g1 x (wipe σ2 vs1) H' fun σ3 H5 => wipe σ3 vs1 = wipe σ2 vs1 ∧ tt1 σ3 H5 fun b H6 =>
        if b = true then te σ3 H6 fun y H7 => ∃ acc, H7 D = some (.lst acc) ∧ acc.length < sizeLine ∧ Pv (j + 1) (upd H7 D (.lst (acc ++ [y]))) else Pv (j + 1) H6) (hd : ∀ H, Pv n1 H → Qd H) :
    ∃ W1 : Nat → Nat → Hp → Prop, (∃ m, W1 0 m H4) ∧ ∀ j k H, W1 j k H →
      (J1.stop j H ∧ Qd H) ∨ (J1.go j H ∧ ∃ Nx1 : Hp → Prop, (∀ H', Nx1 H' → ∃ k', k' < k ∧ W1 (j + 1) k' H') ∧ ∀ x H', J1.yld j H x H' → g1 x (wipe σ2 vs1) H' fun σ3 H5 => wipe σ3 vs1 = wipe σ2 vs1 ∧ tt1 σ3 H5 fun b H6 =>
        if b = true then te σ3 H6 fun y H7 => ∃ acc, H7 D = some (.lst acc) ∧ acc.length < sizeLine ∧ Nx1 (upd H7 D (.lst (acc ++ [y]))) else Nx1 H6) := by
  refine ⟨fun i m H => m = n1 - i ∧ i ≤ n1 ∧ Pv i H, ⟨n1, by simp, Nat.zero_le _, h0⟩, ?_⟩
  rintro i m H ⟨rfl, hi, p⟩
  have q := hG i H hi p
  by_cases hlt : i < n1
  · exact .inr ⟨w.goes i H hlt q, Pv (i + 1), fun H' p' => ⟨n1 - (i + 1), by omega, rfl, hlt, p'⟩, fun x H' y => hs i x H H' hlt p (w.yields i H x H' hlt q y)⟩
  · have e : i = n1 := by omega
    subst e
    exact .inl ⟨w.stops H q, hd H p⟩
end
end SeqW
namespace SeqW
open PySem PySem.Spec PySem.Calls PyProof.Rows L2
/-- xs[i], as xs[i] += e reads it -/
theorem get_list {X : Cx} : PGet X (fun x y H Q => ∃ p xs i v, x = .ref p ∧ y = .int (i : Nat) ∧ SqL X.K H p xs ∧ xs[i]? = some v ∧ Q v H) := by
  intro pins s σ H x y v u Q I rx ry h
  obtain ⟨p, xs, i, z, rfl, rfl, hq, he, q⟩ := h
  cases rx
  obtain ⟨t, rfl⟩ := ry
  obtain ⟨its, r, pl, hz⟩ := I.list hq
  obtain ⟨w, ew, rw'⟩ := r.get he
  have hl := r.length
  have hn := line63
  have hi := (List.getElem?_eq_some_iff.mp he).1
  exact wpAny_getItem_list pl.isList (Int.natCast_nonneg i) (by omega) (by rw [Int.toNat_natCast]; simpa using ew) ⟨z, H, I, rw', q⟩
end SeqW
namespace SeqW
open PySem PySem.Spec PySem.Calls PyProof.Rows L2
theorem notIn_K {X : Cx} {K : PySem.W.Frag} (h : X.K = K) : OpR X (compareOp .NotIn) (rIn K true) := by
  subst h
  exact op_notIn_seq
theorem in_K {X : Cx} {K : PySem.W.Frag} (h : X.K = K) : OpR X (compareOp .In) (rIn K false) := by
  subst h
  exact op_in_seq
end SeqW
/-! ### sorted(rows): tuples that begin with a text, rows of one text alike behind it -/
namespace SrtSP
open PySem PyProof.Rows Srt SrtO
section
variable {prog : Program} {w : World} {A : Around} {E : Value → Shared → Prop} {s : Shared}
def ltS (x y : Str) : Bool := decide (x.cps.toList < y.cps.toList)
theorem swoS {α : Type} (k : α → Str) : Swo (fun x y => ltS (k x) (k y)) where
  asym := fun x y h => decide_eq_false (List.lt_asymm (of_decide_eq_true h))
  tr := fun x y z h1 h2 => decide_eq_false (List.not_lt.mpr (List.le_trans (List.not_lt.mp (of_decide_eq_false h1)) (List.not_lt.mp (of_decide_eq_false h2))))
theorem ltS_self (x : Str) : ltS x x = false := decide_eq_false (List.lt_irrefl _)
/-- texts and references: each of them is like itself -/
def Flat (u : Value) : Prop := (∃ z t, u = .str z t) ∨ ∃ a, u = .ref a
theorem flat_eq {u : Value} {Q : Bool → Shared → Prop} (f : Flat u) (h : Q true s) : wpAny (model prog w) A (eqBool u u) Q E s := by
  rcases f with ⟨z, t, rfl⟩ | ⟨a, rfl⟩
  · refine SeqAt.EqAt.str_str z t z t prog w _ _ ?_
    rw [beq_self_eq_true z]
    exact h
  · have e : (Value.ref a == Value.ref a) = true := beq_self_eq_true _
    unfold eqBool
    exact wpAny_holding (by rw [e]; exact wpAny_bind (wpAny_rule (wpAny_pure h)))
theorem flat_lex {Q : Bool → Shared → Prop} (hq : Q false s) : ∀ (us : List Value) (i : Nat), (∀ u ∈ us, Flat u) → PySem.W.KatLex prog w A true false Q (us.zip us) i s
  | [], _, _ => PySem.W.kat_nil hq
  | u :: us, i, f => PySem.W.kat_cons (flat_eq (f u List.mem_cons_self) (PySem.W.kat_yes (flat_lex hq us (i + 1) fun v m => f v (List.mem_cons_of_mem _ m))))
/-- the tuple of the text z and of us -/
def RowAt (h : Heap) (v : Value) (z : Str) (us : List Value) : Prop := ∃ a o t n, v = .ref a ∧ h.get? a = some o ∧ o.cls = .type "tuple" ∧ o.data = .seq (Value.str z t :: us).toArray n
structure Rws (h : Heap) (vs : List Value) (k : Value → Str) (r : Value → List Value) : Prop where
  row : ∀ v ∈ vs, RowAt h v (k v) (r v)
  flat : ∀ v ∈ vs, ∀ u ∈ r v, Flat u
  one : ∀ v ∈ vs, ∀ u ∈ vs, k v = k u → r v = r u
variable {vs : List Value} {k : Value → Str} {r : Value → List Value}
theorem Rws.keeps {h h' : Heap} (R : Rws h vs k r) (keep : ∀ b o, h.get? b = some o → o.cls = .type "tuple" → h'.get? b = some o) : Rws h' vs k r where
  row := fun v m => by
    obtain ⟨a, o, t, n, e, ho, hc, hd⟩ := R.row v m
    exact ⟨a, o, t, n, e, keep _ _ ho hc, hc, hd⟩
  flat := R.flat
  one := R.one
theorem row_less {v u : Value} {x y : Str} {us vs : List Value} (h1 : RowAt s.heap v x us) (h2 : RowAt s.heap u y vs) (f : ∀ c ∈ us, Flat c) (one : x = y → us = vs) : wpAny (model prog w) A (keyLt' (tuples' true) v u) (fun z s' => s' = s ∧ z = ltS x y) (fun _ _ => False) s := by
  obtain ⟨a, o, t, n, rfl, ho, -, hd⟩ := h1
  obtain ⟨a', o', t', n', rfl, ho', -, hd'⟩ := h2
  refine PySem.W.kat_lt ho hd ho' hd' (PySem.W.kat_cons (SeqAt.EqAt.str_str x t y t' prog w _ _ ?_))
  cases e : x == y
  · exact PySem.W.kat_no (oneLt_str ⟨rfl, rfl⟩)
  · have alike := eq_of_beq e
    cases alike
    cases one rfl
    refine PySem.W.kat_yes ?_
    simp only [List.size_toArray, List.length_cons, Nat.lt_irrefl, decide_false]
    exact flat_lex ⟨rfl, (ltS_self x).symm⟩ us 1 f
theorem rows_firsts {h : Heap} : ∀ {vs : List Value}, (∀ v ∈ vs, ∃ z us, RowAt h v z us) → ∃ fs : List Value, PySem.W.KatTups h vs fs ∧ fs.length = vs.length ∧ ∀ c ∈ fs, ∃ z t, c = Value.str z t
  | [], _ => ⟨_, .nil, rfl, by simp⟩
  | v :: vs, told => by
    obtain ⟨fs, tups, same, texts⟩ := rows_firsts fun u m => told u (List.mem_cons_of_mem v m)
    obtain ⟨z, us, a, o, t, n, rfl, ho, hc, hd⟩ := told v List.mem_cons_self
    exact ⟨_, .cons ho hc hd rfl tups, congrArg Nat.succ same, fun c m => (List.mem_cons.mp m).elim (fun e => ⟨z, t, e⟩) (texts c)⟩
theorem rows_sortable {a : Addr} (some_ : 0 < vs.length) (R : Rws s.heap vs k r) (ha : ∀ o, s.heap.get? a = some o → o.cls ≠ .type "tuple") : SortableO prog w A s a vs fun v u => ltS (k v) (k u) := fun h' keep => by
  have R' : Rws h' vs k r := R.keeps fun b o e c => keep b o (fun z => ha o (z ▸ e) c) e
  obtain ⟨fs, tups, same, texts⟩ := rows_firsts fun v m => ⟨_, _, R'.row v m⟩
  refine ⟨tuples' true, fun Q E hq => PySem.W.kat_kind (T := .type "str") tups (by omega) (fun c m => ?_) (by rfl) ?_, fun p q mp mq => row_less (R'.row _ mp) (R'.row _ mq) (R'.flat _ mp) (R'.one _ mp _ mq)⟩
  · obtain ⟨z, t, rfl⟩ := texts c m
    exact PySem.W.Looks.now
  · have e : (Value.type "str" != Value.type "tuple") = true := by first | decide +kernel | rfl | decide
    exact e ▸ hq
theorem sorted_rows {l : Addr} {Q : Value → Shared → Prop} (hl : s.heap.IsList l vs.toArray) (hz : vs.length ≤ sizeLine) (R : Rws s.heap vs k r)
    (done : ∀ (h' : Heap) (d : Addr) (out : List Value), Srtd (fun v u => ltS (k v) (k u)) out → Stb (fun v u => ltS (k v) (k u)) out vs → (∀ b o, s.heap.get? b = some o → h'.get? b = some o) → s.heap.objs.size ≤ d → (∃ n, h'.get? d = some (seqObj "list" out.toArray n)) → Q (.ref d) { s with heap := h' }) :
    wpAny (model prog w) A (call (.builtin "sorted") [.ref l]) Q E s := by
  refine sorted_ord (swoS k) hl hz (fun two h₁ a at_ keep => rows_sortable (r := r) (s := { s with heap := h₁ }) (by omega) (R.keeps fun b o e _ => (keep b o e).2) fun o e c => ?_) fun out hs hb => done _ _ out hs hb (fun _ _ => sortedAll_old) (Nat.le_succ _) (sortedAll_at s.heap vs out.toArray)
  cases (e.symm.trans at_ : some o = some (seqObj "list" vs.toArray 0))
  exact absurd (Value.type.inj c) (by decide)
end
/-- what stands behind the first thing of the tuple at v -/
def restOf (h : Heap) (v : Value) : List Value := match v with
  | .ref a => match h.get? a with
    | some o => match o.data with
      | .seq its _ => its.toList.tail
      | _ => []
    | none => []
  | _ => []
theorem restOf_at {h : Heap} {a : Addr} {o : Obj} {c : Value} {us : List Value} {n : Nat} (ho : h.get? a = some o) (hd : o.data = .seq (c :: us).toArray n) : restOf h (.ref a) = us := by simp [restOf, ho, hd]
end SrtSP
namespace L2
open PySem PySem.Spec PyProof.Rows
def FlatV (y : V) : Prop := (∃ z, y = V.str z) ∨ ∃ a, y = V.ref a
theorem vals_flat {ys : List V} {us : List Value} (r : Vals ys us) (f : ∀ y ∈ ys, FlatV y) : ∀ u ∈ us, SrtSP.Flat u := by
  induction r with
  | nil => simp
  | @cons y u ys us here _ ih =>
    intro c m
    rcases List.mem_cons.mp m with e | m
    · subst e
      rcases f y List.mem_cons_self with ⟨z, e⟩ | ⟨a, e⟩ <;> subst e
      · obtain ⟨t, e⟩ := here
        exact .inl ⟨z, t, e⟩
      · exact .inr ⟨a, here⟩
    · exact ih (fun y m => f y (List.mem_cons_of_mem _ m)) c m
/-- sorted of rows in our own heap: k tells the text that each begins with, g what stands behind it -/
theorem sorted_by {X : Cx} {pins : List (Addr × Obj)} {σ : St} {H : Hp} {s : Shared} {a : Addr} {xs : List V} {k : V → Str} {g : V → List V} {Q : VK} (I : Inv X pins σ H s) (hs : SqL X.K H a xs)
    (row : ∀ x ∈ xs, ∃ t, x = V.ref t ∧ H t = some (.tup (V.str (k x) :: g x))) (flat : ∀ x ∈ xs, ∀ y ∈ g x, FlatV y) (one : ∀ x ∈ xs, ∀ y ∈ xs, k x = k y → x = y ∨ ∃ b, g x = [.ref b] ∧ g y = [.ref b])
    (q : ∀ ys p, SrtO.Srtd (fun x y => SrtSP.ltS (k x) (k y)) ys → ys.Perm xs → H p = none → Q (.ref p) (upd H p (.lst ys))) : wpAny (model X.prog X.w) X.A (call (.builtin "sorted") [.ref a]) (EP X pins σ Q) X.xe s := by
  obtain ⟨its, rv, there, small⟩ := I.list hs
  obtain ⟨back, refs⟩ := refs_back rv fun x m => (row x m).imp fun _ p => p.1
  have mem : ∀ v ∈ its, backV v ∈ xs := fun v m => back ▸ List.mem_map_of_mem m
  have at_ : ∀ v ∈ its, ∃ c o t us n, v = Value.ref c ∧ backV v = V.ref c ∧ s.heap.get? c = some o ∧ o.cls = .type "tuple" ∧ o.data = .seq (Value.str (k (backV v)) t :: us).toArray n ∧ Vals (g (backV v)) us ∧ SrtSP.restOf s.heap v = us := fun v m => by
    obtain ⟨c, e⟩ := refs v m
    subst e
    obtain ⟨t, e, told⟩ := row _ (mem _ m)
    cases e
    obtain ⟨_, all, rr, o, ho, hc, n, hd⟩ := I.hok _ _ told
    cases (show Vals (V.str _ :: g _) all from rr) with
    | cons r1 rs =>
      obtain ⟨tk, e⟩ := r1
      subst e
      exact ⟨c, o, tk, _, n, rfl, rfl, ho, hc, hd, rs, SrtSP.restOf_at ho hd⟩
  refine SrtSP.sorted_rows (k := fun v => k (backV v)) (r := SrtSP.restOf s.heap) there.isList (rv.length ▸ small) ⟨fun v m => ?_, fun v m => ?_, fun v m u m' e => ?_⟩ fun h' d out srt stb old new made => ?_
  · obtain ⟨c, o, t, us, n, e, _, ho, hc, hd, _, er⟩ := at_ v m
    exact ⟨c, o, t, n, e, ho, hc, er ▸ hd⟩
  · obtain ⟨c, o, t, us, n, _, _, _, _, _, rs, er⟩ := at_ v m
    exact er ▸ vals_flat rs (flat _ (mem v m))
  · obtain ⟨c, _, _, us, _, e1, b1, _, _, _, r1, er1⟩ := at_ v m
    obtain ⟨c', _, _, us', _, e2, b2, _, _, _, r2, er2⟩ := at_ u m'
    rcases one _ (mem v m) _ (mem u m') e with z | ⟨b, z1, z2⟩
    · rw [b1, b2] at z
      cases z
      rw [e1, e2]
    · rw [z1] at r1
      rw [z2] at r2
      obtain ⟨_, w1, x1⟩ := vals1 r1
      obtain ⟨_, w2, x2⟩ := vals1 r2
      rw [er1, er2, w1, w2, x1, x2]
  · obtain ⟨n, hn⟩ := made
    have prm : (out.map backV).Perm xs := back ▸ stb.perm.map backV
    exact ⟨.ref d, upd H d (.lst (out.map backV)), I.laid (t' := s.toks) old new ⟨prm.length_eq ▸ small, out, n, vals_back fun u m => refs u (stb.perm.mem_iff.mp m), hn⟩, rfl, q _ d (List.pairwise_map.mpr srt) prm (I.hok.fresh new)⟩
/-- rows of a text and something else: g where it stands -/
def rSortedSP (K : PySem.W.Frag) : List V → Hp → VK → Prop := fun vs H Q => ∃ (a : Addr) (xs : List V) (k : V → Str) (g : V → Addr), vs = [V.ref a] ∧ SqL K H a xs ∧ (∀ x ∈ xs, ∃ t, x = V.ref t ∧ H t = some (.tup [.str (k x), .ref (g x)])) ∧ (∀ x ∈ xs, ∀ y ∈ xs, k x = k y → g x = g y) ∧
  ∀ ys p, SrtO.Srtd (fun x y => SrtSP.ltS (k x) (k y)) ys → ys.Perm xs → H p = none → Q (.ref p) (upd H p (.lst ys))
theorem cr_sortedSP {X : Cx} : CallR X (.builtin "sorted") (rSortedSP X.K) := fun _ _ _ _ _ _ _ I rv ⟨_, xs, k, g, e, hs, row, one, q⟩ => by
  subst e
  obtain ⟨_, rfl, rfl⟩ := vals1 rv
  exact sorted_by (g := fun x => [.ref (g x)]) I hs row (fun x _ y m => .inr ⟨_, List.mem_singleton.mp m⟩) (fun x m y m' e => .inr ⟨g x, rfl, by rw [one x m y m' e]⟩) q
end L2
/-! ### slices and counts of what is a list or a tuple -/
namespace OwnI
open PySem PySem.Spec PySem.Calls PyProof.Rows L2
/-- a list, or a tuple whose object is known -/
def Cnt (K : PySem.W.Frag) (H : Hp) (p : Addr) (ys : List V) : Prop := SqL K H p ys ∨ ∃ o, H p = some (.frz o (.tup ys)) ∧ PlainT o
theorem Cnt.same {K : PySem.W.Frag} {H H' : Hp} {p : Addr} {ys : List V} (h : Cnt K H p ys) (s : Same H H') : Cnt K H' p ys := h.elim (fun h => .inl (s.seq h)) (fun ⟨o, h1, h2⟩ => .inr ⟨o, s _ _ h1, h2⟩)
section
variable {X : Cx}
/-- xs[lo:hi], not the whole of a tuple -/
def rSlC (K : PySem.W.Frag) : V → Option Int → Option Int → Hp → VK → Prop := fun x lo hi H Q => ∃ a xs, x = .ref a ∧ ((SqL K H a xs ∧ ∀ p, H p = none → Q (.ref p) (upd H p (.lst (cutV xs lo hi)))) ∨
  (SqT K H a xs ∧ ¬ (HT.sIx xs.length 0 lo = 0 ∧ HT.sIx xs.length xs.length hi = xs.length) ∧ ∀ p o, PlainT o → H p = none → Q (.ref p) (upd H p (.frz o (.tup (cutV xs lo hi))))))
theorem sl_cnt : SlR X (rSlC X.K) := by
  intro pins s σ H x v vl vu lo hi sl Q I rx hs pl pu h
  obtain ⟨a, xs, rfl, h⟩ := h
  rcases h with ⟨hx, q⟩ | ⟨hx, hw, q⟩
  · exact sl_list pins s σ H _ v vl vu lo hi sl Q I rx hs pl pu ⟨a, xs, rfl, hx, q⟩
  · cases rx
    obtain ⟨its, r, ht, hz⟩ := I.tuple hx
    have hlen : its.toArray.size = xs.length := by rw [List.size_toArray]; exact r.length.symm
    refine ⟨"tuple", _, PyProof.Rows.slot_tuple_getitem.lookup, ht.typeIs, ?_⟩
    refine HT.getItem_tuple_cut ht hs pl pu (by rw [hlen]; exact hw) ?_ (by rw [hlen]; exact hz)
    rw [hlen]
    refine ⟨.ref s.heap.objs.size, _, I.laid (t' := s.toks) (o := .frz { cls := .type "tuple", data := .seq (((its.drop (HT.sIx xs.length 0 lo)).take (HT.sIx xs.length xs.length hi - HT.sIx xs.length 0 lo))).toArray } (.tup (cutV xs lo hi))) (fun b ob q => Heap.get?_push_of_some _ q) (Nat.le_refl _) ?_, rfl, q _ _ ⟨rfl, rfl⟩ (I.hok.fresh (Nat.le_refl _))⟩
    exact ⟨Heap.get?_push_size _ rfl, Nat.le_trans (cutV_length xs lo hi) hz, _, (r.drop (HT.sIx xs.length 0 lo)).take (HT.sIx xs.length xs.length hi - HT.sIx xs.length 0 lo), IsTup.new _ _⟩
theorem count_valsO {y : V} : ∀ {ys : List V} {us : List Value}, Vals ys us → ys.all flatV = true → us.countP (eqU y) = ys.countP (fun z => eqV z y)
  | _, _, .nil, _ => rfl
  | _, _, .cons r rs, h => by
    rw [List.all_cons] at h
    obtain ⟨h1, h2⟩ := Bool.and_eq_true_iff.mp h
    rw [List.countP_cons, List.countP_cons, count_valsO rs h2, eqU_of r h1]
def endC (ys : List V) (Q : VK) (S : Hp → Prop) : List V → Hp → Prop := fun vs H2 => ∃ y, vs = [y] ∧ S H2 ∧ flatV y = true ∧ ys.all flatV = true ∧ Q (.int (ys.countP (fun z => eqV z y) : Nat)) H2
def tCnt (K : PySem.W.Frag) (to : TE) (t : TA) : TE := fun σ H Q => to σ H fun x H1 => ∃ p ys, x = .ref p ∧ ((SqL K H1 p ys ∧ t σ H1 (endC ys Q fun H2 => SqL K H2 p ys)) ∨ ((∃ o, H1 p = some (.frz o (.tup ys)) ∧ PlainT o) ∧ t σ H1 (endC ys Q fun H2 => SqT K H2 p ys)))
variable {o e : Expr} {to : TE} {t : TA} {apos cpos : Pos} {name : Str}
/-- xs.count(e) -/
theorem pe_cnt {K : PySem.W.Frag} (hK : X.K = K) (ho : PE X o to) (ha : PA X [e] t)
    (hbase : attributeBase o name X.env (eval o X.env) = eval o X.env := by rfl) (hname : name = "count" := by rfl)
    (hfew : ((backTo cpos (starEach [e] X.env)).all (fun x => !x.1) && (backToKw cpos (keywordEach [] X.env)).all (fun x => x.1.isSome)
      && decide (([e] : List Expr).length + ([] : List Keyword).length + (if ([] : List Keyword).isEmpty then 0 else 1) < 30)) = true := by rfl)
    (hline : (apos.endLine == cpos.line) = true := by rfl) (hs : starEach [e] X.env = (false, eval e X.env) :: starEach [] X.env := by rfl) (hplain : (backTo cpos (starEach [] X.env)).any (·.1) = false := by rfl) :
    PE X (.Call (.Attribute o name apos) [e] [] cpos) (tCnt K to t) := by
  subst hname hK
  refine ⟨fun pins s σ H Q I h => ?_⟩
  refine wpAny_Call_method_late hbase hfew hline rfl (thn (ho.run pins s σ H _ I h) fun v s1 ⟨x, H1, I1, r1, q1⟩ => ?_)
  obtain ⟨p, ys, rfl, hc⟩ := q1
  have ev : v = .ref p := r1
  subst ev
  rcases hc with ⟨hq, q1⟩ | ⟨⟨ob, hq, hc1, hd1⟩, q1⟩
  · have hA := ha.run cpos pins s1 σ H1 _ I1 q1
    obtain ⟨h1, h2⟩ := tyV_is (T := "list") I1 (show RelV (.ref p) (.ref p) from rfl) (.inl ⟨rfl, ys, hq⟩)
    refine ⟨"list", "list.count", PySem.F.plainAttrs_list, PySem.F.slot_list_count, PySem.F.type_list_count, h1, h2, ?_⟩
    rw [hs] at hA ⊢
    refine Calls.callWith_builtin (by show (false || (backTo cpos (starEach [] X.env)).any (·.1)) = false; rw [hplain] <;> rfl) (Calls.evalArgs_plain ?_)
    refine thn hA fun us s2 ⟨vs, H2, I2, r2, q2⟩ => ?_
    obtain ⟨y, rfl, hs2, fy, fys, q⟩ := q2
    obtain ⟨u, rfl, ru⟩ := r2.one
    obtain ⟨its, rv, ⟨⟨cls, dd, data, sl⟩, n, ho, hc, hdn, hd⟩, hlen⟩ := I2.list hs2
    simp only at hc hd
    subst hc hd
    refine call_meets PySem.F.slot_list_count ⟨_, ho, rfl⟩ PySem.F.entry_list_count (PySem.F.args_list_count_2 _ _) (SeqAt.list_countAt p its.toArray n dd sl u (eqU y)) ⟨ho, fun z hz => mem_eqAt ru fy rv fys z (by simpa using hz), ?_⟩
    refine ⟨.int (ys.countP (fun z => eqV z y) : Nat), H2, I2.tok _, ⟨s2.toks, ?_⟩, q⟩
    show Value.int ((its.toArray.toList.countP (eqU y) : Nat) : Int) s2.toks = _
    rw [show its.toArray.toList = its from rfl, count_valsO rv fys]
  · have hA := ha.run cpos pins s1 σ H1 _ I1 q1
    have hg := (I1.hok p _ hq).1
    refine ⟨"tuple", "tuple.count", PySem.F.plainAttrs_tuple, PySem.F.slot_tuple_count, PySem.F.type_tuple_count, ⟨_, hg, hc1⟩, (fun a e => by cases e; exact ⟨ob, hg, hd1⟩), ?_⟩
    rw [hs] at hA ⊢
    refine Calls.callWith_builtin (by show (false || (backTo cpos (starEach [] X.env)).any (·.1)) = false; rw [hplain] <;> rfl) (Calls.evalArgs_plain ?_)
    refine thn hA fun us s2 ⟨vs, H2, I2, r2, q2⟩ => ?_
    obtain ⟨y, rfl, hs2, fy, fys, q⟩ := q2
    obtain ⟨u, rfl, ru⟩ := r2.one
    obtain ⟨its, rv, pl, hz⟩ := I2.tuple hs2
    obtain ⟨⟨cls, dd, data, sl⟩, ho, hc, n, hd⟩ := pl
    simp only at hc hd
    subst hc hd
    refine call_meets PySem.F.slot_tuple_count ⟨_, ho, rfl⟩ PySem.F.entry_tuple_count (PySem.F.args_tuple_count_2 _ _) (SeqAt.tuple_countAt p its.toArray n dd sl u (eqU y)) ⟨ho, fun z hz => mem_eqAt ru fy rv fys z (by simpa using hz), ?_⟩
    refine ⟨.int (ys.countP (fun z => eqV z y) : Nat), H2, I2.tok _, ⟨s2.toks, ?_⟩, q⟩
    show Value.int ((its.toArray.toList.countP (eqU y) : Nat) : Int) s2.toks = _
    rw [show its.toArray.toList = its from rfl, count_valsO rv fys]
end
end OwnI
/-! ### zip of what are lists or tuples, each for itself -/
namespace ZipG
open PySem PySem.Spec PyProof.Rows L2
abbrev SqV := @PairW.SqV
def PrZ (t1 t2 : Bool) (K : PySem.W.Frag) (a b : Addr) : PairW.Prs where
  go := fun i H => ∃ xs ys : List V, SqV t1 K H a xs ∧ SqV t2 K H b ys ∧ i < min xs.length ys.length
  are := fun i H x y => (∀ xs, SqV t1 K H a xs → xs[i]? = some x) ∧ ∀ ys, SqV t2 K H b ys → ys[i]? = some y
  stop := fun i H => ∃ xs ys : List V, SqV t1 K H a xs ∧ SqV t2 K H b ys ∧ i = min xs.length ys.length
def TnZ (t1 t2 : Bool) (a b z TI TO i1 i2 : Addr) (i : Nat) (h : Heap) : Prop :=
  IsZip h z TI TO .none ∧ IsTupOf2 h TI (.ref i1) (.ref i2) ∧ (∃ x y, IsTupOf2 h TO x y) ∧ PairW.ItB t1 h i1 a i ∧ PairW.ItB t2 h i2 b i
theorem turn_z {P : Program} {w : World} {K : PySem.W.Frag} {elts : List Expr} {kk : Nat} {tpos : Pos} {t1 t2 : Bool} {a b z TI TO i1 i2 : Addr} (S : ZipSep2 z TI TO i1 i2 [i1, a] [i2, b]) (ha : a ≠ i1) (hb : b ≠ i2) :
    Turn P w K (.Tuple elts kk tpos) (PrZ t1 t2 K a b).it [z, TI, TO, i1, i2] z (TnZ t1 t2 a b z TI TO i1 i2) := by
  refine PairW.turn_prs (wr := [z, TO, i1, i2]) _ (by simp) (fun c m => ?_) (fun i h st c m => ?_) (fun i h h' st k => ?_) (fun A i s Q E st q => wpAny_pyIter_zip st.1 q) fun X e1 e2 e3 calm i pins s σ H I st told => ?_
  · simp only [List.mem_cons, List.not_mem_nil, or_false] at m ⊢
    rcases m with q | q | q | q <;> simp [q]
  · obtain ⟨hz, hI, ⟨x, y, hO⟩, g1, g2⟩ := st
    simp only [List.mem_cons, List.not_mem_nil, or_false] at m
    rcases m with q | q | q | q | q <;> subst q
    · exact ⟨_, hz, fun _ q => nomatch q⟩
    · exact ⟨_, hI, fun _ q => nomatch q⟩
    · exact ⟨_, hO, fun _ q => nomatch q⟩
    · exact g1.obj
    · exact g2.obj
  · obtain ⟨hz, hI, ⟨x, y, hO⟩, g1, g2⟩ := st
    exact ⟨k _ (by simp) _ hz, k _ (by simp) _ hI, ⟨x, y, k _ (by simp) _ hO⟩, g1.at fun o => k _ (by simp) o, g2.at fun o => k _ (by simp) o⟩
  · subst e1 e2 e3
    obtain ⟨xs, ys, hx, hy⟩ : ∃ xs ys : List V, SqV t1 X.K H a xs ∧ SqV t2 X.K H b ys := told.elim (fun ⟨xs, ys, p, q, _⟩ => ⟨xs, ys, p, q⟩) fun ⟨xs, ys, p, q, _⟩ => ⟨xs, ys, p, q⟩
    obtain ⟨its1, r1, th1⟩ := PairW.sqv_get I hx
    obtain ⟨its2, r2, th2⟩ := PairW.sqv_get I hy
    have many : min xs.length ys.length = min its1.toArray.size its2.toArray.size := by simp only [List.size_toArray]; rw [r1.length, r2.length]
    obtain ⟨hz, hI, hO, g1, g2⟩ := st
    have D1 := PairW.draws (prog := X.prog) (w := X.w) (A := X.A.in1) (I.ok.hd calm) t1 ha its1.toArray
    have D2 := PairW.draws (prog := X.prog) (w := X.w) (A := X.A.in1) (I.ok.hd calm) t2 hb its2.toArray
    refine ⟨_, _, _, _, GoesN.zip2 S D1 D2, ⟨hz, hI, hO, ⟨g1, th1⟩, ⟨g2, th2⟩⟩, fun h ⟨n1, n2, n3, n4, n5⟩ => ⟨n1, n2, n3, n4.1, n5.1⟩, ?_, ?_⟩
    · rintro ⟨xs', ys', p, q, n⟩
      rw [n, PairW.sqv_inj I p hx, PairW.sqv_inj I q hy, many]
    · rintro ⟨xs', ys', p, q, n⟩
      rw [PairW.sqv_inj I p hx, PairW.sqv_inj I q hy] at n
      refine ⟨many ▸ n, ?_⟩
      rintro h0 v h ⟨T, u1, u2, rfl, new, hu1, hu2, tup⟩
      have l1 : i < xs.length := by omega
      have l2 : i < ys.length := by omega
      obtain ⟨w1, hw1, rr1⟩ := r1.get (List.getElem?_eq_getElem l1)
      obtain ⟨w2, hw2, rr2⟩ := r2.get (List.getElem?_eq_getElem l2)
      have s1 : w1 = u1 := Option.some.inj (hw1.symm.trans (by simpa using hu1))
      have s2 : w2 = u2 := Option.some.inj (hw2.symm.trans (by simpa using hu2))
      exact ⟨T, u1, u2, xs[i], ys[i], rfl, new, tup, s1 ▸ rr1, s2 ▸ rr2, fun zs hz => by rw [PairW.sqv_inj I hz hx]; exact List.getElem?_eq_getElem l1, fun zs hz => by rw [PairW.sqv_inj I hz hy]; exact List.getElem?_eq_getElem l2⟩
def iZipG (K : PySem.W.Frag) (ta : TA) : TI := fun σ H R => ta σ H fun vs H1 => ∃ a b xs ys, vs = [.ref a, .ref b] ∧ ∃ (t1 t2 : Bool), SqV t1 K H1 a xs ∧ SqV t2 K H1 b ys ∧ R (PrZ t1 t2 K a b).it H1
theorem pi_zipG {X : Cx} {e e2 : Expr} {ta : TA} {p pos tpos : Pos} {elts : List Expr} {kk : Nat} (hg : Gl X "zip") (hm : X.mg "zip" = none) (ha : PA X [e, e2] ta)
    (hs : (starEach [e, e2] X.env = (false, eval e X.env) :: starEach [e2] X.env) := by rfl) (hpl : (backTo pos (starEach [e2] X.env)).any (·.1) = false := by rfl) :
    PI X (.Tuple elts kk tpos) (.Call (.Name "zip" p) [e, e2] [] pos) (iZipG X.K ta) where
  run := fun pins s σ H R I h => Call_ (ld_blt I hg hm PyProof.Rows.boot_zip (PyProof.Rows.callWith_type1 (thn (ha.run pos pins s σ H _ I h) fun us s1 ⟨vs, H1, I1, rv, a, b, xs, ys, ev, t1, t2, hx, hy, q⟩ => by
    subst ev
    obtain ⟨_, _, rfl, ru1, ru2⟩ := vals2 rv
    cases ru1
    cases ru2
    obtain ⟨its1, _, th1⟩ := PairW.sqv_get I1 hx
    obtain ⟨its2, _, th2⟩ := PairW.sqv_get I1 hy
    have below : ∀ {c d : Addr}, c < s1.heap.objs.size → d ∈ [c] → d < s1.heap.objs.size := fun l m => List.mem_singleton.mp m ▸ l
    refine zip_begins2 (PairW.begins t1 a its1.toArray) (PairW.begins t2 b its2.toArray) th1 th2 fun h' hz hI hO h1 h2 _ old => wpAny_pyIter_zip hz ?_
    refine PairW.begun I1 old (turn_z (zip_sep2 (fp1 := [a]) (fp2 := [b]) (fun _ => below th1.lt) fun _ => below th2.lt) (Nat.ne_of_lt th1.lt) (Nat.ne_of_lt (Nat.lt_succ_of_lt th2.lt))) ⟨hz, hI, ⟨_, _, hO⟩, PairW.itO_is h1, PairW.itO_is h2⟩ (fun c m => ?_) q
    simp only [List.mem_cons, List.not_mem_nil, or_false] at m
    rcases m with z | z | z | z | z <;> subst z <;> omega) hs hpl))
theorem walk_zipG {t1 t2 : Bool} {K : PySem.W.Frag} {a b : Addr} {xs ys : List V} {n : Nat} (hn : n = min xs.length ys.length) : Walk (PrZ t1 t2 K a b).it n (fun H => SqV t1 K H a xs ∧ SqV t2 K H b ys) (YPair (fun i => xs[i]?) (fun i => ys[i]?)) where
  goes := fun i H lt ⟨p, q⟩ => ⟨xs, ys, p, q, hn ▸ lt⟩
  stops := fun H ⟨p, q⟩ => ⟨xs, ys, p, q, hn⟩
  yields := fun i H v H' _ ⟨p, q⟩ ⟨T, x, y, e1, e2, e3, e4, e5⟩ => ⟨T, x, y, e1, e2, e3, e4 xs p, e5 ys q⟩
end ZipG
/-! ### a clause 'except C as n' whose suite raises; a tuple unpacked while an exception is handled -/
namespace HotAs
open PySem PySem.Spec PyProof.Rows L2 HotX L2H
/-! #### unpacking: the iterator's end is raised while another exception is handled -/
section
variable {P : Program} {w : World} {A : Around} {px : Addr} {g : Shared}
theorem stop_raised {α : Type} {h0 : Heap} {Q : α → Shared → Prop} {E : Value → Shared → Prop} (hot : HotAt A px h0) (eh : g.heap = h0)
    (out : ∀ (hp : Heap) (e : Addr), (∀ b o, h0.get? b = some o → hp.get? b = some o) → Shared.TypeIs { g with heap := hp } (.ref e) "StopIteration" → E (.ref e) { g with heap := hp }) :
    wpAny (model P w) A (newExc (.type "StopIteration") [] >>= fun e => (raiseNew e : Sem α)) Q E g := by
  subst eh
  obtain ⟨hd, po, pf, pg, pd, pc⟩ := hot
  refine wpAny_bind ?_
  simp only [newExc, newTuple]
  refine wpAny_bind (wpAny_newObj_type (wpAny_bind (m := firstArgMember _ _) (wpAny_of_eq (a := Value.none) (by first | rfl | (simp only [firstArgMember]; rfl)) (wpAny_newObj_type ?_ (by size_fits)))) (by size_fits))
  have one : ∀ {b : Addr} {o : Obj}, g.heap.get? b = some o → (g.heap.push { cls := .type "tuple", data := .seq #[] }).get? b = some o := fun e => Heap.get?_push_of_some _ e
  refine raiseNew_hot ⟨hd, po, pf, Heap.get?_push_of_some _ (one pg), pd, pc⟩ (Nat.ne_of_lt (Heap.lt_size (one pg))) (Heap.get?_push_size _ rfl) rfl (by first | (simp; done) | (simp; omega) | (simp only [Array.size_append]; simp; omega)) ?_
  exact out _ _ (fun b o e => (Heap.get?_update_other _ _ (Nat.ne_of_gt (Heap.lt_size (one e)))).trans (Heap.get?_push_of_some _ (one e))) ⟨_, Heap.get?_update_self _ (Heap.get?_push_size _ rfl) rfl, rfl⟩
theorem next_ends {Q : Option Value → Shared → Prop} {E : Value → Shared → Prop} {ia ta : Addr} {j : Nat} {xs : Array Value} (hot : HotAt A px g.heap) (ii : IsTupIter g.heap ia ta j) (it : IsTup g.heap ta xs) (no : xs[j]? = none) (ne : px ≠ ia)
    (q : ∀ hp, Heap.ExtBut ia g.heap hp → Q none { g with heap := hp }) : wpAny (model P w) A (pyNext (.ref ia)) Q E g := by
  obtain ⟨io, ig, _, idt⟩ := id ii
  obtain ⟨tobj, tg, _, tn, td⟩ := it
  have pin : HotAt A px (g.heap.update ia (Obj.mapFields (·.setIfInBounds 0 Value.none))) := by
    obtain ⟨z1, z2, z3, z4, z5⟩ := hot
    exact ⟨z1, z2, z3, (Heap.get?_update_other _ _ (Ne.symm ne)).trans z4, z5⟩
  unfold pyNext
  refine wpAny_bind (wpAny_attempt (wpAny_callSpecial?_slot (name := Str.ofString "__next__") ii.typeIs slot_tupleiter_next (wpAny_call_entry slot_tupleiter_next ii.typeIs entry_tupleiter_next ?_ (args_tupleiter_next _))))
  show wpAny _ _ (field (.ref ia) 0 >>= _) _ _ g
  refine wpAny_bind (wpAny_field ig idt (x := .ref ta) rfl ?_)
  show wpAny _ _ (if (Value.ref ta == Value.none) = true then _ else _) _ _ g
  refine (if_neg (show ¬ (Value.ref ta == Value.none) = true from fun z => Bool.noConfusion z)).symm ▸ ?_
  show wpAny _ _ (field (.ref ia) 1 >>= _) _ _ g
  refine wpAny_bind (wpAny_field ig idt (x := .int j 0) rfl ?_)
  show wpAny _ _ (seqItems? (.ref ta) >>= _) _ _ g
  refine wpAny_bind (wpAny_seqItems tg td ?_)
  simp only [no, Int.toNat_natCast]
  refine wpAny_bind (wpAny_rule (wpAny_bind (wpAny_setField ig idt (by simp) ?_)))
  refine stop_raised (h0 := g.heap.update ia (Obj.mapFields (·.setIfInBounds 0 Value.none))) pin rfl fun hp e keep ty => ?_
  exact wpAny_bind (wpAny_isInstance (T := "StopIteration") (b := true) ty isSubtype_stop (wpAny_pure (q hp fun b o hb z => keep b o ((Heap.get?_update_other _ _ (Ne.symm hb)).trans z))))
theorem items_of {Q : List Value → Shared → Prop} {E : Value → Shared → Prop} {ta : Addr} {xs : Array Value} (hot : HotAt A px g.heap) (it : IsTup g.heap ta xs) (q : ∀ hp, Heap.ExtBut g.heap.objs.size g.heap hp → Q xs.toList { g with heap := hp }) :
    wpAny (model P w) A (unpackItems (.ref ta) xs.size none) Q E g := by
  obtain ⟨z1, z2, z3, z4, z5⟩ := hot
  have lp := Nat.ne_of_lt (Heap.lt_size z4)
  have lt : ta ≠ g.heap.objs.size := let ⟨_, e, _⟩ := it; Nat.ne_of_lt (Heap.lt_size e)
  unfold unpackItems notIterableAtAll
  refine wpAny_bind (wpAny_bind (wpAny_specialOf it.typeIs slot_tuple_iter.lookup (wpAny_pure ?_)))
  simp only [Bool.false_eq_true, ite_false]
  refine wpAny_bind (wpAny_holding (iter_tuple it (wpAny_bind (wpAny_holding (draw_tuple lt xs.size 0 _ _ ⟨_, Heap.get?_push_size _ rfl, rfl, rfl⟩ (it.push _) (Nat.le_of_eq (Nat.zero_add _)) fun h1 i1 s1 => ?_)))))
  have all : (xs.toList.drop 0).take xs.size = xs.toList := List.take_of_length_le (Nat.le_of_eq (by simp))
  rw [all, if_neg (by simp)]
  refine wpAny_bind (wpAny_holding (next_ends ⟨z1, z2, z3, s1.extBut px z2 lp (Heap.get?_push_of_some _ z4), z5⟩ i1 ((it.push _).extBut s1.extBut lt) (by simp) lp fun h2 k2 => ?_))
  simp only [Bool.false_eq_true, Option.isSome_none, ite_false]
  exact wpAny_pure (q h2 fun b o nb z => k2 b o nb (s1.extBut b o nb (Heap.get?_push_of_some _ z)))
end
theorem pg_tupH {X : Cx} {es : List Expr} {k n : Nat} {t : TGs} {pos : Pos} (hc : HotC X) (parts : PGs X es t) (many : (assignEach es X.env).length = n := by rfl) (plain : (assignEach es X.env).findIdx? (·.1) = none := by rfl) :
    PG X (.Tuple es k pos) (gTup X.K n t) := ⟨fun pins s σ H v u Q I rel ask => by
  obtain ⟨ta, xs, rfl, sq, len, ask⟩ := ask
  cases rel
  obtain ⟨us, vals, isT, _⟩ := I.tuple sq
  obtain ⟨px, hot⟩ := hc.at I
  have same : (assignEach es X.env).length = us.toArray.size := by simp [many, ← len, vals.length]
  rw [assign_Tuple]
  suffices go : wpAny (model X.prog X.w) X.A (unpack (.ref ta) (assignEach es X.env)) _ _ s from wpAny_bind (wpAny_standAt go)
  unfold unpack
  rw [same, plain]
  exact wpAny_bind (wpAny_holding (items_of hot isT fun hp k => parts.run pins _ σ H xs _ Q (I.kept (t' := s.toks) fun b o e => k b o (Nat.ne_of_lt (Heap.lt_size e)) e) (by simpa using vals) ask))⟩
/-! #### the suite's context -/
/-- within the suite of the exception at a; what leaves the suite is wished by xe -/
abbrev sx (X : Cx) (a : Addr) (pn : List (Addr × Obj)) (xe : Value → Shared → Prop) : Cx := { X with A := X.A.mark (some (.ref a)), calm := false, pn := pn, xe := xe }
theorem pe_sx {X : Cx} {a : Addr} {pn : List (Addr × Obj)} {xe : Value → Shared → Prop} {e : Expr} {t : TE} (h : PE (X.suite a pn) e t) : PE (sx X a pn xe) e t := PE.nox (X := sx X a pn xe) h
section
variable {X : Cx} {pins pr : List (Addr × Obj)} {σ : L2.St} {H : Hp} {g : Shared} {a : Addr}
theorem sx_of {pn : List (Addr × Obj)} {xe : Value → Shared → Prop} (I : Inv (X.suite a pn) pr σ H g) : Inv (sx X a pn xe) pr σ H g := Inv.unwish (X := sx X a pn xe) (E := fun _ _ => False) I
theorem sx_un {p : Addr × Obj} {xe : Value → Shared → Prop} (I : Inv (sx X a (p :: (X.pn ++ pins)) xe) pr σ H g) (ok : X.Ok) : Inv X pins σ H g :=
  Inv.unsuite (a := a) (q := p) (pn' := pr) (X := X) (I.wish fun _ _ => False : Inv (X.suite a (p :: (X.pn ++ pins))) pr σ H g) ok
/-- a local name's value goes: the invariant of what is left -/
theorem gone_inv {i tk : Nat} {n : Str} {hp : Heap} {m : Str → Option Value} {v : Option Value} (I : Inv X pins σ H g) (nd : X.N.Nodup) (at_ : X.N[i]? = some n) (old : g.heap.Ns X.env.locals m) (new : hp.Ns X.env.locals (fun x => if x = n then v else m x))
    (but : Heap.SameBut X.env.locals g.heap hp) : Inv X pins (σ.set i none) H { g with heap := hp, toks := tk } := by
  obtain ⟨m0, old0, look⟩ := id I.loc
  have eqm : m0 = m := funext fun y => by
    obtain ⟨o1, _, _, a1, b1, _, d1⟩ := old0
    obtain ⟨o2, _, _, a2, b2, _, d2⟩ := old
    cases a1.symm.trans a2
    cases b1.symm.trans b2
    exact (d1 y).symm.trans (d2 y)
  subst eqm
  have low : ∀ {b : Addr} {o u : Obj}, X.s_0.heap.get? b = some u → g.heap.get? b = some o → hp.get? b = some o := fun {b o u} z e => (but.2 b (Nat.ne_of_lt (Nat.lt_of_lt_of_le (Heap.lt_size z) I.ok.above))).trans e
  have B := I.base
  exact {
    ok := I.ok, os := I.os, bare := I.bare, free := I.free, freeC := I.freeC
    base := { keep := fun b o z n1 n2 n3 => low z (B.keep b o z n1 n2 n3), slot := fun b o z n1 n2 n3 => (B.slot b o z n1 n2 n3).imp fun _ e => low z e, free := B.free, there := fun b o z n1 => (B.there b o z n1).imp fun _ e => low z e, tups := B.tups, frzs := B.frzs, tbls := B.tbls }
    loc := ⟨_, new, fun j y x h1 h2 h3 => by
      have nj : j ≠ i := fun z => by
        subst z
        by_cases lj : j < σ.length
        · exact absurd (Option.some.inj ((List.getElem?_set_self lj).symm.trans h2)) (by intro q; cases q)
        · exact absurd ((List.getElem?_eq_none (by simpa using lj)).symm.trans h2) (by intro q; cases q)
      obtain ⟨u, ru, w⟩ := look j y x h1 ((List.getElem?_set_ne (Ne.symm nj)).symm.trans h2) h3
      refine ⟨u, ru, w.imp (fun w => ⟨w.1, ?_⟩) (fun ⟨k, c, e, z⟩ => ⟨k, c, e, z.sameBut but (I.cne y c e)⟩)⟩
      have ny : ¬ y = n := fun z => nj (nodup_ix nd h1 (z ▸ at_))
      show (if y = n then v else m0 y) = some u
      rw [if_neg ny]
      exact w.2⟩
    cell := fun y c e => (I.cell y c e).imp fun _ z => z.sameBut but (I.cne y c e)
    pin := fun p hm => let ⟨e, r⟩ := I.pin p hm; ⟨(but.2 p.1 r.2.1).trans e, r⟩
    hok := fun b u e => (I.hok b u e).stay (fun c o hc z => (but.2 c fun y => by
      have fr : H c = none := by rw [y]; exact I.free
      rcases hc with hc | hc
      · exact absurd (e.symm.trans (hc ▸ fr)) (by intro q; cases q)
      · exact absurd (hc.symm.trans fr) (by intro q; cases q)).trans z) (fun _ z => z) fun _ _ z => z
    len := (List.length_set ..).trans I.len }
end
theorem frames_but {h k B : Heap} {L : Addr} {m : Str → Option Value} (but : Heap.SameBut L h k) (ns : k.Ns L m) : ∀ {l : List Env}, h.FunFrames B l → k.FunFrames B l
  | [], _ => trivial
  | _ :: _, ⟨c1, ⟨F, o, e1, e2, e3, e4⟩, rest⟩ => ⟨c1, by
      by_cases z : F = L
      · obtain ⟨o2, _, _, g2, d2, _⟩ := ns
        exact ⟨F, o2, e1, e2, z ▸ g2, fun fs y => by cases d2.symm.trans y⟩
      · exact ⟨F, o, e1, e2, (but.2 F z).trans e3, e4⟩, frames_but but ns rest⟩
/-! #### the rule -/
section
variable {X : Cx} {pins : List (Addr × Obj)} {Wout : WX} {D : Ends}
/-- what flies is no frame -/
theorem no_frame {B h : Heap} {a : Addr} {o : Obj} {fs : Array Value} (ff : h.FunFrames B (X.env :: X.outer)) (e : h.get? a = some o) (d : o.data = .fields fs) (hf : X.env.frame = some X.env.locals) : a ≠ X.env.locals ∧ a ∉ X.fs := by
  have out : a ∉ frs (X.env :: X.outer) := fun mem => let ⟨_, _, e2, no⟩ := ff.mem mem; no fs (by cases e.symm.trans e2; exact d)
  refine ⟨fun z => out (List.mem_filterMap.mpr ⟨X.env, List.mem_cons_self, z ▸ hf⟩), fun mem => out ?_⟩
  obtain ⟨env, h1, h2⟩ := List.mem_filterMap.mp mem
  exact List.mem_filterMap.mpr ⟨env, List.mem_cons_of_mem _ h1, h2⟩
/-- the class that the clause names -/
theorem named {x : Str} {c : Value} {np : Pos} {a : Addr} {pn pr : List (Addr × Obj)} {σ : L2.St} {H : Hp} {g : Shared} {Q : Value → Shared → Prop} {E : Value → Shared → Prop} (hc : Names X x c) (S : Inv (X.suite a pn) pr σ H g) (q : Q c g) :
    wpAny (model X.prog X.w) (X.A.mark (some (.ref a))) (eval (.Name x np) X.env) Q E g := by
  obtain ⟨g1, g2, g3 | ⟨g4, g5, g6⟩⟩ := hc
  · exact ld_glob (X := X.suite a pn) S g1 g3 q g2
  · exact ld_blt (X := X.suite a pn) S g1 g4 g5 q g6 g2
/-- behind the frame's note the name goes, and the suite's exception goes on -/
theorem goes_on {A : Around} {n : Str} {i : Nat} {a : Addr} {B hp : Heap} {sI g : Shared} {σ : L2.St} {H : Hp} {cls : Value} {d : Option Addr} {pos : Pos} {what : String} {E1 E2 : Value → Shared → Prop} {Q : Flow → Shared → Prop}
    (hs : X.stack = X.env :: X.outer) (hf : X.env.frame = some X.env.locals) (nd : X.N.Nodup) (at_ : X.N[i]? = some n) (loc : X.env.kindOf n = some .local) (tk : L2.Takes X Wout) (hE : ∀ u, X.xe (.ref a) u → E1 (.ref a) u)
    (J : Inv X pins σ H sI) (nb : ∀ b o, sI.heap.get? b = some o → b ∉ frs X.stack → B.get? b = some o) (up : sI.heap.UpToSlots hp) (hl : HandSPX.HeldZ B (X.env :: X.outer) a (Zc cls d) X.env.locals hp) (na : H a = none) (os : g.os = sI.os) (ag : AllBare g.gens)
    (wish : Wout cls d (σ.set i none) H) :
    wpAny (model X.prog X.w) A (do bindName X.env n .none; unbindBehindTheSuite X.env n pos) (fun _ u => wpAny (model X.prog X.w) A (PySem.passOn what (.ref a) X.env : Sem Flow) Q E1 u) E2 { g with heap := hp } := by
  have mine : X.env.locals ∈ frs (X.env :: X.outer) := List.mem_filterMap.mpr ⟨X.env, List.mem_cons_self, hf⟩
  obtain ⟨m, ns, _⟩ := id J.loc
  obtain ⟨oL, es, ep, gL, dL, kL, mL⟩ := id ns
  obtain ⟨sl, gL2⟩ := up _ _ gL (fun fs z => by cases dL.symm.trans z)
  refine wpAny_nameGoes_keeps (s := { g with heap := hp }) loc ⟨_, es, ep, gL2, dL, kL, mL⟩ (by rw [J.ok.kind]; rfl) fun h2 v ns2 but => ?_
  obtain ⟨o2, es2, ep2, g2, d2, k2, m2⟩ := id ns2
  have put : (sI.heap.update X.env.locals (fun _ => o2)).get? X.env.locals = some o2 := Heap.get?_update_self (fun _ => o2) gL (Heap.get?_some_iff.mp g2).2
  have but0 : Heap.SameBut X.env.locals sI.heap (sI.heap.update X.env.locals (fun _ => o2)) := Heap.SameBut.update ..
  have J2 := gone_inv (tk := sI.toks) J nd at_ ns ⟨o2, es2, ep2, put, d2, k2, m2⟩ but0
  have rec_ : ∀ {b : Addr} {o : Obj} {fs : Array Value}, hp.get? b = some o → o.data = .fields fs → h2.get? b = some o := fun {b o fs} e y => (but.2 b fun z => by
    subst z
    cases e.symm.trans gL2
    cases dL.symm.trans (show oL.data = .fields fs from y)).trans e
  obtain ⟨st, nB, fr, oe, fs, T, oT, ts, e1, e2, e3, e4, e5, e6, e7, e8, e9⟩ := hl
  have tr : HandSPX.TracedZ h2 B a (Zc cls d) (rawInt X.env.locals) := ⟨oe, fs, T, oT, ts, rec_ e1 e3, e2, e3, e4, e5, e6, rec_ e7 e8, e8, e9⟩
  have st2 : B.StaysIn h2 := fun b o e => (but.2 b fun z => by cases ((fr.mem mine).1).symm.trans (z ▸ e)).trans (st b o e)
  unfold PySem.passOn
  refine wpAny_bind (wpAny_field (s := { g with heap := h2, toks := g.toks + 1 }) (rec_ e1 e3) e3 e4 ?_)
  refine (if_neg (show ¬ (Value.ref T == Value.none) = true from fun z => Bool.noConfusion z)).symm ▸ ?_
  have last : wpAny (model X.prog X.w) A (setFlight (.ref a) X.env.frame) (fun _ u => wpAny (model X.prog X.w) A (throw (.ref a) : Sem Flow) Q E1 u) E1 { g with heap := h2, toks := g.toks + 1 } := by
    rw [hf]
    refine HandSPX.setFlight_anyZ (s := { g with heap := h2, toks := g.toks + 1 }) st2 (frames_but but ns2 fr) tr fun h3 f1 f2 f3 f4 => wpAny_throw (hE _ (tk _ _ ⟨a, B, _, pins, σ.set i none, H, cls, d, rfl, J2, fun b o e no => ?_, fun b o e no => ?_, .inr (.inr (hs ▸ ⟨f1, nB, f2, f3⟩)), na, os, ag, wish⟩))
    · exact nb b o ((but0.2 b fun z => no (by rw [hs, z]; exact mine)).symm.trans e) no
    · by_cases z : b = X.env.locals
      · subst z
        cases put.symm.trans e
        exact f4 _ _ g2 no
      · obtain ⟨s1, y1⟩ := up b o ((but0.2 b z).symm.trans e) no
        have y2 : h2.get? b = some { o with slots := s1 } := (but.2 b z).trans y1
        obtain ⟨s2, y3⟩ := f4 b _ y2 no
        exact ⟨s2, y3⟩
  first
    | exact wpAny_bind (wpAny_pure (wpAny_bind last))
    | exact wpAny_bind last
/-- no clause names it: it goes on -/
theorem flies_on {a : Addr} {B hp : Heap} {sI g : Shared} {σ : L2.St} {H : Hp} {cls : Value} {d : Option Addr} (hs : X.stack = X.env :: X.outer) (hf : X.env.frame = some X.env.locals) (tk : L2.Takes X Wout)
    (J : Inv X pins σ H sI) (nb : ∀ b o, sI.heap.get? b = some o → b ∉ frs X.stack → B.get? b = some o) (up : sI.heap.UpToSlots hp) (fl : HandSPX.FlyingZ B (X.env :: X.outer) a (Zc cls d) hp) (na : H a = none) (os : g.os = sI.os) (ag : AllBare g.gens)
    (wish : Wout cls d σ H) : wpAny (model X.prog X.w) X.A (handleBy (.ref a) X.env []) (SP X pins D) X.xe { g with heap := hp } := by
  obtain ⟨f1, f2, f3, oe, fs, T, oT, ts, e1, e2, e3, e4, e5⟩ := id fl
  refine wpAny_handleBy_nil ?_
  unfold PySem.passOn
  refine wpAny_bind (wpAny_field e1 e3 e4 ?_)
  refine (if_neg (show ¬ (Value.ref T == Value.none) = true from fun z => Bool.noConfusion z)).symm ▸ ?_
  have last : wpAny (model X.prog X.w) X.A (setFlight (.ref a) X.env.frame) (fun _ u => wpAny (model X.prog X.w) X.A (throw (.ref a) : Sem Flow) (SP X pins D) X.xe u) X.xe { g with heap := hp } := by
    rw [hf]
    exact HandSPX.setFlight_upZ fl fun h2 hl up2 => wpAny_throw (tk _ _ ⟨a, B, sI, pins, σ, H, cls, d, rfl, J, nb, up.trans up2, .inr (.inr (hs ▸ hl)), na, os, ag, wish⟩)
  first
    | exact wpAny_bind (wpAny_pure (wpAny_bind last))
    | exact wpAny_bind last
theorem sp_back {pr : List (Addr × Obj)} {xe : Value → Shared → Prop} {f : Flow} {g : Shared} (ok : X.Ok) (h : SP (X.tr (X.pn ++ pins) xe) pr D f g) : SP X pins D f g := by
  cases f <;> (try (obtain ⟨u1, u2, J, q⟩ := h; exact ⟨u1, u2, J.ofTry ok, q⟩))
  obtain ⟨u0, u1, u2, J, q⟩ := h
  exact ⟨u0, u1, u2, J.ofTry ok, q⟩
variable {x n : Str} {c : Value} {i : Nat} {body suite : List Stmt} {b₀ : Stmt} {np pos pos2 : Pos} {tb : WX → TS} {ts : Addr → Value → Option Addr → TS}
theorem ps_try_asX (hs : X.stack = X.env :: X.outer) (hf : X.env.frame = some X.env.locals) (nd : X.N.Nodup) (at_ : X.N[i]? = some n) (loc : X.env.kindOf n = some .local) (hc : Names X x c)
    (hpa : ∀ hd : Option Value, PassesOwnAt (model X.prog X.w) (X.A.mark hd) X.A X.env X.xe) (tk : L2.Takes X Wout)
    (hb : ∀ (W : WX) (pn : List (Addr × Obj)) (xe : Value → Shared → Prop), L2N.Takes (X.tr pn xe) W → PassesOwn (model X.prog X.w) X.A X.env xe → PSs (X.tr pn xe) body (tb W))
    (hsu : ∀ (a : Addr) (oe : Obj) (cls : Value) (d : Option Addr) (pn : List (Addr × Obj)) (xe : Value → Shared → Prop), L2N.Zn cls d oe → (∃ fs, oe.data = .fields fs) → L2.Takes (sx X a ((a, oe) :: pn) xe) (fun cls d σ H => Wout cls d (σ.set i none) H) → HotC (sx X a ((a, oe) :: pn) xe) →
      PSs (sx X a ((a, oe) :: pn) xe) (b₀ :: suite) (ts a cls d)) :
    PS X (.Try body [.ExceptHandler (some (.Name x np)) (some n) (b₀ :: suite) pos2] [] [] pos) (fun D σ H => tb (wAs X.K c i ts Wout D) D σ H) := by
  refine ⟨fun pins s σ H D I ask => wpAny_Try_except ?_⟩
  have ok := I.ok
  have fra : X.A.frames = some (X.env :: X.outer) := ok.frames.trans (congrArg some hs)
  have tried : ∀ (E0 : Value → Shared → Prop), L2N.Takes (X.tr (X.pn ++ pins) E0) (wAs X.K c i ts Wout D) → PassesOwn (model X.prog X.w) X.A X.env E0 → _ := fun E0 t0 p0 => (hb _ (X.pn ++ pins) E0 t0 p0).run [] s σ H D (I.toTry _) ask
  refine wpAny_mono (tried _ ?land ?pass) (fun f g h => ?thru) (fun _ _ z => z)
  case pass => exact PassesOwn.looking
  case thru =>
    have h2 := sp_back ok h
    cases f <;> first | exact wpAny_execs_nil h2 | exact h2
  case land =>
    rintro u g xx
    obtain ⟨a, B, sI, pr, σ1, H1, cls, d, rfl, Jt, nb, up, sky, na, os, ag, b, isC, yes, no⟩ := xx
    have J : Inv X pins σ1 H1 sI := Jt.ofTry ok
    refine L2N.Sky.land (env := X.env) (outer := X.outer) L2N.Zn.steady fra hf (hs ▸ sky) fun h1 fl up1 => ?_
    have J1 : Inv X pins σ1 H1 { g with heap := h1 } := J.landed nb fl.1 (up.trans up1) os ag
    obtain ⟨oe, fs, e1, e2, e3⟩ := fl.there
    obtain ⟨nL, nF⟩ := no_frame fl.2.2.1 e1 e3 hf
    have ty : PySem.W.Looks (model X.prog X.w) h1 (typeOf (.ref a)) cls := fun _ _ _ _ keep q => wpAny_typeOf_ref (keep _ _ e1) (e2.1 ▸ q)
    refine wpAny_handleBy_cons (codeAny_handlers_test (named hc (J1.suite e1 e3 na nL nF) ((PySem.W.exm_one (M := model X.prog X.w) J1.kIn ty isC).here ?_))) (fun q => nomatch q)
    cases b with
    | false => exact flies_on hs hf tk J nb (up.trans up1) (flyingZ_imp (fun _ z => L2N.Zn.zc z) fl) na os ag (no rfl)
    | true =>
      refine codeAny_handlers_suite_as (HandSPX.lands_againZ fl fun h2 fl2 up2 => ?_)
      have J2 : Inv X pins σ1 H1 { g with heap := h2 } := J.landed nb fl2.1 ((up.trans up1).trans up2) os ag
      obtain ⟨oe2, fs2, y1, y2, y3⟩ := fl2.there
      refine store_ok (X := X.suite a ((a, oe2) :: (X.pn ++ pins))) (v := .ref a) (J2.suite y1 y3 na nL nF) nd at_ (.inl loc) rfl (fun g3 S3 => ?_) (.inr loc)
      have run : ∀ (E0 : Value → Shared → Prop), L2.Takes (sx X a ((a, oe2) :: (X.pn ++ pins)) E0) (fun cls d σ H => Wout cls d (σ.set i none) H) → _ := fun E0 tk0 =>
        (hsu a oe2 cls d (X.pn ++ pins) E0 y2 ⟨_, y3⟩ tk0 ⟨(a, oe2), ⟨rfl, fs2, y3, y2.2.2 fs2 y3⟩, List.mem_cons_self⟩).run [] g3 _ H1 _ (sx_of S3) (yes rfl a na)
      refine wpAny_mono (run _ ?tk) (fun f g4 h => ?q) (fun _ _ z => z)
      case q => cases f with
        | ret u => obtain ⟨v, σ4, H4, S4, r, q⟩ := h; exact gone_ok (sx_un S4 ok) nd at_ loc fun g5 J5 => ⟨v, _, H4, J5, r, q⟩
        | next => obtain ⟨σ4, H4, S4, q⟩ := h; exact gone_ok (sx_un S4 ok) nd at_ loc fun g5 J5 => ⟨_, H4, J5, q⟩
        | brk => obtain ⟨σ4, H4, S4, q⟩ := h; exact gone_ok (sx_un S4 ok) nd at_ loc fun g5 J5 => ⟨_, H4, J5, q⟩
        | cont => obtain ⟨σ4, H4, S4, q⟩ := h; exact gone_ok (sx_un S4 ok) nd at_ loc fun g5 J5 => ⟨_, H4, J5, q⟩
      case tk =>
        rintro u g4 ⟨a4, B4, s4, _, σ4, H4, c4, d4, rfl, I4, nb4, up4, sky4, na4, os4, ag4, w4⟩
        have J4 : Inv X pins σ4 H4 s4 := sx_un I4 ok
        have fin := fun (E2 : Value → Shared → Prop) (hp : Heap) (hl : HandSPX.HeldZ B4 (X.env :: X.outer) a4 (Zc c4 d4) X.env.locals hp) (up5 : g4.heap.UpToSlots hp) =>
          goes_on (E2 := E2) (A := X.A.mark (some (.ref a))) (pos := pos2) (what := "try.except-as") (Q := fun _ _ => False) hs hf nd at_ loc tk (fun u z => hpa (some (.ref a)) _ u z) J4 nb4 (up4.trans up5) hl na4 os4 ag4 w4
        have sky5 : Sky B4 (X.env :: X.outer) a4 (Zc c4 d4) X.env.locals g4.heap := hs ▸ sky4
        rcases sky5 with ⟨k1, k2, k3, o4, f4, k4, k5, k6, k7⟩ | fly | held
        · exact HandSPX.look_newZ Zc.steady fra k3 hf k4 k1 k2 k6 k7 k5 (fin _)
        · exact HandSPX.looks_onZ Zc.steady fra hf fly (fin _)
        · exact HandSPX.againZ hf held.2.2.2 (fin _ g4.heap held (Heap.UpToSlots.refl _))
end
/-! #### a def called while an exception is handled; a def whose exceptions have no context -/
section
variable {P : Program} {w : World} {K : PySem.W.Frag} {mg : Str → Option Value} {base : Heap} {x qual : Str} {st : Stmt} {f : Addr} {fd : FuncData} {N ps : List Str} {k : Nat} {sp : Sp}
theorem okH (F : Fun K x qual st f fd) (S : FnScope N ps (defScope st)) (len : ∀ vs H Q E, sp vs H Q E → vs.length = ps.length)
    (walk : ∀ (cd : Value) (A : Around) (outer : List Env) (s : Shared) (H : Hp) (vs : List V) (Q : VK) (E : XK) (p : Addr × Obj), RoomH k (A.deeper (envOfC qual (defScope st) s.heap.objs.size f cd)) → HotC (cxH CX0 P w K mg base N qual (defScope st) f cd A outer s H E p).nox → sp vs H Q E →
      ∃ t, PSs (cxH CX0 P w K mg base N qual (defScope st) f cd A outer s H E p).nox (defBody st) t ∧ t { nx := fun _ H2 => Q .non H2, rt := Q } (L2.start N vs) H) : FnH P w K mg base CX0 (k + 1) f fd ps sp := by
  obtain ⟨_, _, _, _, _, _, cd, _, _, rfl, here, code⟩ := F.ex
  exact fn_ofH here code S len fun A outer s H vs Q E p hot room ask => let ⟨t, body, q⟩ := walk cd A outer s H vs Q E p room ⟨p, hot, List.mem_singleton.mpr rfl⟩ ask; ⟨t, body.nox, q⟩
theorem okN (F : Fun K x qual st f fd) (S : FnScope N ps (defScope st)) (len : ∀ vs H Q E, sp vs H Q E → vs.length = ps.length)
    (walk : ∀ (cd : Value) (A : Around) (outer : List Env) (s : Shared) (H : Hp) (vs : List V) (Q : VK) (E : XK), Room k (A.deeper (envOfC qual (defScope st) s.heap.objs.size f cd)) → sp vs H Q E →
      ∃ t, PSs (cxOf (L2N.CX P w) P w K mg base N qual (defScope st) f cd A outer s H E) (defBody st) t ∧ t { nx := fun _ H2 => Q .non H2, rt := Q } (L2.start N vs) H) : FnOk P w K mg base (L2N.CX P w) (k + 1) f fd ps sp := by
  obtain ⟨_, _, _, _, _, _, cd, _, _, rfl, here, code⟩ := F.ex
  exact fn_of here code S len fun A outer s H vs Q E room ask => walk cd A outer s H vs Q E room ask
end
/-- C(e, ..): the exception that is made has no context -/
theorem pmk_oexN {X : Cx} {CX : CXT} {x : Str} {e : Expr} {es : List Expr} {ta : TA} {p pos : Pos} {C fI : Addr} {k : Nat} {fd : FuncData} {ps : List Str} {sp : Sp} (T : OexC X.K C) (iC : PySem.W.findIn X.K (.ref C) "__init__" = some (some (.ref fI)))
    (tI : PySem.W.typeIn X.K (.ref fI) = some (.type "function")) (G : FnOk X.prog X.w X.K X.mg X.base CX k fI fd ps sp) (room : Room (k + 1) X.A) (hb : Binds X.K fd ps []) (pass : Passes CX X (fun _ _ _ => False)) (hg : Gl X x) (hm : X.mg x = some (.ref C)) (ha : PA X (e :: es) ta) (hdb : (x == ("__debug__" : Str)) = false := by decide) (he : starEach (e :: es) X.env = (false, eval e X.env) :: starEach es X.env := by rfl) (hpl : (backTo pos (starEach es X.env)).any (·.1) = false := by rfl) :
    L2N.PMk X (.Call (.Name x p) (e :: es) [] pos) (tMkO C sp [] ta) := fun pins s σ H Q I ask => by
  obtain ⟨_, _, _, _, bm, _, _, _, _, _, _, _, _, _, _, cls, refs⟩ := T.cls
  refine wpAny_Call_Name_kw (ld_glob I hg hm (PySem.W.callWith_K (h₀ := X.base) I.ok.mod.kin T.kC (thn (ha.run pos pins s σ H _ I ask) fun us s1 ⟨vs, H1, I1, rel, few, q1⟩ => ⟨I1.kIn, ?_⟩) he hpl) hdb)
  obtain ⟨hp, gs, dr, tk, os⟩ := s1
  have above : hp.objs.size ≤ hp.objs.size + 1 := Nat.le_succ _
  have ask1 := q1 (hp.objs.size + 1) (I1.hok.fresh above)
  rw [List.append_nil] at ask1
  have keep : ∀ b o, hp.get? b = some o → ((hp.push (PySem.W.kdv_tup us)).push (PySem.HandSPX.excO C hp.objs.size)).get? b = some o := fun _ _ z => Heap.get?_push_of_some _ (Heap.get?_push_of_some _ z)
  have laid := I1.laid (t' := tk) (o := exo (hp.objs.size + 1) C none) (a := hp.objs.size + 1) keep above (exo_ok (t1 := hp.objs.size) (by heap_get))
  have rel2 : Vals (V.ref (hp.objs.size + 1) :: vs) (Value.ref (hp.objs.size + 1) :: us) := .cons rfl rel
  have bind := hb _ (Value.ref (hp.objs.size + 1) :: us) laid.kIn (by rw [List.append_nil]; exact rel2.length.symm.trans (G.len _ _ _ _ ask1))
  rw [List.append_nil] at bind
  refine show wpAny _ _ (call (.ref C) us) _ _ _ from wpAny_call (PySem.HandSPX.call_own F.excBase_ValueError (fun Y => PySem.HandSPX.refsVE_contains Y bm refs) (I1.kIn _ _ cls) (PySem.W.looks_findIn I1.kIn iC) (fun self => PySem.W.bind_fn I1.kIn self tI) (by rw [← Paired.length rel, sizeLine_eq]; omega)
    (codeAny_mono (G.run _ X.stack _ _ ⟨Value.ref (hp.objs.size + 1) :: us, []⟩ _ _ _ (fun _ _ _ => False) (room.make C us []) (laid.env0.make C us []) bind rel2 ask1) fun r s2 got => ?_))
  match r, got with
  | .error er, got => exact pass pins σ _ _ er s2 laid got
  | .ok (.ret u), got =>
    obtain ⟨v, H2, y1, y2, y3, y4, y5, rfl, d, fs, y6, y7, y8, y9⟩ := got
    obtain ⟨h2, g2, d2, t2, o2⟩ := s2
    obtain ⟨_, G0, J, kG, nG, hO, nA⟩ := mk_end0 (d2 := d2) (t2 := t2) I1 above keep y3 y4 y1 y2 y6 y7 y8
    exact ⟨y5, hp.objs.size + 1, _, _, ⟨G0, g2, d2, t2, o2⟩, _, .ref C, some d, rfl, J, kG, nG, hO, ⟨rfl, rfl, fun fs z => by cases z; rfl⟩, rfl, rfl, nA, rfl, y2, raises_own T.exC T.tyC, y9⟩
  | .ok .next, got => exact got.elim
  | .ok .brk, got => exact got.elim
  | .ok .cont, got => exact got.elim
end HotAs
/-! ### try with several clauses 'except C as n', all of one name -/
namespace TryAs
open PySem PySem.Spec PyProof.Rows L2
/-- how a suite ends: the name is gone -/
def ends (i : Nat) (D : Ends) : Ends := { nx := fun σ H => D.nx (σ.set i none) H, rt := D.rt, bk := fun σ H => D.bk (σ.set i none) H, ct := fun σ H => D.ct (σ.set i none) H }
abbrev Suites := List (Value × (Addr → Value → Option Addr → TS))
/-- what the clauses wish of an exception, one behind another -/
def wAll (K : PySem.W.Frag) (i : Nat) (Wout : WX) (D : Ends) : Suites → WX
  | [] => Wout
  | (c, ts) :: r => fun cls d σ H => ∃ b, PySem.W.exmOne K cls c = some b ∧ (b = true → ∀ a, H a = none → ts a cls d (ends i D) (σ.set i (some (.ref a))) H) ∧ (b = false → wAll K i Wout D r cls d σ H)
inductive Clauses (X : Cx) (n : Str) : List ExceptHandler → Suites → Prop
  | nil : Clauses X n [] []
  | cons {x : Str} {c : Value} {ts : Addr → Value → Option Addr → TS} {b₀ : Stmt} {suite : List Stmt} {np pos' : Pos} {hds : List ExceptHandler} {l : Suites} (hc : Names X x c)
      (hsu : ∀ (a : Addr) (oe : Obj) (cls : Value) (d : Option Addr) (pn : List (Addr × Obj)), Zc cls d oe → (∃ vs, oe.data = .fields vs) → PSs (X.suite a ((a, oe) :: pn)) (b₀ :: suite) (ts a cls d)) (r : Clauses X n hds l) :
      Clauses X n (.ExceptHandler (some (.Name x np)) (some n) (b₀ :: suite) pos' :: hds) ((c, ts) :: l)
section
variable {X : Cx} {n : Str} {i : Nat} {body : List Stmt} {h₀ : ExceptHandler} {hds : List ExceptHandler} {l : Suites} {pos : Pos} {tb : WX → TS} {Wout : WX}
/-- the clauses are asked one behind another of what flies -/
theorem asked {pins : List (Addr × Obj)} {D : Ends} {a : Addr} {B h1 : Heap} {sI g : Shared} {σ1 : L2.St} {H1 : Hp} {cls : Value} {d : Option Addr} (hs : X.stack = X.env :: X.outer) (hf : X.env.frame = some X.env.locals) (nd : X.N.Nodup) (at_ : X.N[i]? = some n) (loc : X.env.kindOf n = some .local)
    (tk : Takes X Wout) (J : Inv X pins σ1 H1 sI) (nb : ∀ b o, sI.heap.get? b = some o → b ∉ frs X.stack → B.get? b = some o) (up : sI.heap.UpToSlots h1) (fl : HandSPX.FlyingZ B (X.env :: X.outer) a (Zc cls d) h1) (na : H1 a = none) (os : g.os = sI.os) (ag : AllBare g.gens) {hs2 : List ExceptHandler} {l2 : Suites}
    (C : Clauses X n hs2 l2) (wish : wAll X.K i Wout D l2 cls d σ1 H1) : wpAny (model X.prog X.w) X.A (handleBy (.ref a) X.env hs2) (SP X pins D) X.xe { g with heap := h1 } := by
  have J1 : Inv X pins σ1 H1 { g with heap := h1 } := J.landed nb fl.1 up os ag
  obtain ⟨oe, fs, e1, e2, e3⟩ := fl.there
  obtain ⟨nL, nF⟩ := HotAs.no_frame fl.2.2.1 e1 e3 hf
  induction C with
  | nil => exact HotAs.flies_on hs hf tk J nb up fl na os ag wish
  | cons hc hsu _ ih =>
    obtain ⟨b, isC, yes, no⟩ := wish
    have ty : PySem.W.Looks (model X.prog X.w) h1 (typeOf (.ref a)) cls := fun _ _ _ _ keep q => wpAny_typeOf_ref (keep _ _ e1) (e2.1 ▸ q)
    refine wpAny_handleBy_cons (codeAny_handlers_test (HotAs.named hc (J1.suite e1 e3 na nL nF) ((PySem.W.exm_one (M := model X.prog X.w) J1.kIn ty isC).here ?_))) (fun q => nomatch q)
    cases b with
    | false => exact ih (no rfl)
    | true =>
      refine codeAny_handlers_suite_as (HandSPX.lands_againZ fl fun h2 fl2 up2 => ?_)
      have J2 : Inv X pins σ1 H1 { g with heap := h2 } := J.landed nb fl2.1 (up.trans up2) os ag
      obtain ⟨oe2, fs2, y1, y2, y3⟩ := fl2.there
      refine store_ok (X := X.suite a ((a, oe2) :: (X.pn ++ pins))) (v := .ref a) (J2.suite y1 y3 na nL nF) nd at_ (.inl loc) rfl (fun g3 S3 => ?_) (.inr loc)
      refine wpAny_mono ((hsu a oe2 cls d (X.pn ++ pins) y2 ⟨_, y3⟩).run [] g3 _ H1 _ S3 (yes rfl a na)) (fun f g4 h => ?_) (fun _ _ z => z.elim)
      cases f with
      | ret u => obtain ⟨v, σ4, H4, S4, r, q⟩ := h; exact gone_ok (S4.unsuite J.ok) nd at_ loc fun g5 J5 => ⟨v, _, H4, J5, r, q⟩
      | next => obtain ⟨σ4, H4, S4, q⟩ := h; exact gone_ok (S4.unsuite J.ok) nd at_ loc fun g5 J5 => ⟨_, H4, J5, q⟩
      | brk => obtain ⟨σ4, H4, S4, q⟩ := h; exact gone_ok (S4.unsuite J.ok) nd at_ loc fun g5 J5 => ⟨_, H4, J5, q⟩
      | cont => obtain ⟨σ4, H4, S4, q⟩ := h; exact gone_ok (S4.unsuite J.ok) nd at_ loc fun g5 J5 => ⟨_, H4, J5, q⟩
theorem ps_try_all (hs : X.stack = X.env :: X.outer) (hf : X.env.frame = some X.env.locals) (nd : X.N.Nodup) (at_ : X.N[i]? = some n) (loc : X.env.kindOf n = some .local) (tk : Takes X Wout)
    (hb : ∀ (W : WX) (pn : List (Addr × Obj)) (xe : Value → Shared → Prop), Takes (X.tr pn xe) W → PassesOwn (model X.prog X.w) X.A X.env xe → PSs (X.tr pn xe) body (tb W))
    (hh : Clauses X n (h₀ :: hds) l) : PS X (.Try body (h₀ :: hds) [] [] pos) (fun D σ H => tb (wAll X.K i Wout D l) D σ H) := by
  refine ⟨fun pins s σ H D I ask => wpAny_Try_except ?_⟩
  have tried : ∀ (E0 : Value → Shared → Prop), Takes (X.tr (X.pn ++ pins) E0) (wAll X.K i Wout D l) → PassesOwn (model X.prog X.w) X.A X.env E0 → _ := fun E0 t0 p0 => (hb _ (X.pn ++ pins) E0 t0 p0).run [] s σ H D (I.toTry _) ask
  refine wpAny_mono (tried _ ?land ?pass) (fun f g h => ?thru) (fun _ _ z => z)
  case pass => exact PassesOwn.looking
  case thru =>
    have h2 := HotAs.sp_back I.ok h
    cases f <;> first | exact wpAny_execs_nil h2 | exact h2
  case land =>
    rintro u g ⟨a, B, sI, _, σ1, H1, cls, d, rfl, Jt, nb, up, sky, na, os, ag, wish⟩
    exact Sky.land (env := X.env) (outer := X.outer) Zc.steady (I.ok.frames.trans (congrArg some hs)) hf (hs ▸ sky) fun h1 fl up1 => asked hs hf nd at_ loc tk (Jt.ofTry I.ok) nb (up.trans up1) fl na os ag hh wish
end
end TryAs
namespace M
open PySem PySem.Spec PyProof.Rows L2
def topS (i : Nat) : Stmt := PySem.Challenge.pw_wayneedle_k21_dealings_refused.main.body.getD i (.Pass ⟨0, 0, 0, 0⟩)
abbrev s_is_whole : Stmt := topS 2
theorem sc_is_whole : FnScope ["thing"] ["thing"] (defScope s_is_whole) := ⟨rfl, rfl, rfl, by decide +kernel, rfl, by decide +kernel, by decide +kernel⟩
abbrev s_is_row : Stmt := topS 3
theorem sc_is_row : FnScope ["thing"] ["thing"] (defScope s_is_row) := ⟨rfl, rfl, rfl, by decide +kernel, rfl, by decide +kernel, by decide +kernel⟩
abbrev s_laid_out : Stmt := topS 4
theorem sc_laid_out : FnScope ["thing", "things", "begins", "whole"] ["thing"] (defScope s_laid_out) := ⟨rfl, rfl, rfl, by decide +kernel, rfl, by decide +kernel, by decide +kernel⟩
abbrev s_kept : Stmt := topS 5
theorem sc_kept : FnScope ["thing", "things", "begins", "at", "anew", "whole", "begin", "end"] ["thing"] (defScope s_kept) := ⟨rfl, rfl, rfl, by decide +kernel, rfl, by decide +kernel, by decide +kernel⟩
abbrev s_is_letter : Stmt := topS 18
theorem sc_is_letter : FnScope ["thing"] ["thing"] (defScope s_is_letter) := ⟨rfl, rfl, rfl, by decide +kernel, rfl, by decide +kernel, by decide +kernel⟩
abbrev s_step : Stmt := topS 19
theorem sc_step : FnScope ["letter"] ["letter"] (defScope s_step) := ⟨rfl, rfl, rfl, by decide +kernel, rfl, by decide +kernel, by decide +kernel⟩
abbrev s_way_of : Stmt := topS 20
theorem sc_way_of : FnScope ["place", "letter", "east", "north"] ["place", "letter"] (defScope s_way_of) := ⟨rfl, rfl, rfl, by decide +kernel, rfl, by decide +kernel, by decide +kernel⟩
abbrev s_is_lot : Stmt := topS 21
theorem sc_is_lot : FnScope ["thing"] ["thing"] (defScope s_is_lot) := ⟨rfl, rfl, rfl, by decide +kernel, rfl, by decide +kernel, by decide +kernel⟩
abbrev s_refuse_unless_lot : Stmt := topS 22
theorem sc_refuse_unless_lot : FnScope ["thing"] ["thing"] (defScope s_refuse_unless_lot) := ⟨rfl, rfl, rfl, by decide +kernel, rfl, by decide +kernel, by decide +kernel⟩
abbrev s_mirrors : Stmt := topS 23
theorem sc_mirrors : FnScope ["lot"] ["lot"] (defScope s_mirrors) := ⟨rfl, rfl, rfl, by decide +kernel, rfl, by decide +kernel, by decide +kernel⟩
abbrev s_true : Stmt := topS 24
theorem sc_true : FnScope ["lot", "letter", "at"] ["lot", "letter"] (defScope s_true) := ⟨rfl, rfl, rfl, by decide +kernel, rfl, by decide +kernel, by decide +kernel⟩
abbrev s_is_short_text : Stmt := topS 31
theorem sc_is_short_text : FnScope ["thing"] ["thing"] (defScope s_is_short_text) := ⟨rfl, rfl, rfl, by decide +kernel, rfl, by decide +kernel, by decide +kernel⟩
abbrev s_are_small : Stmt := topS 32
theorem sc_are_small : FnScope ["text", "letter"] ["text"] (defScope s_are_small) := ⟨rfl, rfl, rfl, by decide +kernel, rfl, by decide +kernel, by decide +kernel⟩
abbrev s_is_name : Stmt := topS 33
theorem sc_is_name : FnScope ["thing"] ["thing"] (defScope s_is_name) := ⟨rfl, rfl, rfl, by decide +kernel, rfl, by decide +kernel, by decide +kernel⟩
abbrev s_is_lone : Stmt := topS 34
theorem sc_is_lone : FnScope ["thing"] ["thing"] (defScope s_is_lone) := ⟨rfl, rfl, rfl, by decide +kernel, rfl, by decide +kernel, by decide +kernel⟩
abbrev s_is_sign : Stmt := topS 35
theorem sc_is_sign : FnScope ["thing"] ["thing"] (defScope s_is_sign) := ⟨rfl, rfl, rfl, by decide +kernel, rfl, by decide +kernel, by decide +kernel⟩
abbrev s_is_many : Stmt := topS 36
theorem sc_is_many : FnScope ["thing"] ["thing"] (defScope s_is_many) := ⟨rfl, rfl, rfl, by decide +kernel, rfl, by decide +kernel, by decide +kernel⟩
abbrev s_is_pair_entry : Stmt := topS 37
theorem sc_is_pair_entry : FnScope ["word", "part"] ["word", "part"] (defScope s_is_pair_entry) := ⟨rfl, rfl, rfl, by decide +kernel, rfl, by decide +kernel, by decide +kernel⟩
abbrev s_is_entry : Stmt := topS 38
theorem sc_is_entry : FnScope ["thing"] ["thing"] (defScope s_is_entry) := ⟨rfl, rfl, rfl, by decide +kernel, rfl, by decide +kernel, by decide +kernel⟩
abbrev s_held_log : Stmt := topS 39
theorem sc_held_log : FnScope ["entries", "faced", "log", "at", "thing"] ["entries"] (defScope s_held_log) := ⟨rfl, rfl, rfl, by decide +kernel, rfl, by decide +kernel, by decide +kernel⟩
abbrev s_legs_in : Stmt := topS 40
theorem sc_legs_in : FnScope ["log", "entry"] ["log"] (defScope s_legs_in) := ⟨rfl, rfl, rfl, by decide +kernel, rfl, by decide +kernel, by decide +kernel⟩
abbrev s_refuse_unless_lots : Stmt := topS 44
theorem sc_refuse_unless_lots : FnScope ["log", "lots", "legs", "at", "thing"] ["log", "lots"] (defScope s_refuse_unless_lots) := ⟨rfl, rfl, rfl, by decide +kernel, rfl, by decide +kernel, by decide +kernel⟩
abbrev s_gone : Stmt := topS 45
theorem sc_gone : FnScope ["place", "letter", "many", "east", "north"] ["place", "letter", "many"] (defScope s_gone) := ⟨rfl, rfl, rfl, by decide +kernel, rfl, by decide +kernel, by decide +kernel⟩
abbrev s_look_behind : Stmt := topS 46
theorem sc_look_behind : FnScope ["entry", "lot", "look", "word"] ["entry", "lot", "look"] (defScope s_look_behind) := ⟨rfl, rfl, rfl, by decide +kernel, rfl, by decide +kernel, by decide +kernel⟩
abbrev s_track : Stmt := topS 47
theorem sc_track : FnScope ["log", "lots", "place", "look", "leg", "stands", "entry"] ["log", "lots"] (defScope s_track) := ⟨rfl, rfl, rfl, by decide +kernel, rfl, by decide +kernel, by decide +kernel⟩
abbrev s_way_fact : Stmt := topS 48
theorem sc_way_fact : FnScope ["at", "word", "place", "look", "east", "north", "side"] ["at", "word", "place", "look"] (defScope s_way_fact) := ⟨rfl, rfl, rfl, by decide +kernel, rfl, by decide +kernel, by decide +kernel⟩
abbrev s_facts_of_entry : Stmt := topS 49
theorem sc_facts_of_entry : FnScope ["at", "entry", "place", "look", "word", "done"] ["at", "entry", "place", "look"] (defScope s_facts_of_entry) := ⟨rfl, rfl, rfl, by decide +kernel, rfl, by decide +kernel, by decide +kernel⟩
abbrev s_facts : Stmt := topS 50
theorem sc_facts : FnScope ["log", "lots", "behind", "ahead", "found", "at", "entry", "place", "look"] ["log", "lots"] (defScope s_facts) := ⟨rfl, rfl, rfl, by decide +kernel, rfl, by decide +kernel, by decide +kernel⟩
abbrev s_held_box : Stmt := topS 53
theorem sc_held_box : FnScope ["box", "at", "thing"] ["box"] (defScope s_held_box) := ⟨rfl, rfl, rfl, by decide +kernel, rfl, by decide +kernel, by decide +kernel⟩
abbrev s_held_log_of : Stmt := topS 54
theorem sc_held_log_of : FnScope ["name", "log", "why"] ["name", "log"] (defScope s_held_log_of) := ⟨rfl, rfl, rfl, by decide +kernel, rfl, by decide +kernel, by decide +kernel⟩
abbrev s_lots_left_in : Stmt := topS 56
theorem sc_lots_left_in : FnScope ["box", "lots", "lot"] ["box", "lots"] (defScope s_lots_left_in) := ⟨rfl, rfl, rfl, by decide +kernel, rfl, by decide +kernel, by decide +kernel⟩
abbrev s_first_not_dealt : Stmt := topS 57
theorem sc_first_not_dealt : FnScope ["box", "lots", "at", "thing"] ["box", "lots"] (defScope s_first_not_dealt) := ⟨rfl, rfl, rfl, by decide +kernel, rfl, by decide +kernel, by decide +kernel⟩
abbrev s_refuse_unless_dealt : Stmt := topS 58
theorem sc_refuse_unless_dealt : FnScope ["atlas", "dealing", "at"] ["atlas", "dealing"] (defScope s_refuse_unless_dealt) := ⟨rfl, rfl, rfl, by decide +kernel, rfl, by decide +kernel, by decide +kernel⟩
abbrev s_told : Stmt := topS 59
theorem sc_told : FnScope ["atlas", "dealing", "name", "log", "leg", "lot"] ["atlas", "dealing", "name"] (defScope s_told) := ⟨rfl, rfl, rfl, by decide +kernel, rfl, by decide +kernel, by decide +kernel⟩
abbrev s_Lany_entry : Stmt := topS 61
theorem sc_Lany_entry : FnScope ["_law_pool_here", "_law_looks", "_law_pick", "_law_sign_here"] ["_law_pool_here", "_law_looks"] (defScope s_Lany_entry) := ⟨rfl, rfl, rfl, by decide +kernel, rfl, by decide +kernel, by decide +kernel⟩
abbrev s_Lany_log : Stmt := topS 62
theorem sc_Lany_log : FnScope ["_law_pool_here", "_law_many", "_law_swaps", "_law_log", "_law_looks", "_law_left", "_law_k", "_law_entry"] ["_law_pool_here", "_law_many", "_law_swaps"] (defScope s_Lany_log) := ⟨rfl, rfl, rfl, by decide +kernel, rfl, by decide +kernel, by decide +kernel⟩
abbrev s_Llots : Stmt := topS 63
theorem sc_Llots : FnScope ["_law_pool_here", "_law_many", "_law_k"] ["_law_pool_here", "_law_many"] (defScope s_Llots) := ⟨rfl, rfl, rfl, by decide +kernel, rfl, by decide +kernel, by decide +kernel⟩
abbrev s_Lown : Stmt := topS 64
theorem sc_Lown : FnScope ["_law_e", "_law_some"] ["_law_e"] (defScope s_Lown) := ⟨rfl, rfl, rfl, by decide +kernel, rfl, by decide +kernel, by decide +kernel⟩
abbrev s_Lsmall_log : Stmt := topS 65
theorem sc_Lsmall_log : FnScope ["_law_pool_here", "_law_many", "_law_swaps", "_law_found", "_law_entry"] ["_law_pool_here", "_law_many", "_law_swaps"] (defScope s_Lsmall_log) := ⟨rfl, rfl, rfl, by decide +kernel, rfl, by decide +kernel, by decide +kernel⟩
abbrev s_Lsmall_rows : Stmt := topS 66
theorem sc_Lsmall_rows : FnScope ["_law_pool_here", "_law_walkers", "_law_rows", "_law_left", "_law_name_here", "_law_log"] ["_law_pool_here", "_law_walkers"] (defScope s_Lsmall_rows) := ⟨rfl, rfl, rfl, by decide +kernel, rfl, by decide +kernel, by decide +kernel⟩
abbrev s_Lsmall_box : Stmt := topS 67
theorem sc_Lsmall_box : FnScope ["_law_pool_here", "_law_legs_here", "_law_box", "_law_wide", "_law_k"] ["_law_pool_here", "_law_legs_here"] (defScope s_Lsmall_box) := ⟨rfl, rfl, rfl, by decide +kernel, rfl, by decide +kernel, by decide +kernel⟩
abbrev s_Lpool : Stmt := topS 68
theorem sc_Lpool : FnScope ["_law_script", "_law_k", "_law_cell", "_law_left"] ["_law_script", "_law_k"] (defScope s_Lpool) := ⟨rfl, rfl, rfl, by decide +kernel, rfl, by decide +kernel, by decide +kernel⟩
abbrev s_Ltake : Stmt := topS 69
theorem sc_Ltake : FnScope ["_law_pool_here", "_law_wide", "_law_found", "_law_primes", "_law_one", "_law_two"] ["_law_pool_here", "_law_wide"] (defScope s_Ltake) := ⟨rfl, rfl, rfl, by decide +kernel, rfl, by decide +kernel, by decide +kernel⟩
abbrev s_Lmix : Stmt := topS 70
theorem sc_Lmix : FnScope ["_law_pool_here", "_law_things", "_law_found", "_law_thing"] ["_law_pool_here", "_law_things"] (defScope s_Lmix) := ⟨rfl, rfl, rfl, by decide +kernel, rfl, by decide +kernel, by decide +kernel⟩
abbrev s_Lwhole : Stmt := topS 71
theorem sc_Lwhole : FnScope ["_law_thing"] ["_law_thing"] (defScope s_Lwhole) := ⟨rfl, rfl, rfl, by decide +kernel, rfl, by decide +kernel, by decide +kernel⟩
abbrev s_Lsame : Stmt := topS 72
theorem sc_Lsame : FnScope ["_law_found", "_law_due_here", "_law_one", "_law_other"] ["_law_found", "_law_due_here"] (defScope s_Lsame) := ⟨rfl, rfl, rfl, by decide +kernel, rfl, by decide +kernel, by decide +kernel⟩
abbrev s_Lanything : Stmt := topS 73
theorem sc_Lanything : FnScope ["_law_pool_here", "_law_some"] ["_law_pool_here"] (defScope s_Lanything) := ⟨rfl, rfl, rfl, by decide +kernel, rfl, by decide +kernel, by decide +kernel⟩
abbrev s_Lname : Stmt := topS 74
theorem sc_Lname : FnScope ["_law_pool_here", "_law_letters", "_law_k"] ["_law_pool_here"] (defScope s_Lname) := ⟨rfl, rfl, rfl, by decide +kernel, rfl, by decide +kernel, by decide +kernel⟩
abbrev s_Lnames : Stmt := topS 75
theorem sc_Lnames : FnScope ["_law_pool_here", "_law_many", "_law_found", "_law_k", "_law_name_here", "_law_letter"] ["_law_pool_here", "_law_many"] (defScope s_Lnames) := ⟨rfl, rfl, rfl, by decide +kernel, rfl, by decide +kernel, by decide +kernel⟩
abbrev s_Lsign : Stmt := topS 76
theorem sc_Lsign : FnScope ["_law_pool_here", "_law_lone", "_law_sign_here"] ["_law_pool_here", "_law_lone"] (defScope s_Lsign) := ⟨rfl, rfl, rfl, by decide +kernel, rfl, by decide +kernel, by decide +kernel⟩
abbrev s_Llegs : Stmt := topS 77
theorem sc_Llegs : FnScope ["_law_log", "_law_entry"] ["_law_log"] (defScope s_Llegs) := ⟨rfl, rfl, rfl, by decide +kernel, rfl, by decide +kernel, by decide +kernel⟩
abbrev s_Llegs_of : Stmt := topS 78
theorem sc_Llegs_of : FnScope ["_law_rows", "_law_found", "_law_name_here", "_law_log", "_law_leg"] ["_law_rows"] (defScope s_Llegs_of) := ⟨rfl, rfl, rfl, by decide +kernel, rfl, by decide +kernel, by decide +kernel⟩
abbrev s_Lasked : Stmt := topS 79
theorem sc_Lasked : FnScope ["_law_atlas", "_law_dealing", "_law_name_here", "_law_e"] ["_law_atlas", "_law_dealing", "_law_name_here"] (defScope s_Lasked) := ⟨rfl, rfl, rfl, by decide +kernel, rfl, by decide +kernel, by decide +kernel⟩
abbrev s_Ldue : Stmt := topS 80
theorem sc_Ldue : FnScope ["_law_box", "_law_many", "_law_dealing", "_law_at", "_law_lot"] ["_law_box", "_law_many", "_law_dealing"] (defScope s_Ldue) := ⟨rfl, rfl, rfl, by decide +kernel, rfl, by decide +kernel, by decide +kernel⟩
abbrev s_law : Stmt := topS 81
theorem sc_law : FnScope ["_law_script", "_law_pool_here", "_law_rows", "_law_many", "_law_box", "_law_atlas", "_law_rest", "_law_lot", "_law_k", "_law_dealing", "_law_pick", "_law_name_here", "_law_due_here", "_law_at", "_law_known", "_law_log"] ["_law_script"] (defScope s_law) := ⟨rfl, rfl, rfl, by decide +kernel, rfl, by decide +kernel, by decide +kernel⟩
abbrev s_Atlas_init : Stmt := inClass (topS 55) 0
theorem sc_Atlas_init : FnScope ["self", "box", "logs", "held", "name", "log"] ["self", "box", "logs"] (defScope s_Atlas_init) := ⟨rfl, rfl, rfl, by decide +kernel, rfl, by decide +kernel, by decide +kernel⟩
abbrev s_Atlas_log : Stmt := inClass (topS 55) 1
theorem sc_Atlas_log : FnScope ["self", "name"] ["self", "name"] (defScope s_Atlas_log) := ⟨rfl, rfl, rfl, by decide +kernel, rfl, by decide +kernel, by decide +kernel⟩
abbrev s_Atlas_legs : Stmt := inClass (topS 55) 2
theorem sc_Atlas_legs : FnScope ["self", "name", "log", "leg"] ["self"] (defScope s_Atlas_legs) := ⟨rfl, rfl, rfl, by decide +kernel, rfl, by decide +kernel, by decide +kernel⟩
abbrev s_Atlas_len : Stmt := inClass (topS 55) 6
theorem sc_Atlas_len : FnScope ["self"] ["self"] (defScope s_Atlas_len) := ⟨rfl, rfl, rfl, by decide +kernel, rfl, by decide +kernel, by decide +kernel⟩
abbrev s_init : Stmt := inClass (topS 10) 0
theorem sc_init : FnScope ["self", "at"] ["self", "at"] (defScope s_init) := ⟨rfl, rfl, rfl, by decide +kernel, rfl, by decide +kernel, by decide +kernel⟩
abbrev s_init_NoWalker : Stmt := inClass (topS 14) 0
theorem sc_init_NoWalker : FnScope ["self", "name"] ["self", "name"] (defScope s_init_NoWalker) := ⟨rfl, rfl, rfl, by decide +kernel, rfl, by decide +kernel, by decide +kernel⟩
/-- what the top has left -/
structure Top (w : World) (K : PySem.W.Frag) (mg : Str → Option Value) where
  a_Atlas : Addr
  g_Atlas : mg "Atlas" = some (.ref a_Atlas)
  cl_Atlas : Cls K a_Atlas
  nf_Atlas_box : NoAttr K a_Atlas "box"
  nf_Atlas_names : NoAttr K a_Atlas "names"
  nf_Atlas_logs : NoAttr K a_Atlas "logs"
  a_is_whole : Addr
  fd_is_whole : FuncData
  F_is_whole : Fun K "is_whole" "is_whole" s_is_whole a_is_whole fd_is_whole
  b_is_whole : Binds K fd_is_whole ["thing"] []
  g_is_whole : mg "is_whole" = some (.ref a_is_whole)
  a_is_row : Addr
  fd_is_row : FuncData
  F_is_row : Fun K "is_row" "is_row" s_is_row a_is_row fd_is_row
  b_is_row : Binds K fd_is_row ["thing"] []
  g_is_row : mg "is_row" = some (.ref a_is_row)
  a_laid_out : Addr
  fd_laid_out : FuncData
  F_laid_out : Fun K "laid_out" "laid_out" s_laid_out a_laid_out fd_laid_out
  b_laid_out : Binds K fd_laid_out ["thing"] []
  g_laid_out : mg "laid_out" = some (.ref a_laid_out)
  a_kept : Addr
  fd_kept : FuncData
  F_kept : Fun K "kept" "kept" s_kept a_kept fd_kept
  b_kept : Binds K fd_kept ["thing"] []
  g_kept : mg "kept" = some (.ref a_kept)
  a_is_letter : Addr
  fd_is_letter : FuncData
  F_is_letter : Fun K "is_letter" "is_letter" s_is_letter a_is_letter fd_is_letter
  b_is_letter : Binds K fd_is_letter ["thing"] []
  g_is_letter : mg "is_letter" = some (.ref a_is_letter)
  a_step : Addr
  fd_step : FuncData
  F_step : Fun K "step" "step" s_step a_step fd_step
  b_step : Binds K fd_step ["letter"] []
  g_step : mg "step" = some (.ref a_step)
  a_way_of : Addr
  fd_way_of : FuncData
  F_way_of : Fun K "way_of" "way_of" s_way_of a_way_of fd_way_of
  b_way_of : Binds K fd_way_of ["place", "letter"] []
  g_way_of : mg "way_of" = some (.ref a_way_of)
  a_is_lot : Addr
  fd_is_lot : FuncData
  F_is_lot : Fun K "is_lot" "is_lot" s_is_lot a_is_lot fd_is_lot
  b_is_lot : Binds K fd_is_lot ["thing"] []
  g_is_lot : mg "is_lot" = some (.ref a_is_lot)
  a_refuse_unless_lot : Addr
  fd_refuse_unless_lot : FuncData
  F_refuse_unless_lot : Fun K "refuse_unless_lot" "refuse_unless_lot" s_refuse_unless_lot a_refuse_unless_lot fd_refuse_unless_lot
  b_refuse_unless_lot : Binds K fd_refuse_unless_lot ["thing"] []
  g_refuse_unless_lot : mg "refuse_unless_lot" = some (.ref a_refuse_unless_lot)
  a_mirrors : Addr
  fd_mirrors : FuncData
  F_mirrors : Fun K "mirrors" "mirrors" s_mirrors a_mirrors fd_mirrors
  b_mirrors : Binds K fd_mirrors ["lot"] []
  g_mirrors : mg "mirrors" = some (.ref a_mirrors)
  a_true : Addr
  fd_true : FuncData
  F_true : Fun K "true" "true" s_true a_true fd_true
  b_true : Binds K fd_true ["lot", "letter"] []
  g_true : mg "true" = some (.ref a_true)
  a_is_short_text : Addr
  fd_is_short_text : FuncData
  F_is_short_text : Fun K "is_short_text" "is_short_text" s_is_short_text a_is_short_text fd_is_short_text
  b_is_short_text : Binds K fd_is_short_text ["thing"] []
  g_is_short_text : mg "is_short_text" = some (.ref a_is_short_text)
  a_are_small : Addr
  fd_are_small : FuncData
  F_are_small : Fun K "are_small" "are_small" s_are_small a_are_small fd_are_small
  b_are_small : Binds K fd_are_small ["text"] []
  g_are_small : mg "are_small" = some (.ref a_are_small)
  a_is_name : Addr
  fd_is_name : FuncData
  F_is_name : Fun K "is_name" "is_name" s_is_name a_is_name fd_is_name
  b_is_name : Binds K fd_is_name ["thing"] []
  g_is_name : mg "is_name" = some (.ref a_is_name)
  a_is_lone : Addr
  fd_is_lone : FuncData
  F_is_lone : Fun K "is_lone" "is_lone" s_is_lone a_is_lone fd_is_lone
  b_is_lone : Binds K fd_is_lone ["thing"] []
  g_is_lone : mg "is_lone" = some (.ref a_is_lone)
  a_is_sign : Addr
  fd_is_sign : FuncData
  F_is_sign : Fun K "is_sign" "is_sign" s_is_sign a_is_sign fd_is_sign
  b_is_sign : Binds K fd_is_sign ["thing"] []
  g_is_sign : mg "is_sign" = some (.ref a_is_sign)
  a_is_many : Addr
  fd_is_many : FuncData
  F_is_many : Fun K "is_many" "is_many" s_is_many a_is_many fd_is_many
  b_is_many : Binds K fd_is_many ["thing"] []
  g_is_many : mg "is_many" = some (.ref a_is_many)
  a_is_pair_entry : Addr
  fd_is_pair_entry : FuncData
  F_is_pair_entry : Fun K "is_pair_entry" "is_pair_entry" s_is_pair_entry a_is_pair_entry fd_is_pair_entry
  b_is_pair_entry : Binds K fd_is_pair_entry ["word", "part"] []
  g_is_pair_entry : mg "is_pair_entry" = some (.ref a_is_pair_entry)
  a_is_entry : Addr
  fd_is_entry : FuncData
  F_is_entry : Fun K "is_entry" "is_entry" s_is_entry a_is_entry fd_is_entry
  b_is_entry : Binds K fd_is_entry ["thing"] []
  g_is_entry : mg "is_entry" = some (.ref a_is_entry)
  a_held_log : Addr
  fd_held_log : FuncData
  F_held_log : Fun K "held_log" "held_log" s_held_log a_held_log fd_held_log
  b_held_log : Binds K fd_held_log ["entries"] []
  g_held_log : mg "held_log" = some (.ref a_held_log)
  a_legs_in : Addr
  fd_legs_in : FuncData
  F_legs_in : Fun K "legs_in" "legs_in" s_legs_in a_legs_in fd_legs_in
  b_legs_in : Binds K fd_legs_in ["log"] []
  g_legs_in : mg "legs_in" = some (.ref a_legs_in)
  a_refuse_unless_lots : Addr
  fd_refuse_unless_lots : FuncData
  F_refuse_unless_lots : Fun K "refuse_unless_lots" "refuse_unless_lots" s_refuse_unless_lots a_refuse_unless_lots fd_refuse_unless_lots
  b_refuse_unless_lots : Binds K fd_refuse_unless_lots ["log", "lots"] []
  g_refuse_unless_lots : mg "refuse_unless_lots" = some (.ref a_refuse_unless_lots)
  a_gone : Addr
  fd_gone : FuncData
  F_gone : Fun K "gone" "gone" s_gone a_gone fd_gone
  b_gone : Binds K fd_gone ["place", "letter", "many"] []
  g_gone : mg "gone" = some (.ref a_gone)
  a_look_behind : Addr
  fd_look_behind : FuncData
  F_look_behind : Fun K "look_behind" "look_behind" s_look_behind a_look_behind fd_look_behind
  b_look_behind : Binds K fd_look_behind ["entry", "lot", "look"] []
  g_look_behind : mg "look_behind" = some (.ref a_look_behind)
  a_track : Addr
  fd_track : FuncData
  F_track : Fun K "track" "track" s_track a_track fd_track
  b_track : Binds K fd_track ["log", "lots"] []
  g_track : mg "track" = some (.ref a_track)
  a_way_fact : Addr
  fd_way_fact : FuncData
  F_way_fact : Fun K "way_fact" "way_fact" s_way_fact a_way_fact fd_way_fact
  b_way_fact : Binds K fd_way_fact ["at", "word", "place", "look"] []
  g_way_fact : mg "way_fact" = some (.ref a_way_fact)
  a_facts_of_entry : Addr
  fd_facts_of_entry : FuncData
  F_facts_of_entry : Fun K "facts_of_entry" "facts_of_entry" s_facts_of_entry a_facts_of_entry fd_facts_of_entry
  b_facts_of_entry : Binds K fd_facts_of_entry ["at", "entry", "place", "look"] []
  g_facts_of_entry : mg "facts_of_entry" = some (.ref a_facts_of_entry)
  a_facts : Addr
  fd_facts : FuncData
  F_facts : Fun K "facts" "facts" s_facts a_facts fd_facts
  b_facts : Binds K fd_facts ["log", "lots"] []
  g_facts : mg "facts" = some (.ref a_facts)
  a_held_box : Addr
  fd_held_box : FuncData
  F_held_box : Fun K "held_box" "held_box" s_held_box a_held_box fd_held_box
  b_held_box : Binds K fd_held_box ["box"] []
  g_held_box : mg "held_box" = some (.ref a_held_box)
  a_held_log_of : Addr
  fd_held_log_of : FuncData
  F_held_log_of : Fun K "held_log_of" "held_log_of" s_held_log_of a_held_log_of fd_held_log_of
  b_held_log_of : Binds K fd_held_log_of ["name", "log"] []
  g_held_log_of : mg "held_log_of" = some (.ref a_held_log_of)
  a_lots_left_in : Addr
  fd_lots_left_in : FuncData
  F_lots_left_in : Fun K "lots_left_in" "lots_left_in" s_lots_left_in a_lots_left_in fd_lots_left_in
  b_lots_left_in : Binds K fd_lots_left_in ["box", "lots"] []
  g_lots_left_in : mg "lots_left_in" = some (.ref a_lots_left_in)
  a_first_not_dealt : Addr
  fd_first_not_dealt : FuncData
  F_first_not_dealt : Fun K "first_not_dealt" "first_not_dealt" s_first_not_dealt a_first_not_dealt fd_first_not_dealt
  b_first_not_dealt : Binds K fd_first_not_dealt ["box", "lots"] []
  g_first_not_dealt : mg "first_not_dealt" = some (.ref a_first_not_dealt)
  a_refuse_unless_dealt : Addr
  fd_refuse_unless_dealt : FuncData
  F_refuse_unless_dealt : Fun K "refuse_unless_dealt" "refuse_unless_dealt" s_refuse_unless_dealt a_refuse_unless_dealt fd_refuse_unless_dealt
  b_refuse_unless_dealt : Binds K fd_refuse_unless_dealt ["atlas", "dealing"] []
  g_refuse_unless_dealt : mg "refuse_unless_dealt" = some (.ref a_refuse_unless_dealt)
  a_told : Addr
  fd_told : FuncData
  F_told : Fun K "told" "told" s_told a_told fd_told
  b_told : Binds K fd_told ["atlas", "dealing", "name"] []
  g_told : mg "told" = some (.ref a_told)
  a_Lany_entry : Addr
  fd_Lany_entry : FuncData
  F_Lany_entry : Fun K "_law_any_entry" "_law_any_entry" s_Lany_entry a_Lany_entry fd_Lany_entry
  b_Lany_entry : Binds K fd_Lany_entry ["_law_pool_here", "_law_looks"] []
  g_Lany_entry : mg "_law_any_entry" = some (.ref a_Lany_entry)
  a_Lany_log : Addr
  fd_Lany_log : FuncData
  F_Lany_log : Fun K "_law_any_log" "_law_any_log" s_Lany_log a_Lany_log fd_Lany_log
  b_Lany_log : Binds K fd_Lany_log ["_law_pool_here", "_law_many", "_law_swaps"] []
  g_Lany_log : mg "_law_any_log" = some (.ref a_Lany_log)
  a_Llots : Addr
  fd_Llots : FuncData
  F_Llots : Fun K "_law_lots" "_law_lots" s_Llots a_Llots fd_Llots
  b_Llots : Binds K fd_Llots ["_law_pool_here", "_law_many"] []
  g_Llots : mg "_law_lots" = some (.ref a_Llots)
  a_Lown : Addr
  fd_Lown : FuncData
  F_Lown : Fun K "_law_own" "_law_own" s_Lown a_Lown fd_Lown
  b_Lown : Binds K fd_Lown ["_law_e"] []
  g_Lown : mg "_law_own" = some (.ref a_Lown)
  a_Lsmall_log : Addr
  fd_Lsmall_log : FuncData
  F_Lsmall_log : Fun K "_law_small_log" "_law_small_log" s_Lsmall_log a_Lsmall_log fd_Lsmall_log
  b_Lsmall_log : Binds K fd_Lsmall_log ["_law_pool_here", "_law_many", "_law_swaps"] []
  g_Lsmall_log : mg "_law_small_log" = some (.ref a_Lsmall_log)
  a_Lsmall_rows : Addr
  fd_Lsmall_rows : FuncData
  F_Lsmall_rows : Fun K "_law_small_rows" "_law_small_rows" s_Lsmall_rows a_Lsmall_rows fd_Lsmall_rows
  b_Lsmall_rows : Binds K fd_Lsmall_rows ["_law_pool_here", "_law_walkers"] []
  g_Lsmall_rows : mg "_law_small_rows" = some (.ref a_Lsmall_rows)
  a_Lsmall_box : Addr
  fd_Lsmall_box : FuncData
  F_Lsmall_box : Fun K "_law_small_box" "_law_small_box" s_Lsmall_box a_Lsmall_box fd_Lsmall_box
  b_Lsmall_box : Binds K fd_Lsmall_box ["_law_pool_here", "_law_legs_here"] []
  g_Lsmall_box : mg "_law_small_box" = some (.ref a_Lsmall_box)
  a_Lpool : Addr
  fd_Lpool : FuncData
  F_Lpool : Fun K "_law_pool" "_law_pool" s_Lpool a_Lpool fd_Lpool
  b_Lpool : Binds K fd_Lpool ["_law_script", "_law_k"] []
  g_Lpool : mg "_law_pool" = some (.ref a_Lpool)
  a_Ltake : Addr
  fd_Ltake : FuncData
  F_Ltake : Fun K "_law_take" "_law_take" s_Ltake a_Ltake fd_Ltake
  b_Ltake : Binds K fd_Ltake ["_law_pool_here", "_law_wide"] []
  g_Ltake : mg "_law_take" = some (.ref a_Ltake)
  a_Lmix : Addr
  fd_Lmix : FuncData
  F_Lmix : Fun K "_law_mix" "_law_mix" s_Lmix a_Lmix fd_Lmix
  b_Lmix : Binds K fd_Lmix ["_law_pool_here", "_law_things"] []
  g_Lmix : mg "_law_mix" = some (.ref a_Lmix)
  a_Lwhole : Addr
  fd_Lwhole : FuncData
  F_Lwhole : Fun K "_law_whole" "_law_whole" s_Lwhole a_Lwhole fd_Lwhole
  b_Lwhole : Binds K fd_Lwhole ["_law_thing"] []
  g_Lwhole : mg "_law_whole" = some (.ref a_Lwhole)
  a_Lsame : Addr
  fd_Lsame : FuncData
  F_Lsame : Fun K "_law_same" "_law_same" s_Lsame a_Lsame fd_Lsame
  b_Lsame : Binds K fd_Lsame ["_law_found", "_law_due_here"] []
  g_Lsame : mg "_law_same" = some (.ref a_Lsame)
  a_Lanything : Addr
  fd_Lanything : FuncData
  F_Lanything : Fun K "_law_anything" "_law_anything" s_Lanything a_Lanything fd_Lanything
  b_Lanything : Binds K fd_Lanything ["_law_pool_here"] []
  g_Lanything : mg "_law_anything" = some (.ref a_Lanything)
  a_Lname : Addr
  fd_Lname : FuncData
  F_Lname : Fun K "_law_name" "_law_name" s_Lname a_Lname fd_Lname
  b_Lname : Binds K fd_Lname ["_law_pool_here"] []
  g_Lname : mg "_law_name" = some (.ref a_Lname)
  a_Lnames : Addr
  fd_Lnames : FuncData
  F_Lnames : Fun K "_law_names" "_law_names" s_Lnames a_Lnames fd_Lnames
  b_Lnames : Binds K fd_Lnames ["_law_pool_here", "_law_many"] []
  g_Lnames : mg "_law_names" = some (.ref a_Lnames)
  a_Lsign : Addr
  fd_Lsign : FuncData
  F_Lsign : Fun K "_law_sign" "_law_sign" s_Lsign a_Lsign fd_Lsign
  b_Lsign : Binds K fd_Lsign ["_law_pool_here", "_law_lone"] []
  g_Lsign : mg "_law_sign" = some (.ref a_Lsign)
  a_Llegs : Addr
  fd_Llegs : FuncData
  F_Llegs : Fun K "_law_legs" "_law_legs" s_Llegs a_Llegs fd_Llegs
  b_Llegs : Binds K fd_Llegs ["_law_log"] []
  g_Llegs : mg "_law_legs" = some (.ref a_Llegs)
  a_Llegs_of : Addr
  fd_Llegs_of : FuncData
  F_Llegs_of : Fun K "_law_legs_of" "_law_legs_of" s_Llegs_of a_Llegs_of fd_Llegs_of
  b_Llegs_of : Binds K fd_Llegs_of ["_law_rows"] []
  g_Llegs_of : mg "_law_legs_of" = some (.ref a_Llegs_of)
  a_Lasked : Addr
  fd_Lasked : FuncData
  F_Lasked : Fun K "_law_asked" "_law_asked" s_Lasked a_Lasked fd_Lasked
  b_Lasked : Binds K fd_Lasked ["_law_atlas", "_law_dealing", "_law_name_here"] []
  g_Lasked : mg "_law_asked" = some (.ref a_Lasked)
  a_Ldue : Addr
  fd_Ldue : FuncData
  F_Ldue : Fun K "_law_due" "_law_due" s_Ldue a_Ldue fd_Ldue
  b_Ldue : Binds K fd_Ldue ["_law_box", "_law_many", "_law_dealing"] []
  g_Ldue : mg "_law_due" = some (.ref a_Ldue)
  a_law : Addr
  fd_law : FuncData
  F_law : Fun K "law" "law" s_law a_law fd_law
  b_law : Binds K fd_law ["_law_script"] []
  g_law : mg "law" = some (.ref a_law)
  a_Atlas_init : Addr
  fd_Atlas_init : FuncData
  e_Atlas_init : Addr
  ee_Atlas_init : ∀ H, SqT K H e_Atlas_init []
  F_Atlas_init : FunD K "__init__" "Atlas.__init__" (defArgs s_Atlas_init) (defBody s_Atlas_init) (defScope s_Atlas_init) [.ref e_Atlas_init] [] a_Atlas_init fd_Atlas_init
  b1_Atlas_init : ∃ ds, Vals [.ref e_Atlas_init] ds ∧ Binds K fd_Atlas_init ["self", "box", "logs"] ds
  b_Atlas_init : Binds K fd_Atlas_init ["self", "box", "logs"] []
  mk_Atlas : Mk K a_Atlas a_Atlas_init
  a_Atlas_log : Addr
  fd_Atlas_log : FuncData
  F_Atlas_log : Fun K "log" "Atlas.log" s_Atlas_log a_Atlas_log fd_Atlas_log
  b_Atlas_log : Binds K fd_Atlas_log ["self", "name"] []
  me_Atlas_log : Meth K a_Atlas "log" a_Atlas_log
  a_Atlas_legs : Addr
  fd_Atlas_legs : FuncData
  F_Atlas_legs : Fun K "legs" "Atlas.legs" s_Atlas_legs a_Atlas_legs fd_Atlas_legs
  b_Atlas_legs : Binds K fd_Atlas_legs ["self"] []
  me_Atlas_legs : Meth K a_Atlas "legs" a_Atlas_legs
  a_Atlas_len : Addr
  fd_Atlas_len : FuncData
  F_Atlas_len : Fun K "__len__" "Atlas.__len__" s_Atlas_len a_Atlas_len fd_Atlas_len
  b_Atlas_len : Binds K fd_Atlas_len ["self"] []
  me_Atlas_len : Meth K a_Atlas "__len__" a_Atlas_len
  g_LETTERS : ∃ t, mg "LETTERS" = some (.str "nesw" t)
  a_STEPS : Addr
  g_STEPS : mg "STEPS" = some (.ref a_STEPS)
  es_STEPS : Array DictEntry
  n_STEPS : Nat
  kd_STEPS : KDict K w a_STEPS es_STEPS n_STEPS
  ns_STEPS : ∀ z : Str, ∃ r, PySem.W.nsIn K a_STEPS z = some r ∧ r.isSome = ((["n", "e", "s", "w"] : List Str).any fun s => s == z)
  v_STEPS_0 : ∃ q, KDct K w a_STEPS "n" (.ref q) ∧ ∀ H, SqT K H q [.int (0), .int (1)]
  v_STEPS_1 : ∃ q, KDct K w a_STEPS "e" (.ref q) ∧ ∀ H, SqT K H q [.int (1), .int (0)]
  v_STEPS_2 : ∃ q, KDct K w a_STEPS "s" (.ref q) ∧ ∀ H, SqT K H q [.int (0), .int (-1)]
  v_STEPS_3 : ∃ q, KDct K w a_STEPS "w" (.ref q) ∧ ∀ H, SqT K H q [.int (-1), .int (0)]
  g_SMALL : ∃ t, mg "SMALL" = some (.str "abcdefghijklmnopqrstuvwxyz" t)
  g_GREAT : ∃ t, mg "GREAT" = some (.str "ABCDEFGHIJKLMNOPQRSTUVWXYZ" t)
  g_LONGEST : ∃ t, mg "LONGEST" = some (.int 8 t)
  a_WORDS_ALONE : Addr
  g_WORDS_ALONE : mg "WORDS_ALONE" = some (.ref a_WORDS_ALONE)
  v_WORDS_ALONE : ∀ H, SqT K H a_WORDS_ALONE [.str "left", .str "right", .str "back", .str "bump", .str "bare", .str "swap"]
  a_WORDS_BEHIND_A_FACE : Addr
  g_WORDS_BEHIND_A_FACE : mg "WORDS_BEHIND_A_FACE" = some (.ref a_WORDS_BEHIND_A_FACE)
  v_WORDS_BEHIND_A_FACE : ∀ H, SqT K H a_WORDS_BEHIND_A_FACE [.str "left", .str "right", .str "back", .str "go", .str "bump", .str "spy"]
  a_QUARTERS : Addr
  g_QUARTERS : mg "QUARTERS" = some (.ref a_QUARTERS)
  es_QUARTERS : Array DictEntry
  n_QUARTERS : Nat
  kd_QUARTERS : KDict K w a_QUARTERS es_QUARTERS n_QUARTERS
  ns_QUARTERS : ∀ z : Str, ∃ r, PySem.W.nsIn K a_QUARTERS z = some r ∧ r.isSome = ((["right", "back", "left"] : List Str).any fun s => s == z)
  v_QUARTERS_0 : KDct K w a_QUARTERS "right" (.int 1)
  v_QUARTERS_1 : KDct K w a_QUARTERS "back" (.int 2)
  v_QUARTERS_2 : KDct K w a_QUARTERS "left" (.int 3)
  a_START : Addr
  g_START : mg "START" = some (.ref a_START)
  v_START : ∃ q0, (∀ H, SqT K H a_START [.ref q0, .str ""]) ∧ (∀ H, SqT K H q0 [.int (0), .int (0)])
  g_HOW_MANY_LOTS : ∃ t, mg "HOW_MANY_LOTS" = some (.int 8 t)
  m_abs : mg "abs" = none
  m_all : mg "all" = none
  m_any : mg "any" = none
  m_bool : mg "bool" = none
  m_enumerate : mg "enumerate" = none
  m_int : mg "int" = none
  m_isinstance : mg "isinstance" = none
  m_len : mg "len" = none
  m_list : mg "list" = none
  m_range : mg "range" = none
  m_sorted : mg "sorted" = none
  m_str : mg "str" = none
  m_tuple : mg "tuple" = none
  m_zip : mg "zip" = none
  a_NoLot : Addr
  g_NoLot : mg "NoLot" = some (.ref a_NoLot)
  a_BadLog : Addr
  g_BadLog : mg "BadLog" = some (.ref a_BadLog)
  a_NoDealing : Addr
  g_NoDealing : mg "NoDealing" = some (.ref a_NoDealing)
  a_BadBox : Addr
  g_BadBox : mg "BadBox" = some (.ref a_BadBox)
  a_NoName : Addr
  g_NoName : mg "NoName" = some (.ref a_NoName)
  a_Twice : Addr
  g_Twice : mg "Twice" = some (.ref a_Twice)
  a_NoWalker : Addr
  g_NoWalker : mg "NoWalker" = some (.ref a_NoWalker)
  a_NeedleError : Addr
  g_NeedleError : mg "NeedleError" = some (.ref a_NeedleError)
  kit_NoLot : PySem.W.kitOne K (.ref a_NoDealing) (.ref a_NoLot) = some false
  kit_BadLog : PySem.W.kitOne K (.ref a_NoDealing) (.ref a_BadLog) = some false
  kit_NoDealing : PySem.W.kitOne K (.ref a_NoDealing) (.ref a_NoDealing) = some true
  kit_BadBox : PySem.W.kitOne K (.ref a_NoDealing) (.ref a_BadBox) = some false
  kit_NoName : PySem.W.kitOne K (.ref a_NoDealing) (.ref a_NoName) = some false
  kit_Twice : PySem.W.kitOne K (.ref a_NoDealing) (.ref a_Twice) = some false
  kit_NoWalker : PySem.W.kitOne K (.ref a_NoDealing) (.ref a_NoWalker) = some false
  kit_NeedleError : PySem.W.kitOne K (.ref a_NoDealing) (.ref a_NeedleError) = some true
  kit_NoWalker_NoLot : PySem.W.kitOne K (.ref a_NoWalker) (.ref a_NoLot) = some false
  kit_NoWalker_BadLog : PySem.W.kitOne K (.ref a_NoWalker) (.ref a_BadLog) = some false
  kit_NoWalker_NoDealing : PySem.W.kitOne K (.ref a_NoWalker) (.ref a_NoDealing) = some false
  kit_NoWalker_BadBox : PySem.W.kitOne K (.ref a_NoWalker) (.ref a_BadBox) = some false
  kit_NoWalker_NoName : PySem.W.kitOne K (.ref a_NoWalker) (.ref a_NoName) = some false
  kit_NoWalker_Twice : PySem.W.kitOne K (.ref a_NoWalker) (.ref a_Twice) = some false
  kit_NoWalker_NoWalker : PySem.W.kitOne K (.ref a_NoWalker) (.ref a_NoWalker) = some true
  kit_NoWalker_NeedleError : PySem.W.kitOne K (.ref a_NoWalker) (.ref a_NeedleError) = some true
  m_ValueError : mg "ValueError" = none
  kit_VE : PySem.W.kitOne K (.ref a_NoDealing) (.type "ValueError") = some true
  oex : OexC K a_NoDealing
  a_init : Addr
  fd_init : FuncData
  F_init : Fun K "__init__" "NoDealing.__init__" s_init a_init fd_init
  b_init : Binds K fd_init ["self", "at"] []
  iC : PySem.W.findIn K (.ref a_NoDealing) "__init__" = some (some (.ref a_init))
  tI : PySem.W.typeIn K (.ref a_init) = some (.type "function")
  xf : XfC K a_NoDealing
  exc : ExcC K a_NoDealing
  exm : PySem.W.exmOne K (.ref a_NoDealing) (.ref a_NoDealing) = some true
  no_at : PySem.W.findIn K (.ref a_NoDealing) "at" = some none
  kit_VE_NoWalker : PySem.W.kitOne K (.ref a_NoWalker) (.type "ValueError") = some true
  oex_NoWalker : OexC K a_NoWalker
  a_init_NoWalker : Addr
  fd_init_NoWalker : FuncData
  F_init_NoWalker : Fun K "__init__" "NoWalker.__init__" s_init_NoWalker a_init_NoWalker fd_init_NoWalker
  b_init_NoWalker : Binds K fd_init_NoWalker ["self", "name"] []
  iC_NoWalker : PySem.W.findIn K (.ref a_NoWalker) "__init__" = some (some (.ref a_init_NoWalker))
  tI_NoWalker : PySem.W.typeIn K (.ref a_init_NoWalker) = some (.type "function")
  xf_NoWalker : XfC K a_NoWalker
  exc_NoWalker : ExcC K a_NoWalker
  exm_NoWalker : PySem.W.exmOne K (.ref a_NoWalker) (.ref a_NoWalker) = some true
  no_NoWalker_name : PySem.W.findIn K (.ref a_NoWalker) "name" = some none
  exn_NoDealing_NoWalker : PySem.W.exmOne K (.ref a_NoDealing) (.ref a_NoWalker) = some false
  exn_NoWalker_NoDealing : PySem.W.exmOne K (.ref a_NoWalker) (.ref a_NoDealing) = some false
/-! ### heaps, pools -/
/-- all but what stands at p is as it was -/
def But (p : Addr) (H H' : Hp) : Prop := ∀ b o, b ≠ p → H b = some o → H' b = some o
theorem But.refl (p : Addr) (H : Hp) : But p H H := fun _ _ _ h => h
theorem But.trans {p : Addr} {H H1 H2 : Hp} (a : But p H H1) (b : But p H1 H2) : But p H H2 := fun c o hc h => b c o hc (a c o hc h)
theorem But.of {p : Addr} {H H' : Hp} (a : Same H H') : But p H H' := fun b o _ h => a b o h
theorem But.upd {p : Addr} {H H' : Hp} {o : HO} (a : But p H H') : But p H (upd H' p o) := fun b u hb h => by
  rw [upd_ne hb]
  exact a b u hb h
theorem same_upd {H : Hp} {p : Addr} {o : HO} (h : H p = none) : Same H (upd H p o) := fun b x e => by
  rw [upd_ne (ne_of_none e h)]
  exact e
/-- changed at a new place alone -/
theorem But.same {p : Addr} {H H1 H2 : Hp} (n : H p = none) (a : Same H H1) (b : But p H1 H2) : Same H H2 := fun c o h => b c o (ne_of_none h n) (a c o h)
theorem But.free {p l : Addr} {H H1 : Hp} (a : But p H H1) (n : l ≠ p) (h : H1 l = none) : H l = none := by
  cases e : H l with
  | none => rfl
  | some o =>
    rw [a l o n e] at h
    cases h
/-- a change at a place that H doesn't know -/
theorem But.mut {p l : Addr} {H H1 : Hp} {o : HO} (a : But p H H1) (n : H l = none) : But p H (L2.upd H1 l o) := fun b u hb h => by
  rw [upd_ne (ne_of_none h n)]
  exact a b u hb h
/-- the spring of draws: four whole numbers, the first not below nought -/
def Pool (H : Hp) (p : Addr) : Prop := ∃ l c k n : Int, 0 ≤ l ∧ H p = some (.lst [.int l, .int c, .int k, .int n])
theorem Pool.same {H H' : Hp} {p : Addr} (h : Pool H p) (e : Same H H') : Pool H' p := by
  obtain ⟨l, c, k, n, h0, h1⟩ := h
  exact ⟨l, c, k, n, h0, e _ _ h1⟩
theorem Pool.ne_tup {H : Hp} {p q : Addr} {xs : List V} (h : Pool H p) (e : H q = some (.tup xs)) : q ≠ p := by
  obtain ⟨l, c, k, n, h0, h1⟩ := h
  exact ne_of e h1 (by intro z; cases z)
theorem Pool.ne_new {H : Hp} {p q : Addr} (h : Pool H p) (e : H q = none) : q ≠ p := by
  obtain ⟨l, c, k, n, h0, h1⟩ := h
  intro z
  rw [z, h1] at e
  cases e
theorem Pool.upd {H : Hp} {p q : Addr} {o : HO} (h : Pool H p) (e : q ≠ p) : Pool (L2.upd H q o) p := by
  obtain ⟨l, c, k, n, h0, h1⟩ := h
  refine ⟨l, c, k, n, h0, ?_⟩
  rw [upd_ne (Ne.symm e)]
  exact h1
theorem seq_but {K : PySem.W.Frag} {H H' : Hp} {p a : Addr} {xs : List V} (e : But p H H') (n : a ≠ p) (h : SqL K H a xs) : SqL K H' a xs := by
  rcases h with (h | ⟨o, h⟩) | h
  · exact .inl (.inl (e _ _ n h))
  · exact .inl (.inr ⟨o, e _ _ n h⟩)
  · exact .inr h
theorem abs_if (n : Int) : 0 ≤ (if n < 0 then -n else n) := by
  split <;> omega
local macro_rules | `(tactic| walk_at "go") => `(tactic| repeat (first
  | (with_reducible exact rfl)
  | (refine ⟨_, _, rfl, rfl, ?_⟩)
  | (refine ⟨_, rfl, ?_⟩)
  | (refine ⟨rfl, ?_⟩)))
def spPool (K : PySem.W.Frag) : Sp := fun vs H Q _ => ∃ (a : Addr) (ns : List Int) (k : Int), vs = [.ref a, .int k] ∧ SqL K H a (ns.map V.int) ∧ ns.length ≤ 63 ∧ 0 ≤ k ∧ ∀ H' p, Same H H' → H p = none → Pool H' p → Q (.ref p) H'
def spTake : Sp := fun vs H Q _ => ∃ (p : Addr) (m : Int), vs = [.ref p, .int m] ∧ 0 < m ∧ m < 2 ^ 200 ∧ Pool H p ∧ ∀ H' (r : Int), But p H H' → Pool H' p → 0 ≤ r → r < m → Q (.int r) H'
theorem iteY {c A B : Prop} [Decidable c] (hc : c) (h : A) : if decide c = true then A else B := by
  rw [if_pos (decide_eq_true hc)]
  exact h
theorem iteYn {c A B : Prop} [Decidable c] (hc : c) (h : B) : if (!decide c) = true then A else B := by
  rw [decide_eq_true hc]
  exact h
theorem iteDN {b : Bool} {A B : Prop} (hb : b = false) (h : B) : if b = true then A else B := by
  rw [hb]
  exact h
theorem iteDY {b : Bool} {A B : Prop} (hb : b = true) (h : A) : if b = true then A else B := by
  rw [hb]
  exact h
theorem iteNE {d e : PyData} {A B : Prop} (h : d = e) (hs : SeqAt.shaped d = true) (hB : B) : if (!PyData.eqv d e) = true then A else B := by
  subst h
  rw [SeqAt.eqv_refl d (SeqAt.canLay_of_shaped hs)]
  exact hB
theorem ne_no {x y : V} (e : x = y) : (!decide (x = y)) = false := by
  rw [decide_eq_true e]
  rfl
theorem iteN {x y : V} {A B : Prop} (e : x = y) (h : B) : if (!decide (x = y)) = true then A else B := by
  rw [ne_no e, if_neg Bool.false_ne_true]
  exact h
section
variable {P : Program} {w : World} {K : PySem.W.Frag} {mg : Str → Option Value} {base : Heap}
theorem ok_Lpool (T : Top w K mg) : FnOk P w K mg base CX0 1 T.a_Lpool T.fd_Lpool ["_law_script", "_law_k"] (spPool K) := by
  refine T.F_Lpool.ok sc_Lpool (fun vs H Q E h => ?_) (fun cdv A outer s H vs Q E hr h => ?_)
  · obtain ⟨a, ns, k, rfl, _⟩ := h
    rfl
  · obtain ⟨a, ns, k, rfl, hS, hlen, hk, q⟩ := h
    refine ⟨_, (pss_cons (ps_set (i := 2) sc_Lpool.nd rfl (.inl rfl) pe_int)
      (Evl.pss_cut (ps_if (pt_cmpR op_gt (pe_callB call_len_seq (by rfl) T.m_len (by decide +kernel) (pa_cons (pv 0) pa_nil)) pe_int (nomark _)) (pss_one (ps_set (i := 2) sc_Lpool.nd rfl (.inl rfl) (pe_ix ix_list (pv 0) (pe_op op_mod (pv 1) (pe_callB call_len_seq (by rfl) T.m_len (by decide +kernel) (pa_cons (pv 0) pa_nil))) (fun _ _ => rfl)))) pss_nil)
      (pss_cons (ps_set (i := 3) sc_Lpool.nd rfl (.inl rfl) pe_int)
      (pss_cons (ps_if (PW.pt (pw_and (pt_cmpR op_lt (pv 1) (pe_callB call_len_seq (by rfl) T.m_len (by decide +kernel) (pa_cons (pv 0) pa_nil)) (nomark _)) (pw_and1 (pt_cmpR op_ge (pe_callB call_abs (by rfl) T.m_abs (by decide +kernel) (pa_cons (pv 2) pa_nil)) (pe_op op_pow pe_int pe_int) (nomark _))))) (pss_one (ps_set (i := 3) sc_Lpool.nd rfl (.inl rfl) (pe_callB call_abs (by rfl) T.m_abs (by decide +kernel) (pa_cons (pv 2) pa_nil)))) pss_nil)
      (pss_one (ps_ret (pe_lst (pa_cons (pv 3) (pa_cons (pv 2) (pa_cons (pv 1) (pa_cons pe_int pa_nil))))))))))), ?_⟩
    have hL : ((ns.map V.int).length : Int) = ns.length := by rw [List.length_map]
    have fin : ∀ (l c : Int), 0 ≤ l → ∀ p, H p = none → Q (.ref p) (upd H p (.lst [.int l, .int c, .int k, .int 0])) := fun l c hl p hp =>
      q _ p (same_upd hp) hp ⟨l, c, k, 0, hl, upd_same⟩
    refine ⟨fun σ H' => H' = H ∧ ∃ c : Int, σ = [some (.ref a), some (.int k), some (.int c), none], ?_, ?_⟩
    · refine ⟨.ref a, rfl, a, ns.map V.int, rfl, .inl hS, _, _, rfl, rfl, _, rfl, ite2 (fun e => ?_) (fun e => ?_)⟩
      · have e0 : (0 : Int) < ((ns.map V.int).length : Int) := of_decide_eq_true e
        refine ⟨.ref a, rfl, .int k, rfl, .ref a, rfl, a, ns.map V.int, rfl, .inl hS, k, _, rfl, rfl, e0, ?_⟩
        have h1 := Int.emod_nonneg k (show ((ns.map V.int).length : Int) ≠ 0 by omega)
        have h2 := Int.emod_lt_of_pos k e0
        obtain ⟨j, hj⟩ : ∃ j : Nat, k % ((ns.map V.int).length : Int) = j := ⟨(k % ((ns.map V.int).length : Int)).toNat, by omega⟩
        have hj2 : j < ns.length := by omega
        have g : (ns.map V.int)[j]? = some (.int ns[j]) := by
          rw [List.getElem?_map, List.getElem?_eq_getElem hj2]
          rfl
        have gi : atI (ns.map V.int) (k % ((ns.map V.int).length : Int)) = some (.int ns[j]) := by
          rw [hj]
          exact atI_nat g
        exact ⟨a, _, _, _, rfl, rfl, hS, gi, rfl, _, rfl⟩
      · exact ⟨rfl, 0, rfl⟩
    · rintro σ H' ⟨rfl, c, rfl⟩
      refine ⟨.int k, rfl, .ref a, rfl, a, ns.map V.int, rfl, .inl hS, _, _, rfl, rfl, _, rfl, ite2 (fun e => ?_) (fun e => ?_)⟩
      · refine ⟨.int c, rfl, c, rfl, _, _, rfl, rfl, ⟨by decide, by decide, by decide⟩, _, _, rfl, rfl, _, rfl, ite2 (fun e => ?_) (fun e => ?_)⟩
        · exact ⟨.int c, rfl, c, rfl, _, rfl, _, rfl, _, rfl, by show 4 ≤ sizeLine; decide, fin _ c (abs_if c)⟩
        · exact ⟨_, rfl, _, rfl, _, rfl, by show 4 ≤ sizeLine; decide, fin 0 c (by decide)⟩
      · refine ite2 (fun e2 => by cases e2) (fun _ => ?_)
        exact ⟨_, rfl, _, rfl, _, rfl, by show 4 ≤ sizeLine; decide, fin 0 c (by decide)⟩
def primes : List Int := [2147483629, 2147483587, 2147483579, 2147483563, 2147483549, 2147483543, 2147483497, 2147483489]
theorem primes_at {i : Int} (h0 : 0 ≤ i) (h1 : i < 8) : ∃ p : Int, atI (primes.map V.int) i = some (.int p) ∧ 0 < p ∧ p < 2147483647 := by
  obtain rfl | rfl | rfl | rfl | rfl | rfl | rfl | rfl : i = 0 ∨ i = 1 ∨ i = 2 ∨ i = 3 ∨ i = 4 ∨ i = 5 ∨ i = 6 ∨ i = 7 := by omega
  all_goals exact ⟨_, rfl, by decide, by decide⟩
theorem pow_ok (a : Int) : CPow (a % 2147483647) 5 := by
  have h1 := Int.emod_nonneg a (show (2147483647 : Int) ≠ 0 by decide)
  have h2 := Int.emod_lt_of_pos a (show (0 : Int) < 2147483647 by decide)
  exact ⟨by decide, by decide, by omega⟩
theorem ok_Ltake (T : Top w K mg) : FnOk P w K mg base CX0 1 T.a_Ltake T.fd_Ltake ["_law_pool_here", "_law_wide"] spTake := by
  refine T.F_Ltake.ok sc_Ltake (fun vs H Q E h => ?_) (fun cdv A outer s H vs Q E hr h => ?_)
  · obtain ⟨p, m, rfl, _⟩ := h
    rfl
  · obtain ⟨p, m, rfl, hm, hb, ⟨l, c, k, n, hl, hp⟩, q⟩ := h
    refine ⟨_, (pss_cons (ps_if (pt_cmpR op_gt (pe_ix ix_list (pv 0) pe_int (fun _ _ => rfl)) pe_int (nomark _)) (pss_cons (ps_set (i := 2) sc_Ltake.nd rfl (.inl rfl) (pe_op op_mod (pe_ix ix_list (pv 0) pe_int (fun _ _ => rfl)) (pv 1)))
      (pss_cons (ps_asg (pe_op op_fdivW (pe_ix ix_list (pv 0) pe_int (fun _ _ => rfl)) (pv 1)) (pg_sub (pv 0) pe_int set_list))
      (pss_one (ps_ret (pv 2))))) pss_nil)
      (pss_cons (ps_asg (pe_op op_add (pe_ix ix_list (pv 0) pe_int (fun _ _ => rfl)) pe_int) (pg_sub (pv 0) pe_int set_list))
      (pss_cons (ps_set (i := 3) sc_Ltake.nd rfl (.inl rfl) (pe_lst (pa_cons pe_int (pa_cons pe_int (pa_cons pe_int (pa_cons pe_int (pa_cons pe_int (pa_cons pe_int (pa_cons pe_int (pa_cons pe_int pa_nil))))))))))
      (pss_cons (ps_set (i := 4) sc_Ltake.nd rfl (.inl rfl) (pe_op op_mod (pe_op op_add (pe_op op_add (pe_op op_add (pe_ix ix_list (pv 0) pe_int (fun _ _ => rfl)) (pe_op op_mul pe_int (pe_ix ix_list (pv 0) pe_int (fun _ _ => rfl)))) (pe_op op_mul pe_int (pe_ix ix_list (pv 0) pe_int (fun _ _ => rfl)))) pe_int) pe_int))
      (pss_cons (ps_set (i := 4) sc_Ltake.nd rfl (.inl rfl) (pe_op op_mod (pe_op op_pow (pv 4) pe_int) (pe_ix ix_list (pv 3) (pe_op op_mod (pe_ix ix_list (pv 0) pe_int (fun _ _ => rfl)) pe_int) (fun _ _ => rfl))))
      (pss_cons (ps_set (i := 5) sc_Ltake.nd rfl (.inl rfl) (pe_op op_mod (pe_op op_add (pe_op op_add (pv 4) (pe_op op_mul pe_int (pe_ix ix_list (pv 0) pe_int (fun _ _ => rfl)))) (pe_ix ix_list (pv 0) pe_int (fun _ _ => rfl))) pe_int))
      (pss_one (ps_ret (pe_op op_mod (pe_op op_add (pe_op op_mul (pe_op op_mod (pe_op op_pow (pv 5) pe_int) pe_int) pe_int) (pv 4)) (pv 1)))))))))), ?_⟩
    refine ⟨.ref p, rfl, p, _, 0, .int l, rfl, rfl, .inl (.inl hp), rfl, _, _, rfl, rfl, _, rfl, ite2 (fun e => ?_) (fun e => ?_)⟩
    · refine ⟨.ref p, rfl, p, _, 0, .int l, rfl, rfl, .inl (.inl hp), rfl, .int m, rfl, l, m, rfl, rfl, hm, ?_⟩
      refine ⟨.ref p, rfl, p, _, 0, .int l, rfl, rfl, .inl (.inl hp), rfl, .int m, rfl, l, m, rfl, rfl, wide_div (b := 200) hm (by omega) (by decide) (by decide), ?_⟩
      refine ⟨.ref p, rfl, p, _, 0, 0, rfl, rfl, hp, rfl, ?_⟩
      refine ⟨_, rfl, q _ _ (But.refl p H).upd ⟨l / m, c, k, n, Int.ediv_nonneg hl (by omega), ?_⟩ (Int.emod_nonneg l (by omega)) (Int.emod_lt_of_pos l hm)⟩
      exact upd_same
    · refine ⟨.ref p, rfl, p, _, 3, .int n, rfl, rfl, .inl (.inl hp), rfl, n, 1, rfl, rfl, .ref p, rfl, p, _, 3, 3, rfl, rfl, hp, rfl, ?_⟩
      refine ⟨by show 8 ≤ sizeLine; decide, fun o no => ?_⟩
      have hop : o ≠ p := fun z => by
        rw [z, upd_same] at no
        cases no
      have h3 : (upd (upd H p (.lst [.int l, .int c, .int k, .int (n + 1)])) o (.lst (primes.map V.int))) p = some (.lst [.int l, .int c, .int k, .int (n + 1)]) := by
        rw [upd_ne (Ne.symm hop), upd_same]
      have h4 : (upd (upd H p (.lst [.int l, .int c, .int k, .int (n + 1)])) o (.lst (primes.map V.int))) o = some (.lst (primes.map V.int)) := upd_same
      have bt : But p H (upd (upd H p (.lst [.int l, .int c, .int k, .int (n + 1)])) o (.lst (primes.map V.int))) := fun b u hb h => by
        have nb : b ≠ o := fun z => by
          have : (upd H p (.lst [.int l, .int c, .int k, .int (n + 1)])) b = some u := by
            rw [upd_ne hb]
            exact h
          rw [z] at this
          exact absurd (this.symm.trans no) (by intro z; cases z)
        rw [upd_ne nb, upd_ne hb]
        exact h
      have i8 : 0 ≤ (n + 1) % 8 := Int.emod_nonneg _ (by decide)
      have j8 : (n + 1) % 8 < 8 := Int.emod_lt_of_pos _ (by decide)
      obtain ⟨pr, hpr, pr0, pr1⟩ := primes_at i8 j8
      refine ⟨.ref p, rfl, p, _, 1, .int c, rfl, rfl, .inl (.inl h3), rfl, .ref p, rfl, p, _, 2, .int k, rfl, rfl, .inl (.inl h3), rfl, 7919, k, rfl, rfl, .inl ⟨by decide, by decide⟩, _, _, rfl, rfl, .ref p, rfl, p, _, 3, .int (n + 1), rfl, rfl, .inl (.inl h3), rfl, 104729, n + 1, rfl, rfl, .inl ⟨by decide, by decide⟩, _, _, rfl, rfl, _, _, rfl, rfl, _, _, rfl, rfl, (by show (0 : Int) < 2147483647; decide), ?_⟩
      refine ⟨_, rfl, _, _, rfl, rfl, pow_ok _, .ref o, rfl, .ref p, rfl, p, _, 3, .int (n + 1), rfl, rfl, .inl (.inl h3), rfl, _, _, rfl, rfl, (by show (0 : Int) < 8; decide), o, _, _, .int pr, rfl, rfl, .inl (.inl h4), hpr, _, _, rfl, rfl, pr0, ?_⟩
      refine ⟨_, rfl, .ref p, rfl, p, _, 2, .int k, rfl, rfl, .inl (.inl h3), rfl, 40692, k, rfl, rfl, .inl ⟨by decide, by decide⟩, _, _, rfl, rfl, .ref p, rfl, p, _, 3, .int (n + 1), rfl, rfl, .inl (.inl h3), rfl, _, _, rfl, rfl, _, _, rfl, rfl, (by show (0 : Int) < 2147483647; decide), ?_⟩
      refine ⟨_, rfl, _, _, rfl, rfl, pow_ok _, _, _, rfl, rfl, (by show (0 : Int) < 2147483647; decide), _, _, rfl, rfl, .inr ⟨by decide, by decide⟩, _, rfl, _, _, rfl, rfl, .int m, rfl, _, _, rfl, rfl, hm, ?_⟩
      exact q _ _ bt ⟨l, c, k, n + 1, hl, h3⟩ (Int.emod_nonneg _ (by omega)) (Int.emod_lt_of_pos _ hm)
/-! ### data alike -/
theorem sqt_same {K : PySem.W.Frag} {H H' : Hp} {a : Addr} {xs : List V} (e : Same H H') (h : SqT K H a xs) : SqT K H' a xs := Evl.ex_t (show Evl.Ex H H' from e) h
mutual
theorem dp_same {K : PySem.W.Frag} {H H' : Hp} (e : Same H H') : ∀ (d : PyData) (v : V), Dp K H v d → Dp K H' v d
  | .none, _, h => by cases h; exact .non
  | .bool b, _, h => by cases h; exact .bl b
  | .int i, _, h => by cases h; exact .int i
  | .str x, _, h => by cases h; exact .str x
  | .list ds, _, h => by
    cases h with
    | lst hs ha => exact .lst (e.seq hs) (dpa_same e ds _ ha)
  | .tuple ds, _, h => by
    cases h with
    | tup hs ha => exact .tup (sqt_same e hs) (dpa_same e ds _ ha)
  | .dict _, _, h => by cases h
theorem dpa_same {K : PySem.W.Frag} {H H' : Hp} (e : Same H H') : ∀ (ds : List PyData) (vs : List V), DpAll K H vs ds → DpAll K H' vs ds
  | [], _, h => by cases h; exact .nil
  | d :: ds, _, h => by
    cases h with
    | cons h1 h2 => exact .cons (dp_same e d _ h1) (dpa_same e ds _ h2)
end
theorem dpa_len {K : PySem.W.Frag} {H : Hp} : ∀ (ds : List PyData) (vs : List V), DpAll K H vs ds → vs.length = ds.length
  | [], _, h => by cases h; rfl
  | d :: ds, _, h => by
    cases h with
    | cons h1 h2 =>
      rw [List.length_cons, List.length_cons, dpa_len ds _ h2]
theorem dpa_at {K : PySem.W.Frag} {H : Hp} : ∀ (ds : List PyData) (vs : List V), DpAll K H vs ds → ∀ (i : Nat) (v : V), vs[i]? = some v → ∃ d, ds[i]? = some d ∧ Dp K H v d
  | [], _, h, i, v, e => by cases h; cases e
  | d :: ds, _, h, i, v, e => by
    cases h with
    | cons h1 h2 =>
      cases i with
      | zero =>
        cases e
        exact ⟨d, rfl, h1⟩
      | succ j => exact dpa_at ds _ h2 j v e
theorem ty_tup {K : PySem.W.Frag} {H : Hp} {a : Addr} {xs : List V} (h : SqT K H a xs) : TyX K H (.ref a) (.type "tuple") := by
  rcases h with (h | ⟨o, h⟩) | ⟨o, its, n, lk, hc, _⟩
  · exact .base (.tup h)
  · exact .fTuple h
  · exact .kTuple lk hc
/-- none, truths, whole numbers, texts, and tuples of these, at most n deep -/
def okD : Nat → PyData → Bool
  | _, .none => true
  | _, .bool _ => true
  | _, .int _ => true
  | _, .str _ => true
  | n + 1, .tuple ds => decide (ds.length ≤ 1000) && ds.all fun d => okD n d
  | _, _ => false
theorem walk_zipT {K : PySem.W.Frag} {a b : Addr} {xs ys : List V} {n : Nat} (hn : n = min xs.length ys.length) : Walk (RZ.ItzT K a b) n (fun H => SqT K H a xs ∧ SqT K H b ys) (YPair (fun i => xs[i]?) (fun i => ys[i]?)) where
  goes := fun i H lt ⟨p, q⟩ => ⟨xs, ys, _, _, p, q, List.getElem?_eq_getElem (by omega), List.getElem?_eq_getElem (by omega)⟩
  stops := fun H ⟨p, q⟩ => ⟨xs, ys, p, q, by omega⟩
  yields := fun i H v H' _ ⟨p, q⟩ ⟨T, x, y, e1, e2, e3, e4, e5⟩ => ⟨T, x, y, e1, e2, e3, e4 xs p, e5 ys q⟩
theorem all_true : ∀ n : Nat, (List.replicate n true).all id = true
  | 0 => rfl
  | n + 1 => by rw [List.replicate_succ, List.all_cons, all_true n]; rfl
def spWhole : Sp := fun vs H Q _ => ∃ i : Int, vs = [.int i] ∧ Q (.bl true) H
theorem ok_Lwhole (T : Top w K mg) : FnOk P w K mg base CX0 1 T.a_Lwhole T.fd_Lwhole ["_law_thing"] spWhole := by
  refine T.F_Lwhole.ok sc_Lwhole (fun vs H Q E h => ?_) (fun cdv A outer s H vs Q E hr h => ?_)
  · obtain ⟨i, rfl, _⟩ := h
    rfl
  · obtain ⟨i, rfl, q⟩ := h
    refine ⟨_, (pss_one (ps_ret (pe_and (pe_callB call_isi (by rfl) T.m_isinstance (by decide +kernel) (pa_cons (pv 0) (pa_cons (pe_bltn (v := .ty "int") (by rfl) T.m_int (by decide +kernel) rfl) pa_nil))) (pe_one (pe_not (pe_callB call_isi (by rfl) T.m_isinstance (by decide +kernel) (pa_cons (pv 0) (pa_cons (pe_bltn (v := .ty "bool") (by rfl) T.m_bool (by decide +kernel) rfl) pa_nil)))))))), ?_⟩
    refine ⟨.int i, rfl, _, _, _, _, true, rfl, .ty _, .base (.int i), kit_ty (by decide +kernel), _, rfl, iteT ?_⟩
    exact ⟨.int i, rfl, _, _, _, _, false, rfl, .ty _, .base (.int i), kit_ty (by decide +kernel), _, rfl, q⟩
def spSame (K : PySem.W.Frag) (n : Nat) : Sp := fun vs H Q _ => ∃ (x y : V) (d : PyData), vs = [x, y] ∧ Dp K H x d ∧ Dp K H y d ∧ okD n d = true ∧ ∀ H', Same H H' → Q (.bl true) H'
theorem ok_Lsame0 (T : Top w K mg) : FnOk P w K mg base CX0 2 T.a_Lsame T.fd_Lsame ["_law_found", "_law_due_here"] (spSame K 0) := by
  have G_Lwhole := ok_Lwhole (P := P) (w := w) (base := base) T
  refine T.F_Lsame.ok sc_Lsame (fun vs H Q E h => ?_) (fun cdv A outer s H vs Q E hr h => ?_)
  · obtain ⟨x, y, d, rfl, _⟩ := h
    rfl
  · obtain ⟨x, y, d, rfl, hx, hy, ok, q⟩ := h
    refine ⟨_, (pss_cons (ps_if (pt_val (pe_callB call_isi (by rfl) T.m_isinstance (by decide +kernel) (pa_cons (pv 1) (pa_cons (pe_bltn (v := .ty "tuple") (by rfl) T.m_tuple (by decide +kernel) rfl) pa_nil)))) pss_never pss_nil)
      (pss_cons (ps_if (pt_cmpR op_isN (pv 1) pe_non (nomark _)) (pss_one (ps_ret (pe_cmpR op_isN (pv 0) pe_non (nomark _)))) pss_nil)
      (pss_cons (ps_if (pt_val (pe_callB call_isi (by rfl) T.m_isinstance (by decide +kernel) (pa_cons (pv 1) (pa_cons (pe_bltn (v := .ty "bool") (by rfl) T.m_bool (by decide +kernel) rfl) pa_nil)))) (pss_one (ps_ret (pe_and (pe_callB call_isi (by rfl) T.m_isinstance (by decide +kernel) (pa_cons (pv 0) (pa_cons (pe_bltn (v := .ty "bool") (by rfl) T.m_bool (by decide +kernel) rfl) pa_nil))) (pe_one (pe_cmpR op_eq (pv 0) (pv 1) (nomark _)))))) pss_nil)
      (pss_cons (ps_if (pt_val (pe_callB call_isi (by rfl) T.m_isinstance (by decide +kernel) (pa_cons (pv 1) (pa_cons (pe_bltn (v := .ty "str") (by rfl) T.m_str (by decide +kernel) rfl) pa_nil)))) (pss_one (ps_ret (pe_and (pe_callB call_isi (by rfl) T.m_isinstance (by decide +kernel) (pa_cons (pv 0) (pa_cons (pe_bltn (v := .ty "str") (by rfl) T.m_str (by decide +kernel) rfl) pa_nil))) (pe_one (pe_cmpR op_eq (pv 0) (pv 1) (nomark _)))))) pss_nil)
      (pss_one (ps_ret (pe_and (pe_call G_Lwhole (hr.mono (by omega)) (by rfl) T.g_Lwhole T.F_Lwhole.kp T.b_Lwhole .nil pass0 (pa_cons (pv 0) pa_nil)) (pe_one (pe_cmpR op_eq (pv 0) (pv 1) (nomark _)))))))))), ?_⟩
    have Q0 := q H (Same.refl H)
    cases d with
    | none =>
      cases hx
      cases hy
      exact ⟨.non, rfl, _, _, _, _, false, rfl, .ty _, .base .non, kit_ty (by decide +kernel), _, rfl, iteF ⟨.non, rfl, rfl, _, rfl, iteT ⟨.non, rfl, rfl, Q0⟩⟩⟩
    | bool b =>
      cases hx
      cases hy
      refine ⟨.bl b, rfl, _, _, _, _, false, rfl, .ty _, .base (.bl b), kit_ty (by decide +kernel), _, rfl, iteF ⟨.bl b, rfl, rfl, _, rfl, iteF ?_⟩⟩
      refine ⟨.bl b, rfl, _, _, _, _, true, rfl, .ty _, .base (.bl b), kit_ty (by decide +kernel), _, rfl, iteT ?_⟩
      refine ⟨.bl b, rfl, _, _, _, _, true, rfl, .ty _, .base (.bl b), kit_ty (by decide +kernel), _, rfl, iteT ⟨.bl b, rfl, .bl b, rfl, rfl, ?_⟩⟩
      rw [decide_eq_true rfl]
      exact Q0
    | int i =>
      cases hx
      cases hy
      refine ⟨.int i, rfl, _, _, _, _, false, rfl, .ty _, .base (.int i), kit_ty (by decide +kernel), _, rfl, iteF ⟨.int i, rfl, rfl, _, rfl, iteF ?_⟩⟩
      refine ⟨.int i, rfl, _, _, _, _, false, rfl, .ty _, .base (.int i), kit_ty (by decide +kernel), _, rfl, iteF ?_⟩
      refine ⟨.int i, rfl, _, _, _, _, false, rfl, .ty _, .base (.int i), kit_ty (by decide +kernel), _, rfl, iteF ?_⟩
      refine ⟨.int i, rfl, i, rfl, _, rfl, iteT ⟨.int i, rfl, .int i, rfl, rfl, ?_⟩⟩
      rw [decide_eq_true rfl]
      exact Q0
    | str z =>
      cases hx
      cases hy
      refine ⟨.str z, rfl, _, _, _, _, false, rfl, .ty _, .base (.str z), kit_ty (by decide +kernel), _, rfl, iteF ⟨.str z, rfl, rfl, _, rfl, iteF ?_⟩⟩
      refine ⟨.str z, rfl, _, _, _, _, false, rfl, .ty _, .base (.str z), kit_ty (by decide +kernel), _, rfl, iteF ?_⟩
      refine ⟨.str z, rfl, _, _, _, _, true, rfl, .ty _, .base (.str z), kit_ty (by decide +kernel), _, rfl, iteT ?_⟩
      refine ⟨.str z, rfl, _, _, _, _, true, rfl, .ty _, .base (.str z), kit_ty (by decide +kernel), _, rfl, iteT ⟨.str z, rfl, .str z, rfl, rfl, ?_⟩⟩
      rw [decide_eq_true rfl]
      exact Q0
    | list ds => cases ok
    | tuple ds => cases ok
    | dict ds => cases ok
theorem ok_LsameS (T : Top w K mg) {n : Nat} (G_Lsame : FnOk P w K mg base CX0 (n + 2) T.a_Lsame T.fd_Lsame ["_law_found", "_law_due_here"] (spSame K n)) : FnOk P w K mg base CX0 (n + 3) T.a_Lsame T.fd_Lsame ["_law_found", "_law_due_here"] (spSame K (n + 1)) := by
  have G_Lwhole := ok_Lwhole (P := P) (w := w) (base := base) T
  refine T.F_Lsame.ok sc_Lsame (fun vs H Q E h => ?_) (fun cdv A outer s H vs Q E hr h => ?_)
  · obtain ⟨x, y, d, rfl, _⟩ := h
    rfl
  · obtain ⟨x, y, d, rfl, hx, hy, ok, q⟩ := h
    refine ⟨_, (pss_cons (ps_if (pt_val (pe_callB call_isi (by rfl) T.m_isinstance (by decide +kernel) (pa_cons (pv 1) (pa_cons (pe_bltn (v := .ty "tuple") (by rfl) T.m_tuple (by decide +kernel) rfl) pa_nil)))) (pss_cons (ps_if (PW.pt (pw_or (pt_not (pt_val (pe_callB call_isi (by rfl) T.m_isinstance (by decide +kernel) (pa_cons (pv 0) (pa_cons (pe_bltn (v := .ty "tuple") (by rfl) T.m_tuple (by decide +kernel) rfl) pa_nil))))) (pw_or1 (pt_cmpR op_ne (pe_callB call_len_seq (by rfl) T.m_len (by decide +kernel) (pa_cons (pv 0) pa_nil)) (pe_callB call_len_seq (by rfl) T.m_len (by decide +kernel) (pa_cons (pv 1) pa_nil)) (nomark _))))) (pss_one (ps_ret pe_bl)) pss_nil)
      (pss_one (ps_ret (pe_callB (cr_all rfl) (by rfl) T.m_all (by decide +kernel) (pa_cons (pe_lc (own := [("_law_one", 2), ("_law_other", 3)]) (g := gTup K 2 (gCons (gName 2) (gCons (gName 3) gNil))) (by rfl) sc_Lsame.nd (RZ.pi_zipA (by rfl) T.m_zip (pa_cons (pv 0) (pa_cons (pv 1) pa_nil))) (blkOk_by (own := [("_law_one", 2), ("_law_other", 3)]) (N := ["_law_found", "_law_due_here", "_law_one", "_law_other"]) (sc := defScope s_Lsame) (by decide +kernel)) (fun _ _ _ _ _ => (pg_tup rfl (pgs_cons (pg_name (i := 2) sc_Lsame.nd rfl (Or.inl rfl)) (pgs_cons (pg_name (i := 3) sc_Lsame.nd rfl (Or.inl rfl)) pgs_nil)))) (fun _ _ _ _ _ => pts_nil) (fun _ _ _ _ _ => (pe_call G_Lsame hr (by rfl) T.g_Lsame T.F_Lsame.kp T.b_Lsame .nil pass0 (pa_cons (pv 2) (pa_cons (pv 3) pa_nil))))) pa_nil))))) pss_nil)
      (pss_cons (ps_if (pt_cmpR op_isN (pv 1) pe_non (nomark _)) (pss_one (ps_ret (pe_cmpR op_isN (pv 0) pe_non (nomark _)))) pss_nil)
      (pss_cons (ps_if (pt_val (pe_callB call_isi (by rfl) T.m_isinstance (by decide +kernel) (pa_cons (pv 1) (pa_cons (pe_bltn (v := .ty "bool") (by rfl) T.m_bool (by decide +kernel) rfl) pa_nil)))) (pss_one (ps_ret (pe_and (pe_callB call_isi (by rfl) T.m_isinstance (by decide +kernel) (pa_cons (pv 0) (pa_cons (pe_bltn (v := .ty "bool") (by rfl) T.m_bool (by decide +kernel) rfl) pa_nil))) (pe_one (pe_cmpR op_eq (pv 0) (pv 1) (nomark _)))))) pss_nil)
      (pss_cons (ps_if (pt_val (pe_callB call_isi (by rfl) T.m_isinstance (by decide +kernel) (pa_cons (pv 1) (pa_cons (pe_bltn (v := .ty "str") (by rfl) T.m_str (by decide +kernel) rfl) pa_nil)))) (pss_one (ps_ret (pe_and (pe_callB call_isi (by rfl) T.m_isinstance (by decide +kernel) (pa_cons (pv 0) (pa_cons (pe_bltn (v := .ty "str") (by rfl) T.m_str (by decide +kernel) rfl) pa_nil))) (pe_one (pe_cmpR op_eq (pv 0) (pv 1) (nomark _)))))) pss_nil)
      (pss_one (ps_ret (pe_and (pe_call G_Lwhole (hr.mono (by omega)) (by rfl) T.g_Lwhole T.F_Lwhole.kp T.b_Lwhole .nil pass0 (pa_cons (pv 0) pa_nil)) (pe_one (pe_cmpR op_eq (pv 0) (pv 1) (nomark _)))))))))), ?_⟩
    have Q0 := q H (Same.refl H)
    cases d with
    | none =>
      cases hx
      cases hy
      exact ⟨.non, rfl, _, _, _, _, false, rfl, .ty _, .base .non, kit_ty (by decide +kernel), _, rfl, iteF ⟨.non, rfl, rfl, _, rfl, iteT ⟨.non, rfl, rfl, Q0⟩⟩⟩
    | bool b =>
      cases hx
      cases hy
      refine ⟨.bl b, rfl, _, _, _, _, false, rfl, .ty _, .base (.bl b), kit_ty (by decide +kernel), _, rfl, iteF ⟨.bl b, rfl, rfl, _, rfl, iteF ?_⟩⟩
      refine ⟨.bl b, rfl, _, _, _, _, true, rfl, .ty _, .base (.bl b), kit_ty (by decide +kernel), _, rfl, iteT ?_⟩
      refine ⟨.bl b, rfl, _, _, _, _, true, rfl, .ty _, .base (.bl b), kit_ty (by decide +kernel), _, rfl, iteT ⟨.bl b, rfl, .bl b, rfl, rfl, ?_⟩⟩
      rw [decide_eq_true rfl]
      exact Q0
    | int i =>
      cases hx
      cases hy
      refine ⟨.int i, rfl, _, _, _, _, false, rfl, .ty _, .base (.int i), kit_ty (by decide +kernel), _, rfl, iteF ⟨.int i, rfl, rfl, _, rfl, iteF ?_⟩⟩
      refine ⟨.int i, rfl, _, _, _, _, false, rfl, .ty _, .base (.int i), kit_ty (by decide +kernel), _, rfl, iteF ?_⟩
      refine ⟨.int i, rfl, _, _, _, _, false, rfl, .ty _, .base (.int i), kit_ty (by decide +kernel), _, rfl, iteF ?_⟩
      refine ⟨.int i, rfl, i, rfl, _, rfl, iteT ⟨.int i, rfl, .int i, rfl, rfl, ?_⟩⟩
      rw [decide_eq_true rfl]
      exact Q0
    | str z =>
      cases hx
      cases hy
      refine ⟨.str z, rfl, _, _, _, _, false, rfl, .ty _, .base (.str z), kit_ty (by decide +kernel), _, rfl, iteF ⟨.str z, rfl, rfl, _, rfl, iteF ?_⟩⟩
      refine ⟨.str z, rfl, _, _, _, _, false, rfl, .ty _, .base (.str z), kit_ty (by decide +kernel), _, rfl, iteF ?_⟩
      refine ⟨.str z, rfl, _, _, _, _, true, rfl, .ty _, .base (.str z), kit_ty (by decide +kernel), _, rfl, iteT ?_⟩
      refine ⟨.str z, rfl, _, _, _, _, true, rfl, .ty _, .base (.str z), kit_ty (by decide +kernel), _, rfl, iteT ⟨.str z, rfl, .str z, rfl, rfl, ?_⟩⟩
      rw [decide_eq_true rfl]
      exact Q0
    | list ds => cases ok
    | dict ds => cases ok
    | tuple ds =>
      cases hx with
      | @tup a xs _ sx ax =>
        cases hy with
        | @tup b ys _ sy ay =>
          have lx := dpa_len ds xs ax
          have ly := dpa_len ds ys ay
          obtain ⟨okL, okA⟩ := Bool.and_eq_true_iff.mp (show (decide (ds.length ≤ 1000) && ds.all fun d => okD n d) = true from ok)
          have okl : ds.length ≤ 1000 := of_decide_eq_true okL
          refine ⟨.ref b, rfl, _, _, _, _, true, rfl, .ty _, ty_tup sy, kit_ty (by decide +kernel), _, rfl, iteT ?_⟩
          refine ⟨.ref a, rfl, _, _, _, _, true, rfl, .ty _, ty_tup sx, kit_ty (by decide +kernel), _, rfl, iteF ?_⟩
          refine ⟨.ref a, rfl, a, xs, rfl, .inr sx, .ref b, rfl, b, ys, rfl, .inr sy, rfl, _, rfl, iteN (by rw [lx, ly]) ?_⟩
          refine ⟨.ref a, rfl, .ref b, rfl, a, b, xs, ys, rfl, .inr ⟨sx, sy, fun D hD => lc_it (walk_zipT (xs := xs) (ys := ys) (n := ds.length) (by omega)) (fun i H' => Same H H' ∧ H' D = some (.lst ((List.replicate i true).map V.bl))) ⟨same_upd hD, upd_same⟩ (fun i H' _ h => ⟨sqt_same h.1 sx, sqt_same h.1 sy⟩) ?_ ?_⟩⟩
          · rintro i v H1 H2 hi ⟨sm, eD⟩ ⟨t, u1, u2, rfl, nt, rfl, e1, e2⟩
            have st : Same H1 (upd H1 t (.tup [u1, u2])) := same_upd nt
            obtain ⟨d1, f1, g1⟩ := dpa_at ds xs ax i u1 e1
            obtain ⟨d2, f2, g2⟩ := dpa_at ds ys ay i u2 e2
            have ed : d2 = d1 := Option.some.inj (f2.symm.trans f1)
            subst ed
            have okd : okD n d2 = true := List.all_eq_true.mp okA d2 (List.mem_of_getElem? f1)
            refine ⟨t, [u1, u2], rfl, .inl (.inl upd_same), rfl, u1, [u2], rfl, u2, [], rfl, rfl, rfl, ?_⟩
            refine ⟨u1, rfl, u2, rfl, u1, u2, d2, rfl, dp_same (sm.trans st) d2 u1 g1, dp_same (sm.trans st) d2 u2 g2, okd, fun H3 s3 => ?_⟩
            refine ⟨_, s3 _ _ (st _ _ eD), ?_, ?_, ?_⟩
            · rw [List.length_map, List.length_replicate]
              exact small1000 (by omega)
            · exact fun b' o e => by
                rw [upd_ne (ne_of_none e hD)]
                exact s3 _ _ (st _ _ (sm _ _ e))
            · rw [upd_same, List.replicate_succ', List.map_append]
              rfl
          · rintro H1 ⟨sm, eD⟩
            refine ⟨_, List.replicate ds.length true, rfl, .inl (.inl eD), ?_⟩
            rw [all_true]
            exact q _ sm
theorem ok_Lsame (T : Top w K mg) : ∀ n : Nat, FnOk P w K mg base CX0 (n + 2) T.a_Lsame T.fd_Lsame ["_law_found", "_law_due_here"] (spSame K n)
  | 0 => ok_Lsame0 T
  | n + 1 => ok_LsameS T (ok_Lsame T n)
/-! ### data, whatever else stands in the heap -/
def isSeq : HO → Bool
  | .lst _ => true
  | .tup _ => true
  | .frz _ _ => true
  | _ => false
/-- all lists and tuples as they were -/
def Seqs (H H' : Hp) : Prop := ∀ b o, isSeq o = true → H b = some o → H' b = some o
theorem Seqs.of {H H' : Hp} (e : Same H H') : Seqs H H' := fun b o _ h => e b o h
theorem Seqs.trans {H H1 H2 : Hp} (a : Seqs H H1) (b : Seqs H1 H2) : Seqs H H2 := fun c o z h => b c o z (a c o z h)
theorem Seqs.upd {H : Hp} {a : Addr} {o u : HO} (e : H a = some u) (n : isSeq u = false) : Seqs H (L2.upd H a o) := fun b v z h => by
  rw [upd_ne (fun y => by rw [y, e] at h; cases h; rw [n] at z; cases z)]
  exact h
theorem Seqs.new {H : Hp} {a : Addr} {o : HO} (e : H a = none) : Seqs H (L2.upd H a o) := Seqs.of (same_upd e)
theorem seqs_l {K : PySem.W.Frag} {H H' : Hp} {a : Addr} {xs : List V} (e : Seqs H H') (h : SqL K H a xs) : SqL K H' a xs := by
  rcases h with (h | ⟨o, h⟩) | h
  · exact .inl (.inl (e _ _ rfl h))
  · exact .inl (.inr ⟨o, e _ _ rfl h⟩)
  · exact .inr h
theorem seqs_t {K : PySem.W.Frag} {H H' : Hp} {a : Addr} {xs : List V} (e : Seqs H H') (h : SqT K H a xs) : SqT K H' a xs := by
  rcases h with (h | ⟨o, h⟩) | h
  · exact .inl (.inl (e _ _ rfl h))
  · exact .inl (.inr ⟨o, e _ _ rfl h⟩)
  · exact .inr h
mutual
theorem dp_seqs {K : PySem.W.Frag} {H H' : Hp} (e : Seqs H H') : ∀ (d : PyData) (v : V), Dp K H v d → Dp K H' v d
  | .none, _, h => by cases h; exact .non
  | .bool b, _, h => by cases h; exact .bl b
  | .int i, _, h => by cases h; exact .int i
  | .str x, _, h => by cases h; exact .str x
  | .list ds, _, h => by
    cases h with
    | lst hs ha => exact .lst (seqs_l e hs) (dpa_seqs e ds _ ha)
  | .tuple ds, _, h => by
    cases h with
    | tup hs ha => exact .tup (seqs_t e hs) (dpa_seqs e ds _ ha)
  | .dict _, _, h => by cases h
theorem dpa_seqs {K : PySem.W.Frag} {H H' : Hp} (e : Seqs H H') : ∀ (ds : List PyData) (vs : List V), DpAll K H vs ds → DpAll K H' vs ds
  | [], _, h => by cases h; exact .nil
  | d :: ds, _, h => by
    cases h with
    | cons h1 h2 => exact .cons (dp_seqs e d _ h1) (dpa_seqs e ds _ h2)
end
theorem dpa_snoc {K : PySem.W.Frag} {H : Hp} {v : V} {d : PyData} (h : Dp K H v d) : ∀ (ds : List PyData) (vs : List V), DpAll K H vs ds → DpAll K H (vs ++ [v]) (ds ++ [d])
  | [], _, a => by cases a; exact .cons h .nil
  | x :: ds, _, a => by
    cases a with
    | cons h1 h2 => exact .cons h1 (dpa_snoc h ds _ h2)
/-- the heap without the places of X -/
noncomputable def wo (H : Hp) (X : Addr → Prop) : Hp := fun b => by
  classical
  exact if X b then none else H b
theorem wo_in {H : Hp} {X : Addr → Prop} {b : Addr} (h : ¬ X b) : wo H X b = H b := by
  unfold wo
  exact if_neg h
theorem wo_some {H : Hp} {X : Addr → Prop} {b : Addr} {o : HO} (h : wo H X b = some o) : ¬ X b ∧ H b = some o := by
  unfold wo at h
  by_cases hx : X b
  · rw [if_pos hx] at h
    cases h
  · rw [if_neg hx] at h
    exact ⟨hx, h⟩
theorem wo_same {H : Hp} {X : Addr → Prop} : Same (wo H X) H := fun b o h => (wo_some h).2
theorem wo_none {H : Hp} : wo H (fun _ => False) = H := by
  funext b
  exact wo_in (fun h => h)
/-! ### kinds of things -/
theorem ty_lst {K : PySem.W.Frag} {H : Hp} {a : Addr} {xs : List V} (h : SqL K H a xs) : TyX K H (.ref a) (.type "list") := by
  rcases h with (h | ⟨o, h⟩) | ⟨o, its, n, lk, hc, _⟩
  · exact .base (.lst h)
  · exact .base (.frz h)
  · exact .kList lk hc
theorem kit_any2 {K : PySem.W.Frag} {t a b : String} {x y : Bool} (h1 : kitB t a = some x) (h2 : kitB t b = some y) : PySem.W.kitAny K (.type t) [.type a, .type b] = some (x || y) := by
  unfold PySem.W.kitAny
  rw [kit_ty h1]
  cases x with
  | true => rfl
  | false =>
    unfold PySem.W.kitAny
    rw [kit_ty h2]
    cases y <;> rfl
/-- the type's name -/
def tyD : PyData → String
  | .none => "NoneType"
  | .bool _ => "bool"
  | .int _ => "int"
  | .str _ => "str"
  | .list _ => "list"
  | .tuple _ => "tuple"
  | .dict _ => "dict"
theorem ty_dp {K : PySem.W.Frag} {H : Hp} {v : V} {d : PyData} (h : Dp K H v d) : TyX K H v (.type (tyD d)) := by
  cases h with
  | non => exact .base .non
  | bl b => exact .base (.bl b)
  | int i => exact .base (.int i)
  | str z => exact .base (.str z)
  | lst h _ => exact ty_lst h
  | tup h _ => exact ty_tup h
def seqD : PyData → Option (List PyData)
  | .list ds => some ds
  | .tuple ds => some ds
  | _ => none
def strD : PyData → Bool
  | .str _ => true
  | _ => false
theorem kit_seq (d : PyData) : ∃ x y, kitB (tyD d) "tuple" = some x ∧ kitB (tyD d) "list" = some y ∧ (x || y) = (seqD d).isSome := by
  cases d with
  | list ds => exact ⟨false, true, by show kitB "list" "tuple" = some false; decide +kernel, by show kitB "list" "list" = some true; decide +kernel, rfl⟩
  | tuple ds => exact ⟨true, false, by show kitB "tuple" "tuple" = some true; decide +kernel, by show kitB "tuple" "list" = some false; decide +kernel, rfl⟩
  | none => exact ⟨false, false, by show kitB "NoneType" "tuple" = some false; decide +kernel, by show kitB "NoneType" "list" = some false; decide +kernel, rfl⟩
  | bool b => exact ⟨false, false, by show kitB "bool" "tuple" = some false; decide +kernel, by show kitB "bool" "list" = some false; decide +kernel, rfl⟩
  | int i => exact ⟨false, false, by show kitB "int" "tuple" = some false; decide +kernel, by show kitB "int" "list" = some false; decide +kernel, rfl⟩
  | str z => exact ⟨false, false, by show kitB "str" "tuple" = some false; decide +kernel, by show kitB "str" "list" = some false; decide +kernel, rfl⟩
  | dict z => exact ⟨false, false, by show kitB "dict" "tuple" = some false; decide +kernel, by show kitB "dict" "list" = some false; decide +kernel, rfl⟩
theorem kit_str (d : PyData) : kitB (tyD d) "str" = some (strD d) := by
  cases d with
  | list ds => show kitB "list" "str" = some false; decide +kernel
  | tuple ds => show kitB "tuple" "str" = some false; decide +kernel
  | none => show kitB "NoneType" "str" = some false; decide +kernel
  | bool b => show kitB "bool" "str" = some false; decide +kernel
  | int i => show kitB "int" "str" = some false; decide +kernel
  | str z => show kitB "str" "str" = some true; decide +kernel
  | dict z => show kitB "dict" "str" = some false; decide +kernel
def SqA (K : PySem.W.Frag) (H : Hp) (a : Addr) (xs : List V) : Prop := SqL K H a xs ∨ SqT K H a xs
theorem SqA.same {K : PySem.W.Frag} {H H' : Hp} {a : Addr} {xs : List V} (e : Same H H') (h : SqA K H a xs) : SqA K H' a xs := h.elim (fun h => .inl (e.seq h)) (fun h => .inr (sqt_same e h))
theorem seq_dp {K : PySem.W.Frag} {H : Hp} {v : V} {d : PyData} {ds : List PyData} (h : Dp K H v d) (e : seqD d = some ds) : ∃ a xs, v = .ref a ∧ SqA K H a xs ∧ DpAll K H xs ds := by
  cases h with
  | lst h a => cases e; exact ⟨_, _, rfl, .inl h, a⟩
  | tup h a => cases e; exact ⟨_, _, rfl, .inr h, a⟩
  | _ => cases e
theorem ixA {K : PySem.W.Frag} {H : Hp} {a : Addr} {xs : List V} {j : Nat} {v : V} {Q : VK} (h : SqA K H a xs) (hj : xs[j]? = some v) (q : Q v H) : rIx K (.ref a) (.int (j : Int)) H Q :=
  h.elim (fun h => .inl ⟨a, xs, j, v, rfl, rfl, h, atI_nat hj, q⟩) (fun h => .inr (.inl ⟨a, xs, j, v, rfl, rfl, h, atI_nat hj, q⟩))
theorem kpA {K : PySem.W.Frag} {H : Hp} {a : Addr} {xs : List V} (h : SqA K H a xs) : (∀ H', Same H H' → SqL K H' a xs) ∨ (∀ H', Same H H' → SqT K H' a xs) := h.elim (fun h => .inl fun _ s => s.seq h) (fun h => .inr fun _ s => sqt_same s h)
/-! ### what is kept: things laid out, then made anew from the end on -/
mutual
def siz : PyData → Nat
  | .list ds => 1 + sizs ds
  | .tuple ds => 1 + sizs ds
  | _ => 1
def sizs : List PyData → Nat
  | [] => 0
  | d :: ds => siz d + sizs ds
end
theorem siz_pos : ∀ d : PyData, 1 ≤ siz d
  | .list ds => by unfold siz; omega
  | .tuple ds => by unfold siz; omega
  | .none => by unfold siz; omega
  | .bool _ => by unfold siz; omega
  | .int _ => by unfold siz; omega
  | .str _ => by unfold siz; omega
  | .dict _ => by unfold siz; omega
theorem sizs_len : ∀ ds : List PyData, ds.length ≤ sizs ds
  | [] => by unfold sizs; exact Nat.le_refl _
  | d :: ds => by
    have := siz_pos d
    have := sizs_len ds
    unfold sizs
    rw [List.length_cons]
    omega
theorem sizs_app : ∀ (a b : List PyData), sizs (a ++ b) = sizs a + sizs b
  | [], b => by
    show sizs b = sizs [] + sizs b
    have : sizs [] = 0 := by unfold sizs; rfl
    omega
  | d :: a, b => by
    have := sizs_app a b
    show sizs (d :: (a ++ b)) = sizs (d :: a) + sizs b
    have e1 : sizs (d :: (a ++ b)) = siz d + sizs (a ++ b) := by rw [sizs]
    have e2 : sizs (d :: a) = siz d + sizs a := by rw [sizs]
    omega
theorem siz_seq {d : PyData} {cs : List PyData} (h : seqD d = some cs) : siz d = 1 + sizs cs := by
  cases d with
  | list ds => cases h; rw [siz]
  | tuple ds => cases h; rw [siz]
  | _ => cases h
theorem siz_flat {d : PyData} (h : seqD d = none) : siz d = 1 := by
  cases d with
  | list ds => cases h
  | tuple ds => cases h
  | _ => simp [siz]
theorem siz_int (i : Int) : siz (.int i) ≤ 1000 := by simp [siz]
theorem siz_str (z : Str) : siz (.str z) ≤ 1000 := by simp [siz]
theorem dpa_app {K : PySem.W.Frag} {H : Hp} : ∀ (ds es : List PyData) (xs ys : List V), DpAll K H xs ds → DpAll K H ys es → DpAll K H (xs ++ ys) (ds ++ es)
  | [], _, _, _, h, g => by cases h; exact g
  | d :: ds, es, _, ys, h, g => by
    cases h with
    | cons h1 h2 => exact .cons h1 (dpa_app ds es _ ys h2 g)
theorem dpa_dropK {K : PySem.W.Frag} {H : Hp} : ∀ (n : Nat) (ds : List PyData) (xs : List V), DpAll K H xs ds → DpAll K H (xs.drop n) (ds.drop n)
  | 0, _, _, h => h
  | n + 1, [], _, h => by cases h; exact .nil
  | n + 1, d :: ds, _, h => by
    cases h with
    | cons h1 h2 => exact dpa_dropK n ds _ h2
theorem dpa_takeK {K : PySem.W.Frag} {H : Hp} : ∀ (n : Nat) (ds : List PyData) (xs : List V), DpAll K H xs ds → DpAll K H (xs.take n) (ds.take n)
  | 0, _, _, _ => .nil
  | n + 1, [], _, h => by cases h; exact .nil
  | n + 1, d :: ds, _, h => by
    cases h with
    | cons h1 h2 => exact .cons h1 (dpa_takeK n ds _ h2)
theorem dpa_setK {K : PySem.W.Frag} {H : Hp} {v : V} {d : PyData} (hv : Dp K H v d) : ∀ (n : Nat) (ds : List PyData) (xs : List V), DpAll K H xs ds → ds[n]? = some d → DpAll K H (xs.set n v) ds
  | _, [], _, h, e => by cases e
  | 0, d' :: ds, _, h, e => by
    cases e
    cases h with
    | cons h1 h2 => exact .cons hv h2
  | n + 1, d' :: ds, _, h, e => by
    cases h with
    | cons h1 h2 => exact .cons h1 (dpa_setK hv n ds _ h2 e)
/-- where the parts of each of the first ones begin -/
def LaidTo (i : Nat) (ds : List PyData) (bs : List Int) : Prop := ∀ (j : Nat) (d : PyData) (cs : List PyData), j < i → ds[j]? = some d → seqD d = some cs → ∃ b : Nat, bs[j]? = some (b : Int) ∧ (ds.drop b).take cs.length = cs
theorem laid_more {i : Nat} {ds : List PyData} {bs : List Int} (hi : i ≤ ds.length) (h : LaidTo i ds bs) (es : List PyData) : LaidTo i (ds ++ es) bs := fun j d cs hj hd hs => by
  have l : j < ds.length := by omega
  · rw [List.getElem?_append_left l] at hd
    obtain ⟨b, h1, h2⟩ := h j d cs hj hd hs
    refine ⟨b, h1, ?_⟩
    have hl : cs.length ≤ (ds.drop b).length := by
      have := congrArg List.length h2
      rw [List.length_take] at this
      omega
    by_cases hb : b ≤ ds.length
    · rw [List.drop_append_of_le_length hb, List.take_append_of_le_length hl]
      exact h2
    · have h0 : (ds.drop b).length = 0 := by rw [List.length_drop]; omega
      have : cs = [] := List.eq_nil_of_length_eq_zero (by omega)
      rw [this]
      rfl
def spRowD (K : PySem.W.Frag) : Sp := fun vs H Q _ => ∃ (v : V) (d : PyData), vs = [v] ∧ Dp K H v d ∧ ∀ H', Same H H' → Q (.bl (seqD d).isSome) H'
theorem ok_is_row (T : Top w K mg) : FnOk P w K mg base CX0 1 T.a_is_row T.fd_is_row ["thing"] (spRowD K) := by
  refine T.F_is_row.ok sc_is_row (fun vs H Q E h => ?_) (fun cdv A outer s H vs Q E hr h => ?_)
  · obtain ⟨v, d, rfl, _⟩ := h
    rfl
  · obtain ⟨v, d, rfl, hd, q⟩ := h
    refine ⟨_, (pss_one (ps_ret (pe_callB call_isiT (by rfl) T.m_isinstance (by decide +kernel) (pa_cons (pv 0) (pa_cons (pe_tup (pa_cons (pe_bltn (v := .ty "tuple") (by rfl) T.m_tuple (by decide +kernel) rfl) (pa_cons (pe_bltn (v := .ty "list") (by rfl) T.m_list (by decide +kernel) rfl) pa_nil))) pa_nil))))), ?_⟩
    obtain ⟨x, y, k1, k2, exy⟩ := kit_seq d
    refine ⟨v, rfl, by show 2 ≤ sizeLine; decide, fun tp np => ⟨v, tp, _, _, _, _, rfl, upd_same, .cons (.ty _) (.cons (.ty _) .nil), ty_dp (dp_same (same_upd np) d v hd), kit_any2 k1 k2, ?_⟩⟩
    rw [exy]
    exact q _ (same_upd np)
theorem cut_nat (xs : List V) (b n : Nat) (h : b + n ≤ xs.length) : cutV xs (some (b : Int)) (some ((b : Int) + (n : Int))) = (xs.drop b).take n := by
  unfold cutV
  have e1 : HT.sIx xs.length 0 (some (b : Int)) = b := by
    unfold HT.sIx
    simp only []
    split <;> omega
  have e2 : HT.sIx xs.length xs.length (some ((b : Int) + (n : Int))) = b + n := by
    unfold HT.sIx
    simp only []
    split <;> omega
  rw [e1, e2, Nat.add_sub_cancel_left]
theorem cut_bl (as : List Bool) (lo hi : Option Int) : ∃ cs : List Bool, cutV (as.map V.bl) lo hi = cs.map V.bl := by
  unfold cutV
  exact ⟨_, by rw [← List.map_drop, ← List.map_take]⟩
def spKept (K : PySem.W.Frag) : Sp := fun vs H Q _ => ∃ (v : V) (d : PyData), vs = [v] ∧ siz d ≤ 1000 ∧ Dp K H v d ∧ ∀ H' v', Same H H' → Dp K H' v' d → Q v' H'
def spLaid (K : PySem.W.Frag) : Sp := fun vs H Q _ => ∃ (v : V) (d : PyData), vs = [v] ∧ siz d ≤ 1000 ∧ Dp K H v d ∧
  ∀ H' r t b xs ds bs, Same H H' → H t = none → H b = none → t ≠ b → H' t = some (.lst xs) → H' b = some (.lst (bs.map V.int)) → H' r = some (.tup [.ref t, .ref b]) → DpAll K H xs ds → LaidTo ds.length ds bs → bs.length = ds.length → ds[0]? = some d → ds.length ≤ 1000 → Q (.ref r) H'
theorem ok_laid_out (T : Top w K mg) : FnOk P w K mg base CX0 2 T.a_laid_out T.fd_laid_out ["thing"] (spLaid K) := by
  have G_is_row := ok_is_row (P := P) (w := w) (base := base) T
  refine T.F_laid_out.ok sc_laid_out (fun vs H Q E h => ?_) (fun cdv A outer s H vs Q E hr h => ?_)
  · obtain ⟨v, d, rfl, _⟩ := h
    rfl
  · obtain ⟨v, d, rfl, hz, hd, q⟩ := h
    refine ⟨_, (pss_cons (ps_set (i := 1) sc_laid_out.nd rfl (.inl rfl) (pe_lst (pa_cons (pv 0) pa_nil)))
      (pss_cons (ps_set (i := 2) sc_laid_out.nd rfl (.inl rfl) (pe_lst pa_nil))
      (pss_cons (ps_while PassesOwn.never (pt_cmpR op_lt (pe_callB call_len_seq (by rfl) T.m_len (by decide +kernel) (pa_cons (pv 2) pa_nil)) (pe_callB call_len_seq (by rfl) T.m_len (by decide +kernel) (pa_cons (pv 1) pa_nil)) (nomark _)) (pss_cons (ps_set (i := 3) sc_laid_out.nd rfl (.inl rfl) (pe_ix ix_list (pv 1) (pe_callB call_len_seq (by rfl) T.m_len (by decide +kernel) (pa_cons (pv 2) pa_nil)) (fun _ _ => rfl)))
      (pss_cons (ps_expr (pe_bm PySem.F.plainAttrs_list PySem.F.slot_list_append PySem.F.type_list_append mt_append (pv 2) (pa_cons (pe_callB call_len_seq (by rfl) T.m_len (by decide +kernel) (pa_cons (pv 1) pa_nil)) pa_nil)))
      (pss_one (ps_if (pt_val (pe_call G_is_row hr (by rfl) T.g_is_row T.F_is_row.kp T.b_is_row .nil pass0 (pa_cons (pv 3) pa_nil))) (pss_one (ps_expr (pe_bm PySem.F.plainAttrs_list PySem.F.slot_list_extend PySem.F.type_list_extend mt_extend (pv 1) (pa_cons (pe_callTy call_list_of (by rfl) T.m_list (by decide +kernel) (pa_cons (pv 3) pa_nil)) pa_nil)))) pss_nil)))))
      (pss_one (ps_ret (pe_tup (pa_cons (pv 1) (pa_cons (pv 2) pa_nil)))))))), ?_⟩
    refine ⟨v, rfl, by show 1 ≤ sizeLine; decide, fun t nt => ?_⟩
    refine ⟨Nat.zero_le _, fun b nb => ?_⟩
    have s1 := same_upd (o := .lst [v]) nt
    have s2 := same_upd (o := .lst []) nb
    have tb : t ≠ b := fun z => by
      rw [← z, upd_same] at nb
      cases nb
    have nb0 : H b = none := s1.free nb
    refine ⟨fun m σ H1 => ∃ xs ds bs y, σ = [some v, some (.ref t), some (.ref b), y] ∧ Same H H1 ∧ H1 t = some (.lst xs) ∧ H1 b = some (.lst (bs.map V.int)) ∧ DpAll K H xs ds ∧ bs.length ≤ ds.length ∧ LaidTo bs.length ds bs ∧ ds[0]? = some d ∧ m = sizs (ds.drop bs.length) ∧ bs.length + m = siz d, ⟨siz d, [v], [d], [], none, rfl, s1.trans s2, s2 _ _ upd_same, upd_same, .cons hd .nil, Nat.zero_le _, (fun j d cs hj => absurd hj (Nat.not_lt_zero j)), rfl, ?_, Nat.zero_add _⟩, ?_⟩
    · show siz d = sizs [d]
      rw [sizs, sizs]
      rfl
    · rintro m σ H1 ⟨xs, ds, bs, y, rfl, sm, et, eb, ha, hl, hlaid, h0, hm, hsum⟩
      have lx := dpa_len ds xs ha
      refine ⟨.ref b, rfl, b, _, rfl, .inl (.inl (.inl eb)), .ref t, rfl, t, _, rfl, .inl (.inl (.inl et)), _, _, rfl, rfl, _, rfl, ite2 (fun e => ?_) (fun e => ?_)⟩
      · have hi : bs.length < ds.length := by
          have := of_decide_eq_true e
          rw [List.length_map] at this
          omega
        obtain ⟨di, fi⟩ : ∃ di, ds[bs.length]? = some di := ⟨_, List.getElem?_eq_getElem hi⟩
        obtain ⟨x, gx⟩ : ∃ x, xs[bs.length]? = some x := ⟨_, List.getElem?_eq_getElem (by omega)⟩
        have hx : Dp K H x di := by
          obtain ⟨d', e1, e2⟩ := dpa_at ds xs ha _ x gx
          rw [fi] at e1
          cases e1
          exact e2
        have dr : ds.drop bs.length = di :: ds.drop (bs.length + 1) := by
          obtain ⟨h1, h2⟩ := List.getElem?_eq_some_iff.mp fi
          rw [List.drop_eq_getElem_cons h1, h2]
        have m1 : m = siz di + sizs (ds.drop (bs.length + 1)) := by rw [hm, dr, sizs]
        have lds : ds.length ≤ siz d := by
          have := sizs_len (ds.drop bs.length)
          rw [List.length_drop] at this
          omega
        refine ⟨fun σ' H' => ∃ m', m' < m ∧ _, fun _ _ h => h, ?_⟩
        refine ⟨.ref t, rfl, .ref b, rfl, b, _, rfl, .inl (.inl (.inl eb)), t, xs, _, x, rfl, rfl, .inl (.inl et), atI_nat (by rw [List.length_map]; exact gx), ?_⟩
        refine ⟨.ref b, rfl, .inl ⟨rfl, _, .inl (.inl eb)⟩, .ref t, rfl, t, _, rfl, .inl (.inl (.inl et)), b, _, _, rfl, rfl, eb, small1000 (by rw [List.length_map]; omega), ?_⟩
        have sb := same_upd (o := .lst (bs.map V.int ++ [.int (xs.length : Nat)])) nb0
        have s3 : Same H (upd H1 b (.lst (bs.map V.int ++ [.int (xs.length : Nat)]))) := fun c o h => by
          rw [upd_ne (ne_of_none h nb0)]
          exact sm _ _ h
        have eb2 : (bs ++ [((xs.length : Nat) : Int)]).map V.int = bs.map V.int ++ [.int (xs.length : Nat)] := by rw [List.map_append]; rfl
        have lb2 : (bs ++ [((xs.length : Nat) : Int)]).length = bs.length + 1 := by rw [List.length_append]; rfl
        have old : ∀ es, LaidTo bs.length (ds ++ es) (bs ++ [((xs.length : Nat) : Int)]) := fun es j d' cs hj h1 h2 => by
          obtain ⟨b0, g1, g2⟩ := laid_more hl hlaid es j d' cs hj h1 h2
          exact ⟨b0, by rw [List.getElem?_append_left hj]; exact g1, g2⟩
        refine ⟨x, rfl, x, di, rfl, dp_same s3 di x hx, fun H4 s4 => ⟨_, rfl, ?_⟩⟩
        cases e : seqD di with
        | none =>
          refine iteF ⟨sizs (ds.drop (bs.length + 1)), by have := siz_pos di; omega, xs, ds, bs ++ [((xs.length : Nat) : Int)], _, rfl, s3.trans s4, s4 _ _ (by rw [upd_ne tb]; exact et), s4 _ _ (by rw [eb2]; exact upd_same), ha, by omega, fun j d' cs hj h1 h2 => ?_, h0, by rw [lb2], ?_⟩
          · rw [lb2] at hj
            by_cases ej : j = bs.length
            · rw [ej, fi] at h1
              cases h1
              rw [e] at h2
              cases h2
            · have := old [] j d' cs (by omega) (by rw [List.append_nil]; exact h1) h2
              rw [List.append_nil] at this
              exact this
          · have := siz_flat e
            omega
        | some cs =>
          obtain ⟨p, ys, rfl, hs, hc⟩ := seq_dp hx e
          have lc := dpa_len cs ys hc
          have zc := siz_seq e
          have lcs := sizs_len cs
          have ldr := sizs_len (ds.drop (bs.length + 1))
          rw [List.length_drop] at ldr
          refine iteT ⟨.ref t, rfl, .inl ⟨rfl, _, .inl (.inl (s4 _ _ (by rw [upd_ne tb]; exact et)))⟩, .ref p, rfl, p, ys, rfl, hs.elim (fun h => .inl ((s3.trans s4).seq h)) (fun h => .inr (sqt_same (s3.trans s4) h)), fun l nl => ?_⟩
          have et4 := s4 _ _ (show upd H1 b (.lst (bs.map V.int ++ [.int (xs.length : Nat)])) t = some (.lst xs) by rw [upd_ne tb]; exact et)
          have eb4 := s4 b _ upd_same
          have lt : t ≠ l := ne_of_none et4 nl
          have lb : b ≠ l := ne_of_none eb4 nl
          refine ⟨t, l, xs, ys, rfl, rfl, by rw [upd_ne lt]; exact et4, upd_same, Nat.le_of_lt (small1000 (by omega)), ?_⟩
          refine ⟨sizs ((ds ++ cs).drop (bs.length + 1)), ?_, xs ++ ys, ds ++ cs, bs ++ [((xs.length : Nat) : Int)], _, rfl, fun c o h => ?_, upd_same, ?_, dpa_app ds cs xs ys ha hc, ?_, fun j d' cs' hj h1 h2 => ?_, ?_, by rw [lb2], ?_⟩
          · rw [List.drop_append_of_le_length (by omega), sizs_app]
            omega
          · rw [upd_ne (ne_of_none h nt), upd_ne (ne_of_none ((s3.trans s4) _ _ h) nl)]
            exact (s3.trans s4) _ _ h
          · rw [upd_ne (Ne.symm tb), upd_ne lb, eb2]
            exact eb4
          · rw [lb2, List.length_append]
            omega
          · rw [lb2] at hj
            by_cases ej : j = bs.length
            · rw [ej, List.getElem?_append_left hi, fi] at h1
              cases h1
              rw [e] at h2
              cases h2
              refine ⟨ds.length, ?_, ?_⟩
              · rw [ej, List.getElem?_append_right (Nat.le_refl _), Nat.sub_self, lx]
                rfl
              · rw [List.drop_left, List.take_of_length_le (Nat.le_refl _)]
            · exact old cs j d' cs' (by omega) h1 h2
          · rw [List.getElem?_append_left (by omega)]
            exact h0
          · rw [List.drop_append_of_le_length (by omega), sizs_app]
            omega
      · have hi : bs.length = ds.length := by
          have : ¬ ((bs.map V.int).length : Int) < (xs.length : Int) := fun z => e (decide_eq_true z)
          rw [List.length_map] at this
          omega
        refine ⟨.ref t, rfl, .ref b, rfl, by show 2 ≤ sizeLine; decide, fun r nr => ?_⟩
        have sr := same_upd (o := .tup [.ref t, .ref b]) nr
        exact q _ r t b xs ds bs (sm.trans sr) nt nb0 tb (sr _ _ et) (sr _ _ eb) upd_same ha (by rw [← hi]; exact hlaid) hi h0 (by omega)
theorem ok_kept (T : Top w K mg) : FnOk P w K mg base CX0 3 T.a_kept T.fd_kept ["thing"] (spKept K) := by
  have G_is_row := ok_is_row (P := P) (w := w) (base := base) T
  have G_laid_out := ok_laid_out (P := P) (w := w) (base := base) T
  refine T.F_kept.ok sc_kept (fun vs H Q E h => ?_) (fun cdv A outer s H vs Q E hr h => ?_)
  · obtain ⟨v, d, rfl, _⟩ := h
    rfl
  · obtain ⟨v, d, rfl, hz, hd, q⟩ := h
    refine ⟨_, (pss_cons (ps_asg (pe_call G_laid_out hr (by rfl) T.g_laid_out T.F_laid_out.kp T.b_laid_out .nil pass0 (pa_cons (pv 0) pa_nil)) (pg_tup rfl (pgs_cons (pg_name (i := 1) sc_kept.nd rfl (.inl rfl)) (pgs_cons (pg_name (i := 2) sc_kept.nd rfl (.inl rfl)) pgs_nil))))
      (pss_cons (ps_set (i := 3) sc_kept.nd rfl (.inl rfl) (pe_callB call_len_seq (by rfl) T.m_len (by decide +kernel) (pa_cons (pv 1) pa_nil)))
      (pss_cons (ps_set (i := 4) sc_kept.nd rfl (.inl rfl) (pe_op op_rep (pe_lst (pa_cons pe_bl pa_nil)) (pv 3)))
      (pss_cons (ps_while PassesOwn.never (pt_cmpR op_gt (pv 3) pe_int (nomark _)) (pss_cons (ps_aug (i := 3) sc_kept.nd rfl (.inl rfl) pe_int ip_sub)
      (pss_cons (ps_set (i := 5) sc_kept.nd rfl (.inl rfl) (pe_ix ix_list (pv 1) (pv 3) (fun _ _ => rfl)))
      (pss_one (ps_if (pt_val (pe_call G_is_row (hr.mono (by decide)) (by rfl) T.g_is_row T.F_is_row.kp T.b_is_row .nil pass0 (pa_cons (pv 5) pa_nil))) (pss_cons (ps_par (i := 6) (j := 7) (by rfl) sc_kept.nd rfl rfl (by decide) rfl rfl (pa_cons (pe_ix ix_list (pv 2) (pv 3) (fun _ _ => rfl)) (pa_cons (pe_op op_add (pe_ix ix_list (pv 2) (pv 3) (fun _ _ => rfl)) (pe_callB call_len_seq (by rfl) T.m_len (by decide +kernel) (pa_cons (pv 5) pa_nil))) pa_nil)) (by rfl))
      (Evl.pss_cut (ps_asg (pe_or (pe_callB call_isi (by rfl) T.m_isinstance (by decide +kernel) (pa_cons (pv 5) (pa_cons (pe_bltn (v := .ty "list") (by rfl) T.m_list (by decide +kernel) rfl) pa_nil))) (pe_one (pe_callB (cr_any rfl) (by rfl) T.m_any (by decide +kernel) (pa_cons (pe_slice sl_list (pv 4) (po_some (pv 6)) (po_some (pv 7))) pa_nil)))) (pg_sub (pv 4) (pv 3) set_list))
      (pss_one (ps_if (pt_val (pe_ix ix_list (pv 4) (pv 3) (fun _ _ => rfl))) (pss_one (ps_asg (pe_ifExp (pt_val (pe_callB call_isi (by rfl) T.m_isinstance (by decide +kernel) (pa_cons (pv 5) (pa_cons (pe_bltn (v := .ty "list") (by rfl) T.m_list (by decide +kernel) rfl) pa_nil)))) (pe_slice sl_list (pv 1) (po_some (pv 6)) (po_some (pv 7))) (pe_callTy call_tuple_of (by rfl) T.m_tuple (by decide +kernel) (pa_cons (pe_slice sl_list (pv 1) (po_some (pv 6)) (po_some (pv 7))) pa_nil))) (pg_sub (pv 1) (pv 3) set_list))) pss_nil)))) pss_nil)))))
      (pss_one (ps_ret (pe_ix ix_list (pv 1) pe_int (fun _ _ => rfl)))))))), ?_⟩
    refine ⟨v, rfl, v, d, rfl, hz, hd, fun H1 r t b xs ds bs sm nt nb tb et eb er ha hlaid hlb h0 hl => ?_⟩
    have lx := dpa_len ds xs ha
    refine ⟨r, _, rfl, .inl (.inl er), rfl, _, _, rfl, _, _, rfl, rfl, ?_⟩
    refine ⟨.ref t, rfl, t, xs, rfl, .inl (.inl (.inl et)), ?_⟩
    have sl : xs.length ≤ sizeLine := Nat.le_of_lt (small1000 (by omega))
    refine ⟨by show 1 ≤ sizeLine; decide, fun l nl => ?_⟩
    have s1 := same_upd (o := .lst [.bl false]) nl
    refine ⟨.int (xs.length : Nat), rfl, l, _, _, rfl, rfl, upd_same, by omega, by have : sizeLine < 2 ^ 63 := by decide
                                                                                   omega, ?_, fun a na => ?_⟩
    · show 1 * (xs.length : Int).toNat ≤ sizeLine
      omega
    have s2 := same_upd (o := .lst (List.replicate (xs.length : Int).toNat [V.bl false]).flatten) na
    have ea : ∃ as : List Bool, (List.replicate (xs.length : Int).toNat [V.bl false]).flatten = as.map V.bl ∧ as.length = ds.length := ⟨List.replicate ds.length false, by simp [lx], by simp⟩
    obtain ⟨as, ea1, ea2⟩ := ea
    have ma : upd (upd H1 l (.lst [.bl false])) a (.lst (List.replicate (xs.length : Int).toNat [V.bl false]).flatten) a = some (.lst (as.map V.bl)) := by rw [upd_same, ea1]
    have ta : t ≠ a := ne_of_none (s1 _ _ et) na
    have ba : b ≠ a := ne_of_none (s1 _ _ eb) na
    have na0 : H a = none := sm.free (s1.free na)
    refine ⟨fun m σ H2 => ∃ xs as y5 y6 y7, σ = [some v, some (.ref t), some (.ref b), some (.int (m : Nat)), some (.ref a), y5, y6, y7] ∧ m ≤ ds.length ∧ Same H H2 ∧ H2 t = some (.lst xs) ∧ H2 b = some (.lst (bs.map V.int)) ∧ H2 a = some (.lst (as.map V.bl)) ∧ as.length = ds.length ∧ DpAll K (wo H2 (fun c => c = t ∨ c = b ∨ c = a)) xs ds, ⟨ds.length, xs, as, none, none, none, by rw [lx]; rfl, Nat.le_refl _, (sm.trans s1).trans s2, (s1.trans s2) _ _ et, (s1.trans s2) _ _ eb, ma, ea2, ?_⟩, ?_⟩
    · refine dpa_same (fun c o h => ?_) _ _ ha
      rw [wo_in (fun z => by
        rcases z with z | z | z
        · rw [z, nt] at h; cases h
        · rw [z, nb] at h; cases h
        · rw [z, na0] at h; cases h)]
      exact ((sm.trans s1).trans s2) _ _ h
    · rintro m σ H2 ⟨xs, as, y5, y6, y7, rfl, hm, sm2, et2, eb2, ea2, la, ha2⟩
      have lx := dpa_len ds xs ha2
      refine ⟨.int (m : Nat), rfl, _, _, rfl, rfl, _, rfl, ite2 (fun e => ?_) (fun e => ?_)⟩
      · have mp : 0 < m := by
          have := of_decide_eq_true e
          omega
        obtain ⟨j, rfl⟩ : ∃ j, m = j + 1 := ⟨m - 1, by omega⟩
        refine ⟨fun σ' H' => ∃ m', m' < j + 1 ∧ _, fun _ _ h => h, ?_⟩
        refine ⟨_, rfl, _, _, rfl, rfl, ?_⟩
        have ej : ((j + 1 : Nat) : Int) - 1 = (j : Nat) := by omega
        obtain ⟨dj, fj⟩ : ∃ dj, ds[j]? = some dj := ⟨_, List.getElem?_eq_getElem (by omega)⟩
        obtain ⟨x, gx⟩ : ∃ x, xs[j]? = some x := ⟨_, List.getElem?_eq_getElem (by omega)⟩
        have hx : Dp K (wo H2 (fun c => c = t ∨ c = b ∨ c = a)) x dj := by
          obtain ⟨d', e1, e2⟩ := dpa_at ds xs ha2 _ x gx
          rw [fj] at e1
          cases e1
          exact e2
        have hx2 := dp_same wo_same dj x hx
        have atj : ∀ {α : Type} {l : List α} {y : α}, l[j]? = some y → atI l (((j + 1 : Nat) : Int) - 1) = some y := fun h => by
          rw [ej]
          exact atI_nat h
        refine ⟨.ref t, rfl, _, rfl, t, xs, _, x, rfl, rfl, .inl (.inl et2), atj gx, ?_⟩
        refine ⟨x, rfl, x, dj, rfl, hx2, fun H3 s3 => ⟨_, rfl, ?_⟩⟩
        have keep : ∀ {H4 : Hp}, Same H2 H4 → Same (wo H2 (fun c => c = t ∨ c = b ∨ c = a)) (wo H4 (fun c => c = t ∨ c = b ∨ c = a)) := fun {H4} s4 c o h => by
          have h2 := wo_some h
          rw [wo_in h2.1]
          exact s4 _ _ h2.2
        cases e : seqD dj with
        | none => exact iteF ⟨j, Nat.lt_succ_self j, xs, as, some x, y6, y7, by rw [← ej]; rfl, by omega, sm2.trans s3, s3 _ _ et2, s3 _ _ eb2, s3 _ _ ea2, la, dpa_same (keep s3) _ _ ha2⟩
        | some cs =>
          obtain ⟨p, ys, rfl, hs, hc⟩ := seq_dp hx2 e
          have lc := dpa_len cs ys hc
          obtain ⟨b0, g1, g2⟩ := hlaid j dj cs (by omega) fj e
          have lcs : b0 + cs.length ≤ ds.length ∨ cs.length = 0 := by
            have := congrArg List.length g2
            rw [List.length_take, List.length_drop] at this
            omega
          have gb : (bs.map V.int)[j]? = some (.int (b0 : Int)) := by rw [List.getElem?_map, g1]; rfl
          have ty3 := ty_dp (dp_same s3 dj _ hx2)
          obtain ⟨x1, y1, k1, k2, exy⟩ := kit_seq dj
          refine iteT ⟨.ref b, rfl, _, rfl, b, _, _, _, rfl, rfl, .inl (.inl (s3 _ _ eb2)), atj gb, .ref b, rfl, _, rfl, b, _, _, _, rfl, rfl, .inl (.inl (s3 _ _ eb2)), atj gb, .ref p, rfl, p, ys, rfl, hs.elim (fun h => .inl (s3.seq h)) (fun h => .inr (sqt_same s3 h)), _, _, rfl, rfl, _, _, rfl, ?_⟩
          refine ⟨fun σ' H4 => ∃ as' : List Bool, σ' = [some v, some (.ref t), some (.ref b), some (.int (((j + 1 : Nat) : Int) - 1)), some (.ref a), some (.ref p), some (.int (b0 : Int)), some (.int ((b0 : Int) + (ys.length : Nat)))] ∧ as'.length = ds.length ∧ H4 a = some (.lst (as'.map V.bl)) ∧ ∀ c o, c ≠ a → H2 c = some o → H4 c = some o, ?_, ?_⟩
          · have put : ∀ (z : Bool) (H4 : Hp), Same H3 H4 → ∃ p xs k j', V.ref a = .ref p ∧ V.int (((j + 1 : Nat) : Int) - 1) = .int k ∧ H4 p = some (.lst xs) ∧ ixN xs.length k = some j' ∧ ∃ as' : List Bool, as'.length = ds.length ∧ upd H4 p (.lst (xs.set j' (.bl z))) a = some (.lst (as'.map V.bl)) ∧ ∀ c o, c ≠ a → H2 c = some o → upd H4 p (.lst (xs.set j' (.bl z))) c = some o := fun z H4 s4 => by
              refine ⟨a, as.map V.bl, _, j, rfl, rfl, s4 _ _ (s3 _ _ ea2), by rw [ej]; exact Evl.ixN_nat (by rw [List.length_map]; omega), as.set j z, by rw [List.length_set]; exact la, by rw [upd_same, List.map_set], fun c o hc h => ?_⟩
              rw [upd_ne hc]
              exact s4 _ _ (s3 _ _ h)
            refine ⟨.ref p, rfl, _, _, _, _, y1, rfl, .ty _, ty3, kit_ty k2, _, rfl, ?_⟩
            cases y1 with
            | true =>
              refine iteT ⟨.ref a, rfl, _, rfl, ?_⟩
              obtain ⟨p', xs', k', j', h1, h2, h3, h4, as', h5, h6, h7⟩ := put true H3 (Same.refl _)
              exact ⟨p', xs', k', j', h1, h2, h3, h4, as', rfl, h5, h6, h7⟩
            | false =>
              obtain ⟨cs', ec⟩ := cut_bl as (some (b0 : Int)) (some ((b0 : Int) + (ys.length : Nat)))
              refine iteF ⟨.ref a, rfl, _, rfl, _, rfl, _, rfl, _, rfl, a, _, rfl, .inl (.inl (s3 _ _ ea2)), fun c nc => ⟨c, cs', rfl, .inl (.inl (by rw [upd_same, ec])), .ref a, rfl, _, rfl, ?_⟩⟩
              obtain ⟨p', xs', k', j', h1, h2, h3, h4, as', h5, h6, h7⟩ := put (cs'.any id) _ (same_upd nc)
              exact ⟨p', xs', k', j', h1, h2, h3, h4, as', rfl, h5, h6, h7⟩
          · rintro σ' H4 ⟨as', rfl, la', ea4, k4⟩
            have na2 : H a = none := na0
            have sm4 : Same H H4 := fun c o h => k4 _ _ (ne_of_none h na0) (sm2 _ _ h)
            have et4 := k4 t _ ta et2
            have eb4 := k4 b _ ba eb2
            have keep4 : Same (wo H2 (fun c => c = t ∨ c = b ∨ c = a)) (wo H4 (fun c => c = t ∨ c = b ∨ c = a)) := fun c o h => by
              have h2 := wo_some h
              rw [wo_in h2.1]
              exact k4 _ _ (fun z => h2.1 (.inr (.inr z))) h2.2
            obtain ⟨z, gz⟩ : ∃ z, as'[j]? = some z := ⟨_, List.getElem?_eq_getElem (by omega)⟩
            refine ⟨.ref a, rfl, _, rfl, a, _, _, .bl z, rfl, rfl, .inl (.inl ea4), atj (by rw [List.getElem?_map, gz]; rfl), z, rfl, ?_⟩
            cases z with
            | false => exact iteF ⟨j, Nat.lt_succ_self j, xs, as', some (.ref p), _, _, by rw [← ej], by omega, sm4, et4, eb4, ea4, la', dpa_same keep4 _ _ ha2⟩
            | true =>
              refine iteT ⟨.ref p, rfl, _, _, _, _, y1, rfl, .ty _, ty_dp (dp_same keep4 dj _ hx |> dp_same wo_same dj _), kit_ty k2, _, rfl, ?_⟩
              have hcut : DpAll K (wo H4 (fun c => c = t ∨ c = b ∨ c = a)) (cutV xs (some (b0 : Int)) (some ((b0 : Int) + (ys.length : Nat)))) cs := by
                have h1 := dpa_takeK cs.length _ _ (dpa_dropK b0 _ _ (dpa_same keep4 _ _ ha2))
                rw [g2] at h1
                rcases lcs with h | h
                · rw [cut_nat xs b0 ys.length (by omega), lc]
                  exact h1
                · have e0 : cs = [] := List.eq_nil_of_length_eq_zero h
                  have e1 : ys.length = 0 := by omega
                  have e2 : cutV xs (some (b0 : Int)) (some ((b0 : Int) + (ys.length : Nat))) = [] := by
                    rw [e1]
                    unfold cutV
                    rw [show ((b0 : Int) + ((0 : Nat) : Int)) = (b0 : Int) by omega]
                    apply List.eq_nil_of_length_eq_zero
                    rw [List.length_take, List.length_drop]
                    unfold HT.sIx
                    simp only []
                    split <;> omega
                  rw [e2, e0]
                  exact .nil
              have fin : ∀ (H6 : Hp) (y' : V), Same H4 H6 → Dp K (wo H6 (fun c => c = t ∨ c = b ∨ c = a)) y' dj → Same H (upd H6 t (.lst (xs.set j y'))) ∧ upd H6 t (.lst (xs.set j y')) b = some (.lst (bs.map V.int)) ∧ upd H6 t (.lst (xs.set j y')) a = some (.lst (as'.map V.bl)) ∧ DpAll K (wo (upd H6 t (.lst (xs.set j y'))) (fun c => c = t ∨ c = b ∨ c = a)) (xs.set j y') ds := fun H6 y' s6 hy => by
                have k6 : Same (wo H6 (fun c => c = t ∨ c = b ∨ c = a)) (wo (upd H6 t (.lst (xs.set j y'))) (fun c => c = t ∨ c = b ∨ c = a)) := fun c o h => by
                  have h2 := wo_some h
                  rw [wo_in h2.1, upd_ne (fun z => h2.1 (.inl z))]
                  exact h2.2
                have k46 : Same (wo H4 (fun c => c = t ∨ c = b ∨ c = a)) (wo H6 (fun c => c = t ∨ c = b ∨ c = a)) := fun c o h => by
                  have h2 := wo_some h
                  rw [wo_in h2.1]
                  exact s6 _ _ h2.2
                refine ⟨fun c o h => ?_, ?_, ?_, dpa_setK (dp_same k6 dj y' hy) j ds xs (dpa_same (keep4.trans (k46.trans k6)) _ _ ha2) fj⟩
                · rw [upd_ne (ne_of_none h nt)]
                  exact s6 _ _ (sm4 _ _ h)
                · rw [upd_ne (Ne.symm tb)]
                  exact s6 _ _ eb4
                · rw [upd_ne (Ne.symm ta)]
                  exact s6 _ _ ea4
              have newX : ∀ {H6 : Hp} {c : Addr}, Same H4 H6 → H6 c = none → ¬ (c = t ∨ c = b ∨ c = a) := fun {H6 c} s6 nc z => by
                rcases z with z | z | z
                · rw [z, s6 _ _ et4] at nc; cases nc
                · rw [z, s6 _ _ eb4] at nc; cases nc
                · rw [z, s6 _ _ ea4] at nc; cases nc
              have keep6 : ∀ {H6 : Hp}, Same H4 H6 → Same (wo H4 (fun c => c = t ∨ c = b ∨ c = a)) (wo H6 (fun c => c = t ∨ c = b ∨ c = a)) := fun {H6} s6 c o h => by
                have h2 := wo_some h
                rw [wo_in h2.1]
                exact s6 _ _ h2.2
              have hk : (y1 = true → dj = .list cs) ∧ (y1 = false → dj = .tuple cs) := by
                cases dj with
                | list ds =>
                  cases e
                  have : kitB (tyD (.list cs)) "list" = some true := by show kitB "list" "list" = some true; decide +kernel
                  rw [this] at k2
                  cases k2
                  exact ⟨fun _ => rfl, fun z => by cases z⟩
                | tuple ds =>
                  cases e
                  have : kitB (tyD (.tuple cs)) "list" = some false := by show kitB "tuple" "list" = some false; decide +kernel
                  rw [this] at k2
                  cases k2
                  exact ⟨fun z => (by cases z), fun _ => rfl⟩
                | _ => cases e
              have ixj : ixN xs.length (((j + 1 : Nat) : Int) - 1) = some j := by rw [ej]; exact Evl.ixN_nat (by omega)
              cases y1 with
              | true =>
                refine iteT ⟨.ref t, rfl, _, rfl, _, rfl, _, rfl, _, rfl, t, xs, rfl, .inl (.inl et4), fun c nc => ?_⟩
                have sc := same_upd (o := .lst (cutV xs (some (b0 : Int)) (some ((b0 : Int) + (ys.length : Nat))))) nc
                obtain ⟨h1, h2, h3, h4⟩ := fin _ (.ref c) sc (by
                  rw [hk.1 rfl]
                  exact .lst (.inl (.inl (by rw [wo_in (newX (Same.refl _) nc)]; exact upd_same))) (dpa_same (keep6 sc) _ _ hcut))
                exact ⟨.ref t, rfl, _, rfl, t, xs, _, j, rfl, rfl, sc _ _ et4, ixj, j, Nat.lt_succ_self j, xs.set j (.ref c), as', some (.ref p), _, _, by rw [← ej], by omega, h1, upd_same, h2, h3, la', h4⟩
              | false =>
                refine iteF ⟨.ref t, rfl, _, rfl, _, rfl, _, rfl, _, rfl, t, xs, rfl, .inl (.inl et4), fun c nc => ⟨c, _, rfl, .inl ⟨.inl (.inl upd_same), fun l nl => ?_⟩⟩⟩
                have sc := same_upd (o := .lst (cutV xs (some (b0 : Int)) (some ((b0 : Int) + (ys.length : Nat))))) nc
                have sl := sc.trans (same_upd (o := .tup (cutV xs (some (b0 : Int)) (some ((b0 : Int) + (ys.length : Nat))))) nl)
                obtain ⟨h1, h2, h3, h4⟩ := fin _ (.ref l) sl (by
                  rw [hk.2 rfl]
                  exact .tup (.inl (.inl (by rw [wo_in (newX sc nl)]; exact upd_same))) (dpa_same (keep6 sl) _ _ hcut))
                exact ⟨.ref t, rfl, _, rfl, t, xs, _, j, rfl, rfl, sl _ _ et4, ixj, j, Nat.lt_succ_self j, xs.set j (.ref l), as', some (.ref p), _, _, by rw [← ej], by omega, h1, upd_same, h2, h3, la', h4⟩
      · have m0 : m = 0 := by
          have : ¬ (0 : Int) < (m : Int) := fun z => e (decide_eq_true z)
          omega
        subst m0
        cases xs with
        | nil => cases ha2; cases h0
        | cons x xs' =>
          obtain ⟨d', e1, e2⟩ := dpa_at ds _ ha2 0 x rfl
          rw [h0] at e1
          cases e1
          exact ⟨.ref t, rfl, t, _, 0, x, rfl, rfl, .inl (.inl et2), atI_nat (j := 0) rfl, q H2 x sm2 (dp_same wo_same _ x e2)⟩
theorem kit_same {K : PySem.W.Frag} {C : Addr} : PySem.W.kitOne K (.ref C) (.ref C) = some true := by
  unfold PySem.W.kitOne
  rw [if_pos (beq_self_eq_true _)]
theorem kit_other {K : PySem.W.Frag} {D C : Addr} {b : Bool} (hn : (Value.ref D == Value.ref C) = false) (h1 : PySem.W.isClsIn K C = true) (h2 : PySem.W.typeIn K (.ref C) = some (.type "type")) (h3 : PySem.W.subIn K (.ref D) (.ref C) = some b) : PySem.W.kitOne K (.ref D) (.ref C) = some b := by
  unfold PySem.W.kitOne
  rw [hn, if_neg Bool.false_ne_true]
  show (if ((PySem.W.clsIn K C).isSome && PySem.W.typeIn K (.ref C) == some (.type "type")) = true then PySem.W.subIn K (.ref D) (.ref C) else none) = some b
  rw [if_pos (by rw [show (PySem.W.clsIn K C).isSome = true from h1, h2]; rfl)]
  exact h3
theorem kit_ve {K : PySem.W.Frag} {D : Addr} (h : PySem.W.subIn K (.ref D) (.type "ValueError") = some true) : PySem.W.kitOne K (.ref D) (.type "ValueError") = some true := by
  unfold PySem.W.kitOne
  rw [show (Value.ref D == Value.type "ValueError") = false from rfl, if_neg Bool.false_ne_true]
  show (if PySem.W.kitMeta "ValueError" = true then PySem.W.subIn K (.ref D) (.type "ValueError") else none) = some true
  rw [if_pos (by decide +kernel)]
  exact h
/-! ### texts -/
abbrev SMALLs : Str := PySem.Str.ofString "abcdefghijklmnopqrstuvwxyz"
abbrev GREATs : Str := PySem.Str.ofString "ABCDEFGHIJKLMNOPQRSTUVWXYZ"
def smC (c : Nat) : Bool := decide (c ∈ SMALLs.cps.toList)
def grC (c : Nat) : Bool := decide (c ∈ GREATs.cps.toList)
def shL (cs : List Nat) : Bool := decide (1 ≤ (cs.length : Int)) && decide ((cs.length : Int) ≤ 8)
def nmL (cs : List Nat) : Bool := shL cs && cs.all smC
def loL : List Nat → Bool
  | [] => false
  | c :: r => shL (c :: r) && (grC c && r.all smC)
def nmV : V → Bool
  | .str z => nmL z.cps.toList
  | _ => false
def loV : V → Bool
  | .str z => loL z.cps.toList
  | _ => false
def sgV (v : V) : Bool := nmV v || loV v
def shV : V → Bool
  | .str z => shL z.cps.toList
  | _ => false
/-- a thing: a text that is not too long, or no text -/
def Th (K : PySem.W.Frag) (H : Hp) (v : V) : Prop := (∃ z : Str, v = .str z ∧ z.length ≤ 1000) ∨ ((∀ z, v ≠ .str z) ∧ ∃ t, TyX K H v (.type t) ∧ kitB t "str" = some false)
theorem tyx_same {K : PySem.W.Frag} {H H' : Hp} {v : V} {t : Value} (e : Same H H') (h : TyX K H v t) : TyX K H' v t := by
  cases h with
  | base b =>
    cases b with
    | non => exact .base .non
    | bl x => exact .base (.bl x)
    | int i => exact .base (.int i)
    | str x => exact .base (.str x)
    | flt x => exact .base (.flt x)
    | lst h => exact .base (.lst (e _ _ h))
    | frz h => exact .base (.frz (e _ _ h))
    | tup h => exact .base (.tup (e _ _ h))
    | dK h => exact .base (.dK (e _ _ h))
    | dT h => exact .base (.dT (e _ _ h))
    | ins h a b c d f => exact .base (.ins (e _ _ h) a b c d f)
  | byt b => exact .byt b
  | set h => exact .set (e _ _ h)
  | kList h c => exact .kList h c
  | kTuple h c => exact .kTuple h c
  | kDict h c => exact .kDict h c
  | fTuple h => exact .fTuple (e _ _ h)
  | fDict h => exact .fDict (e _ _ h)
theorem Th.same {K : PySem.W.Frag} {H H' : Hp} {v : V} (e : Same H H') (h : Th K H v) : Th K H' v := by
  rcases h with h | ⟨n, t, ty, k⟩
  · exact .inl h
  · exact .inr ⟨n, t, tyx_same e ty, k⟩
theorem nmV_no {v : V} (h : ∀ z, v ≠ .str z) : nmV v = false ∧ loV v = false ∧ shV v = false := by
  cases v with
  | str z => exact absurd rfl (h z)
  | _ => exact ⟨rfl, rfl, rfl⟩
theorem len_toList (z : Str) : z.cps.toList.length = z.length := Array.length_toList
theorem thou {n : Nat} (h : n ≤ 1000) : n ≤ sizeLine := Nat.le_trans h (by decide)
def spShort (K : PySem.W.Frag) : Sp := fun vs H Q _ => ∃ v, vs = [v] ∧ Th K H v ∧ Q (.bl (shV v)) H
theorem s0 : PySem.Str.ofString "" = (⟨#[]⟩ : Str) := by decide +kernel
theorem ok_is_short_text (T : Top w K mg) : FnOk P w K mg base CX0 1 T.a_is_short_text T.fd_is_short_text ["thing"] (spShort K) := by
  refine T.F_is_short_text.ok sc_is_short_text (fun vs H Q E h => ?_) (fun cdv A outer s H vs Q E hr h => ?_)
  · obtain ⟨v, rfl, _⟩ := h
    rfl
  · obtain ⟨v, rfl, hv, q⟩ := h
    refine ⟨_, (pss_one (ps_ret (pe_and (pe_callB call_isi (by rfl) T.m_isinstance (by decide +kernel) (pa_cons (pv 0) (pa_cons (pe_bltn (v := .ty "str") (by rfl) T.m_str (by decide +kernel) rfl) pa_nil))) (pe_one (pe_chain op_le op_le pe_int (pe_callB call_len_str (by rfl) T.m_len (by decide +kernel) (pa_cons (pv 0) pa_nil)) (pe_glob (v := .int 8) (by rfl) T.g_LONGEST.choose_spec ⟨_, rfl⟩)))))), ?_⟩
    rcases hv with ⟨z, rfl, hz⟩ | ⟨no, t, ty, k⟩
    · refine ⟨.str z, rfl, _, _, _, _, true, rfl, .ty _, .base (.str z), kit_ty (by decide +kernel), _, rfl, iteT ?_⟩
      have q' : Q (.bl (decide (1 ≤ (z.length : Int)) && decide ((z.length : Int) ≤ 8))) H := by
        have e : shV (.str z) = (decide (1 ≤ (z.length : Int)) && decide ((z.length : Int) ≤ 8)) := by
          show (decide (1 ≤ (z.cps.toList.length : Int)) && decide ((z.cps.toList.length : Int) ≤ 8)) = _
          rw [len_toList]
        rw [← e]
        exact q
      refine ⟨.str z, rfl, z, rfl, thou hz, _, _, rfl, rfl, _, rfl, ite2 (fun e => ?_) (fun e => ?_)⟩
      · refine ⟨_, _, rfl, rfl, ?_⟩
        rw [e] at q'
        exact q'
      · rw [Bool.eq_false_iff.mpr e] at q'
        exact q'
    · rw [(nmV_no no).2.2] at q
      exact ⟨v, rfl, _, _, _, _, false, rfl, .ty _, ty, kit_ty k, _, rfl, iteF q⟩
def spSmall : Sp := fun vs H Q _ => ∃ z : Str, vs = [.str z] ∧ z.length ≤ 1000 ∧ ∀ H', Same H H' → Q (.bl (z.cps.toList.all smC)) H'
theorem all_map {f : Nat → Bool} : ∀ xs : List Nat, (xs.map f).all id = xs.all f
  | [] => rfl
  | x :: r => by rw [List.map_cons, List.all_cons, List.all_cons, all_map r]; rfl
theorem ok_are_small (T : Top w K mg) : FnOk P w K mg base CX0 1 T.a_are_small T.fd_are_small ["text"] spSmall := by
  refine T.F_are_small.ok sc_are_small (fun vs H Q E h => ?_) (fun cdv A outer s H vs Q E hr h => ?_)
  · obtain ⟨z, rfl, _⟩ := h
    rfl
  · obtain ⟨z, rfl, hz, q⟩ := h
    refine ⟨_, (pss_one (ps_ret (pe_callB (cr_all rfl) (by rfl) T.m_all (by decide +kernel) (pa_cons (pe_lc (own := [("letter", 1)]) (g := gName 1) (by rfl) sc_are_small.nd (pi_str (pv 0)) (blkOk_by (own := [("letter", 1)]) (N := ["text", "letter"]) (sc := defScope s_are_small) (by decide +kernel)) (fun _ _ _ _ _ => (pg_name (i := 1) sc_are_small.nd rfl (Or.inl rfl))) (fun _ _ _ _ _ => pts_nil) (fun _ _ _ _ _ => (pe_cmpR op_in_sign (pv 1) (pe_glob (v := .str "abcdefghijklmnopqrstuvwxyz") (by rfl) T.g_SMALL.choose_spec ⟨_, rfl⟩) (by rfl)))) pa_nil)))), ?_⟩
    refine ⟨.str z, rfl, z, rfl, fun D hD => lc_it walk_str (fun i H' => Same H H' ∧ H' D = some (.lst (((z.cps.toList.take i).map smC).map V.bl))) ⟨same_upd hD, upd_same⟩ (fun _ _ _ _ => trivial) ?_ ?_⟩
    · rintro i x H1 H2 hi ⟨sm, eD⟩ ⟨rfl, c, hc, rfl⟩
      refine ⟨rfl, ?_⟩
      refine ⟨_, rfl, c, _, rfl, rfl, _, eD, ?_, ?_, ?_⟩
      · rw [List.length_map, List.length_map, List.length_take, len_toList]
        exact small1000 (by omega)
      · exact fun b' o e => by
          rw [upd_ne (ne_of_none e hD)]
          exact sm _ _ e
      · rw [upd_same, List.take_add_one, Array.getElem?_toList, hc, List.map_append, List.map_append]
        rfl
    · rintro H1 ⟨sm, eD⟩
      have e2 : z.cps.toList.take z.cps.size = z.cps.toList := List.take_of_length_le (by rw [Array.length_toList]; exact Nat.le_refl _)
      rw [e2] at eD
      refine ⟨_, z.cps.toList.map smC, rfl, .inl (.inl eD), ?_⟩
      rw [all_map]
      exact q _ sm
def spIsV (K : PySem.W.Frag) (f : V → Bool) : Sp := fun vs H Q _ => ∃ v, vs = [v] ∧ Th K H v ∧ ∀ H', Same H H' → Q (.bl (f v)) H'
theorem ok_is_name (T : Top w K mg) : FnOk P w K mg base CX0 2 T.a_is_name T.fd_is_name ["thing"] (spIsV K nmV) := by
  have G_is_short_text := ok_is_short_text (P := P) (w := w) (base := base) T
  have G_are_small := ok_are_small (P := P) (w := w) (base := base) T
  refine T.F_is_name.ok sc_is_name (fun vs H Q E h => ?_) (fun cdv A outer s H vs Q E hr h => ?_)
  · obtain ⟨v, rfl, _⟩ := h
    rfl
  · obtain ⟨v, rfl, hv, q⟩ := h
    refine ⟨_, (pss_one (ps_ret (pe_and (pe_call G_is_short_text hr (by rfl) T.g_is_short_text T.F_is_short_text.kp T.b_is_short_text .nil pass0 (pa_cons (pv 0) pa_nil)) (pe_one (pe_call G_are_small hr (by rfl) T.g_are_small T.F_are_small.kp T.b_are_small .nil pass0 (pa_cons (pv 0) pa_nil)))))), ?_⟩
    refine ⟨v, rfl, v, rfl, hv, _, rfl, ite2 (fun e => ?_) (fun e => ?_)⟩
    · rcases hv with ⟨z, rfl, hz⟩ | ⟨no, _⟩
      · refine ⟨.str z, rfl, z, rfl, hz, fun H' sm => ?_⟩
        have h := q H' sm
        have e2 : nmV (.str z) = z.cps.toList.all smC := by
          show (shV (.str z) && z.cps.toList.all smC) = _
          rw [e]
          rfl
        rw [e2] at h
        exact h
      · rw [(nmV_no no).2.2] at e
        cases e
    · have h := q H (Same.refl H)
      have e2 : nmV v = false := by
        rcases hv with ⟨z, rfl, hz⟩ | ⟨no, _⟩
        · show (shV (.str z) && z.cps.toList.all smC) = _
          rw [Bool.eq_false_iff.mpr e]
          rfl
        · exact (nmV_no no).1
      rw [e2] at h
      exact h
theorem cut_tail (c : Nat) (r : List Nat) : cutS ⟨⟨c :: r⟩⟩ (some 1) none = ⟨⟨r⟩⟩ := by
  unfold cutS
  have e1 : HT.sIx (Str.length ⟨⟨c :: r⟩⟩) 0 (some 1) = 1 := by
    rw [show HT.sIx (Str.length ⟨⟨c :: r⟩⟩) 0 (some 1) = min 1 (Str.length ⟨⟨c :: r⟩⟩) from HT.sIx_nat _ 0 1]
    show min 1 (r.length + 1) = 1
    omega
  rw [e1, HT.sIx_none]
  show (⟨(List.take ((c :: r).length - 1) r).toArray⟩ : Str) = ⟨⟨r⟩⟩
  rw [List.length_cons, Nat.add_sub_cancel, List.take_length]
theorem ok_is_lone (T : Top w K mg) : FnOk P w K mg base CX0 2 T.a_is_lone T.fd_is_lone ["thing"] (spIsV K loV) := by
  have G_is_short_text := ok_is_short_text (P := P) (w := w) (base := base) T
  have G_are_small := ok_are_small (P := P) (w := w) (base := base) T
  refine T.F_is_lone.ok sc_is_lone (fun vs H Q E h => ?_) (fun cdv A outer s H vs Q E hr h => ?_)
  · obtain ⟨v, rfl, _⟩ := h
    rfl
  · obtain ⟨v, rfl, hv, q⟩ := h
    refine ⟨_, (pss_one (ps_ret (pe_and (pe_call G_is_short_text hr (by rfl) T.g_is_short_text T.F_is_short_text.kp T.b_is_short_text .nil pass0 (pa_cons (pv 0) pa_nil)) (pe_and (pe_cmpR op_in_sign (pe_ix ix_str (pv 0) pe_int (fun _ _ => rfl)) (pe_glob (v := .str "ABCDEFGHIJKLMNOPQRSTUVWXYZ") (by rfl) T.g_GREAT.choose_spec ⟨_, rfl⟩) (by rfl)) (pe_one (pe_call G_are_small hr (by rfl) T.g_are_small T.F_are_small.kp T.b_are_small .nil pass0 (pa_cons (pe_slice sl_str (pv 0) (po_some pe_int) po_none) pa_nil))))))), ?_⟩
    refine ⟨v, rfl, v, rfl, hv, _, rfl, ite2 (fun e => ?_) (fun e => ?_)⟩
    · rcases hv with ⟨⟨⟨cs⟩⟩, rfl, hz⟩ | ⟨no, _⟩
      · match cs, hz, e, q with
        | [], _, e, _ => cases e
        | c :: r, hz, e, q =>
          have hz2 : r.length + 1 ≤ 1000 := hz
          refine ⟨_, rfl, _, 0, c, rfl, rfl, thou hz, atI_nat (j := 0) rfl, c, _, rfl, rfl, _, rfl, ite2 (fun e3 => ?_) (fun e3 => ?_)⟩
          · refine ⟨_, rfl, 1, rfl, _, rfl, thou hz, ?_⟩
            rw [cut_tail]
            refine ⟨_, rfl, by show r.length ≤ 1000; omega, fun H' sm => ?_⟩
            have h := q H' sm
            have e2 : loV (.str ⟨⟨c :: r⟩⟩) = r.all smC := by
              show (shL (c :: r) && (grC c && r.all smC)) = _
              rw [show shL (c :: r) = true from e, show grC c = true from e3]
              rfl
            rw [e2] at h
            exact h
          · have h := q H (Same.refl H)
            have e2 : loV (.str ⟨⟨c :: r⟩⟩) = false := by
              show (shL (c :: r) && (grC c && r.all smC)) = _
              rw [show grC c = false from Bool.eq_false_iff.mpr e3, Bool.false_and, Bool.and_false]
            rw [e2] at h
            exact h
      · rw [(nmV_no no).2.2] at e
        cases e
    · have h := q H (Same.refl H)
      have e2 : loV v = false := by
        rcases hv with ⟨⟨⟨cs⟩⟩, rfl, hz⟩ | ⟨no, _⟩
        · match cs, e with
          | [], _ => rfl
          | c :: r, e =>
            show (shL (c :: r) && (grC c && r.all smC)) = _
            rw [show shL (c :: r) = false from Bool.eq_false_iff.mpr e]
            rfl
        · exact (nmV_no no).2.1
      rw [e2] at h
      exact h
theorem ok_is_sign (T : Top w K mg) : FnOk P w K mg base CX0 3 T.a_is_sign T.fd_is_sign ["thing"] (spIsV K sgV) := by
  have G_is_name := ok_is_name (P := P) (w := w) (base := base) T
  have G_is_lone := ok_is_lone (P := P) (w := w) (base := base) T
  refine T.F_is_sign.ok sc_is_sign (fun vs H Q E h => ?_) (fun cdv A outer s H vs Q E hr h => ?_)
  · obtain ⟨v, rfl, _⟩ := h
    rfl
  · obtain ⟨v, rfl, hv, q⟩ := h
    refine ⟨_, (pss_one (ps_ret (pe_or (pe_call G_is_name hr (by rfl) T.g_is_name T.F_is_name.kp T.b_is_name .nil pass0 (pa_cons (pv 0) pa_nil)) (pe_one (pe_call G_is_lone hr (by rfl) T.g_is_lone T.F_is_lone.kp T.b_is_lone .nil pass0 (pa_cons (pv 0) pa_nil)))))), ?_⟩
    refine ⟨v, rfl, v, rfl, hv, fun H1 s1 => ⟨_, rfl, ite2 (fun e => ?_) (fun e => ?_)⟩⟩
    · have h := q H1 s1
      rw [show sgV v = true by unfold sgV; rw [e]; rfl] at h
      exact h
    · refine ⟨v, rfl, v, rfl, hv.same s1, fun H2 s2 => ?_⟩
      have h := q H2 (s1.trans s2)
      rw [show sgV v = loV v by unfold sgV; rw [Bool.eq_false_iff.mpr e]; rfl] at h
      exact h
/-! ### parts of entries -/
theorem units65 {k : Nat} {A : Around} (hr : Room k A) : A.units + 65 < cLine := by
  have := hr.un
  omega
def rEqA (K : PySem.W.Frag) : R2 := fun x y H Q => rEq x y H Q ∨ rEqD K x y H Q
theorem op_eqA {X : Cx} (hu : X.A.units + 64 < cLine) : OpR X (compareOp .Eq) (rEqA X.K) := by
  intro pins s σ H x y v u Q I rx ry h
  rcases h with h | h
  · exact op_eq pins s σ H x y v u Q I rx ry h
  · exact op_eqD hu pins s σ H x y v u Q I rx ry h
def rInTD (K : PySem.W.Frag) : R2 := fun x y H Q => ∃ d ds, Dp K H x d ∧ Dp K H y (.tuple ds) ∧ SeqAt.shaped d = true ∧ SeqAt.shaped (.tuple ds) = true ∧ Q (.bl (ds.any fun z => PyData.eqv z d)) H
def rInA (K : PySem.W.Frag) : R2 := fun x y H Q => rIn K false x y H Q ∨ rInTD K x y H Q
theorem op_inA {X : Cx} (hu : X.A.units + 65 < cLine) : OpR X (compareOp .In) (rInA X.K) := by
  intro pins s σ H x y v u Q I rx ry h
  rcases h with h | ⟨d, ds, hd, he, sd, se, q⟩
  · exact op_in_seq pins s σ H x y v u Q I rx ry h
  · obtain ⟨as, r1⟩ := Dp.reads I d x v hd rx
    obtain ⟨bs, r2⟩ := Dp.reads I (.tuple ds) y u he ry
    exact SeqAt.in_tuple_reads r2 r1 (SeqAt.canLay_of_shaped se) (SeqAt.canLay_of_shaped sd) (room_in_shaped sd hu) ⟨.bl _, H, I, rfl, q⟩
/-- a part of an entry: no text too long; what is nested is of the kind that can be compared -/
def gp : PyData → Bool
  | .none => true
  | .bool _ => true
  | .int _ => true
  | .str z => decide (z.length ≤ 1000)
  | .list ds => SeqAt.shaped (.list ds)
  | .tuple ds => SeqAt.shaped (.tuple ds)
  | .dict _ => false
/-- equal to a text -/
def eqS : PyData → Str → Bool
  | .str z, s => s == z
  | _, _ => false
def inW (d : PyData) (ws : List Str) : Bool := ws.any fun s => eqS d s
theorem dec_str (z s : Str) : decide (V.str z = V.str s) = (s == z) := by
  by_cases h : s = z
  · subst h
    rw [decide_eq_true rfl, beq_self_eq_true]
  · rw [decide_eq_false (fun e => h (V.str.inj e).symm), beq_eq_false_iff_ne.mpr h]
theorem eqA_of {K : PySem.W.Frag} {H : Hp} {v : V} {d : PyData} {s : Str} {Q : VK} (hd : Dp K H v d) (g : gp d = true) (hs : SeqAt.shaped (.str s) = true) (q : Q (.bl (eqS d s)) H) : rEqA K v (.str s) H Q := by
  cases hd with
  | non => exact .inl ⟨rfl, by rw [decide_eq_false (fun h => nomatch h)]; exact q⟩
  | bl b => exact .inl ⟨rfl, by rw [decide_eq_false (fun h => nomatch h)]; exact q⟩
  | int i => exact .inl ⟨rfl, by rw [decide_eq_false (fun h => nomatch h)]; exact q⟩
  | str z => exact .inl ⟨rfl, by rw [dec_str]; exact q⟩
  | lst h a => exact .inr ⟨_, _, .lst h a, .str s, g, hs, q⟩
  | tup h a => exact .inr ⟨_, _, .tup h a, .str s, g, hs, q⟩
theorem dpa_strs {K : PySem.W.Frag} {H : Hp} : ∀ ws : List Str, DpAll K H (ws.map V.str) (ws.map PyData.str)
  | [] => .nil
  | w :: r => .cons (.str w) (dpa_strs r)
theorem flat_strs : ∀ ws : List Str, (ws.map V.str).all flatV = true
  | [] => rfl
  | w :: r => by rw [List.map_cons, List.all_cons, flat_strs r]; rfl
theorem inW_flat {v : V} {d : PyData} (h : ∀ s : Str, eqV (.str s) v = eqS d s) : ∀ ws : List Str, inV v (ws.map V.str) = inW d ws
  | [] => rfl
  | w :: r => by
    have ih := inW_flat h r
    unfold inV inW at ih ⊢
    rw [List.map_cons, List.any_cons, List.any_cons, ih, h w]
theorem inW_deep {d : PyData} (h : ∀ s : Str, PyData.eqv (.str s) d = eqS d s) : ∀ ws : List Str, ((ws.map PyData.str).any fun z => PyData.eqv z d) = inW d ws
  | [] => rfl
  | w :: r => by
    have ih := inW_deep h r
    unfold inW at ih ⊢
    rw [List.map_cons, List.any_cons, List.any_cons, ih, h w]
theorem inA_of {K : PySem.W.Frag} {H : Hp} {v : V} {d : PyData} {p : Addr} {ws : List Str} {Q : VK} (hd : Dp K H v d) (g : gp d = true) (hp : SqT K H p (ws.map V.str)) (hs : SeqAt.shaped (.tuple (ws.map PyData.str)) = true) (q : Q (.bl (inW d ws)) H) : rInA K v (.ref p) H Q := by
  cases hd with
  | non => exact .inl ⟨p, _, rfl, .inr hp, rfl, flat_strs ws, by rw [← inW_flat (v := .non) (d := .none) (fun s => rfl)] at q; exact q⟩
  | bl b => exact .inl ⟨p, _, rfl, .inr hp, rfl, flat_strs ws, by rw [← inW_flat (v := .bl b) (d := .bool b) (fun s => rfl)] at q; exact q⟩
  | int i => exact .inl ⟨p, _, rfl, .inr hp, rfl, flat_strs ws, by rw [← inW_flat (v := .int i) (d := .int i) (fun s => rfl)] at q; exact q⟩
  | str z => exact .inl ⟨p, _, rfl, .inr hp, rfl, flat_strs ws, by rw [← inW_flat (v := .str z) (d := .str z) (fun s => rfl)] at q; exact q⟩
  | lst h a => exact .inr ⟨_, _, .lst h a, .tup hp (dpa_strs ws), g, hs, by rw [inW_deep (fun s => by simp [PyData.eqv, eqS])]; exact q⟩
  | tup h a => exact .inr ⟨_, _, .tup h a, .tup hp (dpa_strs ws), g, hs, by rw [inW_deep (fun s => by simp [PyData.eqv, eqS])]; exact q⟩
theorem th_dp {K : PySem.W.Frag} {H : Hp} {v : V} {d : PyData} (h : Dp K H v d) (g : gp d = true) : Th K H v := by
  cases h with
  | str z => exact .inl ⟨z, rfl, of_decide_eq_true g⟩
  | non => exact .inr ⟨(fun z e => nomatch e), _, .base .non, by decide +kernel⟩
  | bl b => exact .inr ⟨(fun z e => nomatch e), _, .base (.bl b), by decide +kernel⟩
  | int i => exact .inr ⟨(fun z e => nomatch e), _, .base (.int i), by decide +kernel⟩
  | lst h _ => exact .inr ⟨(fun z e => nomatch e), _, ty_lst h, by decide +kernel⟩
  | tup h _ => exact .inr ⟨(fun z e => nomatch e), _, ty_tup h, by decide +kernel⟩
def sgD : PyData → Bool
  | .str z => sgV (.str z)
  | _ => false
theorem sg_dp {K : PySem.W.Frag} {H : Hp} {v : V} {d : PyData} (h : Dp K H v d) : sgV v = sgD d := by
  cases h <;> rfl
/-! ### entries -/
def manyD : PyData → Bool
  | .int i => decide (1 ≤ i) && decide (i ≤ 9)
  | _ => false
abbrev lets : List Str := [PySem.Str.ofString "n", PySem.Str.ofString "e", PySem.Str.ofString "s", PySem.Str.ofString "w"]
def letD (d : PyData) : Bool := inW d lets
abbrev wAlone : List Str := [PySem.Str.ofString "left", PySem.Str.ofString "right", PySem.Str.ofString "back", PySem.Str.ofString "bump", PySem.Str.ofString "bare", PySem.Str.ofString "swap"]
abbrev wFace : List Str := [PySem.Str.ofString "left", PySem.Str.ofString "right", PySem.Str.ofString "back", PySem.Str.ofString "go", PySem.Str.ofString "bump", PySem.Str.ofString "spy"]
def pairD (w p : PyData) : Bool := if eqS w "face" = true then letD p else if eqS w "go" = true then manyD p else eqS w "sign" && sgD p
def entL : List PyData → Bool
  | [a] => inW a wAlone
  | [a, b] => pairD a b
  | [a, b, c] => eqS a "spy" && (manyD b && sgD c)
  | _ => false
def entD (d : PyData) : Bool := match seqD d with
  | some ds => entL ds
  | none => false
/-- a thing in the place of an entry -/
def ge (d : PyData) : Bool := match seqD d with
  | some ds => decide (ds.length ≤ 20) && ds.all gp
  | none => gp d
/-! ### letters, steps -/
def cd : Fin 4 → Nat
  | 0 => 110
  | 1 => 101
  | 2 => 115
  | 3 => 119
def Lt (l : Fin 4) : Str := ⟨#[cd l]⟩
abbrev nesw : Str := PySem.Str.ofString "nesw"
theorem lt0 : PySem.Str.ofString "n" = Lt 0 := by decide +kernel
theorem lt1 : PySem.Str.ofString "e" = Lt 1 := by decide +kernel
theorem lt2 : PySem.Str.ofString "s" = Lt 2 := by decide +kernel
theorem lt3 : PySem.Str.ofString "w" = Lt 3 := by decide +kernel
theorem ltd : ∀ l m : Fin 4, decide (V.str (Lt l) = V.str (Lt m)) = decide (l = m) := by decide +kernel
theorem occ : ∀ l : Fin 4, Builtin.Str.occurrences nesw (Lt l) 0 nesw.length 1 = [l.val] := by decide +kernel
theorem nesw_len : nesw.length ≤ sizeLine := by decide +kernel
theorem nesw_at : ∀ (i : Nat) (h : i < 4) (c : Nat), nesw.cps[i]? = some c → (⟨#[c]⟩ : Str) = Lt ⟨i, h⟩
  | 0, _, c, e => by cases e; rfl
  | 1, _, c, e => by cases e; rfl
  | 2, _, c, e => by cases e; rfl
  | 3, _, c, e => by cases e; rfl
def dx : Fin 4 → Int
  | 0 => 0
  | 1 => 1
  | 2 => 0
  | 3 => -1
def dy : Fin 4 → Int
  | 0 => 1
  | 1 => 0
  | 2 => -1
  | 3 => 0
theorem dxb : ∀ l : Fin 4, -(2 ^ 64) < dx l ∧ dx l < 2 ^ 64 := by decide +kernel
theorem dyb : ∀ l : Fin 4, -(2 ^ 64) < dy l ∧ dy l < 2 ^ 64 := by decide +kernel
/-! ### lots -/
def tr (a : Fin 8) (l : Fin 4) : Fin 4 := if a.val < 4 then ⟨(a.val + l.val) % 4, by omega⟩ else ⟨(a.val + 4 - l.val) % 4, by omega⟩
def un (a : Fin 8) : Fin 8 := if a.val < 4 then ⟨(4 - a.val) % 4, by omega⟩ else a
def bo (a b : Fin 8) : Fin 8 :=
  let q := if a.val < 4 then (a.val + b.val) % 4 else (a.val + 8 - b.val) % 4
  if (decide (a.val < 4)) = (decide (b.val < 4)) then ⟨q % 4, by omega⟩ else ⟨q % 4 + 4, by omega⟩
theorem at_mir : ∀ (a : Fin 8) (l : Fin 4), (4 : Int) ≤ a.val → atI nesw.cps.toList (((a.val : Int) - (l.val : Int)) % 4) = some (cd (tr a l)) := by decide +kernel
theorem at_tur : ∀ (a : Fin 8) (l : Fin 4), ¬ (4 : Int) ≤ a.val → atI nesw.cps.toList (((a.val : Int) + (l.val : Int)) % 4) = some (cd (tr a l)) := by decide +kernel
theorem un_mir : ∀ a : Fin 8, (4 : Int) ≤ a.val → ((un a).val : Int) = a.val := by decide +kernel
theorem un_tur : ∀ a : Fin 8, ¬ (4 : Int) ≤ a.val → ((un a).val : Int) = (-(a.val : Int)) % 4 := by decide +kernel
theorem bo_1 : ∀ a b : Fin 8, (4 : Int) ≤ a.val → (4 : Int) ≤ b.val → ((bo a b).val : Int) = ((a.val : Int) - b.val) % 4 := by decide +kernel
theorem bo_2 : ∀ a b : Fin 8, (4 : Int) ≤ a.val → ¬ (4 : Int) ≤ b.val → ((bo a b).val : Int) = ((a.val : Int) - b.val) % 4 + 4 := by decide +kernel
theorem bo_3 : ∀ a b : Fin 8, ¬ (4 : Int) ≤ a.val → (4 : Int) ≤ b.val → ((bo a b).val : Int) = ((a.val : Int) + b.val) % 4 + 4 := by decide +kernel
theorem bo_4 : ∀ a b : Fin 8, ¬ (4 : Int) ≤ a.val → ¬ (4 : Int) ≤ b.val → ((bo a b).val : Int) = ((a.val : Int) + b.val) % 4 := by decide +kernel
/-! ### entries that are right -/
inductive Ent where
  | face (l : Fin 4)
  | turn (q : Fin 3)
  | go (n : Fin 9)
  | bump
  | sign (z : Str)
  | bare
  | spy (n : Fin 9) (z : Str)
  | swap
def ws : Fin 10 → Str
  | 0 => PySem.Str.ofString "face"
  | 1 => PySem.Str.ofString "left"
  | 2 => PySem.Str.ofString "right"
  | 3 => PySem.Str.ofString "back"
  | 4 => PySem.Str.ofString "go"
  | 5 => PySem.Str.ofString "bump"
  | 6 => PySem.Str.ofString "sign"
  | 7 => PySem.Str.ofString "bare"
  | 8 => PySem.Str.ofString "spy"
  | 9 => PySem.Str.ofString "swap"
theorem wsd : ∀ i j : Fin 10, decide (V.str (ws i) = V.str (ws j)) = decide (i = j) := by decide +kernel
theorem ws_ok : ∀ i : Fin 10, PyData.strOk (ws i) = true ∧ (ws i).length ≤ 12 := by decide +kernel
namespace Ent
def kind : Ent → Fin 10
  | face _ => 0
  | turn q => ⟨q.val + 1, by omega⟩
  | go _ => 4
  | bump => 5
  | sign _ => 6
  | bare => 7
  | spy _ _ => 8
  | swap => 9
def rest : Ent → List PyData
  | face l => [.str (Lt l)]
  | go n => [.int ((n.val : Int) + 1)]
  | sign z => [.str z]
  | spy n z => [.int ((n.val : Int) + 1), .str z]
  | _ => []
def parts (e : Ent) : List PyData := .str (ws e.kind) :: e.rest
def tup (e : Ent) : PyData := .tuple e.parts
def lst (e : Ent) : PyData := .list e.parts
def need : Ent → Bool
  | turn _ => true
  | go _ => true
  | bump => true
  | spy _ _ => true
  | _ => false
def isFace : Ent → Bool
  | face _ => true
  | _ => false
def isSwap : Ent → Bool
  | swap => true
  | _ => false
def sgS (z : Str) : Bool := nmL z.cps.toList || loL z.cps.toList
def ok : Ent → Prop
  | sign z => z.length ≤ 12 ∧ PyData.strOk z = true ∧ sgS z = true
  | spy _ z => z.length ≤ 12 ∧ PyData.strOk z = true ∧ sgS z = true
  | _ => True
theorem face_iff (e : Ent) : e.isFace = decide (e.kind = 0) := by
  cases e with
  | turn q => match q with
    | 0 => rfl
    | 1 => rfl
    | 2 => rfl
  | _ => rfl
theorem swap_iff (e : Ent) : e.isSwap = decide (e.kind = 9) := by
  cases e with
  | turn q => match q with
    | 0 => rfl
    | 1 => rfl
    | 2 => rfl
  | _ => rfl
end Ent
/-- what comes ahead has a face where one is needed -/
def Right (es : List Ent) : Prop := ∀ (i : Nat) (e : Ent), es[i]? = some e → e.need = true → (es.take i).any Ent.isFace = true
theorem Right.nil : Right [] := fun i e h => by cases h
theorem Right.snoc {es : List Ent} {e : Ent} (h : Right es) (he : e.need = true → es.any Ent.isFace = true) : Right (es ++ [e]) := fun i x hx hn => by
  by_cases hi : i < es.length
  · rw [List.getElem?_append_left hi] at hx
    rw [List.take_append_of_le_length (Nat.le_of_lt hi)]
    exact h i x hx hn
  · have hl := (List.getElem?_eq_some_iff.mp hx).1
    rw [List.length_append] at hl
    have : i = es.length := by
      have : [e].length = 1 := rfl
      omega
    rw [this, List.getElem?_append_right (Nat.le_refl _), Nat.sub_self] at hx
    cases hx
    rw [this, List.take_left]
    exact he hn
def swaps (es : List Ent) : Nat := (es.filter Ent.isSwap).length
theorem swaps_snoc (es : List Ent) (e : Ent) : swaps (es ++ [e]) = swaps es + (if e.isSwap = true then 1 else 0) := by
  unfold swaps
  rw [List.filter_append, List.length_append, List.filter_cons, List.filter_nil]
  split <;> rfl
theorem swaps_le (es : List Ent) : swaps es ≤ es.length := List.length_filter_le _ _
/-! ### where a walker stands -/
structure Wk where
  leg : Nat
  x : Int
  y : Int
  look : Option (Fin 4)
def W0 : Wk := ⟨0, 0, 0, none⟩
def tq : Fin 3 → Fin 4
  | 0 => 3
  | 1 => 1
  | 2 => 2
def nlook (a : Fin 8) (look : Option (Fin 4)) : Ent → Option (Fin 4)
  | .face l => some (tr a l)
  | .turn q => look.map (fun l => l + tq q)
  | _ => look
def nx (p : Int) (look : Option (Fin 4)) : Ent → Int
  | .go n => match look with
    | some l => p + ((n.val : Int) + 1) * dx l
    | none => p
  | _ => p
def ny (p : Int) (look : Option (Fin 4)) : Ent → Int
  | .go n => match look with
    | some l => p + ((n.val : Int) + 1) * dy l
    | none => p
  | _ => p
def nleg (n : Nat) (e : Ent) : Nat := if e.isSwap = true then n + 1 else n
def next (lots : List (Fin 8)) (p : Wk) (e : Ent) : Wk := ⟨nleg p.leg e, nx p.x p.look e, ny p.y p.look e, nlook (lots.getD (nleg p.leg e) 0) p.look e⟩
@[irreducible] def wat (lots : List (Fin 8)) (es : List Ent) (i : Nat) : Wk := (es.take i).foldl (next lots) W0
theorem wat_zero (lots : List (Fin 8)) (es : List Ent) : wat lots es 0 = W0 := by
  unfold wat
  rfl
theorem wat_succ {lots : List (Fin 8)} {es : List Ent} {i : Nat} {e : Ent} (h : es[i]? = some e) : wat lots es (i + 1) = next lots (wat lots es i) e := by
  unfold wat
  rw [List.take_add_one, h, List.foldl_append]
  rfl
theorem wat_look (lots : List (Fin 8)) (es : List Ent) : ∀ i, (wat lots es i).look.isSome = (es.take i).any Ent.isFace
  | 0 => by rw [wat_zero]; rfl
  | i + 1 => by
    by_cases hi : i < es.length
    · have h : es[i]? = some es[i] := List.getElem?_eq_getElem hi
      rw [wat_succ h, List.take_add_one, h, List.any_append, ← wat_look lots es i]
      show (nlook _ (wat lots es i).look es[i]).isSome = ((wat lots es i).look.isSome || (es[i].isFace || false))
      cases es[i] with
      | face l => cases (wat lots es i).look <;> rfl
      | turn q => cases (wat lots es i).look <;> rfl
      | _ => cases (wat lots es i).look <;> rfl
    · have e1 : es.take (i + 1) = es.take i := by rw [List.take_of_length_le (by omega), List.take_of_length_le (by omega)]
      have := wat_look lots es i
      unfold wat at this ⊢
      rw [e1]
      exact this
theorem wat_leg (lots : List (Fin 8)) (es : List Ent) : ∀ i, (wat lots es i).leg = swaps (es.take i)
  | 0 => by rw [wat_zero]; rfl
  | i + 1 => by
    by_cases hi : i < es.length
    · have h : es[i]? = some es[i] := List.getElem?_eq_getElem hi
      rw [wat_succ h, List.take_add_one, h]
      show nleg (wat lots es i).leg es[i] = swaps (es.take i ++ [es[i]])
      rw [swaps_snoc, wat_leg lots es i]
      unfold nleg
      split <;> rfl
    · have e1 : es.take (i + 1) = es.take i := by rw [List.take_of_length_le (by omega), List.take_of_length_le (by omega)]
      have := wat_leg lots es i
      unfold wat at this ⊢
      rw [e1]
      exact this
theorem swaps_take (es : List Ent) (i : Nat) : swaps (es.take i) ≤ swaps es := by
  unfold swaps
  exact List.Sublist.length_le ((List.take_sublist i es).filter _)
def lk : Option (Fin 4) → Str
  | some l => Lt l
  | none => PySem.Str.ofString ""
def plD (p : Wk) : PyData := .tuple [.int p.x, .int p.y]
def posD (p : Wk) : PyData := .tuple [plD p, .str (lk p.look)]
def trackL (lots : List (Fin 8)) (es : List Ent) (n : Nat) : List PyData := (List.range n).map fun i => posD (wat lots es (i + 1))
theorem trackL_succ (lots : List (Fin 8)) (es : List Ent) (n : Nat) : trackL lots es (n + 1) = trackL lots es n ++ [posD (wat lots es (n + 1))] := by
  unfold trackL
  rw [List.range_succ, List.map_append]
  rfl
def trackD (lots : List (Fin 8)) (es : List Ent) : PyData := .tuple (trackL lots es es.length)
/-- rows of entries, each a list or a tuple -/
def Rows (K : PySem.W.Frag) (H : Hp) (xs : List V) (es : List Ent) : Prop := ∃ ds, DpAll K H xs ds ∧ ds.map seqD = es.map fun e => some e.parts
theorem Rows.same {K : PySem.W.Frag} {H H' : Hp} {xs : List V} {es : List Ent} (h : Rows K H xs es) (s : Same H H') : Rows K H' xs es := by
  obtain ⟨ds, h1, h2⟩ := h
  exact ⟨ds, dpa_same s _ _ h1, h2⟩
theorem Rows.len {K : PySem.W.Frag} {H : Hp} {xs : List V} {es : List Ent} (h : Rows K H xs es) : xs.length = es.length := by
  obtain ⟨ds, h1, h2⟩ := h
  have := congrArg List.length h2
  rw [List.length_map, List.length_map] at this
  rw [dpa_len ds xs h1, this]
/-- one entry, a list or a tuple -/
def EntAt (K : PySem.W.Frag) (H : Hp) (v : V) (e : Ent) : Prop := ∃ a xs, v = .ref a ∧ SqA K H a (.str (ws e.kind) :: xs) ∧ DpAll K H xs e.rest
theorem ent_at {K : PySem.W.Frag} {H : Hp} {v : V} {d : PyData} {e : Ent} (h : Dp K H v d) (hs : seqD d = some e.parts) : EntAt K H v e := by
  obtain ⟨a, xs, rfl, hq, ha⟩ := seq_dp h hs
  cases ha with
  | cons h1 h2 =>
    cases h1
    exact ⟨a, _, rfl, hq, h2⟩
theorem EntAt.same {K : PySem.W.Frag} {H H' : Hp} {v : V} {e : Ent} (h : EntAt K H v e) (s : Same H H') : EntAt K H' v e := by
  obtain ⟨a, xs, h1, h2, h3⟩ := h
  exact ⟨a, xs, h1, h2.elim (fun h => .inl (s.seq h)) (fun h => .inr (sqt_same s h)), dpa_same s _ _ h3⟩
theorem Rows.at_ {K : PySem.W.Frag} {H : Hp} {xs : List V} {es : List Ent} (h : Rows K H xs es) {i : Nat} {v : V} (hv : xs[i]? = some v) : ∃ e, es[i]? = some e ∧ EntAt K H v e := by
  obtain ⟨ds, h1, h2⟩ := h
  obtain ⟨d, fd, gd⟩ := dpa_at ds xs h1 i v hv
  have e1 : (ds.map seqD)[i]? = some (seqD d) := by rw [List.getElem?_map, fd]; rfl
  rw [h2, List.getElem?_map] at e1
  cases e2 : es[i]? with
  | none => rw [e2] at e1; cases e1
  | some e =>
    rw [e2] at e1
    exact ⟨e, rfl, ent_at gd (Option.some.inj e1).symm⟩
theorem rows_tup {K : PySem.W.Frag} {H : Hp} {xs : List V} {es : List Ent} (h : DpAll K H xs (es.map Ent.tup)) : Rows K H xs es := ⟨_, h, by rw [List.map_map]; rfl⟩
--@@SPLIT
def whD : PyData → Bool
  | .int _ => true
  | _ => false
def spWholeD (K : PySem.W.Frag) : Sp := fun vs H Q _ => ∃ (v : V) (d : PyData), vs = [v] ∧ Dp K H v d ∧ Q (.bl (whD d)) H
theorem ok_is_wholeD (T : Top w K mg) : FnOk P w K mg base CX0 1 T.a_is_whole T.fd_is_whole ["thing"] (spWholeD K) := by
  refine T.F_is_whole.ok sc_is_whole (fun vs H Q E h => ?_) (fun cdv A outer s H vs Q E hr h => ?_)
  · obtain ⟨v, d, rfl, _⟩ := h
    rfl
  · obtain ⟨v, d, rfl, hd, q⟩ := h
    refine ⟨_, (pss_one (ps_ret (pe_and (pe_callB call_isi (by rfl) T.m_isinstance (by decide +kernel) (pa_cons (pv 0) (pa_cons (pe_bltn (v := .ty "int") (by rfl) T.m_int (by decide +kernel) rfl) pa_nil))) (pe_one (pe_not (pe_callB call_isi (by rfl) T.m_isinstance (by decide +kernel) (pa_cons (pv 0) (pa_cons (pe_bltn (v := .ty "bool") (by rfl) T.m_bool (by decide +kernel) rfl) pa_nil)))))))), ?_⟩
    cases hd with
    | non => exact ⟨.non, rfl, _, _, _, _, false, rfl, .ty _, .base .non, kit_ty (by decide +kernel), _, rfl, iteF q⟩
    | bl b => exact ⟨.bl b, rfl, _, _, _, _, true, rfl, .ty _, .base (.bl b), kit_ty (by decide +kernel), _, rfl, iteT ⟨.bl b, rfl, _, _, _, _, true, rfl, .ty _, .base (.bl b), kit_ty (by decide +kernel), _, rfl, q⟩⟩
    | int i => exact ⟨.int i, rfl, _, _, _, _, true, rfl, .ty _, .base (.int i), kit_ty (by decide +kernel), _, rfl, iteT ⟨.int i, rfl, _, _, _, _, false, rfl, .ty _, .base (.int i), kit_ty (by decide +kernel), _, rfl, q⟩⟩
    | str z => exact ⟨.str z, rfl, _, _, _, _, false, rfl, .ty _, .base (.str z), kit_ty (by decide +kernel), _, rfl, iteF q⟩
    | lst h _ => exact ⟨_, rfl, _, _, _, _, false, rfl, .ty _, ty_lst h, kit_ty (by decide +kernel), _, rfl, iteF q⟩
    | tup h _ => exact ⟨_, rfl, _, _, _, _, false, rfl, .ty _, ty_tup h, kit_ty (by decide +kernel), _, rfl, iteF q⟩
/-! ### the program's reading of an entry -/
def Keys : List DictEntry → List Str → Prop
  | [], [] => True
  | e :: r, k :: ks => (∃ t, e.key = .str k t) ∧ Keys r ks
  | _, _ => False
theorem find_keys (z : Str) : ∀ (l : List DictEntry) (ks : List Str), Keys l ks → (l.find? (·.key.isStr z)).isSome = (ks.any fun s => s == z) ∧ l.any (·.refKey) = false
  | [], [], _ => ⟨rfl, rfl⟩
  | e :: r, k :: ks, h => by
    obtain ⟨⟨t, hk⟩, hr⟩ := h
    obtain ⟨i1, i2⟩ := find_keys z r ks hr
    have e1 : e.key.isStr z = (k == z) := by rw [hk]; rfl
    have e2 : e.refKey = false := by unfold DictEntry.refKey; rw [hk]
    constructor
    · rw [List.find?_cons, e1, List.any_cons]
      cases k == z with
      | true => rfl
      | false => exact i1
    · rw [List.any_cons, e2, i2]
      rfl
  | [], _ :: _, h => h.elim
  | _ :: _, [], h => h.elim
theorem ns_keys {K : PySem.W.Frag} {a : Addr} {es : Array DictEntry} {n : Nat} {ks : List Str} (h : K.lookup a = some ⟨.type "dict", none, .dict es n, #[]⟩) (hk : Keys es.toList ks) (z : Str) : ∃ r, PySem.W.nsIn K a z = some r ∧ r.isSome = (ks.any fun s => s == z) := by
  obtain ⟨i1, i2⟩ := find_keys z es.toList ks hk
  unfold PySem.W.nsIn
  rw [h]
  cases e : es.toList.find? (·.key.isStr z) with
  | some x =>
    rw [e] at i1
    refine ⟨some x.val, ?_, i1⟩
    simp only [e]
  | none =>
    rw [e] at i1
    refine ⟨none, ?_, i1⟩
    simp only [e, i2]
    rfl
def spPart (K : PySem.W.Frag) (f : PyData → Bool) : Sp := fun vs H Q _ => ∃ (v : V) (d : PyData), vs = [v] ∧ gp d = true ∧ Dp K H v d ∧ ∀ H', Same H H' → Q (.bl (f d)) H'
theorem ok_is_letter (T : Top w K mg) : FnOk P w K mg base CX0 1 T.a_is_letter T.fd_is_letter ["thing"] (spPart K letD) := by
  refine T.F_is_letter.ok sc_is_letter (fun vs H Q E h => ?_) (fun cdv A outer s H vs Q E hr h => ?_)
  · obtain ⟨v, d, rfl, _⟩ := h
    rfl
  · obtain ⟨v, d, rfl, g, hd, q⟩ := h
    refine ⟨_, (pss_one (ps_ret (pe_and (pe_callB call_isi (by rfl) T.m_isinstance (by decide +kernel) (pa_cons (pv 0) (pa_cons (pe_bltn (v := .ty "str") (by rfl) T.m_str (by decide +kernel) rfl) pa_nil))) (pe_one (pe_cmpR (op_in_kd T.kd_STEPS) (pv 0) (pe_glob (v := .ref T.a_STEPS) (by rfl) T.g_STEPS rfl) (by rfl)))))), ?_⟩
    refine ⟨v, rfl, _, _, _, _, _, rfl, .ty _, ty_dp hd, kit_ty (kit_str d), _, rfl, ?_⟩
    have q := q H (Same.refl H)
    cases hd with
    | str z =>
      obtain ⟨r, h1, h2⟩ := T.ns_STEPS z
      refine iteT ⟨.str z, rfl, z, r, rfl, rfl, h1, ?_⟩
      rw [h2]
      exact q
    | non => exact iteF q
    | bl b => exact iteF q
    | int i => exact iteF q
    | lst h _ => exact iteF q
    | tup h _ => exact iteF q
theorem ok_is_many (T : Top w K mg) : FnOk P w K mg base CX0 2 T.a_is_many T.fd_is_many ["thing"] (spPart K manyD) := by
  have G_is_whole := ok_is_wholeD (P := P) (w := w) (base := base) T
  refine T.F_is_many.ok sc_is_many (fun vs H Q E h => ?_) (fun cdv A outer s H vs Q E hr h => ?_)
  · obtain ⟨v, d, rfl, _⟩ := h
    rfl
  · obtain ⟨v, d, rfl, g, hd, q⟩ := h
    refine ⟨_, (pss_one (ps_ret (pe_and (pe_call G_is_whole hr (by rfl) T.g_is_whole T.F_is_whole.kp T.b_is_whole .nil pass0 (pa_cons (pv 0) pa_nil)) (pe_one (pe_chain op_le op_le pe_int (pv 0) pe_int))))), ?_⟩
    refine ⟨v, rfl, v, d, rfl, hd, _, rfl, ?_⟩
    have q := q H (Same.refl H)
    cases hd with
    | int i =>
      refine iteT ⟨.int i, rfl, _, _, rfl, rfl, _, rfl, ite2 (fun e => ?_) (fun e => ?_)⟩
      · refine ⟨_, _, rfl, rfl, ?_⟩
        have e2 : manyD (.int i) = decide (i ≤ 9) := by
          show (decide (1 ≤ i) && decide (i ≤ 9)) = _
          rw [e]
          rfl
        rw [e2] at q
        exact q
      · have e2 : manyD (.int i) = false := by
          show (decide (1 ≤ i) && decide (i ≤ 9)) = _
          rw [Bool.eq_false_iff.mpr e]
          rfl
        rw [e2] at q
        exact q
    | non => exact iteF q
    | bl b => exact iteF q
    | str z => exact iteF q
    | lst h _ => exact iteF q
    | tup h _ => exact iteF q
def spPair (K : PySem.W.Frag) : Sp := fun vs H Q _ => ∃ (v u : V) (d c : PyData), vs = [v, u] ∧ gp d = true ∧ gp c = true ∧ Dp K H v d ∧ Dp K H u c ∧ ∀ H', Same H H' → Q (.bl (pairD d c)) H'
theorem ok_is_pair_entry (T : Top w K mg) : FnOk P w K mg base CX0 4 T.a_is_pair_entry T.fd_is_pair_entry ["word", "part"] (spPair K) := by
  have G_is_letter := ok_is_letter (P := P) (w := w) (base := base) T
  have G_is_many := ok_is_many (P := P) (w := w) (base := base) T
  have G_is_sign := ok_is_sign (P := P) (w := w) (base := base) T
  refine T.F_is_pair_entry.ok sc_is_pair_entry (fun vs H Q E h => ?_) (fun cdv A outer s H vs Q E hr h => ?_)
  · obtain ⟨v, u, d, c, rfl, _⟩ := h
    rfl
  · obtain ⟨v, u, d, c, rfl, gd, gc, hd, hc, q⟩ := h
    refine ⟨_, (pss_cons (ps_if (pt_cmpR (op_eqA hr.units) (pv 0) pe_str (nomark _)) (pss_one (ps_ret (pe_call G_is_letter (hr.mono (by decide)) (by rfl) T.g_is_letter T.F_is_letter.kp T.b_is_letter .nil pass0 (pa_cons (pv 1) pa_nil)))) pss_nil)
      (pss_cons (ps_if (pt_cmpR (op_eqA hr.units) (pv 0) pe_str (nomark _)) (pss_one (ps_ret (pe_call G_is_many (hr.mono (by decide)) (by rfl) T.g_is_many T.F_is_many.kp T.b_is_many .nil pass0 (pa_cons (pv 1) pa_nil)))) pss_nil)
      (pss_one (ps_ret (pe_and (pe_cmpR (op_eqA hr.units) (pv 0) pe_str (nomark _)) (pe_one (pe_call G_is_sign hr (by rfl) T.g_is_sign T.F_is_sign.kp T.b_is_sign .nil pass0 (pa_cons (pv 1) pa_nil)))))))), ?_⟩
    refine ⟨v, rfl, eqA_of hd gd (by decide +kernel) ⟨_, rfl, ite2 (fun e1 => ?_) (fun e1 => ?_)⟩⟩
    · rw [show pairD d c = letD c from if_pos e1] at q
      exact ⟨u, rfl, u, c, rfl, gc, hc, q⟩
    refine ⟨v, rfl, eqA_of hd gd (by decide +kernel) ⟨_, rfl, ite2 (fun e2 => ?_) (fun e2 => ?_)⟩⟩
    · rw [show pairD d c = manyD c by unfold pairD; rw [if_neg e1, if_pos e2]] at q
      exact ⟨u, rfl, u, c, rfl, gc, hc, q⟩
    rw [show pairD d c = (eqS d "sign" && sgD c) by unfold pairD; rw [if_neg e1, if_neg e2]] at q
    refine ⟨v, rfl, eqA_of hd gd (by decide +kernel) ⟨_, rfl, ite2 (fun e3 => ?_) (fun e3 => ?_)⟩⟩
    · rw [e3] at q
      refine ⟨u, rfl, u, rfl, th_dp hc gc, fun H' sm => ?_⟩
      rw [sg_dp hc]
      exact q H' sm
    · rw [Bool.eq_false_iff.mpr e3] at q
      exact q H (Same.refl H)
theorem ge_parts {d : PyData} {ds : List PyData} (h : ge d = true) (e : seqD d = some ds) : ds.length ≤ 20 ∧ ∀ x ∈ ds, gp x = true := by
  unfold ge at h
  rw [e] at h
  obtain ⟨h1, h2⟩ := Bool.and_eq_true_iff.mp h
  exact ⟨of_decide_eq_true h1, List.all_eq_true.mp h2⟩
/-- the parts of a list or tuple, whichever it is -/
theorem len1 {α : Type} : ∀ l : List α, l.length = 1 → ∃ a, l = [a]
  | [a], _ => ⟨a, rfl⟩
  | [], h => by cases h
  | _ :: _ :: _, h => by simp at h
theorem len2 {α : Type} : ∀ l : List α, l.length = 2 → ∃ a b, l = [a, b]
  | [a, b], _ => ⟨a, b, rfl⟩
  | [], h => by cases h
  | [_], h => by simp at h
  | _ :: _ :: _ :: _, h => by simp at h
theorem len3 {α : Type} : ∀ l : List α, l.length = 3 → ∃ a b c, l = [a, b, c]
  | [a, b, c], _ => ⟨a, b, c, rfl⟩
  | [], h => by cases h
  | [_], h => by simp at h
  | [_, _], h => by simp at h
  | _ :: _ :: _ :: _ :: _, h => by simp at h
theorem ent_else : ∀ ds : List PyData, ¬ ds.length = 1 → ¬ ds.length = 2 → ¬ ds.length = 3 → entL ds = false
  | [], _, _, _ => rfl
  | [_], h, _, _ => absurd rfl h
  | [_, _], _, h, _ => absurd rfl h
  | [_, _, _], _, _, h => absurd rfl h
  | _ :: _ :: _ :: _ :: _, _, _, _ => rfl
theorem dpa1 {K : PySem.W.Frag} {H : Hp} {xs : List V} {a : PyData} (h : DpAll K H xs [a]) : ∃ x, xs = [x] ∧ Dp K H x a := by
  cases h with
  | cons h1 h2 => cases h2; exact ⟨_, rfl, h1⟩
theorem dpa2 {K : PySem.W.Frag} {H : Hp} {xs : List V} {a b : PyData} (h : DpAll K H xs [a, b]) : ∃ x y, xs = [x, y] ∧ Dp K H x a ∧ Dp K H y b := by
  cases h with
  | cons h1 h2 =>
    obtain ⟨y, rfl, h3⟩ := dpa1 h2
    exact ⟨_, y, rfl, h1, h3⟩
theorem dpa3 {K : PySem.W.Frag} {H : Hp} {xs : List V} {a b c : PyData} (h : DpAll K H xs [a, b, c]) : ∃ x y z, xs = [x, y, z] ∧ Dp K H x a ∧ Dp K H y b ∧ Dp K H z c := by
  cases h with
  | cons h1 h2 =>
    obtain ⟨y, z, rfl, h3, h4⟩ := dpa2 h2
    exact ⟨_, y, z, rfl, h1, h3, h4⟩
def spEntry (K : PySem.W.Frag) : Sp := fun vs H Q _ => ∃ (v : V) (d : PyData), vs = [v] ∧ ge d = true ∧ Dp K H v d ∧ ∀ H', Same H H' → Q (.bl (entD d)) H'
theorem ok_is_entry (T : Top w K mg) : FnOk P w K mg base CX0 5 T.a_is_entry T.fd_is_entry ["thing"] (spEntry K) := by
  have G_is_pair_entry := ok_is_pair_entry (P := P) (w := w) (base := base) T
  have G_is_many := ok_is_many (P := P) (w := w) (base := base) T
  have G_is_sign := ok_is_sign (P := P) (w := w) (base := base) T
  refine T.F_is_entry.ok sc_is_entry (fun vs H Q E h => ?_) (fun cdv A outer s H vs Q E hr h => ?_)
  · obtain ⟨v, d, rfl, _⟩ := h
    rfl
  · obtain ⟨v, d, rfl, g, hd, q⟩ := h
    refine ⟨_, (pss_cons (ps_if (pt_not (pt_val (pe_callB call_isiT (by rfl) T.m_isinstance (by decide +kernel) (pa_cons (pv 0) (pa_cons (pe_tup (pa_cons (pe_bltn (v := .ty "tuple") (by rfl) T.m_tuple (by decide +kernel) rfl) (pa_cons (pe_bltn (v := .ty "list") (by rfl) T.m_list (by decide +kernel) rfl) pa_nil))) pa_nil))))) (pss_one (ps_ret pe_bl)) pss_nil)
      (pss_cons (ps_if (pt_cmpR op_eq (pe_callB call_len_seq (by rfl) T.m_len (by decide +kernel) (pa_cons (pv 0) pa_nil)) pe_int (nomark _)) (pss_one (ps_ret (pe_cmpR (op_inA (units65 hr)) (pe_ix ix_seq (pv 0) pe_int (fun _ _ => rfl)) (pe_glob (v := .ref T.a_WORDS_ALONE) (by rfl) T.g_WORDS_ALONE rfl) (by rfl)))) pss_nil)
      (pss_cons (ps_if (pt_cmpR op_eq (pe_callB call_len_seq (by rfl) T.m_len (by decide +kernel) (pa_cons (pv 0) pa_nil)) pe_int (nomark _)) (pss_one (ps_ret (pe_call G_is_pair_entry hr (by rfl) T.g_is_pair_entry T.F_is_pair_entry.kp T.b_is_pair_entry .nil pass0 (pa_cons (pe_ix ix_seq (pv 0) pe_int (fun _ _ => rfl)) (pa_cons (pe_ix ix_seq (pv 0) pe_int (fun _ _ => rfl)) pa_nil))))) pss_nil)
      (pss_one (ps_ret (pe_and (pe_cmpR op_eq (pe_callB call_len_seq (by rfl) T.m_len (by decide +kernel) (pa_cons (pv 0) pa_nil)) pe_int (nomark _)) (pe_and (pe_cmpR (op_eqA hr.units) (pe_ix ix_seq (pv 0) pe_int (fun _ _ => rfl)) pe_str (nomark _)) (pe_and (pe_call G_is_many (hr.mono (by decide)) (by rfl) T.g_is_many T.F_is_many.kp T.b_is_many .nil pass0 (pa_cons (pe_ix ix_seq (pv 0) pe_int (fun _ _ => rfl)) pa_nil)) (pe_one (pe_call G_is_sign (hr.mono (by decide)) (by rfl) T.g_is_sign T.F_is_sign.kp T.b_is_sign .nil pass0 (pa_cons (pe_ix ix_seq (pv 0) pe_int (fun _ _ => rfl)) pa_nil))))))))))), ?_⟩
    obtain ⟨x, y, k1, k2, exy⟩ := kit_seq d
    refine ⟨v, rfl, by show 2 ≤ sizeLine; decide, fun tp np => ⟨v, tp, _, _, _, _, rfl, upd_same, .cons (.ty _) (.cons (.ty _) .nil), ty_dp (dp_same (same_upd np) d v hd), kit_any2 k1 k2, _, rfl, ?_⟩⟩
    rw [exy]
    have s0 := same_upd (o := .tup [.ty "tuple", .ty "list"]) np
    have hd0 := dp_same s0 d v hd
    cases e : seqD d with
    | none =>
      rw [show entD d = false by unfold entD; rw [e]] at q
      exact iteT (q _ s0)
    | some ds =>
      rw [show entD d = entL ds by unfold entD; rw [e]] at q
      refine iteF ?_
      obtain ⟨hlen, hgp⟩ := ge_parts g e
      obtain ⟨a, xs, rfl, hs, ha⟩ := seq_dp hd0 e
      have lx := dpa_len ds xs ha
      refine ⟨.ref a, rfl, a, xs, rfl, hs, rfl, _, rfl, ?_⟩
      by_cases n1 : ds.length = 1
      · obtain ⟨d1, rfl⟩ := len1 ds n1
        obtain ⟨x1, rfl, h1⟩ := dpa1 ha
        · refine iteDY (decide_eq_true rfl) ⟨.ref a, rfl, ixA (j := 0) hs rfl (inA_of (ws := wAlone) h1 (hgp d1 (by simp)) (T.v_WORDS_ALONE _) (by decide +kernel) (q _ s0))⟩
      refine iteDN (decide_eq_false (fun z => n1 (by have := V.int.inj z; omega))) ?_
      refine ⟨.ref a, rfl, a, xs, rfl, hs, rfl, _, rfl, ?_⟩
      by_cases n2 : ds.length = 2
      · obtain ⟨d1, d2, rfl⟩ := len2 ds n2
        obtain ⟨x1, x2, rfl, h1, h2⟩ := dpa2 ha
        · refine iteDY (decide_eq_true rfl) ⟨.ref a, rfl, ixA (j := 0) hs rfl ⟨.ref a, rfl, ixA (j := 1) hs rfl ⟨x1, x2, d1, d2, rfl, hgp d1 (by simp), hgp d2 (by simp), h1, h2, fun H' sm => q _ (s0.trans sm)⟩⟩⟩
      refine iteDN (decide_eq_false (fun z => n2 (by have := V.int.inj z; omega))) ?_
      refine ⟨.ref a, rfl, a, xs, rfl, hs, rfl, _, rfl, ?_⟩
      by_cases n3 : ds.length = 3
      · obtain ⟨d1, d2, d3, rfl⟩ := len3 ds n3
        obtain ⟨x1, x2, x3, rfl, h1, h2, h3⟩ := dpa3 ha
        · have q : ∀ H', Same H H' → Q (.bl (eqS d1 "spy" && (manyD d2 && sgD d3))) H' := q
          refine iteDY (decide_eq_true rfl) ⟨.ref a, rfl, ixA (j := 0) hs rfl (eqA_of h1 (hgp d1 (by simp)) (by decide +kernel) ⟨_, rfl, ite2 (fun e1 => ?_) (fun e1 => ?_)⟩)⟩
          · rw [e1] at q
            refine ⟨.ref a, rfl, ixA (j := 1) hs rfl ⟨x2, d2, rfl, hgp d2 (by simp), h2, fun H2 s2 => ⟨_, rfl, ite2 (fun e2 => ?_) (fun e2 => ?_)⟩⟩⟩
            · rw [e2] at q
              refine ⟨.ref a, rfl, ixA (j := 2) (hs.same s2) rfl ⟨x3, rfl, th_dp (dp_same s2 _ _ h3) (hgp d3 (by simp)), fun H3 s3 => ?_⟩⟩
              rw [sg_dp h3]
              exact q _ ((s0.trans s2).trans s3)
            · rw [Bool.eq_false_iff.mpr e2] at q
              exact q _ (s0.trans s2)
          · rw [Bool.eq_false_iff.mpr e1] at q
            exact q _ s0
      refine iteDN (decide_eq_false (fun z => n3 (by have := V.int.inj z; omega))) ?_
      rw [ent_else ds n1 n2 n3] at q
      exact q _ s0
theorem many_fin : ∀ n : Fin 9, manyD (.int ((n.val : Int) + 1)) = true := by decide
theorem let_fin : ∀ l : Fin 4, letD (.str (Lt l)) = true := by decide +kernel
theorem ent_L {e : Ent} (h : e.ok) : entL e.parts = true := by
  cases e with
  | face l =>
    show pairD (.str (ws 0)) (.str (Lt l)) = true
    unfold pairD
    rw [if_pos (by decide +kernel)]
    exact let_fin l
  | go n =>
    show pairD (.str (ws 4)) (.int ((n.val : Int) + 1)) = true
    unfold pairD
    rw [if_neg (by decide +kernel), if_pos (by decide +kernel)]
    exact many_fin n
  | sign z =>
    show pairD (.str (ws 6)) (.str z) = true
    unfold pairD
    rw [if_neg (by decide +kernel), if_neg (by decide +kernel)]
    show (eqS (.str (ws 6)) "sign" && Ent.sgS z) = true
    rw [h.2.2, show eqS (.str (ws 6)) "sign" = true by decide +kernel]
    rfl
  | spy n z =>
    show (eqS (.str (ws 8)) "spy" && (manyD (.int ((n.val : Int) + 1)) && Ent.sgS z)) = true
    rw [h.2.2, many_fin n, show eqS (.str (ws 8)) "spy" = true by decide +kernel]
    rfl
  | turn q =>
    have : ∀ q : Fin 3, entL (Ent.turn q).parts = true := by decide +kernel
    exact this q
  | bump => show inW (.str (ws 5)) wAlone = true; decide +kernel
  | bare => show inW (.str (ws 7)) wAlone = true; decide +kernel
  | swap => show inW (.str (ws 9)) wAlone = true; decide +kernel
--@@SPLIT
/-! ### logs that are right, held -/
theorem ws_gp : ∀ i : Fin 10, gp (.str (ws i)) = true := by decide +kernel
theorem seq_entD {d : PyData} {e : Ent} (h : seqD d = some e.parts) (ok : e.ok) : entD d = true := by
  unfold entD
  rw [h]
  exact ent_L ok
theorem parts_gp {e : Ent} (ok : e.ok) : ∀ d ∈ e.parts, gp d = true := by
  intro d hd
  rcases List.mem_cons.mp hd with hd | hd
  · rw [hd]
    have : ∀ i : Fin 10, gp (.str (ws i)) = true := by decide +kernel
    exact this _
  have sg : ∀ {z : Str}, (z.length ≤ 12 ∧ PyData.strOk z = true ∧ Ent.sgS z = true) → gp (.str z) = true := fun h => decide_eq_true (by have := h.1; omega)
  have lt : ∀ l : Fin 4, gp (.str (Lt l)) = true := by decide +kernel
  cases e with
  | face l => rw [List.mem_singleton.mp hd]; exact lt l
  | go n => rw [List.mem_singleton.mp hd]; rfl
  | sign z => rw [List.mem_singleton.mp hd]; exact sg ok
  | spy n z =>
    rcases List.mem_cons.mp hd with hd | hd
    · rw [hd]; rfl
    · rw [List.mem_singleton.mp hd]; exact sg ok
  | turn q => cases hd
  | bump => cases hd
  | bare => cases hd
  | swap => cases hd
theorem plen3 (e : Ent) : e.parts.length ≤ 3 := by
  cases e with
  | face l => exact (show 2 ≤ 3 by decide)
  | turn q => exact (show 1 ≤ 3 by decide)
  | go n => exact (show 2 ≤ 3 by decide)
  | bump => exact (show 1 ≤ 3 by decide)
  | sign z => exact (show 2 ≤ 3 by decide)
  | bare => exact (show 1 ≤ 3 by decide)
  | spy n z => exact (show 3 ≤ 3 by decide)
  | swap => exact (show 1 ≤ 3 by decide)
theorem seq_ge {d : PyData} {e : Ent} (h : seqD d = some e.parts) (ok : e.ok) : ge d = true := by
  unfold ge
  rw [h]
  refine Bool.and_eq_true_iff.mpr ⟨decide_eq_true (by have := plen3 e; omega), List.all_eq_true.mpr (parts_gp ok)⟩
/-- the i-th entry as data -/
theorem Rows.dp_at {K : PySem.W.Frag} {H : Hp} {xs : List V} {es : List Ent} (h : Rows K H xs es) {i : Nat} {v : V} (hv : xs[i]? = some v) : ∃ e d, es[i]? = some e ∧ Dp K H v d ∧ seqD d = some e.parts := by
  obtain ⟨ds, h1, h2⟩ := h
  obtain ⟨d, fd, gd⟩ := dpa_at ds xs h1 i v hv
  have e1 : (ds.map seqD)[i]? = some (seqD d) := by rw [List.getElem?_map, fd]; rfl
  rw [h2, List.getElem?_map] at e1
  cases e2 : es[i]? with
  | none => rw [e2] at e1; cases e1
  | some e =>
    rw [e2] at e1
    exact ⟨e, d, rfl, gd, (Option.some.inj e1).symm⟩
theorem need_iff : ∀ i : Fin 10, inV (.str (ws i)) (wFace.map V.str) = decide (i = 1 ∨ i = 2 ∨ i = 3 ∨ i = 4 ∨ i = 5 ∨ i = 8) := by decide +kernel
theorem need_kind (e : Ent) : decide (e.kind = 1 ∨ e.kind = 2 ∨ e.kind = 3 ∨ e.kind = 4 ∨ e.kind = 5 ∨ e.kind = 8) = e.need := by
  cases e with
  | turn q =>
    have : ∀ q : Fin 3, decide ((Ent.turn q).kind = 1 ∨ (Ent.turn q).kind = 2 ∨ (Ent.turn q).kind = 3 ∨ (Ent.turn q).kind = 4 ∨ (Ent.turn q).kind = 5 ∨ (Ent.turn q).kind = 8) = true := by decide
    exact this q
  | _ => rfl
theorem faceW (e : Ent) : decide (V.str (ws e.kind) = V.str (PySem.Str.ofString "face")) = e.isFace := (wsd e.kind 0).trans e.face_iff.symm
def spHeld (K : PySem.W.Frag) : Sp := fun vs H Q _ => ∃ (e : Addr) (xs : List V) (es : List Ent), vs = [.ref e] ∧ SqA K H e xs ∧ Rows K H xs es ∧ (∀ e ∈ es, e.ok) ∧ Right es ∧ es.length ≤ 200 ∧ ∀ H' r ys, Same H H' → H r = none → H' r = some (.tup ys) → DpAll K H' ys (es.map Ent.tup) → Q (.ref r) H'
theorem ok_held_log (T : Top w K mg) : FnOk P w K mg base CX0 6 T.a_held_log T.fd_held_log ["entries"] (spHeld K) := by
  have G_is_entry := ok_is_entry (P := P) (w := w) (base := base) T
  refine T.F_held_log.ok sc_held_log (fun vs H Q E h => ?_) (fun cdv A outer s H vs Q E hr h => ?_)
  · obtain ⟨e, xs, es, rfl, _⟩ := h
    rfl
  · obtain ⟨e, xs, es, rfl, hs, ha, ok, hR, hlen, q⟩ := h
    refine ⟨_, (pss_cons (ps_set (i := 1) sc_held_log.nd rfl (.inl rfl) pe_bl)
      (pss_cons (ps_set (i := 2) sc_held_log.nd rfl (.inl rfl) (pe_lst pa_nil))
      (pss_cons (ps_for PassesOwn.never rfl (SeqW.pi_enumA (by rfl) T.m_enumerate (pa_cons (pv 0) pa_nil)) (pg_tup rfl (pgs_cons (pg_name (i := 3) sc_held_log.nd rfl (.inl rfl)) (pgs_cons (pg_name (i := 4) sc_held_log.nd rfl (.inl rfl)) pgs_nil))) (pss_cons (ps_if (pt_not (pt_val (pe_call G_is_entry hr (by rfl) T.g_is_entry T.F_is_entry.kp T.b_is_entry .nil pass0 (pa_cons (pv 4) pa_nil)))) (pss_one ps_never) pss_nil)
      (Evl.pss_cut (ps_if (PW.pt (pw_and (pt_cmpR (op_inA (units65 hr)) (pe_ix (r := rIx K) (SeqW.ix_seqK rfl) (pv 4) pe_int (fun _ _ => rfl)) (pe_glob (v := .ref T.a_WORDS_BEHIND_A_FACE) (by rfl) T.g_WORDS_BEHIND_A_FACE rfl) (by rfl)) (pw_and1 (pt_not (pt_val (pv 1)))))) (pss_one ps_never) pss_nil)
      (Evl.pss_cut (ps_set (i := 1) sc_held_log.nd rfl (.inl rfl) (pe_or (pv 1) (pe_one (pe_cmpR (op_eqA hr.units) (pe_ix (r := rIx K) (SeqW.ix_seqK rfl) (pv 4) pe_int (fun _ _ => rfl)) pe_str (nomark _)))))
      (pss_one (ps_expr (pe_bm PySem.F.plainAttrs_list PySem.F.slot_list_append PySem.F.type_list_append mt_append (pv 2) (pa_cons (pe_callTy call_tuple_of (by rfl) T.m_tuple (by decide +kernel) (pa_cons (pv 4) pa_nil)) pa_nil))))))))
      (pss_one (ps_ret (pe_callTy call_tuple_of (by rfl) T.m_tuple (by decide +kernel) (pa_cons (pv 2) pa_nil))))))), ?_⟩
    have lx := ha.len
    refine ⟨Nat.zero_le _, fun L nL => ?_⟩
    have s0 := same_upd (o := .lst []) nL
    refine ⟨.ref e, rfl, e, xs, rfl, (fun H' => Same H H'), kpA hs, s0, fun J G wk hG => for_it wk (fun i σ H' => Same H H' ∧ ∃ y3 y4 ys, σ = [some (.ref e), some (.bl ((es.take i).any Ent.isFace)), some (.ref L), y3, y4] ∧ H' L = some (.lst ys) ∧ ys.length = i ∧ DpAll K (wo H' (fun b => b = L)) ys ((es.take i).map Ent.tup)) ⟨s0, none, none, [], rfl, upd_same, rfl, .nil⟩ (fun i σ H' _ h => hG _ h.1) ?_ ?_⟩
    · rintro i v σ H1 H2 hi ⟨sm, y3, y4, ys, rfl, eL, ly, hy⟩ ⟨t, u1, u2, rfl, nt, rfl, e1, e2⟩
      cases e1
      have e2 : xs[i]? = some u2 := e2
      obtain ⟨en, d, fe, gd, sd⟩ := ha.dp_at e2
      have oke := ok en (List.mem_of_getElem? fe)
      have st := same_upd (o := .tup [.int (i : Nat), u2]) nt
      have sm2 := sm.trans st
      refine ⟨t, _, rfl, .inl (.inl upd_same), rfl, _, _, rfl, _, _, rfl, rfl, ?_⟩
      refine ⟨u2, rfl, u2, d, rfl, seq_ge sd oke, dp_same sm2 d u2 gd, fun H3 s3 => ⟨_, rfl, ?_⟩⟩
      rw [seq_entD sd oke]
      refine iteF ?_
      have sm3 := sm2.trans s3
      have nLt : L ≠ t := ne_of_none eL nt
      have eL3 := s3 _ _ (st _ _ eL)
      have mH : Same H (wo H3 (fun b => b = L)) := fun b o h => by
        rw [wo_in (X := fun b => b = L) (ne_of_none h nL)]
        exact sm3 _ _ h
      obtain ⟨a, us, rfl, hqW, hallW⟩ := ent_at (dp_same mH d u2 gd) sd
      have hq := hqW.same wo_same
      have fin : (Same H H3 ∧ ∃ y3 y4 ys, [some (V.ref e), some (.bl ((es.take i).any Ent.isFace)), some (.ref L), some (.int (i : Nat)), some (.ref a)] = [some (V.ref e), some (.bl ((es.take i).any Ent.isFace)), some (.ref L), y3, y4] ∧ H3 L = some (.lst ys)) := ⟨sm3, _, _, _, rfl, eL3⟩
      refine ⟨fun σ H' => H3 = H' ∧ σ = [some (.ref e), some (.bl ((es.take i).any Ent.isFace)), some (.ref L), some (.int (i : Nat)), some (.ref a)], ?_, ?_⟩
      · refine ⟨.ref a, rfl, ixA (j := 0) hq rfl (inA_of (d := .str (ws en.kind)) (ws := wFace) (.str _) (ws_gp _) (T.v_WORDS_BEHIND_A_FACE _) (by decide +kernel) ⟨_, rfl, ?_⟩)⟩
        have hn : inW (.str (ws en.kind)) wFace = en.need := by
          rw [← need_kind, ← need_iff]
          exact (inW_flat (v := .str (ws en.kind)) (d := .str (ws en.kind)) (fun s => rfl) wFace).symm
        rw [hn]
        refine ite2 (fun e3 => ?_) (fun e3 => ⟨rfl, rfl⟩)
        refine ⟨_, rfl, _, rfl, ?_⟩
        rw [hR i en fe e3]
        exact iteF ⟨rfl, rfl⟩
      rintro σ H4 ⟨rfl, rfl⟩
      refine ⟨fun σ H' => H3 = H' ∧ σ = [some (.ref e), some (.bl ((es.take (i + 1)).any Ent.isFace)), some (.ref L), some (.int (i : Nat)), some (.ref a)], ?_, ?_⟩
      · have ea : (es.take (i + 1)).any Ent.isFace = ((es.take i).any Ent.isFace || en.isFace) := by
          rw [List.take_add_one, fe, List.any_append]
          show (_ || (en.isFace || false)) = _
          rw [Bool.or_false]
        refine ⟨_, rfl, _, rfl, ?_⟩
        cases eb : (es.take i).any Ent.isFace with
        | true =>
          rw [ea, eb]
          exact iteT ⟨rfl, rfl⟩
        | false =>
          rw [ea, eb]
          refine iteF ⟨.ref a, rfl, ixA (j := 0) hq rfl (.inl ⟨rfl, ?_⟩)⟩
          rw [faceW]
          exact ⟨rfl, rfl⟩
      rintro σ H4 ⟨rfl, rfl⟩
      have i2 : (es.take (i + 1)).map Ent.tup = (es.take i).map Ent.tup ++ [en.tup] := by
        rw [List.take_add_one, fe, List.map_append]
        rfl
      have hw : Same (wo H1 (fun b => b = L)) (wo H3 (fun b => b = L)) := fun b o h => by
        have h2 := wo_some h
        rw [wo_in (X := fun b => b = L) h2.1]
        exact s3 _ _ (st _ _ h2.2)
      have more : ∀ (H5 : Hp) (r : Addr), Same H3 H5 → Dp K (wo H5 (fun b => b = L)) (.ref r) en.tup → H5 L = some (.lst ys) → ∃ l zs y, V.ref L = .ref l ∧ [V.ref r] = [y] ∧ H5 l = some (.lst zs) ∧ zs.length < sizeLine ∧ (Same H (upd H5 l (.lst (zs ++ [y]))) ∧ ∃ y3 y4 ys, [some (V.ref e), some (.bl ((es.take (i + 1)).any Ent.isFace)), some (.ref L), some (.int (i : Nat)), some (.ref a)] = [some (V.ref e), some (.bl ((es.take (i + 1)).any Ent.isFace)), some (.ref L), y3, y4] ∧ (upd H5 l (.lst (zs ++ [y]))) L = some (.lst ys) ∧ ys.length = i + 1 ∧ DpAll K (wo (upd H5 l (.lst (zs ++ [y]))) (fun b => b = L)) ys ((es.take (i + 1)).map Ent.tup)) := fun H5 r s5 hd5 eL5 => by
        have m6 : Same (wo H5 (fun b => b = L)) (wo (upd H5 L (.lst (ys ++ [.ref r]))) (fun b => b = L)) := fun c u z => by
          have h2 := wo_some z
          rw [wo_in (X := fun b => b = L) h2.1, upd_ne h2.1]
          exact h2.2
        have w35 : Same (wo H3 (fun b => b = L)) (wo H5 (fun b => b = L)) := fun b o h => by
          have h2 := wo_some h
          rw [wo_in (X := fun b => b = L) h2.1]
          exact s5 _ _ h2.2
        refine ⟨L, ys, .ref r, rfl, rfl, eL5, small1000 (by omega), ?_, _, _, _, rfl, upd_same, ?_, ?_⟩
        · exact fun b o h => by
            rw [upd_ne (ne_of_none h nL)]
            exact s5 _ _ (sm3 _ _ h)
        · rw [List.length_append, ly]
          rfl
        · rw [i2]
          exact dpa_snoc (dp_same m6 _ _ hd5) _ _ (dpa_same ((hw.trans w35).trans m6) _ _ hy)
      refine ⟨.ref L, rfl, .inl ⟨rfl, _, .inl (.inl eL3)⟩, .ref a, rfl, a, .str (ws en.kind) :: us, rfl, ?_⟩
      rcases hqW with hl | ht
      · refine .inl ⟨wo_same.seq hl, fun r nr => ?_⟩
        have sr := same_upd (o := .tup (.str (ws en.kind) :: us)) nr
        refine more _ r sr ?_ (sr _ _ eL3)
        refine .tup (.inl (.inl ?_)) (.cons (.str _) (dpa_same (fun b o h => ?_) _ _ hallW))
        · rw [wo_in (X := fun b => b = L) (fun z : r = L => by rw [z, eL3] at nr; cases nr)]
          exact upd_same
        · have h2 := wo_some h
          rw [wo_in (X := fun b => b = L) h2.1]
          exact sr _ _ h2.2
      · exact .inr ⟨sqt_same wo_same ht, more _ a (Same.refl _) (.tup ht (.cons (.str _) hallW)) eL3⟩
    · rintro σ H1 ⟨sm, y3, y4, ys, rfl, eL, ly, hy⟩
      rw [lx, List.take_length] at hy
      refine ⟨.ref L, rfl, L, ys, rfl, .inl ⟨.inl (.inl eL), fun r nr => ?_⟩⟩
      have sr := same_upd (o := .tup ys) nr
      exact q _ r ys (sm.trans sr) (sm.free nr) upd_same (dpa_same (wo_same.trans sr) _ _ hy)
/-! ### a box that is right, held -/
def spHeldBox (K : PySem.W.Frag) : Sp := fun vs H Q _ => ∃ (b : Addr) (box : List Nat), vs = [.ref b] ∧ SqA K H b (box.map fun n => V.int (n : Nat)) ∧ box.length = 8 ∧ ∀ H' r, Same H H' → SqT K H' r (box.map fun n => V.int (n : Nat)) → Q (.ref r) H'
theorem ok_is_wholeI (T : Top w K mg) : FnOk P w K mg base CX0 1 T.a_is_whole T.fd_is_whole ["thing"] spWhole := by
  refine T.F_is_whole.ok sc_is_whole (fun vs H Q E h => ?_) (fun cdv A outer s H vs Q E hr h => ?_)
  · obtain ⟨i, rfl, _⟩ := h
    rfl
  · obtain ⟨i, rfl, q⟩ := h
    refine ⟨_, (pss_one (ps_ret (pe_and (pe_callB call_isi (by rfl) T.m_isinstance (by decide +kernel) (pa_cons (pv 0) (pa_cons (pe_bltn (v := .ty "int") (by rfl) T.m_int (by decide +kernel) rfl) pa_nil))) (pe_one (pe_not (pe_callB call_isi (by rfl) T.m_isinstance (by decide +kernel) (pa_cons (pv 0) (pa_cons (pe_bltn (v := .ty "bool") (by rfl) T.m_bool (by decide +kernel) rfl) pa_nil)))))))), ?_⟩
    refine ⟨.int i, rfl, _, _, _, _, true, rfl, .ty _, .base (.int i), kit_ty (by decide +kernel), _, rfl, iteT ?_⟩
    exact ⟨.int i, rfl, _, _, _, _, false, rfl, .ty _, .base (.int i), kit_ty (by decide +kernel), _, rfl, q⟩
theorem ok_held_box (T : Top w K mg) : FnOk P w K mg base CX0 2 T.a_held_box T.fd_held_box ["box"] (spHeldBox K) := by
  have G_is_whole := ok_is_wholeI (P := P) (w := w) (base := base) T
  refine T.F_held_box.ok sc_held_box (fun vs H Q E h => ?_) (fun cdv A outer s H vs Q E hr h => ?_)
  · obtain ⟨b, box, rfl, _⟩ := h
    rfl
  · obtain ⟨b, box, rfl, hs, h8, q⟩ := h
    refine ⟨_, (pss_cons (ps_if (pt_cmpR op_ne (pe_callB call_len_seq (by rfl) T.m_len (by decide +kernel) (pa_cons (pv 0) pa_nil)) (pe_glob (v := .int 8) (by rfl) T.g_HOW_MANY_LOTS.choose_spec ⟨_, rfl⟩) (nomark _)) (pss_one ps_never) pss_nil)
      (pss_cons (ps_for PassesOwn.never rfl (SeqW.pi_enumA (by rfl) T.m_enumerate (pa_cons (pv 0) pa_nil)) (pg_tup rfl (pgs_cons (pg_name (i := 1) sc_held_box.nd rfl (.inl rfl)) (pgs_cons (pg_name (i := 2) sc_held_box.nd rfl (.inl rfl)) pgs_nil))) (pss_one (ps_if (PW.pt (pw_or (pt_not (pt_val (pe_call G_is_whole hr (by rfl) T.g_is_whole T.F_is_whole.kp T.b_is_whole .nil pass0 (pa_cons (pv 2) pa_nil)))) (pw_or1 (pt_cmpR op_lt (pv 2) pe_int (nomark _))))) (pss_one ps_never) pss_nil)))
      (pss_one (ps_ret (pe_callTy call_tuple_of (by rfl) T.m_tuple (by decide +kernel) (pa_cons (pv 0) pa_nil)))))), ?_⟩
    refine ⟨.ref b, rfl, b, _, rfl, hs, rfl, _, rfl, iteN (by rw [List.length_map, h8]; rfl) ?_⟩
    refine ⟨.ref b, rfl, b, _, rfl, (fun H' => Same H H'), kpA hs, Same.refl _, fun J G wk hG => for_it wk (fun i σ H' => Same H H' ∧ ∃ y1 y2, σ = [some (.ref b), y1, y2]) ⟨Same.refl _, _, _, rfl⟩ (fun i σ H' _ h => hG _ h.1) ?_ ?_⟩
    · rintro i v σ H1 H2 hi ⟨sm, y1, y2, rfl⟩ ⟨t, u1, u2, rfl, nt, rfl, e1, e2⟩
      cases e1
      have e2 : (box.map fun n => V.int (n : Nat))[i]? = some u2 := e2
      rw [List.getElem?_map] at e2
      obtain ⟨n, fn, rfl⟩ : ∃ n, box[i]? = some n ∧ V.int (n : Nat) = u2 := by
        cases e1 : box[i]? with
        | none => rw [e1] at e2; cases e2
        | some n => rw [e1] at e2; exact ⟨n, rfl, Option.some.inj e2⟩
      refine ⟨t, _, rfl, .inl (.inl upd_same), rfl, _, _, rfl, _, _, rfl, rfl, ?_⟩
      refine ⟨_, rfl, _, rfl, _, rfl, iteF ⟨_, rfl, _, _, rfl, rfl, _, rfl, iteDN (decide_eq_false (by omega)) ⟨sm.trans (same_upd nt), _, _, rfl⟩⟩⟩
    · rintro σ H1 ⟨sm, y1, y2, rfl⟩
      refine ⟨.ref b, rfl, b, box.map fun n => V.int (n : Nat), rfl, ?_⟩
      rcases hs.same sm with h | h
      · exact .inl ⟨h, fun r nr => q _ r (sm.trans (same_upd nr)) (.inl (.inl upd_same))⟩
      · exact .inr ⟨h, q _ b sm h⟩
def spHeldOf (K : PySem.W.Frag) : Sp := fun vs H Q _ => ∃ (z : Str) (e : Addr) (xs : List V) (es : List Ent), vs = [.str z, .ref e] ∧ SqA K H e xs ∧ Rows K H xs es ∧ (∀ e ∈ es, e.ok) ∧ Right es ∧ es.length ≤ 200 ∧ ∀ H' r ys, Same H H' → H r = none → H' r = some (.tup ys) → DpAll K H' ys (es.map Ent.tup) → Q (.ref r) H'
theorem ok_held_log_of (T : Top w K mg) : FnOk P w K mg base CX0 7 T.a_held_log_of T.fd_held_log_of ["name", "log"] (spHeldOf K) := by
  have G_held_log := ok_held_log (P := P) (w := w) (base := base) T
  refine T.F_held_log_of.ok sc_held_log_of (fun vs H Q E h => ?_) (fun cdv A outer s H vs Q E hr h => ?_)
  · obtain ⟨z, e, xs, es, rfl, _⟩ := h
    rfl
  · obtain ⟨z, e, xs, es, rfl, hs, ha, ok, hR, hlen, q⟩ := h
    refine ⟨_, (pss_one (ps_try_thru0 (pss_one (ps_ret (pe_call G_held_log hr (by rfl) T.g_held_log T.F_held_log.kp T.b_held_log .nil pass0 (pa_cons (pv 1) pa_nil)))))), ?_⟩
    exact ⟨.ref e, rfl, e, xs, es, rfl, hs, ha, ok, hR, hlen, q⟩
--@@SPLIT
/-! ### rows of walkers: names and logs -/
abbrev Row := Str × List Ent
def ltN (a b : Str) : Prop := a.cps.toList < b.cps.toList
/-- rising by names -/
def Srt (rs : List Row) : Prop := rs.Pairwise fun a b => ltN a.1 b.1
def nms (rs : List Row) : List Str := rs.map (·.1)
def logD (r : Row) : PyData := .tuple (r.2.map Ent.tup)
structure RowOk (r : Row) : Prop where
  nm : nmL r.1.cps.toList = true
  ok : ∀ e ∈ r.2, e.ok
  right : Right r.2
  len : r.2.length ≤ 100
theorem srt_uniq {a b : List Row} (h : a.Perm b) (ha : Srt a) (hb : Srt b) : a = b :=
  h.eq_of_pairwise (fun x y _ _ h1 h2 => absurd (List.lt_trans h1 h2) (List.lt_irrefl _)) ha hb
theorem perm_lift {α β : Type} {f : α → β} : ∀ {ys : List β} {rs : List α}, ys.Perm (rs.map f) → ∃ rs' : List α, rs'.Perm rs ∧ rs'.map f = ys
  | [], rs, h => by
    have e : rs.map f = [] := h.symm.eq_nil
    have e2 : rs = [] := List.map_eq_nil_iff.mp e
    exact ⟨[], by rw [e2], rfl⟩
  | y :: ys, rs, h => by
    obtain ⟨r, hr, rfl⟩ := List.mem_map.mp (h.mem_iff.mp List.mem_cons_self)
    obtain ⟨s, t, rfl⟩ := List.append_of_mem hr
    have h2 : ys.Perm ((s ++ t).map f) := by
      have e : ((s ++ r :: t).map f).Perm (f r :: (s ++ t).map f) := (List.perm_middle (a := r) (l₁ := s) (l₂ := t)).map f
      exact (h.trans e).cons_inv
    obtain ⟨rs', p, e⟩ := perm_lift h2
    exact ⟨r :: rs', (p.cons r).trans List.perm_middle.symm, by rw [List.map_cons, e]⟩
theorem le_of_rising : ∀ (p : Str) (r : List Str), risingS p r = true → ∀ x ∈ r, ¬ x.cps.toList < p.cps.toList
  | _, [], _, _, h => nomatch h
  | p, x :: r, h, y, hy => by
    obtain ⟨h1, h2⟩ := Bool.and_eq_true_iff.mp h
    have h1 : ¬ x.cps.toList < p.cps.toList := fun z => by
      rw [ltCps_eq, decide_eq_true z] at h1
      cases h1
    rcases List.mem_cons.mp hy with e | hy
    · rw [e]
      exact h1
    · have h3 := le_of_rising x r h2 y hy
      exact List.not_lt.mpr (List.le_trans (List.not_lt.mp h1) (List.not_lt.mp h3))
theorem sortedS_pw : ∀ l : List Str, sortedS l = true → l.Pairwise fun a b => ¬ b.cps.toList < a.cps.toList
  | [], _ => .nil
  | x :: r, h => by
    refine .cons (fun y hy => le_of_rising x r h y hy) ?_
    cases r with
    | nil => exact .nil
    | cons z t => exact sortedS_pw (z :: t) (Bool.and_eq_true_iff.mp h).2
theorem str_inj {a b : Str} (h : a.cps.toList = b.cps.toList) : a = b := by
  cases a with
  | mk x =>
    cases b with
    | mk y =>
      congr 1
      exact Array.toList_inj.mp h
/-- no name twice, none falling: rising -/
theorem srt_of {rs : List Row} (nd : (nms rs).Nodup) (h : (nms rs).Pairwise fun a b => ¬ b.cps.toList < a.cps.toList) : Srt rs := by
  have h1 : rs.Pairwise fun a b => a.1 ≠ b.1 := List.pairwise_map.mp nd
  have h2 : rs.Pairwise fun a b => ¬ b.1.cps.toList < a.1.cps.toList := List.pairwise_map.mp h
  refine (h1.and h2).imp fun {a b} z => ?_
  refine Classical.byContradiction fun l => z.1 (str_inj (List.le_antisymm (List.not_lt.mp z.2) (List.not_lt.mp l)))
theorem Srt.nodup {rs : List Row} (h : Srt rs) : (nms rs).Nodup := by
  refine List.pairwise_map.mpr (h.imp fun {a b} z e => ?_)
  unfold ltN at z
  rw [e] at z
  exact List.lt_irrefl _ z
/-- the dict of names and logs -/
def kvsOf : List Row → List V → List (Key × V)
  | r :: rs, v :: vs => (Sum.inr r.1, v) :: kvsOf rs vs
  | _, _ => []
theorem kvs_keys : ∀ (rs : List Row) (vs : List V), vs.length = rs.length → (kvsOf rs vs).map (·.1) = (nms rs).map Sum.inr
  | [], _, _ => rfl
  | r :: rs, v :: vs, h => by
    show Sum.inr r.1 :: (kvsOf rs vs).map (·.1) = Sum.inr r.1 :: (nms rs).map Sum.inr
    rw [kvs_keys rs vs (Nat.succ.inj h)]
  | r :: rs, [], h => by cases h
theorem kvs_snoc : ∀ (rs : List Row) (vs : List V) (r : Row) (v : V), vs.length = rs.length → kvsOf (rs ++ [r]) (vs ++ [v]) = kvsOf rs vs ++ [(Sum.inr r.1, v)]
  | [], [], r, v, _ => rfl
  | q :: rs, u :: vs, r, v, h => by
    show (Sum.inr q.1, u) :: kvsOf (rs ++ [r]) (vs ++ [v]) = (Sum.inr q.1, u) :: (kvsOf rs vs ++ [(Sum.inr r.1, v)])
    rw [kvs_snoc rs vs r v (Nat.succ.inj h)]
  | [], _ :: _, _, _, h => by cases h
  | _ :: _, [], _, _, h => by cases h
theorem kvs_none : ∀ (rs : List Row) (vs : List V) (z : Str), z ∉ nms rs → valV (kvsOf rs vs) (Sum.inr z : Key) = none
  | [], _, _, _ => rfl
  | r :: rs, [], _, _ => rfl
  | r :: rs, v :: vs, z, h => by
    have h1 : ¬ ((Sum.inr r.1 : Key) = Sum.inr z) := fun e => h (List.mem_cons.mpr (.inl (Sum.inr.inj e).symm))
    exact (valV_neg (p := ((Sum.inr r.1 : Key), v)) h1).trans (kvs_none rs vs z fun m => h (List.mem_cons_of_mem _ m))
theorem kvs_some : ∀ (rs : List Row) (vs : List V) (m : Nat) (r : Row) (v : V), (nms rs).Nodup → rs[m]? = some r → vs[m]? = some v → valV (kvsOf rs vs) (Sum.inr r.1 : Key) = some v
  | [], _, _, _, _, _, h, _ => by cases h
  | q :: rs, [], _, _, _, _, _, h => by cases h
  | q :: rs, u :: vs, 0, r, v, _, h1, h2 => by
    cases h1
    cases h2
    exact valV_pos rfl
  | q :: rs, u :: vs, m + 1, r, v, nd, h1, h2 => by
    have nd2 := List.nodup_cons.mp (show (q.1 :: nms rs).Nodup from nd)
    have hr : r.1 ∈ nms rs := List.mem_map.mpr ⟨r, List.mem_of_getElem? h1, rfl⟩
    have h3 : ¬ ((Sum.inr q.1 : Key) = Sum.inr r.1) := fun e => nd2.1 (by rw [Sum.inr.inj e]; exact hr)
    exact (valV_neg (p := ((Sum.inr q.1 : Key), u)) h3).trans (kvs_some rs vs m r v nd2.2 h1 h2)
theorem kvs_len : ∀ (rs : List Row) (vs : List V), (kvsOf rs vs).length ≤ rs.length
  | [], _ => Nat.zero_le _
  | _ :: _, [] => Nat.zero_le _
  | _ :: rs, _ :: vs => Nat.succ_le_succ (kvs_len rs vs)
/-! ### an atlas -/
def flds (b n l : Addr) : List (Str × V) := putF "logs" (.ref l) (putF "names" (.ref n) (putF "box" (.ref b) []))
theorem fl_nl : ¬ (("names" : Str) = "logs") := by decide +kernel
theorem fl_bl : ¬ (("box" : Str) = "logs") := by decide +kernel
theorem fl_bn : ¬ (("box" : Str) = "names") := by decide +kernel
theorem fl_box (b n l : Addr) : (flds b n l).lookup ("box" : Str) = some (.ref b) := by
  unfold flds
  rw [lookup_putF, if_neg fl_bl, lookup_putF, if_neg fl_bn, lookup_putF, if_pos rfl]
theorem fl_names (b n l : Addr) : (flds b n l).lookup ("names" : Str) = some (.ref n) := by
  unfold flds
  rw [lookup_putF, if_neg fl_nl, lookup_putF, if_pos rfl]
theorem fl_logs (b n l : Addr) : (flds b n l).lookup ("logs" : Str) = some (.ref l) := by
  unfold flds
  rw [lookup_putF, if_pos rfl]
theorem fl_no (b n l : Addr) {m : Str} (h1 : ¬ m = "logs") (h2 : ¬ m = "names") (h3 : ¬ m = "box") : (flds b n l).lookup m = none := by
  unfold flds
  rw [lookup_putF, if_neg h1, lookup_putF, if_neg h2, lookup_putF, if_neg h3]
  rfl
def boxV (box : List Nat) : List V := box.map fun n => V.int (n : Nat)
def namV (rs : List Row) : List V := (nms rs).map V.str
def AtlasAt (K : PySem.W.Frag) (C : Addr) (H : Hp) (p : Addr) (box : List Nat) (rs : List Row) : Prop :=
  ∃ dx b n l ls on, OwnI.PlainT on ∧ H p = some (.ins C dx (flds b n l)) ∧ SqT K H b (boxV box) ∧ H n = some (.frz on (.tup (namV rs))) ∧ SqT K H l ls ∧ DpAll K H ls (rs.map logD)
theorem AtlasAt.same {K : PySem.W.Frag} {C : Addr} {H H' : Hp} {p : Addr} {box : List Nat} {rs : List Row} (h : AtlasAt K C H p box rs) (s : Same H H') : AtlasAt K C H' p box rs := by
  obtain ⟨dx, b, n, l, ls, on, po, h1, h2, h3, h4, h5⟩ := h
  exact ⟨dx, b, n, l, ls, on, po, s _ _ h1, sqt_same s h2, s _ _ h3, sqt_same s h4, dpa_same s _ _ h5⟩
/-- tuples and instances as they were, whatever became of lists -/
def keepO : HO → Bool
  | .lst _ => false
  | .dK _ => false
  | _ => true
def Kp (H H' : Hp) : Prop := ∀ b o, keepO o = true → H b = some o → H' b = some o
theorem Kp.of {H H' : Hp} (s : Same H H') : Kp H H' := fun b o _ h => s b o h
theorem Kp.trans {H H1 H2 : Hp} (a : Kp H H1) (b : Kp H1 H2) : Kp H H2 := fun c o z h => b c o z (a c o z h)
theorem Kp.upd {H : Hp} {a : Addr} {o u : HO} (e : H a = some u) (n : keepO u = false) : Kp H (L2.upd H a o) := fun b v z h => by
  rw [upd_ne (fun y => by rw [y, e] at h; cases h; rw [n] at z; cases z)]
  exact h
theorem Kp.but {H H' : Hp} {p : Addr} (hp : Pool H p) (b : But p H H') : Kp H H' := fun c o z h => by
  refine b c o (fun e => ?_) h
  obtain ⟨l, x, k, n, _, h1⟩ := hp
  rw [e, h1] at h
  cases h
  cases z
/-- tuples as they were -/
def tpO : HO → Bool
  | .tup _ => true
  | .frz _ _ => true
  | _ => false
def Tp (H H' : Hp) : Prop := ∀ b o, tpO o = true → H b = some o → H' b = some o
theorem Kp.tp {H H' : Hp} (k : Kp H H') : Tp H H' := fun b o z h => k b o (by cases o <;> first | rfl | cases z) h
theorem Tp.wo {H : Hp} {X : Addr → Prop} (h : ∀ b o, X b → H b = some o → tpO o = false) : Tp H (M.wo H X) := fun b o z e => by
  rw [wo_in (X := X) (fun x => by rw [h b o x e] at z; cases z)]
  exact e
theorem sqt_kp {K : PySem.W.Frag} {H H' : Hp} {a : Addr} {xs : List V} (e : Tp H H') (h : SqT K H a xs) : SqT K H' a xs := by
  rcases h with (h | ⟨o, h⟩) | h
  · exact .inl (.inl (e _ _ rfl h))
  · exact .inl (.inr ⟨o, e _ _ rfl h⟩)
  · exact .inr h
theorem dpa_kpA {K : PySem.W.Frag} {H H' : Hp} {P : PyData → Prop} (f : ∀ d v, P d → Dp K H v d → Dp K H' v d) : ∀ (ds : List PyData) (vs : List V), (∀ d ∈ ds, P d) → DpAll K H vs ds → DpAll K H' vs ds
  | [], _, _, h => by cases h; exact .nil
  | d :: ds, _, hp, h => by
    cases h with
    | cons h1 h2 => exact .cons (f d _ (hp d List.mem_cons_self) h1) (dpa_kpA f ds _ (fun x hx => hp x (List.mem_cons_of_mem _ hx)) h2)
theorem dp_kp {K : PySem.W.Frag} {H H' : Hp} (e : Tp H H') : ∀ (n : Nat) (d : PyData) (v : V), okD n d = true → Dp K H v d → Dp K H' v d
  | n, .none, _, _, h => by cases h; exact .non
  | n, .bool b, _, _, h => by cases h; exact .bl b
  | n, .int i, _, _, h => by cases h; exact .int i
  | n, .str x, _, _, h => by cases h; exact .str x
  | 0, .list ds, _, o, _ => by cases o
  | n + 1, .list ds, _, o, _ => by cases o
  | 0, .tuple ds, _, o, _ => by cases o
  | n + 1, .tuple ds, _, o, h => by
    cases h with
    | tup hs ha =>
      have o2 := (Bool.and_eq_true_iff.mp (show (decide (ds.length ≤ 1000) && ds.all fun d => okD n d) = true from o)).2
      exact .tup (sqt_kp e hs) (dpa_kpA (P := fun d => okD n d = true) (fun d v o h => dp_kp e n d v o h) ds _ (fun d hd => List.all_eq_true.mp o2 d hd) ha)
  | 0, .dict ds, _, o, _ => by cases o
  | n + 1, .dict ds, _, o, _ => by cases o
theorem part_ok0 {e : Ent} : ∀ d ∈ e.parts, okD 0 d = true := by
  intro d hd
  rcases List.mem_cons.mp hd with hd | hd
  · rw [hd]; rfl
  cases e with
  | face l => rw [List.mem_singleton.mp hd]; rfl
  | go n => rw [List.mem_singleton.mp hd]; rfl
  | sign z => rw [List.mem_singleton.mp hd]; rfl
  | spy n z =>
    rcases List.mem_cons.mp hd with hd | hd
    · rw [hd]; rfl
    · rw [List.mem_singleton.mp hd]; rfl
  | turn q => cases hd
  | bump => cases hd
  | bare => cases hd
  | swap => cases hd
theorem ent_okT (e : Ent) : okD 1 e.tup = true := Bool.and_eq_true_iff.mpr ⟨decide_eq_true (by have := plen3 e; omega), List.all_eq_true.mpr part_ok0⟩
theorem log_okD {r : Row} (h : r.2.length ≤ 1000) : okD 2 (logD r) = true := by
  refine Bool.and_eq_true_iff.mpr ⟨decide_eq_true (by rw [List.length_map]; exact h), List.all_eq_true.mpr fun d hd => ?_⟩
  obtain ⟨e, _, rfl⟩ := List.mem_map.mp hd
  exact ent_okT e
theorem AtlasAt.kp {K : PySem.W.Frag} {C : Addr} {H H' : Hp} {p : Addr} {box : List Nat} {rs : List Row} (h : AtlasAt K C H p box rs) (hr : ∀ r ∈ rs, r.2.length ≤ 1000) (s : Kp H H') : AtlasAt K C H' p box rs := by
  obtain ⟨dx, b, n, l, ls, on, po, h1, h2, h3, h4, h5⟩ := h
  refine ⟨dx, b, n, l, ls, on, po, s _ _ rfl h1, sqt_kp s.tp h2, s _ _ rfl h3, sqt_kp s.tp h4, dpa_kpA (P := fun d => okD 2 d = true) (fun d v o h => dp_kp s.tp 2 d v o h) _ _ (fun d hd => ?_) h5⟩
  obtain ⟨r, hr2, rfl⟩ := List.mem_map.mp hd
  exact log_okD (hr r hr2)
--@@SPLIT
def spLegs (K : PySem.W.Frag) : Sp := fun vs H Q _ => ∃ (e : Addr) (xs : List V) (es : List Ent), vs = [.ref e] ∧ SqA K H e xs ∧ Rows K H xs es ∧ es.length ≤ 200 ∧ ∀ H', Same H H' → Q (.int (1 + (swaps es : Int))) H'
theorem swaps_at {es : List Ent} {i : Nat} {e : Ent} (h : es[i]? = some e) : swaps (es.take (i + 1)) = swaps (es.take i) + (if e.isSwap = true then 1 else 0) := by
  rw [List.take_add_one, h]
  exact swaps_snoc _ _
theorem isw (e : Ent) : decide (V.str (ws e.kind) = V.str (PySem.Str.ofString "swap")) = e.isSwap := (wsd e.kind 9).trans e.swap_iff.symm
theorem ok_legs_in (T : Top w K mg) : FnOk P w K mg base CX0 1 T.a_legs_in T.fd_legs_in ["log"] (spLegs K) := by
  refine T.F_legs_in.ok sc_legs_in (fun vs H Q E h => ?_) (fun cdv A outer s H vs Q E hr h => ?_)
  · obtain ⟨e, xs, es, rfl, _⟩ := h
    rfl
  · obtain ⟨e, xs, es, rfl, hs, ha, hlen, q⟩ := h
    have lx := ha.len
    refine ⟨_, (pss_one (ps_ret (pe_op op_add pe_int (pe_callB call_len_seq (by rfl) T.m_len (by decide +kernel) (pa_cons (pe_lc (own := [("entry", 1)]) (g := gName 1) (by rfl) sc_legs_in.nd (SeqW.pi_seq (pv 0)) (blkOk_by (own := [("entry", 1)]) (N := ["log", "entry"]) (sc := defScope s_legs_in) (by decide +kernel)) (fun _ _ _ _ _ => (pg_name (i := 1) sc_legs_in.nd rfl (Or.inl rfl))) (fun _ _ _ _ _ => (pts_one (pt_cmpR op_eq (pe_ix (r := rIx K) (SeqW.ix_seqK rfl) (pv 1) pe_int (fun _ _ => rfl)) pe_str (nomark _)))) (fun _ _ _ _ _ => (pv 1))) pa_nil))))), ?_⟩
    refine ⟨.ref e, rfl, e, xs, rfl, (fun H' => Same H H'), kpA hs, Same.refl _, fun J G wk hG D hD => lc_it wk (fun i H' => Same H H' ∧ ∃ ys : List V, ys.length = swaps (es.take i) ∧ H' D = some (.lst ys)) ⟨same_upd hD, [], rfl, upd_same⟩ (fun i H' _ h => hG _ h.1) ?_ ?_⟩
    · rintro i v H1 H2 hi ⟨sm, ys, ly, eD⟩ ⟨rfl, hx⟩
      obtain ⟨en, fe, a, us, rfl, hq, _⟩ := (ha.same sm).at_ hx
      have lg := swaps_le (es.take i)
      rw [List.length_take] at lg
      refine ⟨rfl, .ref a, rfl, ixA (j := 0) hq rfl ⟨rfl, _, rfl, ?_⟩⟩
      rw [isw]
      refine ite2 (fun e1 => ⟨.ref a, rfl, ys, eD, small1000 (by omega), (fun b o h => ?_), _, ?_, upd_same⟩) (fun e1 => ⟨sm, ys, ?_, eD⟩)
      · rw [upd_ne (ne_of_none h hD)]
        exact sm _ _ h
      · rw [List.length_append, ly, swaps_at fe, if_pos e1]
        rfl
      · rw [ly, swaps_at fe, if_neg e1]
        rfl
    · rintro H1 ⟨sm, ys, ly, eD⟩
      rw [lx, List.take_length] at ly
      refine ⟨D, ys, rfl, .inl (.inl (.inl eD)), _, _, rfl, rfl, ?_⟩
      rw [ly]
      exact q _ sm
/-! ### an atlas is made -/
/-- one pair of a name and a log, as it is handed in -/
def PairAt (K : PySem.W.Frag) (H : Hp) (v : V) (r : Row) : Prop := ∃ p l xs, v = .ref p ∧ SqA K H p [.str r.1, .ref l] ∧ SqA K H l xs ∧ Rows K H xs r.2
theorem PairAt.same {K : PySem.W.Frag} {H H' : Hp} {v : V} {r : Row} (h : PairAt K H v r) (s : Same H H') : PairAt K H' v r := by
  obtain ⟨p, l, xs, h1, h2, h3, h4⟩ := h
  exact ⟨p, l, xs, h1, h2.same s, h3.same s, h4.same s⟩
theorem PairAt.seqs {K : PySem.W.Frag} {H H' : Hp} {v : V} {r : Row} (h : PairAt K H v r) (s : Seqs H H') : PairAt K H' v r := by
  obtain ⟨p, l, xs, h1, h2, h3, ds, h4, h5⟩ := h
  exact ⟨p, l, xs, h1, h2.elim (fun h => .inl (seqs_l s h)) (fun h => .inr (seqs_t s h)), h3.elim (fun h => .inl (seqs_l s h)) (fun h => .inr (seqs_t s h)), ds, dpa_seqs s _ _ h4, h5⟩
theorem seqs_of {H H' : Hp} {x C dx : Addr} {fs : List (Str × V)} (hx : H x = some (.ins C dx fs)) (b : But x H H') : Seqs H H' := fun c o z h => b c o (fun e => by rw [e, hx] at h; cases h; cases z) h
inductive Pairs (K : PySem.W.Frag) (H : Hp) : List V → List Row → Prop
  | nil : Pairs K H [] []
  | cons {v : V} {r : Row} {vs : List V} {rs : List Row} : PairAt K H v r → Pairs K H vs rs → Pairs K H (v :: vs) (r :: rs)
theorem Pairs.same {K : PySem.W.Frag} {H H' : Hp} {vs : List V} {rs : List Row} (h : Pairs K H vs rs) (s : Same H H') : Pairs K H' vs rs := by
  induction h with
  | nil => exact .nil
  | cons h1 _ ih => exact .cons (h1.same s) ih
theorem Pairs.len {K : PySem.W.Frag} {H : Hp} {vs : List V} {rs : List Row} (h : Pairs K H vs rs) : vs.length = rs.length := by
  induction h with
  | nil => rfl
  | cons _ _ ih => rw [List.length_cons, List.length_cons, ih]
theorem Pairs.at_ {K : PySem.W.Frag} {H : Hp} {vs : List V} {rs : List Row} (h : Pairs K H vs rs) : ∀ {i : Nat} {v : V}, vs[i]? = some v → ∃ r, rs[i]? = some r ∧ PairAt K H v r := by
  induction h with
  | nil => exact fun h => by cases h
  | cons h1 _ ih =>
    intro i v hv
    cases i with
    | zero => cases hv; exact ⟨_, rfl, h1⟩
    | succ i => exact ih hv
theorem Pairs.snoc {K : PySem.W.Frag} {H : Hp} {vs : List V} {rs : List Row} {v : V} {r : Row} (h : Pairs K H vs rs) (h1 : PairAt K H v r) : Pairs K H (vs ++ [v]) (rs ++ [r]) := by
  induction h with
  | nil => exact .cons h1 .nil
  | cons h2 _ ih => exact .cons h2 ih
theorem th_name {K : PySem.W.Frag} {H : Hp} {z : Str} (h : nmL z.cps.toList = true) : Th K H (.str z) ∧ nmV (.str z) = true := by
  refine ⟨.inl ⟨z, rfl, ?_⟩, h⟩
  have h1 := (Bool.and_eq_true_iff.mp (show (shL z.cps.toList && z.cps.toList.all smC) = true from h)).1
  have := of_decide_eq_true (Bool.and_eq_true_iff.mp h1).2
  have hl := len_toList z
  omega
def spAtlasInit (K : PySem.W.Frag) (C : Addr) : Sp := fun vs H Q _ => ∃ (x dx b l : Addr) (box : List Nat) (ps : List V) (rs : List Row), vs = [.ref x, .ref b, .ref l] ∧ H x = some (.ins C dx []) ∧ SqA K H b (boxV box) ∧ box.length = 8 ∧ SqA K H l ps ∧ Pairs K H ps rs ∧ (∀ r ∈ rs, RowOk r) ∧ (nms rs).Nodup ∧ rs.length ≤ 60 ∧
  ∀ H' rs', But x H H' → rs'.Perm rs → Srt rs' → AtlasAt K C H' x box rs' → Q .non H'
theorem ok_Atlas_init (T : Top w K mg) : FnOk P w K mg base CX0 8 T.a_Atlas_init T.fd_Atlas_init ["self", "box", "logs"] (spAtlasInit K T.a_Atlas) := by
  have G_held_box := ok_held_box (P := P) (w := w) (base := base) T
  have G_is_name := ok_is_name (P := P) (w := w) (base := base) T
  have G_held_log_of := ok_held_log_of (P := P) (w := w) (base := base) T
  refine OwnI.funD_ok T.F_Atlas_init sc_Atlas_init (fun vs H Q E h => ?_) (fun cdv A outer s H vs Q E hr h => ?_)
  · obtain ⟨x, dx, b, l, box, ps, rs, rfl, _⟩ := h
    rfl
  · obtain ⟨x, dx, b, l, box, ps, rs, rfl, hx, hb, h8, hl, hps, hok, hnd, hlen, q⟩ := h
    refine ⟨_, (pss_cons (ps_fld (pv 0) (pe_call G_held_box (hr.mono (by decide)) (by rfl) T.g_held_box T.F_held_box.kp T.b_held_box .nil pass0 (pa_cons (pv 1) pa_nil)) rfl)
      (pss_cons (ps_set (i := 3) sc_Atlas_init.nd rfl (.inr rfl) pe_dnewK)
      (pss_cons (ps_for PassesOwn.never rfl (SeqW.pi_seq (pv 2)) (SeqW.pg_any rfl (pgs_cons (pg_name (i := 4) sc_Atlas_init.nd rfl (.inl rfl)) (pgs_cons (pg_name (i := 5) sc_Atlas_init.nd rfl (.inl rfl)) pgs_nil))) (pss_cons (ps_if (pt_not (pt_val (pe_call G_is_name (hr.mono (by decide)) (by rfl) T.g_is_name T.F_is_name.kp T.b_is_name .nil pass0 (pa_cons (pv 4) pa_nil)))) (pss_one ps_never) pss_nil)
      (pss_cons (ps_if (pt_cmp (pc_din (hu_of hr) (pv 4) (pv 3))) (pss_one ps_never) pss_nil)
      (pss_one (ps_dput (hu_of hr) (pv 3) (pv 4) (pe_call G_held_log_of hr (by rfl) T.g_held_log_of T.F_held_log_of.kp T.b_held_log_of .nil pass0 (pa_cons (pv 4) (pa_cons (pv 5) pa_nil))) rfl)))))
      (pss_cons (ps_fld (pv 0) (pe_callTy OwnI.call_tuple_frz (by rfl) T.m_tuple (by decide +kernel) (pa_cons (pe_callB (call_sortedD rfl) (by rfl) T.m_sorted (by decide +kernel) (pa_cons (pv 3) pa_nil)) pa_nil)) rfl)
      (pss_one (ps_fld (pv 0) (pe_callTy call_tuple_of (by rfl) T.m_tuple (by decide +kernel) (pa_cons (pe_lc (own := [("name", 4)]) (g := gName 4) (by rfl) sc_Atlas_init.nd (pi_tup (pe_fld (pv 0) rfl)) (blkOk_by (own := [("name", 4)]) (N := ["self", "box", "logs", "held", "name", "log"]) (sc := defScope s_Atlas_init) (by decide +kernel)) (fun _ _ _ _ _ => (pg_name (i := 4) sc_Atlas_init.nd rfl (Or.inl rfl))) (fun _ _ _ _ _ => pts_nil) (fun _ _ _ _ _ => (pe_dget (hu_of hr) (pv 3) (pv 4) (fun _ _ => rfl)))) pa_nil)) rfl)))))), ?_⟩
    have hpl := hps.len
    refine ⟨.ref b, rfl, b, box, rfl, hb, h8, fun H1 bt s1 hbt => ?_⟩
    refine ⟨.ref x, rfl, x, T.a_Atlas, dx, [], rfl, s1 _ _ hx, T.cl_Atlas, T.nf_Atlas_box, by show 0 < 1000; decide, ?_⟩
    intro d nd
    generalize efs : putF "box" (.ref bt) [] = fs1 at nd ⊢
    have ndx : d ≠ x := fun z => by rw [z, upd_same] at nd; cases nd
    have nd1 : H1 d = none := by rw [upd_ne ndx] at nd; exact nd
    have nd0 : H d = none := s1.free nd1
    have b1 : But x H (upd (upd H1 x (.ins T.a_Atlas dx fs1)) d (.dK [])) := fun c o hc h => by
      rw [upd_ne (ne_of_none h nd0), upd_ne hc]
      exact s1 _ _ h
    have ex2 : (upd (upd H1 x (.ins T.a_Atlas dx fs1)) d (.dK [])) x = some (.ins T.a_Atlas dx fs1) := by
      rw [upd_ne (Ne.symm ndx)]
      exact upd_same
    have hbt2 : SqT K (upd (upd H1 x (.ins T.a_Atlas dx fs1)) d (.dK [])) bt (boxV box) := by
      refine seqs_t (fun c o z h => ?_) hbt
      have hcx : c ≠ x := fun e => by rw [e, s1 _ _ hx] at h; cases h; cases z
      rw [upd_ne (ne_of_none h nd1), upd_ne hcx]
      exact h
    refine ⟨.ref l, rfl, l, ps, rfl, (fun H' => Seqs H H'), hl.elim (fun h => .inl fun _ s => seqs_l s h) (fun h => .inr fun _ s => seqs_t s h), seqs_of hx b1, fun J G wk hG => for_it wk (fun i σ H' => But x H H' ∧ H' x = some (.ins T.a_Atlas dx fs1) ∧ SqT K H' bt (boxV box) ∧ ∃ y4 y5 ls, σ = [some (.ref x), some (.ref b), some (.ref l), some (.ref d), y4, y5] ∧ H' d = some (.dK (kvsOf (rs.take i) ls)) ∧ ls.length = i ∧ DpAll K (wo H' (fun c => c = x ∨ c = d)) ls ((rs.take i).map logD)) ⟨b1, ex2, hbt2, _, _, [], rfl, upd_same, rfl, .nil⟩ (fun i σ H' _ h => hG _ (seqs_of hx h.1)) ?_ ?_⟩
    · rintro i v σ H2 H3 hi ⟨b2, e2, hb2, y4, y5, ls, rfl, ed, ll, hls⟩ ⟨rfl, hv⟩
      have hil : i < rs.length := by omega
      obtain ⟨r, fr, hpr⟩ := hps.at_ hv
      have ro := hok r (List.mem_of_getElem? fr)
      obtain ⟨pp, lg, xs, rfl, hsp, hsl, hrw⟩ := hpr.seqs (seqs_of hx b2)
      have ltk : (rs.take i).length = i := by rw [List.length_take]; omega
      refine ⟨pp, _, rfl, hsp, rfl, _, _, rfl, _, _, rfl, rfl, ?_⟩
      obtain ⟨hth, hnm⟩ := th_name (K := K) (H := H3) ro.nm
      refine ⟨_, rfl, .str r.1, rfl, hth, fun H4 s4 => ⟨_, rfl, ?_⟩⟩
      rw [hnm]
      refine iteF ?_
      have ed4 := s4 _ _ ed
      have hnew : r.1 ∉ nms (rs.take i) := fun hm => by
        obtain ⟨r2, hr2, e3⟩ := List.mem_map.mp hm
        obtain ⟨j, hj⟩ := List.mem_iff_getElem?.mp hr2
        have hjl := (List.getElem?_eq_some_iff.mp hj).1
        rw [ltk] at hjl
        rw [List.getElem?_take_of_lt hjl] at hj
        have e5 : (nms rs)[j]? = some r.1 := by unfold nms; rw [List.getElem?_map, hj]; exact congrArg some e3
        have e6 : (nms rs)[i]? = some r.1 := by unfold nms; rw [List.getElem?_map, fr]; rfl
        have j1 := (List.getElem?_eq_some_iff.mp e5)
        have i1 := (List.getElem?_eq_some_iff.mp e6)
        exact (List.pairwise_iff_getElem.mp hnd) j i j1.1 i1.1 hjl (j1.2.trans i1.2.symm)
      have hno := kvs_none (rs.take i) ls r.1 hnew
      refine ⟨_, rfl, _, rfl, d, _, rfl, DGet.k (k := Sum.inr r.1) ed4, _, rfl, ?_⟩
      rw [hno]
      refine iteF ?_
      refine ⟨.str r.1, rfl, .ref lg, rfl, r.1, lg, xs, r.2, rfl, hsl.same s4, hrw.same s4, ro.ok, ro.right, by have := ro.len; omega, fun H5 rr ys s5 nr er hdp => ?_⟩
      have ed5 := s5 _ _ ed4
      have klen := kvs_len (rs.take i) ls
      rw [ltk] at klen
      refine ⟨_, rfl, _, rfl, d, _, rfl, DPut.k (k := Sum.inr r.1) ed5 (small1000 (by omega)), ?_⟩
      have s35 := s4.trans s5
      have nrd : rr ≠ d := fun z => by rw [z, ed4] at nr; cases nr
      have nrx : rr ≠ x := fun z => by rw [z, s4 _ _ e2] at nr; cases nr
      refine ⟨fun c o hc h => ?_, ?_, ?_, _, _, ls ++ [.ref rr], rfl, ?_, ?_, ?_⟩
      · rw [upd_ne (ne_of_none h nd0)]
        exact s35 _ _ (b2 _ _ hc h)
      · rw [upd_ne (Ne.symm ndx)]
        exact s35 _ _ e2
      · refine seqs_t (fun c o z h => ?_) hb2
        rw [upd_ne (fun e => by rw [e, ed] at h; cases h; cases z)]
        exact s35 _ _ h
      · rw [upd_same, putK_new _ hno, List.take_add_one, fr]
        show some (HO.dK _) = some (HO.dK (kvsOf (rs.take i ++ [r]) (ls ++ [.ref rr])))
        rw [kvs_snoc _ _ _ _ (by rw [ll, ltk])]
      · rw [List.length_append, ll]
        rfl
      · rw [List.take_add_one, fr, List.map_append]
        have m6 : Same (wo H5 (fun c => c = x ∨ c = d)) (wo (upd H5 d (.dK (putK (kvsOf (rs.take i) ls) (Sum.inr r.1) (.ref rr)))) (fun c => c = x ∨ c = d)) := fun c o h => by
          have h2 := wo_some h
          rw [wo_in (X := fun c => c = x ∨ c = d) h2.1, upd_ne (fun z => h2.1 (.inr z))]
          exact h2.2
        have m5 : Same (wo H3 (fun c => c = x ∨ c = d)) (wo H5 (fun c => c = x ∨ c = d)) := fun c o h => by
          have h2 := wo_some h
          rw [wo_in (X := fun c => c = x ∨ c = d) h2.1]
          exact s35 _ _ h2.2
        refine dpa_snoc (dp_same m6 _ _ ?_) _ _ (dpa_same (m5.trans m6) _ _ hls)
        refine dp_kp (Tp.wo (fun c o hc h => ?_)) 2 _ _ (log_okD (by have := ro.len; omega)) (show Dp K H5 (.ref rr) (logD r) from .tup (.inl (.inl er)) hdp)
        rcases hc with hc | hc
        · rw [hc, s35 _ _ e2] at h; cases h; rfl
        · rw [hc, ed5] at h; cases h; rfl
    · rintro σ H2 ⟨b2, e2, hb2, y4, y5, ls, rfl, ed, ll, hls⟩
      rw [hpl] at ll hls ed
      rw [List.take_length] at hls ed
      refine ⟨.ref d, rfl, d, _, nms rs, rfl, Rd.of ed, kvs_keys rs ls ll, by unfold nms; rw [List.length_map]; omega, fun ys p perm srt np => ?_⟩
      obtain ⟨rs', prm, ey⟩ := perm_lift (f := fun r : Row => r.1) perm
      have nd' : (nms rs').Nodup := (show (nms rs').Perm (nms rs) from prm.map _).nodup_iff.mpr hnd
      have hsrt : Srt rs' := srt_of nd' (by rw [show nms rs' = ys from ey]; exact sortedS_pw ys srt)
      have lrs : rs'.length = rs.length := prm.length_eq
      have sp := same_upd (o := .lst (ys.map V.str)) np
      refine ⟨p, _, rfl, .inl (.inl upd_same), fun n on po nn => ?_⟩
      have sn := same_upd (o := .frz on (.tup (ys.map V.str))) nn
      have s3 := sp.trans sn
      refine ⟨.ref x, rfl, x, T.a_Atlas, dx, fs1, rfl, s3 _ _ e2, T.cl_Atlas, T.nf_Atlas_names, by rw [← efs]; show 1 < 1000; decide, ?_⟩
      have nnx : n ≠ x := fun z => by rw [z, sp _ _ e2] at nn; cases nn
      have nnd : n ≠ d := fun z => by rw [z, sp _ _ ed] at nn; cases nn
      generalize eH3 : upd (upd (upd H2 p (.lst (ys.map V.str))) n (.frz on (.tup (ys.map V.str)))) x (.ins T.a_Atlas dx (putF "names" (.ref n) fs1)) = H3
      have k3 : ∀ c o, c ≠ x → H2 c = some o → H3 c = some o := fun c o hc h => by
        rw [← eH3, upd_ne hc]
        exact s3 _ _ h
      have x3 : H3 x = some (.ins T.a_Atlas dx (putF "names" (.ref n) fs1)) := by rw [← eH3]; exact upd_same
      have n3 : H3 n = some (.frz on (.tup (ys.map V.str))) := by
        rw [← eH3, upd_ne nnx]
        exact upd_same
      have d3 : H3 d = some (.dK (kvsOf rs ls)) := k3 _ _ ndx ed
      have hls3 : DpAll K (wo H3 (fun c => c = x ∨ c = d)) ls (rs.map logD) := dpa_same (fun c o h => by
        have h2 := wo_some h
        rw [wo_in (X := fun c => c = x ∨ c = d) h2.1]
        exact k3 _ _ (fun z => h2.1 (.inl z)) h2.2) _ _ hls
      have lkn : (putF "names" (.ref n) fs1).lookup ("names" : Str) = some (.ref n) := by rw [lookup_putF, if_pos rfl]
      refine ⟨.ref x, rfl, x, T.a_Atlas, dx, _, _, rfl, x3, T.cl_Atlas, T.nf_Atlas_names, lkn, n, rfl, ⟨_, .inl (.inr ⟨on, n3⟩)⟩, fun D hD => lc_it (walk_tup (xs := ys.map V.str)) (fun i H' => Same H3 H' ∧ ∃ zs, H' D = some (.lst zs) ∧ zs.length = i ∧ DpAll K (wo H3 (fun c => c = x ∨ c = d)) zs ((rs'.take i).map logD)) ⟨same_upd hD, [], upd_same, rfl, .nil⟩ (fun i H' _ h => .inl (.inr ⟨on, h.1 _ _ n3⟩)) ?_ ?_⟩
      · rintro i v H4 H5 hi ⟨s4, zs, eD, lz, hz⟩ ⟨rfl, hv⟩
        rw [← ey, List.map_map, List.getElem?_map] at hv
        obtain ⟨r, fr, rfl⟩ : ∃ r, rs'[i]? = some r ∧ V.str r.1 = v := by
          cases e1 : rs'[i]? with
          | none => rw [e1] at hv; cases hv
          | some r => rw [e1] at hv; exact ⟨r, rfl, Option.some.inj hv⟩
        obtain ⟨m, hm⟩ := List.mem_iff_getElem?.mp (prm.mem_iff.mp (List.mem_of_getElem? fr))
        have hml : m < ls.length := by rw [ll]; exact (List.getElem?_eq_some_iff.mp hm).1
        have hlm := List.getElem?_eq_getElem hml
        have hval := kvs_some rs ls m r ls[m] hnd hm hlm
        obtain ⟨dd, fd, gd⟩ := dpa_at _ ls hls3 m ls[m] hlm
        rw [List.getElem?_map, hm] at fd
        cases fd
        have il : i < rs'.length := (List.getElem?_eq_some_iff.mp fr).1
        refine ⟨rfl, _, rfl, _, rfl, d, ls[m], rfl, ?_, zs, eD, small1000 (by omega), ?_, _, upd_same, ?_, ?_⟩
        · have hg := DGet.k (k := Sum.inr r.1) (s4 _ _ d3)
          rw [hval] at hg
          exact hg
        · exact fun c o h => by
            rw [upd_ne (ne_of_none h hD)]
            exact s4 _ _ h
        · rw [List.length_append, lz]
          rfl
        · rw [List.take_add_one, fr, List.map_append]
          exact dpa_snoc gd _ _ hz
      · rintro H4 ⟨s4, zs, eD, lz, hz⟩
        rw [List.length_map, show ys.length = rs'.length by rw [← ey, List.length_map], List.take_length] at hz
        refine ⟨D, zs, rfl, .inl ⟨.inl (.inl eD), fun t nt => ?_⟩⟩
        have st := same_upd (o := .tup zs) nt
        have s34 := s4.trans st
        refine ⟨.ref x, rfl, x, T.a_Atlas, dx, _, rfl, s34 _ _ x3, T.cl_Atlas, T.nf_Atlas_logs, by rw [← efs]; show (putF "names" (.ref n) [("box", V.ref bt)]).length < 1000; exact Nat.lt_of_le_of_lt (length_putF _ _ _) (show 1 + 1 < 1000 by decide), ?_⟩
        have ntx : t ≠ x := fun z => by rw [z, s4 _ _ x3] at nt; cases nt
        have kf : Same (wo H3 (fun c => c = x ∨ c = d)) (upd (upd H4 t (.tup zs)) x (.ins T.a_Atlas dx (putF "logs" (.ref t) (putF "names" (.ref n) fs1)))) := fun c o h => by
          have h2 := wo_some h
          rw [upd_ne (fun z => h2.1 (.inl z))]
          exact s34 _ _ h2.2
        refine q _ rs' (fun c o hc h => ?_) prm hsrt ⟨dx, bt, n, t, zs, on, po, ?_, ?_, ?_, .inl (.inl ?_), dpa_same kf _ _ hz⟩
        · rw [upd_ne hc]
          exact s34 _ _ (k3 _ _ hc (b2 _ _ hc h))
        · rw [upd_same, ← efs]
          rfl
        · refine seqs_t (fun c o z h => ?_) hb2
          have hcx : c ≠ x := fun e => by rw [e, e2] at h; cases h; cases z
          rw [upd_ne hcx]
          exact s34 _ _ (k3 _ _ hcx h)
        · rw [upd_ne nnx, show namV rs' = ys.map V.str by unfold namV; rw [show nms rs' = ys from ey]]
          exact s34 _ _ n3
        · rw [upd_ne ntx]
          exact upd_same
def legL (rs : List Row) : List PyData := rs.flatMap fun r => (List.range (1 + swaps r.2)).map fun (k : Nat) => .tuple [.str r.1, .int (k : Nat)]
def spLegsA (K : PySem.W.Frag) (C : Addr) : Sp := fun vs H Q _ => ∃ (x : Addr) (box : List Nat) (rs : List Row), vs = [.ref x] ∧ AtlasAt K C H x box rs ∧ (∀ r ∈ rs, RowOk r) ∧ rs.length ≤ 60 ∧ ∀ H' r, Same H H' → Dp K H' (.ref r) (.tuple (legL rs)) → Q (.ref r) H'
theorem log_rows {K : PySem.W.Frag} {H : Hp} {v : V} {r : Row} (h : Dp K H v (logD r)) : ∃ a xs, v = .ref a ∧ SqT K H a xs ∧ Rows K H xs r.2 := by
  cases h with
  | tup hs ha => exact ⟨_, _, rfl, hs, rows_tup ha⟩
theorem legL_snoc (rs : List Row) (r : Row) : legL (rs ++ [r]) = legL rs ++ (List.range (1 + swaps r.2)).map fun (k : Nat) => PyData.tuple [.str r.1, .int (k : Nat)] := by
  unfold legL
  rw [List.flatMap_append]
  simp
theorem legL_len {rs : List Row} (h : ∀ r ∈ rs, RowOk r) : (legL rs).length ≤ 101 * rs.length := by
  induction rs with
  | nil => exact Nat.le_refl 0
  | cons r rs ih =>
    have h1 := ih (fun x hx => h x (List.mem_cons_of_mem _ hx))
    have h2 := swaps_le r.2
    have h3 := (h r List.mem_cons_self).len
    show ((List.range (1 + swaps r.2)).map (fun (k : Nat) => PyData.tuple [.str r.1, .int (k : Nat)]) ++ legL rs).length ≤ 101 * (rs.length + 1)
    rw [List.length_append, List.length_map, List.length_range]
    omega
theorem ok_Atlas_legs (T : Top w K mg) : FnOk P w K mg base CX0 2 T.a_Atlas_legs T.fd_Atlas_legs ["self"] (spLegsA K T.a_Atlas) := by
  have G_legs_in := ok_legs_in (P := P) (w := w) (base := base) T
  refine T.F_Atlas_legs.ok sc_Atlas_legs (fun vs H Q E h => ?_) (fun cdv A outer s H vs Q E hr h => ?_)
  · obtain ⟨x, box, rs, rfl, _⟩ := h
    rfl
  · obtain ⟨x, box, rs, rfl, hA, hok, hlen, q⟩ := h
    obtain ⟨dx, b, n, l, ls, on, po, h1, h2, hn, h4, h5⟩ := hA
    have h3 : SqT K H n (namV rs) := .inl (.inr ⟨on, hn⟩)
    refine ⟨_, (pss_one (ps_ret (pe_callTy call_tuple_of (by rfl) T.m_tuple (by decide +kernel) (pa_cons (pe_lc2 (own := [("name", 1), ("log", 2), ("leg", 3)]) (vs1 := [3]) (g := gTup K 2 (gCons (gName 1) (gCons (gName 2) gNil))) (g1 := gName 3) (by rfl) sc_Atlas_legs.nd (RZ.pi_zipA (by rfl) T.m_zip (pa_cons (pe_fld (pv 0) rfl) (pa_cons (pe_fld (pv 0) rfl) pa_nil))) (blkOk_by (own := [("name", 1), ("log", 2), ("leg", 3)]) (N := ["self", "name", "log", "leg"]) (sc := defScope s_Atlas_legs) (by decide +kernel)) (by decide) (fun _ _ _ _ _ => (pg_tup rfl (pgs_cons (pg_name (i := 1) sc_Atlas_legs.nd rfl (Or.inl rfl)) (pgs_cons (pg_name (i := 2) sc_Atlas_legs.nd rfl (Or.inl rfl)) pgs_nil)))) (fun _ _ _ _ _ => pts_nil) (fun _ _ _ _ _ => (pi_range1 (by rfl) T.m_range (pa_cons (pe_call G_legs_in hr (by rfl) T.g_legs_in T.F_legs_in.kp T.b_legs_in .nil pass0 (pa_cons (pv 2) pa_nil)) pa_nil))) (fun _ _ _ _ _ => (pg_name (i := 3) sc_Atlas_legs.nd rfl (Or.inl rfl))) (fun _ _ _ _ _ => pts_nil) (fun _ _ _ _ _ => (pe_tup (pa_cons (pv 1) (pa_cons (pv 3) pa_nil))))) pa_nil)))), ?_⟩
    have hls : ls.length = rs.length := by
      have := dpa_len _ _ h5
      rw [List.length_map] at this
      exact this
    have hns : (namV rs).length = rs.length := by
      unfold namV nms
      rw [List.length_map, List.length_map]
    refine ⟨.ref x, rfl, x, T.a_Atlas, dx, _, _, rfl, h1, T.cl_Atlas, T.nf_Atlas_names, fl_names b n l, .ref x, rfl, x, T.a_Atlas, dx, _, _, rfl, h1, T.cl_Atlas, T.nf_Atlas_logs, fl_logs b n l, n, l, _, ls, rfl, .inr ⟨h3, h4, fun D hD => ?_⟩⟩
    refine SeqW.lc2_it (walk_zipT (xs := namV rs) (ys := ls) (n := rs.length) (by omega)) (fun i H' => Same H H' ∧ ∃ zs, H' D = some (.lst zs) ∧ zs.length = (legL (rs.take i)).length ∧ DpAll K (wo H' (fun c => c = D)) zs (legL (rs.take i))) ⟨same_upd hD, [], upd_same, rfl, .nil⟩ (fun i H' _ h => ⟨sqt_same h.1 h3, sqt_same h.1 h4⟩) ?_ ?_
    · rintro i v H1 H2 hi ⟨sm, zs, eD, lz, hz⟩ ⟨t, u1, u2, rfl, nt, rfl, e1, e2⟩
      have e1 : (namV rs)[i]? = some u1 := e1
      have e2 : ls[i]? = some u2 := e2
      have fr : rs[i]? = some rs[i] := List.getElem?_eq_getElem hi
      have ro := hok rs[i] (List.getElem_mem hi)
      generalize rs[i] = r at fr ro
      have eu : u1 = .str r.1 := by
        unfold namV nms at e1
        rw [List.getElem?_map, List.getElem?_map, fr] at e1
        exact (Option.some.inj e1).symm
      subst eu
      obtain ⟨d, fd, gd⟩ := dpa_at _ ls h5 i u2 e2
      rw [List.getElem?_map, fr] at fd
      cases fd
      have st := same_upd (o := .tup [.str r.1, u2]) nt
      have sm2 := sm.trans st
      obtain ⟨a, xs, rfl, hsq, hrw⟩ := log_rows (dp_same sm2 _ _ gd)
      refine ⟨t, _, rfl, .inl (.inl upd_same), rfl, _, _, rfl, _, _, rfl, rfl, rfl, ?_⟩
      have hsw := swaps_le r.2
      have hrl := ro.len
      refine ⟨_, rfl, a, xs, r.2, rfl, .inr hsq, hrw, by omega, fun H3 s3 => ?_⟩
      refine ⟨_, rfl, by omega, by omega, ?_⟩
      have tk : (1 + (swaps r.2 : Int)).toNat = 1 + swaps r.2 := by omega
      have nDt : D ≠ t := ne_of_none eD nt
      refine SeqW.lc2_in (walk_range (lo := 0) (n := (1 + (swaps r.2 : Int)).toNat)) (fun j H' => Same H H' ∧ ∃ ws, H' D = some (.lst ws) ∧ ws.length = (legL (rs.take i)).length + j ∧ DpAll K (wo H' (fun c => c = D)) ws (legL (rs.take i) ++ (List.range j).map fun (k : Nat) => PyData.tuple [.str r.1, .int (k : Nat)])) ⟨sm2.trans s3, zs, s3 _ _ (st _ _ eD), lz, ?_⟩ (fun _ _ _ _ => trivial) ?_ ?_
      · show DpAll K _ zs (legL (rs.take i) ++ [])
        rw [List.append_nil]
        refine dpa_same (fun c o h => ?_) _ _ hz
        have h2 := wo_some h
        rw [wo_in (X := fun c => c = D) h2.1]
        exact s3 _ _ (st _ _ h2.2)
      · rintro j v H4 H5 hj ⟨s4, ws, eD4, lw, hw⟩ ⟨rfl, rfl⟩
        have ll := legL_len (rs := rs.take i) (fun x hx => hok x (List.mem_of_mem_take hx))
        rw [List.length_take] at ll
        refine ⟨rfl, .str r.1, rfl, _, rfl, by show 2 ≤ sizeLine; decide, fun u nu => ?_⟩
        have su := same_upd (o := .tup [.str r.1, .int (0 + (j : Int))]) nu
        have eD5 := su _ _ eD4
        refine ⟨ws, eD5, ?_, ?_, _, upd_same, ?_, ?_⟩
        · exact Nat.lt_of_lt_of_le (show ws.length < 100000 by omega) (by decide)
        · exact fun c o h => by
            rw [upd_ne (ne_of_none h hD)]
            exact su _ _ (s4 _ _ h)
        · rw [List.length_append, lw]
          rfl
        · rw [List.range_succ, List.map_append, ← List.append_assoc]
          have m6 : Same (wo H5 (fun c => c = D)) (wo (upd (upd H5 u (.tup [.str r.1, .int (0 + (j : Int))])) D (.lst (ws ++ [.ref u]))) (fun c => c = D)) := fun c o h => by
            have h2 := wo_some h
            rw [wo_in (X := fun c => c = D) h2.1, upd_ne h2.1]
            exact su _ _ h2.2
          refine dpa_snoc ?_ _ _ (dpa_same m6 _ _ hw)
          have nuD : u ≠ D := fun z => by rw [z, eD4] at nu; cases nu
          refine .tup (xs := [.str r.1, .int (0 + (j : Int))]) (.inl (.inl ?_)) (.cons (.str _) (.cons ?_ .nil))
          · rw [wo_in (X := fun c => c = D) nuD, upd_ne nuD]
            exact upd_same
          · have : (0 + (j : Int)) = ((j : Nat) : Int) := by omega
            rw [this]
            exact .int _
      · rintro H4 ⟨s4, ws, eD4, lw, hw⟩
        rw [tk] at lw hw
        have el : legL (rs.take (i + 1)) = legL (rs.take i) ++ (List.range (1 + swaps r.2)).map fun (k : Nat) => PyData.tuple [.str r.1, .int (k : Nat)] := by
          rw [List.take_add_one, fr]
          exact legL_snoc _ _
        refine ⟨s4, ws, eD4, ?_, ?_⟩
        · rw [el, List.length_append, List.length_map, List.length_range]
          exact lw
        · rw [el]
          exact hw
    · rintro H1 ⟨sm, zs, eD, lz, hz⟩
      rw [List.take_length] at hz
      refine ⟨D, zs, rfl, .inl ⟨.inl (.inl eD), fun r nr => ?_⟩⟩
      have sr := same_upd (o := .tup zs) nr
      exact q _ r (sm.trans sr) (.tup (.inl (.inl upd_same)) (dpa_same (wo_same.trans sr) _ _ hz))
def spLenA (K : PySem.W.Frag) (C : Addr) : Sp := fun vs H Q _ => ∃ (x : Addr) (box : List Nat) (rs : List Row), vs = [.ref x] ∧ AtlasAt K C H x box rs ∧ (∀ r ∈ rs, RowOk r) ∧ rs.length ≤ 60 ∧ ∀ H', Same H H' → Q (.int ((legL rs).length : Nat)) H'
theorem ok_Atlas_len (T : Top w K mg) : FnOk P w K mg base CX0 3 T.a_Atlas_len T.fd_Atlas_len ["self"] (spLenA K T.a_Atlas) := by
  have G_Atlas_legs := ok_Atlas_legs (P := P) (w := w) (base := base) T
  refine T.F_Atlas_len.ok sc_Atlas_len (fun vs H Q E h => ?_) (fun cdv A outer s H vs Q E hr h => ?_)
  · obtain ⟨x, box, rs, rfl, _⟩ := h
    rfl
  · obtain ⟨x, box, rs, rfl, hA, hok, hlen, q⟩ := h
    refine ⟨_, (pss_one (ps_ret (pe_callB call_len_seq (by rfl) T.m_len (by decide +kernel) (pa_cons (pe_meth0 (pv 0) T.cl_Atlas T.me_Atlas_legs G_Atlas_legs hr T.b_Atlas_legs .nil pass0) pa_nil)))), ?_⟩
    have hA' := hA
    obtain ⟨dx, b, n, l, ls, on, po, h1, _⟩ := hA'
    refine ⟨.ref x, rfl, x, dx, _, rfl, h1, fl_no b n l (by decide +kernel) (by decide +kernel) (by decide +kernel), x, box, rs, rfl, hA, hok, hlen, fun H1 r s1 hd => ?_⟩
    cases hd with
    | @tup _ xs _ hs ha =>
    have e := dpa_len _ _ ha
    refine ⟨r, xs, rfl, .inr hs, ?_⟩
    rw [e]
    exact q _ s1
--@@SPLIT
/-! ### drawn texts, drawn things -/
theorem op_mulS {X : Cx} : OpR X (binaryOp .Mult) (fun x y H Q => ∃ (z : Str) (n : Int), x = .str z ∧ y = .int n ∧ z.length ≤ 16 ∧ 0 ≤ n ∧ n ≤ 1048576 ∧ ∀ z' : Str, (z'.length : Int) = (z.length : Int) * n → Q (.str z') H) := by
  intro pins s σ H x y v u Q I rx ry h
  obtain ⟨z, n, rfl, rfl, hz, h0, h1, q⟩ := h
  obtain ⟨t, rfl⟩ := rx
  obtain ⟨t', rfl⟩ := ry
  exact PySem.W.KXi.mul rfl hz (by omega) (by omega) fun t' k _ h2 => ⟨.str _, H, I.tok _, ⟨_, rfl⟩, q _ (h2 h0)⟩
theorem cut_len (z : Str) (lo hi : Option Int) : (cutS z lo hi).length ≤ z.length := by
  show (((z.cps.toList.drop (HT.sIx z.length 0 lo)).take (HT.sIx z.length z.length hi - HT.sIx z.length 0 lo)).toArray).size ≤ z.length
  rw [List.size_toArray, List.length_take, List.length_drop, len_toList]
  omega
theorem app_len (a b : Str) : (a ++ b).length = a.length + b.length := by
  show (a.cps ++ b.cps).size = _
  rw [Array.size_append]
  rfl
theorem str_at {z : Str} {i : Int} (h0 : 0 ≤ i) (h1 : i < (z.length : Int)) : ∃ c, atI z.cps.toList i = some c := by
  obtain ⟨j, rfl⟩ : ∃ j : Nat, i = j := ⟨i.toNat, by omega⟩
  have hj : j < z.cps.toList.length := by
    rw [len_toList]
    omega
  exact ⟨z.cps.toList[j], atI_nat (List.getElem?_eq_getElem hj)⟩
def spText (lo hi : Nat) : Sp := fun vs H Q _ => ∃ p, vs = [.ref p] ∧ Pool H p ∧ ∀ H' (z : Str), But p H H' → Pool H' p → lo ≤ z.length → z.length ≤ hi → (∀ c ∈ z.cps.toList, c ∈ SMALLs.cps.toList) → Q (.str z) H'
theorem app_mem {a b : Str} {c : Nat} (h : c ∈ (a ++ b).cps.toList) : c ∈ a.cps.toList ∨ c ∈ b.cps.toList := by
  have h2 : c ∈ (a.cps ++ b.cps).toList := h
  rw [Array.toList_append] at h2
  exact List.mem_append.mp h2
theorem join_mem {S : List Nat} : ∀ ys : List Str, (∀ y ∈ ys, ∀ c ∈ y.cps.toList, c ∈ S) → ∀ c ∈ (Str.join (PySem.Str.ofString "") ys).cps.toList, c ∈ S
  | [], _, c, h => by
    have h2 : c ∈ ([] : List Nat) := h
    cases h2
  | [y], hy, c, h => hy y (by simp) c h
  | y :: z :: r, hy, c, h => by
    have h2 : c ∈ ((y ++ PySem.Str.ofString "") ++ Str.join (PySem.Str.ofString "") (z :: r)).cps.toList := h
    rcases app_mem h2 with h3 | h3
    · rcases app_mem h3 with h4 | h4
      · exact hy y (by simp) c h4
      · have h5 : c ∈ ([] : List Nat) := by
          rw [show (PySem.Str.ofString "").cps.toList = [] by decide +kernel] at h4
          exact h4
        cases h5
    · exact join_mem (z :: r) (fun x hx => hy x (List.mem_cons_of_mem _ hx)) c h3
theorem ok_of_mem {z : Str} (h : ∀ c ∈ z.cps.toList, c < 0x110000) : PyData.strOk z = true := by
  show z.cps.all (fun c => decide (c < 0x110000)) = true
  rw [Array.all_eq_true_iff_forall_mem]
  intro c hc
  exact decide_eq_true (h c (Array.mem_toList_iff.mpr hc))
theorem small_ok : ∀ c ∈ SMALLs.cps.toList, c < 0x110000 := by decide +kernel
theorem cut_mem {z : Str} {lo hi : Option Int} {c : Nat} (h : c ∈ (cutS z lo hi).cps.toList) : c ∈ z.cps.toList := by
  have h2 : c ∈ (z.cps.toList.drop (HT.sIx z.length 0 lo)).take (HT.sIx z.length z.length hi - HT.sIx z.length 0 lo) := h
  exact List.mem_of_mem_drop (List.mem_of_mem_take h2)
theorem at_mem {z : Str} {i : Int} {c : Nat} (h : atI z.cps.toList i = some c) : c ∈ z.cps.toList := by
  obtain ⟨j, _, h2, _⟩ := atI_get h
  exact List.mem_of_getElem? h2
theorem join_len : ∀ ys : List Str, (∀ y ∈ ys, y.length = 1) → (Str.join (PySem.Str.ofString "") ys).length = ys.length
  | [], _ => rfl
  | [y], h => by
    show y.length = 1
    exact h y (by simp)
  | y :: z :: r, h => by
    show ((y ++ PySem.Str.ofString "") ++ Str.join (PySem.Str.ofString "") (z :: r)).length = _
    rw [app_len, app_len, join_len (z :: r) (fun x hx => h x (List.mem_cons_of_mem _ hx)), h y (by simp), s0]
    show 1 + 0 + (z :: r).length = (z :: r).length + 1
    omega
theorem sum_ones : ∀ ys : List Str, (∀ y ∈ ys, y.length = 1) → (ys.map (·.length)).sum = ys.length
  | [], _ => rfl
  | y :: r, h => by
    rw [List.map_cons, List.sum_cons, sum_ones r (fun x hx => h x (List.mem_cons_of_mem _ hx)), h y (by simp), List.length_cons]
    omega
theorem ok_Lname (T : Top w K mg) : FnOk P w K mg base CX0 2 T.a_Lname T.fd_Lname ["_law_pool_here"] (spText 1 8) := by
  have G_Ltake := ok_Ltake (P := P) (w := w) (base := base) T
  refine T.F_Lname.ok sc_Lname (fun vs H Q E h => ?_) (fun cdv A outer s H vs Q E hr h => ?_)
  · obtain ⟨p, rfl, _⟩ := h
    rfl
  · obtain ⟨p, rfl, hp, q⟩ := h
    refine ⟨_, (pss_cons (ps_set (i := 1) sc_Lname.nd rfl (.inr rfl) pe_str)
      (pss_one (ps_ret (pe_bm PySem.F.plainAttrs_str PySem.F.slot_str_join PySem.F.type_str_join mt_join pe_str (pa_cons (pe_lc (own := [("_law_k", 2)]) (g := gName 2) (by rfl) sc_Lname.nd (pi_range1 (by rfl) T.m_range (pa_cons (pe_op op_add pe_int (pe_call G_Ltake hr (by rfl) T.g_Ltake T.F_Ltake.kp T.b_Ltake .nil pass0 (pa_cons (pv 0) (pa_cons pe_int pa_nil)))) pa_nil)) (blkOk_by (own := [("_law_k", 2)]) (N := ["_law_pool_here", "_law_letters", "_law_k"]) (sc := defScope s_Lname) (by decide +kernel)) (fun _ _ _ _ _ => (pg_name (i := 2) sc_Lname.nd rfl (Or.inl rfl))) (fun _ _ _ _ _ => pts_nil) (fun _ _ _ _ _ => (pe_ix ix_str (pv 1) (pe_call G_Ltake hr (by rfl) T.g_Ltake T.F_Ltake.kp T.b_Ltake .nil pass0 (pa_cons (pv 0) (pa_cons pe_int pa_nil))) (fun _ _ => rfl)))) pa_nil))))), ?_⟩
    refine ⟨rfl, .ref p, rfl, p, 8, rfl, by decide, by decide, hp, fun H1 r b1 hp1 r0 r1 => ?_⟩
    have l26 : SMALLs.length = 26 := by decide +kernel
    refine ⟨_, _, rfl, rfl, 1 + r, rfl, by omega, by omega, fun D hD => lc_range (lo := 0) (n := (1 + r).toNat) (fun i H' => Pool H' p ∧ But p H H' ∧ ∃ ys : List Str, ys.length = i ∧ (∀ y ∈ ys, y.length = 1) ∧ (∀ y ∈ ys, ∀ c ∈ y.cps.toList, c ∈ SMALLs.cps.toList) ∧ H' D = some (.lst (ys.map V.str))) ⟨hp1.upd (hp1.ne_new hD), b1.mut (b1.free (hp1.ne_new hD) hD), [], rfl, (fun _ h => nomatch h), (fun _ h => nomatch h), upd_same⟩ ?_ ?_⟩
    · rintro i H2 hi ⟨hp2, b2, ys, hl, h1, hm, eD⟩
      have nD : D ≠ p := hp1.ne_new hD
      refine ⟨rfl, ?_⟩
      refine ⟨_, rfl, .ref p, rfl, p, 26, rfl, by decide, by decide, hp2, fun H3 k b3 hp3 k0 k1 => ?_⟩
      obtain ⟨c, hc⟩ := str_at (z := SMALLs) k0 (by rw [l26]; omega)
      refine ⟨_, k, c, rfl, rfl, by decide +kernel, hc, _, b3 _ _ nD eD, ?_, hp3.upd nD, (b2.trans b3).mut (b1.free nD hD), ys ++ [⟨#[c]⟩], ?_, ?_, ?_, ?_⟩
      · rw [List.length_map]
        exact small1000 (by omega)
      · rw [List.length_append, hl]
        rfl
      · intro y hy
        rcases List.mem_append.mp hy with h | h
        · exact h1 y h
        · rw [List.mem_singleton.mp h]
          rfl
      · intro y hy c2 hc2
        rcases List.mem_append.mp hy with h | h
        · exact hm y h c2 hc2
        · rw [List.mem_singleton.mp h] at hc2
          have h3 : c2 ∈ [c] := hc2
          rw [List.mem_singleton.mp h3]
          exact at_mem hc
      · rw [upd_same, List.map_append]
        rfl
    · rintro H2 ⟨hp2, b2, ys, hl, h1, hm, eD⟩
      have e := join_len ys h1
      refine ⟨_, D, ys, rfl, rfl, .inl (.inl (.inl eD)), ?_, ?_⟩
      · rw [sum_ones ys h1, s0]
        show ys.length + ys.length * 0 ≤ 16777216
        omega
      · rw [TL.join_eq]
        exact q H2 _ b2 hp2 (by omega) (by omega) (join_mem ys hm)
theorem up_gr : ∀ c ∈ SMALLs.cps.toList, (Txt.upper ⟨#[c]⟩).cps.toList = [c - 32] ∧ grC (c - 32) = true ∧ c - 32 < 0x110000 := by decide +kernel
theorem all_sm {cs : List Nat} (h : ∀ c ∈ cs, c ∈ SMALLs.cps.toList) : cs.all smC = true := List.all_eq_true.mpr fun c hc => decide_eq_true (h c hc)
theorem nm_of {z : Str} (h1 : 1 ≤ z.length) (h8 : z.length ≤ 8) (hm : ∀ c ∈ z.cps.toList, c ∈ SMALLs.cps.toList) : nmL z.cps.toList = true := by
  unfold nmL shL
  rw [all_sm hm, len_toList, decide_eq_true (show (1 : Int) ≤ (z.length : Int) by omega), decide_eq_true (show (z.length : Int) ≤ 8 by omega)]
  rfl
theorem cut1_tl (z : Str) (h : 1 ≤ z.length) : (cutS z (some 1) none).cps.toList = z.cps.toList.drop 1 := by
  show (z.cps.toList.drop (HT.sIx z.length 0 (some 1))).take (HT.sIx z.length z.length none - HT.sIx z.length 0 (some 1)) = _
  have e1 : HT.sIx z.length 0 (some 1) = 1 := by
    unfold HT.sIx
    simp
    omega
  have e2 : HT.sIx z.length z.length none = z.length := rfl
  rw [e1, e2]
  exact List.take_of_length_le (by rw [List.length_drop, len_toList]; exact Nat.le_refl _)
theorem lo_of {z : Str} {c : Nat} (h1 : 1 ≤ z.length) (h8 : z.length ≤ 8) (hm : ∀ c ∈ z.cps.toList, c ∈ SMALLs.cps.toList) (hc : c ∈ SMALLs.cps.toList) : (Txt.upper ⟨#[c]⟩ ++ cutS z (some 1) none).cps.toList = (c - 32) :: z.cps.toList.drop 1 ∧ loL ((c - 32) :: z.cps.toList.drop 1) = true := by
  obtain ⟨u1, u2, _⟩ := up_gr c hc
  refine ⟨?_, ?_⟩
  · show ((Txt.upper ⟨#[c]⟩).cps ++ (cutS z (some 1) none).cps).toList = _
    rw [Array.toList_append, u1, cut1_tl z h1]
    rfl
  · show (shL ((c - 32) :: z.cps.toList.drop 1) && (grC (c - 32) && (z.cps.toList.drop 1).all smC)) = true
    have l : ((c - 32) :: z.cps.toList.drop 1).length = z.length := by
      rw [List.length_cons, List.length_drop, len_toList]
      omega
    unfold shL
    rw [u2, all_sm (fun d hd => hm d (List.mem_of_mem_drop hd)), l, decide_eq_true (show (1 : Int) ≤ (z.length : Int) by omega), decide_eq_true (show (z.length : Int) ≤ 8 by omega)]
    rfl
/-- a sign that is drawn: lone, or as a name -/
def spSign : Sp := fun vs H Q _ => ∃ (p : Addr) (b : Bool), vs = [.ref p, .bl b] ∧ Pool H p ∧ ∀ H' (z : Str), But p H H' → Pool H' p → z.length ≤ 12 → (PyData.strOk z = true ∧ Ent.sgS z = true) → Q (.str z) H'
theorem ok_Lsign (T : Top w K mg) : FnOk P w K mg base CX0 3 T.a_Lsign T.fd_Lsign ["_law_pool_here", "_law_lone"] spSign := by
  have G_Lname := ok_Lname (P := P) (w := w) (base := base) T
  refine T.F_Lsign.ok sc_Lsign (fun vs H Q E h => ?_) (fun cdv A outer s H vs Q E hr h => ?_)
  · obtain ⟨p, b, rfl, _⟩ := h
    rfl
  · obtain ⟨p, b, rfl, hp, q⟩ := h
    refine ⟨_, (pss_cons (ps_set (i := 2) sc_Lsign.nd rfl (.inl rfl) (pe_call G_Lname hr (by rfl) T.g_Lname T.F_Lname.kp T.b_Lname .nil pass0 (pa_cons (pv 0) pa_nil)))
      (pss_cons (ps_if (pt_val (pv 1)) (pss_one (ps_ret (pe_op op_add_str (pe_bm0 PySem.F.plainAttrs_str PySem.F.slot_str_upper PySem.F.type_str_upper mt_upper (pe_ix ix_str (pv 2) pe_int (fun _ _ => rfl))) (pe_slice sl_str (pv 2) (po_some pe_int) po_none)))) pss_nil)
      (pss_one (ps_ret (pv 2))))), ?_⟩
    refine ⟨.ref p, rfl, p, rfl, hp, fun H1 z b1 hp1 z0 z1 zm => ?_⟩
    refine ⟨.bl b, rfl, b, rfl, ite2 (fun e => ?_) (fun e => ?_)⟩
    · obtain ⟨c, hc⟩ := str_at (z := z) (i := 0) (by decide) (by omega)
      have hu1 : (⟨#[c]⟩ : Str).length = 1 := rfl
      have hcut := cut_len z (some 1) none
      have cm := zm c (at_mem hc)
      obtain ⟨el, lo⟩ := lo_of (c := c) z0 z1 zm cm
      have hl : (Txt.upper ⟨#[c]⟩ ++ cutS z (some 1) none).length ≤ 12 := by
        rw [← len_toList, el, List.length_cons, List.length_drop, len_toList]
        omega
      refine ⟨.str z, rfl, z, 0, c, rfl, rfl, thou (by omega), hc, rfl, _, rfl, rfl, (by rw [hu1]; decide), .str z, rfl, 1, rfl, z, rfl, thou (by omega), _, _, rfl, rfl, ?_, ?_⟩
      · have h3 := app_len (Txt.upper ⟨#[c]⟩) (cutS z (some 1) none)
        exact thou (by omega)
      exact q H1 _ b1 hp1 hl ⟨ok_of_mem fun c2 h2 => by
        rw [el] at h2
        rcases List.mem_cons.mp h2 with h3 | h3
        · rw [h3]
          exact (up_gr c cm).2.2
        · exact small_ok c2 (zm c2 (List.mem_of_mem_drop h3)), by unfold Ent.sgS; rw [el, lo, Bool.or_true]⟩
    · exact ⟨.str z, rfl, q H1 z b1 hp1 (by omega) ⟨ok_of_mem fun c2 h2 => small_ok c2 (zm c2 h2), by unfold Ent.sgS; rw [nm_of z0 z1 zm]; rfl⟩⟩
/-! ### names, logs and boxes drawn -/
theorem pigeon {α : Type} [DecidableEq α] : ∀ (l found : List α), l.Nodup → (∀ x ∈ l, x ∈ found) → l.length ≤ found.length
  | [], _, _, _ => Nat.zero_le _
  | x :: r, found, nd, h => by
    have nd2 := List.nodup_cons.mp nd
    have hx := h x List.mem_cons_self
    have := pigeon r (found.erase x) nd2.2 (fun y hy => (List.mem_erase_of_ne (fun e => nd2.1 (by rw [← e]; exact hy))).mpr (h y (List.mem_cons_of_mem _ hy)))
    rw [List.length_erase_of_mem hx] at this
    have hp : 0 < found.length := List.length_pos_of_mem hx
    rw [List.length_cons]
    omega
def twelve : List Str := (PySem.Str.ofString "abcdefghijkl").cps.toList.map fun c => ⟨#[c]⟩
theorem twelve_nd : twelve.Nodup := by decide +kernel
theorem twelve_nm : ∀ z ∈ twelve, nmL z.cps.toList = true := by decide +kernel
theorem inV_str (z : Str) (zs : List Str) : inV (.str z) (zs.map V.str) = zs.any (fun y => y == z) := by
  unfold inV
  rw [List.any_map]
  rfl
theorem inV_mem {z : Str} {zs : List Str} : inV (.str z) (zs.map V.str) = true ↔ z ∈ zs := by
  rw [inV_str, List.any_eq_true]
  constructor
  · rintro ⟨y, hy, e⟩
    rw [← eq_of_beq e]
    exact hy
  · exact fun h => ⟨z, h, beq_self_eq_true z⟩
theorem flat_strsM (zs : List Str) : (zs.map V.str).all flatV = true := List.all_eq_true.mpr fun v hv => by
  obtain ⟨z, _, rfl⟩ := List.mem_map.mp hv
  rfl
theorem cut0_tl (z : Str) : (cutS z none (some 1)).cps.toList = z.cps.toList.take 1 := by
  show (z.cps.toList.drop (HT.sIx z.length 0 none)).take (HT.sIx z.length z.length (some 1) - HT.sIx z.length 0 none) = _
  have e1 : HT.sIx z.length 0 none = 0 := rfl
  rw [e1, List.drop_zero, Nat.sub_zero]
  have e2 : HT.sIx z.length z.length (some 1) = min 1 z.length := by
    unfold HT.sIx
    simp
  rw [e2]
  by_cases h : z.length = 0
  · have : z.cps.toList = [] := List.eq_nil_of_length_eq_zero (by rw [len_toList]; exact h)
    rw [this]
    simp
  · rw [show min 1 z.length = 1 by omega]
def spNames : Sp := fun vs H Q _ => ∃ (p : Addr) (m : Nat), vs = [.ref p, .int (m : Nat)] ∧ m ≤ 11 ∧ Pool H p ∧ ∀ H' L (zs : List Str), But p H H' → Pool H' p → H L = none → H' L = some (.lst (zs.map V.str)) → zs.length = m → zs.Nodup → (∀ z ∈ zs, nmL z.cps.toList = true) → Q (.ref L) H'
theorem ok_Lnames (T : Top w K mg) : FnOk P w K mg base CX0 3 T.a_Lnames T.fd_Lnames ["_law_pool_here", "_law_many"] spNames := by
  have G_Ltake := ok_Ltake (P := P) (w := w) (base := base) T
  have G_Lname := ok_Lname (P := P) (w := w) (base := base) T
  refine T.F_Lnames.ok sc_Lnames (fun vs H Q E h => ?_) (fun cdv A outer s H vs Q E hr h => ?_)
  · obtain ⟨p, m, rfl, _⟩ := h
    rfl
  · obtain ⟨p, m, rfl, hm, hp, q⟩ := h
    refine ⟨_, (pss_cons (ps_set (i := 2) sc_Lnames.nd rfl (.inr rfl) (pe_lst pa_nil))
      (pss_cons (ps_for PassesOwn.never rfl (pi_range1 (by rfl) T.m_range (pa_cons (pv 1) pa_nil)) (pg_name (i := 3) sc_Lnames.nd rfl (.inl rfl)) (pss_cons (ps_set (i := 4) sc_Lnames.nd rfl (.inl rfl) (pe_call G_Lname hr (by rfl) T.g_Lname T.F_Lname.kp T.b_Lname .nil pass0 (pa_cons (pv 0) pa_nil)))
      (Evl.pss_cut (ps_if (pt_cmpR op_eq (pe_call G_Ltake (hr.mono (by decide)) (by rfl) T.g_Ltake T.F_Ltake.kp T.b_Ltake .nil pass0 (pa_cons (pv 0) (pa_cons pe_int pa_nil))) pe_int (nomark _)) (pss_one (ps_set (i := 4) sc_Lnames.nd rfl (.inl rfl) (pe_slice sl_str (pv 4) po_none (po_some pe_int)))) pss_nil)
      (Evl.pss_cut (ps_if (pt_cmpR op_in_seq (pv 4) (pv 2) (by rfl)) (pss_one (ps_set (i := 4) sc_Lnames.nd rfl (.inl rfl) (pe_ix ix_list (pe_lc (own := [("_law_letter", 5)]) (g := gName 5) (by rfl) sc_Lnames.nd (pi_str pe_str) (blkOk_by (own := [("_law_letter", 5)]) (N := ["_law_pool_here", "_law_many", "_law_found", "_law_k", "_law_name_here", "_law_letter"]) (sc := defScope s_Lnames) (by decide +kernel)) (fun _ _ _ _ _ => (pg_name (i := 5) sc_Lnames.nd rfl (Or.inl rfl))) (fun _ _ _ _ _ => (pts_one (pt_cmpR (r := rIn K true) (SeqW.notIn_K rfl) (pv 5) (pv 2) (by rfl)))) (fun _ _ _ _ _ => (pv 5))) pe_int (fun _ _ => rfl)))) pss_nil)
      (pss_one (ps_expr (pe_bm PySem.F.plainAttrs_list PySem.F.slot_list_append PySem.F.type_list_append mt_append (pv 2) (pa_cons (pv 4) pa_nil))))))))
      (pss_one (ps_ret (pv 2))))), ?_⟩
    refine ⟨Nat.zero_le _, fun L nL => ?_⟩
    have nLp : L ≠ p := hp.ne_new nL
    have s0 := same_upd (o := .lst []) nL
    refine ⟨.int m, rfl, m, rfl, by omega, by omega, for_range (n := m) (fun i σ H' => But p H H' ∧ Pool H' p ∧ ∃ y3 y4 y5 zs, σ = [some (.ref p), some (.int (m : Nat)), some (.ref L), y3, y4, y5] ∧ H' L = some (.lst (zs.map V.str)) ∧ zs.length = i ∧ zs.Nodup ∧ (∀ z ∈ zs, nmL z.cps.toList = true)) ⟨But.of s0, hp.same s0, none, none, none, [], rfl, upd_same, rfl, .nil, (fun _ h => nomatch h)⟩ ?_ ?_⟩
    · rintro i σ H1 hi ⟨b1, hp1, y3, y4, y5, zs, rfl, eL, lz, nd, hz⟩
      refine ⟨.ref p, rfl, p, rfl, hp1, fun H2 z b2 hp2 z0 z1 zm => ?_⟩
      have eL2 := b2 _ _ nLp eL
      refine ⟨fun σ H' => But p H H' ∧ Pool H' p ∧ H' L = some (.lst (zs.map V.str)) ∧ ∃ y3 y5 z, σ = [some (.ref p), some (.int (m : Nat)), some (.ref L), y3, some (.str z), y5] ∧ nmL z.cps.toList = true, ?_, ?_⟩
      · refine ⟨.ref p, rfl, p, 3, rfl, by decide, by decide, hp2, fun H3 r b3 hp3 _ _ => ⟨rfl, _, rfl, ite2 (fun e => ?_) (fun e => ?_)⟩⟩
        · refine ⟨.str z, rfl, 1, rfl, z, rfl, thou (by omega), (b1.trans b2).trans b3, hp3, b3 _ _ nLp eL2, _, _, _, rfl, ?_⟩
          have l1 : (cutS z none (some 1)).cps.toList.length = 1 := by
            rw [cut0_tl, List.length_take, len_toList]
            omega
          rw [len_toList] at l1
          exact nm_of (by omega) (by omega) (fun c hc => zm c (by rw [cut0_tl] at hc; exact List.mem_of_mem_take hc))
        · exact ⟨(b1.trans b2).trans b3, hp3, b3 _ _ nLp eL2, _, _, z, rfl, nm_of z0 z1 zm⟩
      rintro σ H3 ⟨b3, hp3, eL3, y3, y5, z, rfl, hn⟩
      refine ⟨fun σ H' => But p H H' ∧ Pool H' p ∧ H' L = some (.lst (zs.map V.str)) ∧ ∃ y3 y5 z, σ = [some (.ref p), some (.int (m : Nat)), some (.ref L), y3, some (.str z), y5] ∧ nmL z.cps.toList = true ∧ z ∉ zs, ?_, ?_⟩
      · refine ⟨.str z, rfl, .ref L, rfl, L, _, rfl, .inl (.inl (.inl eL3)), rfl, flat_strsM zs, _, rfl, ite2 (fun e => ?_) (fun e => ?_)⟩
        · refine ⟨_, rfl, fun D hD => lc_it walk_str (fun i H' => Same H3 H' ∧ H' D = some (.lst (((twelve.take i).filter fun y => !(inV (.str y) (zs.map V.str))).map V.str))) ⟨same_upd hD, upd_same⟩ (fun _ _ _ _ => trivial) ?_ ?_⟩
          · rintro j v H4 H5 hj ⟨sm, eD⟩ ⟨rfl, c, hc, rfl⟩
            have ht : twelve[j]? = some ⟨#[c]⟩ := by
              unfold twelve
              rw [List.getElem?_map, Array.getElem?_toList, hc]
              rfl
            have tk : twelve.take (j + 1) = twelve.take j ++ [⟨#[c]⟩] := by rw [List.take_add_one, ht]; rfl
            refine ⟨rfl, _, rfl, .ref L, rfl, L, _, rfl, .inl (.inl (.inl (sm _ _ eL3))), rfl, flat_strsM zs, _, rfl, ite2 (fun e2 => ?_) (fun e2 => ?_)⟩
            · have e2 : (!(inV (.str ⟨#[c]⟩) (zs.map V.str))) = true := e2
              refine ⟨_, rfl, _, eD, ?_, ?_, ?_⟩
              · rw [List.length_map]
                have h1 := List.length_filter_le (fun y => !(inV (.str y) (zs.map V.str))) (twelve.take j)
                have h2 : (twelve.take j).length ≤ 12 := by
                  rw [List.length_take]
                  have : twelve.length = 12 := by decide +kernel
                  omega
                exact small1000 (by omega)
              · exact fun b' o e => by
                  rw [upd_ne (ne_of_none e hD)]
                  exact sm _ _ e
              · rw [upd_same, tk, List.filter_append, List.map_append, List.filter_cons, if_pos e2]
                rfl
            · have e2 : ¬ (!(inV (.str ⟨#[c]⟩) (zs.map V.str))) = true := e2
              refine ⟨sm, ?_⟩
              rw [tk, List.filter_append, List.filter_cons, if_neg e2, List.filter_nil, List.append_nil]
              exact eD
          · rintro H4 ⟨sm, eD⟩
            have l12 : (PySem.Str.ofString "abcdefghijkl").cps.size = 12 := by decide +kernel
            rw [l12, show twelve.take 12 = twelve from List.take_of_length_le (by decide +kernel)] at eD
            obtain ⟨x, xs, ex⟩ : ∃ x xs, (twelve.filter fun y => !(inV (.str y) (zs.map V.str))) = x :: xs := by
              cases ef : twelve.filter fun y => !(inV (.str y) (zs.map V.str)) with
              | cons x xs => exact ⟨x, xs, rfl⟩
              | nil =>
                have hall : ∀ y ∈ twelve, y ∈ zs := fun y hy => by
                  have := List.filter_eq_nil_iff.mp ef y hy
                  refine inV_mem.mp ?_
                  cases h : inV (.str y) (zs.map V.str) with
                  | true => rfl
                  | false => rw [h] at this; exact absurd rfl this
                have := pigeon twelve zs twelve_nd hall
                have t12 : twelve.length = 12 := by decide +kernel
                omega
            rw [ex] at eD
            have hxm : x ∈ twelve.filter fun y => !(inV (.str y) (zs.map V.str)) := by rw [ex]; exact List.mem_cons_self
            obtain ⟨hx1, hx2⟩ := List.mem_filter.mp hxm
            refine ⟨D, _, 0, _, rfl, rfl, .inl (.inl eD), atI_nat (j := 0) rfl, b3.trans (But.of sm), hp3.same sm, sm _ _ eL3, _, _, x, rfl, twelve_nm x hx1, fun hm => ?_⟩
            rw [inV_mem.mpr hm] at hx2
            cases hx2
        · exact ⟨b3, hp3, eL3, _, _, z, rfl, hn, fun hm => e (inV_mem.mpr hm)⟩
      rintro σ H4 ⟨b4, hp4, eL4, y3, y5, z, rfl, hn, hnew⟩
      refine ⟨.ref L, rfl, .inl ⟨rfl, _, .inl (.inl eL4)⟩, .str z, rfl, L, _, _, rfl, rfl, eL4, small1000 (by rw [List.length_map]; omega), b4.mut nL, hp4.upd nLp, _, _, _, zs ++ [z], rfl, ?_, ?_, ?_, ?_⟩
      · rw [upd_same, List.map_append]
        rfl
      · rw [List.length_append, lz]
        rfl
      · exact List.nodup_append.mpr ⟨nd, List.nodup_cons.mpr ⟨List.not_mem_nil, .nil⟩, fun a ha b hb e => hnew (by rw [← List.mem_singleton.mp hb, ← e]; exact ha)⟩
      · intro y hy
        rcases List.mem_append.mp hy with h | h
        · exact hz y h
        · rw [List.mem_singleton.mp h]
          exact hn
    · rintro σ H1 ⟨b1, hp1, y3, y4, y5, zs, rfl, eL, lz, nd, hz⟩
      exact ⟨.ref L, rfl, q H1 L zs b1 hp1 nL eL lz nd hz⟩
--@@SPLIT
/-! ### an entry drawn -/
/-- places that are left out of sight: the spring is one, all of them are known -/
def HX (p : Addr) (X : Addr → Prop) (H : Hp) : Prop := X p ∧ ∀ b, X b → H b ≠ none
theorem HX.same {p : Addr} {X : Addr → Prop} {H H' : Hp} (x : HX p X H) (e : Same H H') : HX p X H' := ⟨x.1, fun b h => by
  cases o : H b with
  | none => exact absurd o (x.2 b h)
  | some o' => rw [e b o' o]; exact fun z => nomatch z⟩
theorem Pool.known {H : Hp} {p : Addr} (h : Pool H p) : H p ≠ none := by
  obtain ⟨l, c, k, n, h0, h1⟩ := h
  rw [h1]
  exact fun z => nomatch z
theorem HX.but {p : Addr} {X : Addr → Prop} {H H' : Hp} (x : HX p X H) (e : But p H H') (hp : Pool H' p) : HX p X H' := ⟨x.1, fun b h => by
  by_cases eb : b = p
  · rw [eb]
    exact hp.known
  · cases o : H b with
    | none => exact absurd o (x.2 b h)
    | some o' => rw [e b o' eb o]; exact fun z => nomatch z⟩
theorem HX.fresh {p t : Addr} {X : Addr → Prop} {H : Hp} (x : HX p X H) (n : H t = none) : ¬ X t := fun z => x.2 t z n
theorem But.wo {p : Addr} {X : Addr → Prop} {H H' : Hp} (xp : X p) (e : But p H H') : Same (M.wo H X) (M.wo H' X) := fun b o h => by
  have h2 := wo_some h
  rw [wo_in (X := X) h2.1]
  exact e _ _ (fun z => h2.1 (z ▸ xp)) h2.2
theorem tupW {K : PySem.W.Frag} {H : Hp} {p t : Addr} {X : Addr → Prop} {vs : List V} {ds : List PyData} (x : HX p X H) (nt : H t = none) (h : DpAll K (wo H X) vs ds) : Dp K (wo (upd H t (.tup vs)) X) (.ref t) (.tuple ds) :=
  .tup (.inl (.inl ((wo_in (X := X) (x.fresh nt)).trans upd_same))) (dpa_same ((But.of (same_upd nt)).wo x.1) ds vs h)
theorem lstW {K : PySem.W.Frag} {H : Hp} {p t : Addr} {X : Addr → Prop} {vs : List V} {ds : List PyData} (x : HX p X H) (nt : H t = none) (h : DpAll K (wo H X) vs ds) : Dp K (wo (upd H t (.lst vs)) X) (.ref t) (.list ds) :=
  .lst (.inl (.inl ((wo_in (X := X) (x.fresh nt)).trans upd_same))) (dpa_same ((But.of (same_upd nt)).wo x.1) ds vs h)
theorem nesw_lt {r : Int} (h0 : 0 ≤ r) (h1 : r < 4) : ∃ l : Fin 4, atI (PySem.Str.ofString "nesw").cps.toList r = some (cd l) := by
  obtain rfl | rfl | rfl | rfl : r = 0 ∨ r = 1 ∨ r = 2 ∨ r = 3 := by omega
  · exact ⟨0, by decide +kernel⟩
  · exact ⟨1, by decide +kernel⟩
  · exact ⟨2, by decide +kernel⟩
  · exact ⟨3, by decide +kernel⟩
theorem nine {r : Int} (h0 : 0 ≤ r) (h1 : r < 9) : ∃ n : Fin 9, 1 + r = ((n.val : Nat) : Int) + 1 := ⟨⟨r.toNat, by omega⟩, by show 1 + r = ((r.toNat : Nat) : Int) + 1; omega⟩
def spAnyEntry (K : PySem.W.Frag) : Sp := fun vs H Q _ => ∃ (p : Addr) (b : Bool) (X : Addr → Prop), vs = [.ref p, .bl b] ∧ Pool H p ∧ HX p X H ∧ ∀ H' t e, But p H H' → Pool H' p → Dp K (wo H' X) (.ref t) (Ent.tup e) → e.ok → (e.need = true → b = true) → Q (.ref t) H'
theorem ok_Lany_entry (T : Top w K mg) : FnOk P w K mg base CX0 4 T.a_Lany_entry T.fd_Lany_entry ["_law_pool_here", "_law_looks"] (spAnyEntry K) := by
  have G_Ltake := ok_Ltake (P := P) (w := w) (base := base) T
  have G_Lsign := ok_Lsign (P := P) (w := w) (base := base) T
  refine T.F_Lany_entry.ok sc_Lany_entry (fun vs H Q E h => ?_) (fun cdv A outer s H vs Q E hr h => ?_)
  · obtain ⟨p, b, X, rfl, _⟩ := h
    rfl
  · obtain ⟨p, b, X, rfl, hp, x, q⟩ := h
    refine ⟨_, (pss_cons (ps_set (i := 2) sc_Lany_entry.nd rfl (.inl rfl) (pe_call G_Ltake (hr.mono (by decide)) (by rfl) T.g_Ltake T.F_Ltake.kp T.b_Ltake .nil pass0 (pa_cons (pv 0) (pa_cons pe_int pa_nil))))
      (pss_cons (ps_set (i := 3) sc_Lany_entry.nd rfl (.inl rfl) (pe_call G_Lsign hr (by rfl) T.g_Lsign T.F_Lsign.kp T.b_Lsign .nil pass0 (pa_cons (pv 0) (pa_cons (pe_cmpR op_eq (pe_call G_Ltake (hr.mono (by decide)) (by rfl) T.g_Ltake T.F_Ltake.kp T.b_Ltake .nil pass0 (pa_cons (pv 0) (pa_cons pe_int pa_nil))) pe_int (nomark _)) pa_nil))))
      (Evl.pss_cut (ps_if (PW.pt (pw_and (pt_not (pt_val (pv 1))) (pw_and1 (pt_cmpR op_gt (pv 2) pe_int (nomark _))))) (pss_one (ps_set (i := 2) sc_Lany_entry.nd rfl (.inl rfl) (pe_op op_mod (pv 2) pe_int))) pss_nil)
      (pss_cons (ps_if (PW.pt (pw_or (pt_cmpR op_eq (pv 2) pe_int (nomark _)) (pw_or1 (pt_cmpR op_gt (pv 2) pe_int (nomark _))))) (pss_one (ps_ret (pe_tup (pa_cons pe_str (pa_cons (pe_ix ix_str pe_str (pe_call G_Ltake (hr.mono (by decide)) (by rfl) T.g_Ltake T.F_Ltake.kp T.b_Ltake .nil pass0 (pa_cons (pv 0) (pa_cons pe_int pa_nil))) (fun _ _ => rfl)) pa_nil))))) pss_nil)
      (pss_cons (ps_if (pt_cmpR op_lt (pv 2) pe_int (nomark _)) (pss_one (ps_ret (pe_ix ix_tup (pe_tup (pa_cons (pe_tup (pa_cons pe_str (pa_cons (pv 3) pa_nil))) (pa_cons (pe_tup (pa_cons pe_str pa_nil)) (pa_cons (pe_tup (pa_cons pe_str pa_nil)) pa_nil)))) (pe_op op_sub (pv 2) pe_int) (fun _ _ => rfl)))) pss_nil)
      (pss_cons (ps_if (pt_cmpR op_eq (pv 2) pe_int (nomark _)) (pss_one (ps_ret (pe_ix ix_tup (pe_tup (pa_cons (pe_tup (pa_cons pe_str pa_nil)) (pa_cons (pe_tup (pa_cons pe_str pa_nil)) (pa_cons (pe_tup (pa_cons pe_str pa_nil)) pa_nil)))) (pe_call G_Ltake (hr.mono (by decide)) (by rfl) T.g_Ltake T.F_Ltake.kp T.b_Ltake .nil pass0 (pa_cons (pv 0) (pa_cons pe_int pa_nil))) (fun _ _ => rfl)))) pss_nil)
      (pss_cons (ps_if (pt_cmpR op_eq (pv 2) pe_int (nomark _)) (pss_one (ps_ret (pe_tup (pa_cons pe_str pa_nil)))) pss_nil)
      (pss_cons (ps_if (pt_cmpR op_eq (pv 2) pe_int (nomark _)) (pss_one (ps_ret (pe_tup (pa_cons pe_str (pa_cons (pe_op op_add pe_int (pe_call G_Ltake (hr.mono (by decide)) (by rfl) T.g_Ltake T.F_Ltake.kp T.b_Ltake .nil pass0 (pa_cons (pv 0) (pa_cons pe_int pa_nil)))) (pa_cons (pv 3) pa_nil)))))) pss_nil)
      (pss_one (ps_ret (pe_tup (pa_cons pe_str (pa_cons (pe_op op_add pe_int (pe_call G_Ltake (hr.mono (by decide)) (by rfl) T.g_Ltake T.F_Ltake.kp T.b_Ltake .nil pass0 (pa_cons (pv 0) (pa_cons pe_int pa_nil)))) pa_nil))))))))))))), ?_⟩
    refine ⟨.ref p, rfl, p, 12, rfl, by decide, by decide, hp, fun H1 k b1 hp1 k0 k1 => ?_⟩
    refine ⟨.ref p, rfl, .ref p, rfl, p, 2, rfl, by decide, by decide, hp1, fun H2 j b2 hp2 _ _ => ?_⟩
    refine ⟨rfl, p, _, rfl, hp2, fun H3 z b3 hp3 hz hk => ?_⟩
    have bt := (b1.trans b2).trans b3
    have x3 := x.but bt hp3
    refine ⟨fun σ H' => H3 = H' ∧ ∃ k : Int, 0 ≤ k ∧ k ≤ 11 ∧ (3 < k → b = true) ∧ σ = [some (.ref p), some (.bl b), some (.int k), some (.str z)], ?_, ?_⟩
    · refine ⟨.bl b, rfl, b, rfl, ?_⟩
      cases b with
      | true => exact ite2 (fun z => nomatch z) (fun _ => ⟨rfl, k, k0, by omega, fun _ => rfl, rfl⟩)
      | false =>
        refine iteT ⟨.int k, rfl, _, _, rfl, rfl, _, rfl, ite2 (fun e => ?_) (fun e => ?_)⟩
        · have := Int.emod_lt_of_pos k (show (0 : Int) < 4 by decide)
          exact ⟨.int k, rfl, _, _, rfl, rfl, (by show (0 : Int) < 4; decide), rfl, k % 4, Int.emod_nonneg k (by decide), by omega, fun z => by omega, rfl⟩
        · have : ¬ 3 < k := fun z => e (decide_eq_true z)
          exact ⟨rfl, k, k0, by omega, fun z => absurd z this, rfl⟩
    rintro σ H4 ⟨rfl, k, k0, k1, kb, rfl⟩
    have face : ∀ H5 (r : Int), But p H3 H5 → Pool H5 p → 0 ≤ r → r < 4 → ∃ c, atI (PySem.Str.ofString "nesw").cps.toList r = some c ∧ ∀ t, H5 t = none → Q (.ref t) (upd H5 t (.tup [.str "face", .str ⟨#[c]⟩])) := fun H5 r b5 hp5 r0 r1 => by
      obtain ⟨l, hc⟩ := nesw_lt r0 r1
      exact ⟨cd l, hc, fun t nt => q _ t (.face l) ((bt.trans b5).trans (But.of (same_upd nt))) (hp5.upd (hp5.ne_new nt)) (tupW (x.but (bt.trans b5) hp5) nt (.cons (.str _) (.cons (.str _) .nil))) trivial (fun z => nomatch z)⟩
    refine ⟨.int k, rfl, rfl, _, rfl, ite2 (fun e => ?_) (fun e => ?_)⟩
    · refine iteT ⟨.ref p, rfl, p, 4, rfl, by decide, by decide, hp3, fun H5 r b5 hp5 r0 r1 => ?_⟩
      obtain ⟨c, hc, qq⟩ := face H5 r b5 hp5 r0 r1
      exact ⟨_, r, c, rfl, rfl, by decide +kernel, hc, by show 2 ≤ sizeLine; decide, qq⟩
    refine ⟨.int k, rfl, _, _, rfl, rfl, _, rfl, ite2 (fun e2 => ?_) (fun e2 => ?_)⟩
    · refine ⟨.ref p, rfl, p, 4, rfl, by decide, by decide, hp3, fun H5 r b5 hp5 r0 r1 => ?_⟩
      obtain ⟨c, hc, qq⟩ := face H5 r b5 hp5 r0 r1
      exact ⟨_, r, c, rfl, rfl, by decide +kernel, hc, by show 2 ≤ sizeLine; decide, qq⟩
    have kn : k ≠ 0 := fun z => e (by rw [z]; exact decide_eq_true rfl)
    refine ⟨.int k, rfl, _, _, rfl, rfl, _, rfl, ite2 (fun e3 => ?_) (fun e3 => ?_)⟩
    · have k4 : k < 4 := of_decide_eq_true e3
      refine ⟨.str z, rfl, by show 2 ≤ sizeLine; decide, fun m1 n1 => ⟨by show 1 ≤ sizeLine; decide, fun m2 n2 => ⟨by show 1 ≤ sizeLine; decide, fun m3 n3 => ⟨by show 3 ≤ sizeLine; decide, fun t nt => ?_⟩⟩⟩⟩
      have s1 := same_upd (o := .tup [.str "sign", .str z]) n1
      have s2 := same_upd (o := .tup [.str "bare"]) n2
      have s3 := same_upd (o := .tup [.str "swap"]) n3
      have s4 := same_upd (o := .tup [.ref m1, .ref m2, .ref m3]) nt
      have d1 := tupW (K := K) (vs := [.str "sign", .str z]) (ds := [.str "sign", .str z]) x3 n1 (.cons (.str _) (.cons (.str _) .nil))
      have p1 := hp3.same s1
      have d2 := tupW (K := K) (vs := [.str "bare"]) (ds := [.str "bare"]) (x3.same s1) n2 (.cons (.str _) .nil)
      have p2 := p1.same s2
      have d3 := tupW (K := K) (vs := [.str "swap"]) (ds := [.str "swap"]) ((x3.same s1).same s2) n3 (.cons (.str _) .nil)
      have p3 := p2.same s3
      have p4 := p3.same s4
      have bz := bt.trans (But.of (((s1.trans s2).trans s3).trans s4))
      obtain rfl | rfl | rfl : k = 1 ∨ k = 2 ∨ k = 3 := by omega
      · exact ⟨_, rfl, _, _, rfl, rfl, t, _, 0, _, rfl, rfl, .inl (.inl upd_same), rfl, q _ m1 (.sign z) bz p4 (dp_same ((But.of ((s2.trans s3).trans s4)).wo x.1) _ _ d1) ⟨hz, hk⟩ (fun z => nomatch z)⟩
      · exact ⟨_, rfl, _, _, rfl, rfl, t, _, 1, _, rfl, rfl, .inl (.inl upd_same), rfl, q _ m2 .bare bz p4 (dp_same ((But.of (s3.trans s4)).wo x.1) _ _ d2) trivial (fun z => nomatch z)⟩
      · exact ⟨_, rfl, _, _, rfl, rfl, t, _, 2, _, rfl, rfl, .inl (.inl upd_same), rfl, q _ m3 .swap bz p4 (dp_same ((But.of s4).wo x.1) _ _ d3) trivial (fun z => nomatch z)⟩
    have kb := kb (by have : ¬ k < 4 := fun z => e3 (decide_eq_true z)
                      omega)
    refine ⟨.int k, rfl, rfl, _, rfl, ite2 (fun e4 => ?_) (fun e4 => ?_)⟩
    · refine ⟨by show 1 ≤ sizeLine; decide, fun m1 n1 => ⟨by show 1 ≤ sizeLine; decide, fun m2 n2 => ⟨by show 1 ≤ sizeLine; decide, fun m3 n3 => ⟨by show 3 ≤ sizeLine; decide, fun t nt => ?_⟩⟩⟩⟩
      have s1 := same_upd (o := .tup [.str "left"]) n1
      have s2 := same_upd (o := .tup [.str "right"]) n2
      have s3 := same_upd (o := .tup [.str "back"]) n3
      have s4 := same_upd (o := .tup [.ref m1, .ref m2, .ref m3]) nt
      have d1 := tupW (K := K) (vs := [.str "left"]) (ds := [.str "left"]) x3 n1 (.cons (.str _) .nil)
      have p1 := hp3.same s1
      have d2 := tupW (K := K) (vs := [.str "right"]) (ds := [.str "right"]) (x3.same s1) n2 (.cons (.str _) .nil)
      have p2 := p1.same s2
      have d3 := tupW (K := K) (vs := [.str "back"]) (ds := [.str "back"]) ((x3.same s1).same s2) n3 (.cons (.str _) .nil)
      have p3 := p2.same s3
      have p4 := p3.same s4
      refine ⟨.ref p, rfl, p, 3, rfl, by decide, by decide, p4, fun H5 r b5 hp5 r0 r1 => ?_⟩
      have et := b5 _ _ (p3.ne_new nt) upd_same
      have bz := (bt.trans (But.of (((s1.trans s2).trans s3).trans s4))).trans b5
      obtain rfl | rfl | rfl : r = 0 ∨ r = 1 ∨ r = 2 := by omega
      · exact ⟨t, _, 0, _, rfl, rfl, .inl (.inl et), rfl, q _ m1 (.turn 0) bz hp5 (dp_same (((But.of ((s2.trans s3).trans s4)).trans b5).wo x.1) _ _ d1) trivial (fun _ => kb)⟩
      · exact ⟨t, _, 1, _, rfl, rfl, .inl (.inl et), rfl, q _ m2 (.turn 1) bz hp5 (dp_same (((But.of (s3.trans s4)).trans b5).wo x.1) _ _ d2) trivial (fun _ => kb)⟩
      · exact ⟨t, _, 2, _, rfl, rfl, .inl (.inl et), rfl, q _ m3 (.turn 2) bz hp5 (dp_same (((But.of s4).trans b5).wo x.1) _ _ d3) trivial (fun _ => kb)⟩
    refine ⟨.int k, rfl, rfl, _, rfl, ite2 (fun e5 => ?_) (fun e5 => ?_)⟩
    · exact ⟨by show 1 ≤ sizeLine; decide, fun t nt => q _ t .bump (bt.trans (But.of (same_upd nt))) (hp3.upd (hp3.ne_new nt)) (tupW x3 nt (.cons (.str _) .nil)) trivial (fun _ => kb)⟩
    refine ⟨.int k, rfl, rfl, _, rfl, ite2 (fun e6 => ?_) (fun e6 => ?_)⟩
    · refine ⟨.ref p, rfl, p, 9, rfl, by decide, by decide, hp3, fun H5 r b5 hp5 r0 r1 => ⟨_, _, rfl, rfl, .str z, rfl, by show 3 ≤ sizeLine; decide, fun t nt => ?_⟩⟩
      obtain ⟨n, hn⟩ := nine r0 r1
      have ed : Ent.tup (.spy n z) = .tuple [.str "spy", .int (1 + r), .str z] := by rw [hn]; rfl
      exact q _ t (.spy n z) ((bt.trans b5).trans (But.of (same_upd nt))) (hp5.upd (hp5.ne_new nt)) (by rw [ed]; exact tupW (x.but (bt.trans b5) hp5) nt (.cons (.str _) (.cons (.int _) (.cons (.str _) .nil)))) ⟨hz, hk⟩ (fun _ => kb)
    refine ⟨.ref p, rfl, p, 9, rfl, by decide, by decide, hp3, fun H5 r b5 hp5 r0 r1 => ⟨_, _, rfl, rfl, by show 2 ≤ sizeLine; decide, fun t nt => ?_⟩⟩
    obtain ⟨n, hn⟩ := nine r0 r1
    have ed : Ent.tup (.go n) = .tuple [.str "go", .int (1 + r)] := by rw [hn]; rfl
    exact q _ t (.go n) ((bt.trans b5).trans (But.of (same_upd nt))) (hp5.upd (hp5.ne_new nt)) (by rw [ed]; exact tupW (x.but (bt.trans b5) hp5) nt (.cons (.str _) (.cons (.int _) .nil))) trivial (fun _ => kb)
--@@SPLIT
/-! ### a log drawn -/
theorem dpa_len2 {K : PySem.W.Frag} {H : Hp} {ds : List PyData} {vs : List V} (h : DpAll K H vs ds) : vs.length = ds.length := dpa_len ds vs h
theorem tup_at {K : PySem.W.Frag} {H : Hp} {t : Addr} {e : Ent} (h : Dp K H (.ref t) (Ent.tup e)) : ∃ xs, SqT K H t (.str (ws e.kind) :: xs) ∧ DpAll K H xs e.rest := by
  cases h with
  | @tup _ ys _ hs ha =>
    cases ha with
    | cons h1 h2 =>
      cases h1
      exact ⟨_, hs, h2⟩
theorem HX.or {p D : Addr} {X : Addr → Prop} {H : Hp} (x : HX p X H) (h : H D ≠ none) : HX p (fun b => X b ∨ b = D) H := ⟨.inl x.1, fun c z => z.elim (x.2 c) (fun e => by rw [e]; exact h)⟩
theorem some_ne {H : Hp} {b : Addr} {o : HO} (h : H b = some o) : H b ≠ none := by rw [h]; exact fun z => nomatch z
theorem wo_less {H : Hp} {X Y : Addr → Prop} (h : ∀ b, X b → Y b) : Same (wo H Y) (wo H X) := fun c o z => by
  have h2 := wo_some z
  rw [wo_in (X := X) (fun z => h2.1 (h c z))]
  exact h2.2
theorem wo_mut {H : Hp} {X : Addr → Prop} {D : Addr} {o : HO} (h : X D) : Same (wo H X) (wo (upd H D o) X) := fun c u z => by
  have h2 := wo_some z
  rw [wo_in (X := X) h2.1, upd_ne (fun z : c = D => h2.1 (by rw [z]; exact h))]
  exact h2.2
def spAnyLog (K : PySem.W.Frag) : Sp := fun vs H Q _ => ∃ (p : Addr) (m s : Int) (X : Addr → Prop), vs = [.ref p, .int m, .int s] ∧ 0 ≤ m ∧ m ≤ 100 ∧ Pool H p ∧ HX p X H ∧ ∀ H' t xs es, But p H H' → Pool H' p → H t = none → SqT K (wo H' X) t xs → DpAll K (wo H' X) xs (es.map Ent.tup) → (es.length : Int) = m → (∀ e ∈ es, e.ok) → Right es → ((swaps es : Int) ≤ s ∨ s < 0) → Q (.ref t) H'
theorem ok_Lany_log (T : Top w K mg) : FnOk P w K mg base CX0 5 T.a_Lany_log T.fd_Lany_log ["_law_pool_here", "_law_many", "_law_swaps"] (spAnyLog K) := by
  have G_Lany_entry := ok_Lany_entry (P := P) (w := w) (base := base) T
  refine T.F_Lany_log.ok sc_Lany_log (fun vs H Q E h => ?_) (fun cdv A outer s H vs Q E hr h => ?_)
  · obtain ⟨p, m, s, X, rfl, _⟩ := h
    rfl
  · obtain ⟨p, m, sw, X, rfl, m0, m1, hp, x, q⟩ := h
    refine ⟨_, (pss_cons (ps_set (i := 3) sc_Lany_log.nd rfl (.inl rfl) (pe_lst pa_nil))
      (pss_cons (ps_set (i := 4) sc_Lany_log.nd rfl (.inl rfl) pe_bl)
      (pss_cons (ps_set (i := 5) sc_Lany_log.nd rfl (.inl rfl) (pv 2))
      (pss_cons (ps_for PassesOwn.never rfl (pi_range1 (by rfl) T.m_range (pa_cons (pv 1) pa_nil)) (pg_name (i := 6) sc_Lany_log.nd rfl (.inl rfl)) (pss_cons (ps_set (i := 7) sc_Lany_log.nd rfl (.inl rfl) (pe_call G_Lany_entry hr (by rfl) T.g_Lany_entry T.F_Lany_entry.kp T.b_Lany_entry .nil pass0 (pa_cons (pv 0) (pa_cons (pv 4) pa_nil))))
      (Evl.pss_cut (ps_if (PW.pt (pw_and (pt_cmpR op_eq (pe_ix ix_tup (pv 7) pe_int (fun _ _ => rfl)) pe_str (nomark _)) (pw_and1 (pt_cmpR op_eq (pv 5) pe_int (nomark _))))) (pss_one (ps_set (i := 7) sc_Lany_log.nd rfl (.inl rfl) (pe_tup (pa_cons pe_str pa_nil)))) pss_nil)
      (Evl.pss_cut (ps_set (i := 5) sc_Lany_log.nd rfl (.inl rfl) (pe_op op_sub (pv 5) (pe_callTy call_int1 (by rfl) T.m_int (by decide +kernel) (pa_cons (pe_cmpR op_eq (pe_ix ix_tup (pv 7) pe_int (fun _ _ => rfl)) pe_str (nomark _)) pa_nil))))
      (Evl.pss_cut (ps_set (i := 4) sc_Lany_log.nd rfl (.inl rfl) (pe_or (pv 4) (pe_one (pe_cmpR op_eq (pe_ix ix_tup (pv 7) pe_int (fun _ _ => rfl)) pe_str (nomark _)))))
      (pss_one (ps_expr (pe_bm PySem.F.plainAttrs_list PySem.F.slot_list_append PySem.F.type_list_append mt_append (pv 3) (pa_cons (pv 7) pa_nil)))))))))
      (pss_one (ps_ret (pe_callTy call_tuple_of (by rfl) T.m_tuple (by decide +kernel) (pa_cons (pv 3) pa_nil)))))))), ?_⟩
    refine ⟨Nat.zero_le _, fun L nL => ?_⟩
    have nLp : L ≠ p := hp.ne_new nL
    have s0 := same_upd (o := .lst []) nL
    obtain ⟨n, rfl⟩ : ∃ n : Nat, m = n := ⟨m.toNat, by omega⟩
    refine ⟨_, rfl, .int n, rfl, n, rfl, by omega, by omega, for_range (n := n) (fun i σ H' => But p H H' ∧ Pool H' p ∧ ∃ (l : Int) (y6 y7 : Option V) (ys : List V) (es : List Ent), σ = [some (.ref p), some (.int n), some (.int sw), some (.ref L), some (.bl (es.any Ent.isFace)), some (.int l), y6, y7] ∧ H' L = some (.lst ys) ∧ es.length = i ∧ DpAll K (wo H' (fun b => X b ∨ b = L)) ys (es.map Ent.tup) ∧ (∀ e ∈ es, e.ok) ∧ Right es ∧ l = sw - swaps es ∧ (0 ≤ l ∨ sw < 0))
      ⟨But.of s0, hp.same s0, sw, none, none, [], [], rfl, upd_same, rfl, .nil, (fun d h => nomatch h), Right.nil, by show sw = sw - ((0 : Nat) : Int); omega, by omega⟩ ?_ ?_⟩
    · rintro i σ H1 hi ⟨b1, hp1, l, y6, y7, ys, es, rfl, eL, hl, ha, hg, hR, hl1, hl2⟩
      have x1 : HX p (fun b => X b ∨ b = L) H1 := (x.but b1 hp1).or (some_ne eL)
      refine ⟨.ref p, rfl, .bl _, rfl, p, _, _, rfl, hp1, x1, fun H2 t e b2 hp2 hd gd hn => ?_⟩
      have eL2 := b2 _ _ nLp eL
      have x2 := x1.but b2 hp2
      refine ⟨fun σ H' => Same H2 H' ∧ ∃ (y6 : Option V) (t : Addr) (e : Ent), σ = [some (.ref p), some (.int n), some (.int sw), some (.ref L), some (.bl (es.any Ent.isFace)), some (.int l), y6, some (.ref t)] ∧ Dp K (wo H' (fun b => X b ∨ b = L)) (.ref t) (Ent.tup e) ∧ e.ok ∧ (e.need = true → es.any Ent.isFace = true) ∧ (e.isSwap = true → l ≠ 0), ?_, ?_⟩
      · obtain ⟨us, hs, _⟩ := tup_at hd
        refine ⟨.ref t, rfl, t, _, 0, _, rfl, rfl, sqt_same wo_same hs, atI_nat (j := 0) rfl, rfl, _, rfl, ?_⟩
        have dw : decide (V.str (ws e.kind) = V.str (PySem.Str.ofString "swap")) = e.isSwap := (wsd e.kind 9).trans e.swap_iff.symm
        rw [dw]
        refine ite2 (fun e1 => ?_) (fun e1 => ?_)
        · refine ⟨.int l, rfl, rfl, _, rfl, ite2 (fun e2 => ?_) (fun e2 => ?_)⟩
          · exact ⟨by show 1 ≤ sizeLine; decide, fun t2 n2 => ⟨same_upd n2, _, t2, .bare, rfl, tupW x2 n2 (.cons (.str "bare") .nil), trivial, (fun z => nomatch z), fun z => nomatch z⟩⟩
          · exact ⟨Same.refl _, _, t, e, rfl, hd, gd, hn, fun _ z => e2 (by rw [z]; exact decide_eq_true rfl)⟩
        · exact ite2 (fun z => nomatch z) (fun _ => ⟨Same.refl _, _, t, e, rfl, hd, gd, hn, fun z => absurd z e1⟩)
      rintro σ H3 ⟨s3, y6, t, e, rfl, hd, gd, hn, hsw⟩
      obtain ⟨us, hs, _⟩ := tup_at hd
      have hs3 := sqt_same wo_same hs
      have dw : decide (V.str (ws e.kind) = V.str (PySem.Str.ofString "swap")) = e.isSwap := (wsd e.kind 9).trans e.swap_iff.symm
      have df : decide (V.str (ws e.kind) = V.str (PySem.Str.ofString "face")) = e.isFace := (wsd e.kind 0).trans e.face_iff.symm
      refine ⟨fun σ H' => H3 = H' ∧ σ = [some (.ref p), some (.int n), some (.int sw), some (.ref L), some (.bl (es.any Ent.isFace)), some (.int (l - (if e.isSwap = true then 1 else 0))), y6, some (.ref t)], ?_, ?_⟩
      · refine ⟨.int l, rfl, .ref t, rfl, t, _, 0, _, rfl, rfl, hs3, atI_nat (j := 0) rfl, rfl, .inr ⟨_, rfl, _, _, rfl, rfl, rfl, ?_⟩⟩
        show _ = _
        rw [dw]
        cases e.isSwap <;> rfl
      rintro σ H4 ⟨rfl, rfl⟩
      refine ⟨fun σ H' => H3 = H' ∧ σ = [some (.ref p), some (.int n), some (.int sw), some (.ref L), some (.bl ((es ++ [e]).any Ent.isFace)), some (.int (l - (if e.isSwap = true then 1 else 0))), y6, some (.ref t)], ?_, ?_⟩
      · have ea : (es ++ [e]).any Ent.isFace = (es.any Ent.isFace || e.isFace) := by
          rw [List.any_append]
          show (_ || (e.isFace || false)) = _
          rw [Bool.or_false]
        refine ⟨_, rfl, _, rfl, ?_⟩
        cases eb : es.any Ent.isFace with
        | true =>
          rw [ea, eb]
          exact iteT ⟨rfl, rfl⟩
        | false =>
          rw [ea, eb]
          refine iteF ⟨.ref t, rfl, t, _, 0, _, rfl, rfl, hs3, atI_nat (j := 0) rfl, rfl, rfl, ?_⟩
          show _ = _
          rw [df]
          rfl
      rintro σ H4 ⟨rfl, rfl⟩
      have eL3 := s3 _ _ eL2
      have lx := dpa_len2 ha
      rw [List.length_map] at lx
      refine ⟨.ref L, rfl, .inl ⟨rfl, _, .inl (.inl eL3)⟩, .ref t, rfl, L, ys, _, rfl, rfl, eL3, small1000 (by omega), ?_⟩
      have b3 := b2.trans (But.of s3)
      have m6 : Same (wo H3 (fun b => X b ∨ b = L)) (wo (upd H3 L (.lst (ys ++ [.ref t]))) (fun b => X b ∨ b = L)) := wo_mut (.inr rfl)
      refine ⟨(b1.trans b3).mut nL, (hp2.same s3).upd nLp, _, _, _, ys ++ [.ref t], es ++ [e], rfl, upd_same, ?_, ?_, ?_, hR.snoc hn, ?_, ?_⟩
      · rw [List.length_append, hl]
        rfl
      · rw [List.map_append]
        exact dpa_snoc (dp_same m6 _ _ hd) _ _ (dpa_same ((b3.wo (.inl x.1)).trans m6) _ _ ha)
      · intro d h
        rcases List.mem_append.mp h with h | h
        · exact hg d h
        · rw [List.mem_singleton.mp h]
          exact gd
      · rw [swaps_snoc]
        split <;> omega
      · cases es1 : e.isSwap with
        | false => rw [if_neg Bool.false_ne_true]; omega
        | true =>
          have := hsw es1
          rw [if_pos rfl]
          omega
    · rintro σ H1 ⟨b1, hp1, l, y6, y7, ys, es, rfl, eL, hl, ha, hg, hR, hl1, hl2⟩
      refine ⟨.ref L, rfl, L, ys, rfl, .inl ⟨.inl (.inl eL), fun r nr => ?_⟩⟩
      have x1 := x.but b1 hp1
      have sr := same_upd (o := .tup ys) nr
      have nr0 : H r = none := by
        cases e : H r with
        | none => rfl
        | some o =>
          by_cases z : r = p
          · rw [z] at nr
            exact absurd nr hp1.known
          · rw [b1 r o z e] at nr
            cases nr
      exact q _ r ys es (b1.trans (But.of sr)) (hp1.same sr) nr0 (.inl (.inl ((wo_in (X := X) (x1.fresh nr)).trans upd_same))) (dpa_same ((wo_less (fun b z => .inl z)).trans ((But.of sr).wo x.1)) _ _ ha) (by rw [hl]) hg hR (by omega)
--@@SPLIT
theorem ok_Llegs (T : Top w K mg) : FnOk P w K mg base CX0 1 T.a_Llegs T.fd_Llegs ["_law_log"] (spLegs K) := by
  refine T.F_Llegs.ok sc_Llegs (fun vs H Q E h => ?_) (fun cdv A outer s H vs Q E hr h => ?_)
  · obtain ⟨e, xs, es, rfl, _⟩ := h
    rfl
  · obtain ⟨e, xs, es, rfl, hs, ha, hlen, q⟩ := h
    have lx := ha.len
    refine ⟨_, (pss_one (ps_ret (pe_op op_add pe_int (pe_callB call_len_seq (by rfl) T.m_len (by decide +kernel) (pa_cons (pe_lc (own := [("_law_entry", 1)]) (g := gName 1) (by rfl) sc_Llegs.nd (SeqW.pi_seq (pv 0)) (blkOk_by (own := [("_law_entry", 1)]) (N := ["_law_log", "_law_entry"]) (sc := defScope s_Llegs) (by decide +kernel)) (fun _ _ _ _ _ => (pg_name (i := 1) sc_Llegs.nd rfl (Or.inl rfl))) (fun _ _ _ _ _ => (pts_one (pt_cmpR op_eq (pe_ix (r := rIx K) (SeqW.ix_seqK rfl) (pv 1) pe_int (fun _ _ => rfl)) pe_str (nomark _)))) (fun _ _ _ _ _ => (pv 1))) pa_nil))))), ?_⟩
    refine ⟨.ref e, rfl, e, xs, rfl, (fun H' => Same H H'), kpA hs, Same.refl _, fun J G wk hG D hD => lc_it wk (fun i H' => Same H H' ∧ ∃ ys : List V, ys.length = swaps (es.take i) ∧ H' D = some (.lst ys)) ⟨same_upd hD, [], rfl, upd_same⟩ (fun i H' _ h => hG _ h.1) ?_ ?_⟩
    · rintro i v H1 H2 hi ⟨sm, ys, ly, eD⟩ ⟨rfl, hx⟩
      obtain ⟨en, fe, a, us, rfl, hq, _⟩ := (ha.same sm).at_ hx
      have lg := swaps_le (es.take i)
      rw [List.length_take] at lg
      refine ⟨rfl, .ref a, rfl, ixA (j := 0) hq rfl ⟨rfl, _, rfl, ?_⟩⟩
      rw [isw]
      refine ite2 (fun e1 => ⟨.ref a, rfl, ys, eD, small1000 (by omega), (fun b o h => ?_), _, ?_, upd_same⟩) (fun e1 => ⟨sm, ys, ?_, eD⟩)
      · rw [upd_ne (ne_of_none h hD)]
        exact sm _ _ h
      · rw [List.length_append, ly, swaps_at fe, if_pos e1]
        rfl
      · rw [ly, swaps_at fe, if_neg e1]
        rfl
    · rintro H1 ⟨sm, ys, ly, eD⟩
      rw [lx, List.take_length] at ly
      refine ⟨D, ys, rfl, .inl (.inl (.inl eD)), _, _, rfl, rfl, ?_⟩
      rw [ly]
      exact q _ sm
/-! ### small logs, rows, boxes drawn -/
theorem dpa_tp {K : PySem.W.Frag} {H H' : Hp} {n : Nat} (e : Tp H H') {ds : List PyData} {vs : List V} (ho : ∀ d ∈ ds, okD n d = true) (h : DpAll K H vs ds) : DpAll K H' vs ds := dpa_kpA (P := fun d => okD n d = true) (fun d v o h => dp_kp e n d v o h) ds vs ho h
theorem Tp.of {H H' : Hp} (s : Same H H') : Tp H H' := fun b o _ h => s b o h
theorem Tp.trans {H H1 H2 : Hp} (a : Tp H H1) (b : Tp H1 H2) : Tp H H2 := fun c o z h => b c o z (a c o z h)
theorem Tp.but {H H' : Hp} {p : Addr} (hp : Pool H p) (b : But p H H') : Tp H H' := (Kp.but hp b).tp
theorem Tp.lst {H : Hp} {a : Addr} {xs ys : List V} (e : H a = some (.lst xs)) : Tp H (L2.upd H a (.lst ys)) := (Kp.upd e rfl).tp
theorem tups_ok (es : List Ent) : ∀ d ∈ es.map Ent.tup, okD 1 d = true := fun d hd => by
  obtain ⟨e, _, rfl⟩ := List.mem_map.mp hd
  exact ent_okT e
def shrN (n : Fin 9) : Fin 9 := ⟨(n.val + 1) % 3, by omega⟩
def shr : Ent → Ent
  | .go n => .go (shrN n)
  | .spy n z => .spy (shrN n) z
  | e => e
theorem shr_need (e : Ent) : (shr e).need = e.need := by cases e <;> rfl
theorem shr_face (e : Ent) : (shr e).isFace = e.isFace := by cases e <;> rfl
theorem shr_swap (e : Ent) : (shr e).isSwap = e.isSwap := by cases e <;> rfl
theorem shr_ok {e : Ent} (h : e.ok) : (shr e).ok := by cases e <;> exact h
theorem shr_any (es : List Ent) : (es.map shr).any Ent.isFace = es.any Ent.isFace := by
  rw [List.any_map]
  exact congrArg (fun f => es.any f) (funext fun e => shr_face e)
theorem shr_right {es : List Ent} (h : Right es) : Right (es.map shr) := fun i e he hn => by
  rw [List.getElem?_map] at he
  cases e1 : es[i]? with
  | none => rw [e1] at he; cases he
  | some x =>
    rw [e1] at he
    cases he
    rw [← List.map_take, shr_any]
    exact h i x e1 (by rw [← shr_need]; exact hn)
theorem shr_swaps (es : List Ent) : swaps (es.map shr) = swaps es := by
  unfold swaps
  rw [List.filter_map, List.length_map]
  exact congrArg (fun f => (es.filter f).length) (funext fun e => shr_swap e)
theorem shr_int (n : Fin 9) : (1 + ((n.val : Int) + 1) % 3) = ((shrN n).val : Int) + 1 := by
  show _ = (((n.val + 1) % 3 : Nat) : Int) + 1
  omega
theorem gs_in : ∀ i : Fin 10, inV (.str (ws i)) ([PySem.Str.ofString "go", PySem.Str.ofString "spy"].map V.str) = decide (i = 4 ∨ i = 8) := by decide +kernel
theorem tup_atT {K : PySem.W.Frag} {H : Hp} {t : Addr} {e : Ent} (h : Dp K H (.ref t) (Ent.tup e)) : ∃ xs, SqT K H t (.str (ws e.kind) :: xs) ∧ DpAll K H xs e.rest := by
  cases h with
  | @tup _ ys _ hs ha =>
    cases ha with
    | cons h1 h2 =>
      cases h1
      exact ⟨_, hs, h2⟩
theorem dp_ref {K : PySem.W.Frag} {H : Hp} {v : V} {e : Ent} (h : Dp K H v (Ent.tup e)) : ∃ t, v = .ref t := by
  cases h with
  | tup hs ha => exact ⟨_, rfl⟩
theorem cut2 (a b : V) (r : List V) : cutV (a :: b :: r) (some 2) none = r := by
  show ((a :: b :: r).drop (HT.sIx (a :: b :: r).length 0 (some 2))).take (HT.sIx (a :: b :: r).length (a :: b :: r).length none - HT.sIx (a :: b :: r).length 0 (some 2)) = r
  have e1 : HT.sIx (a :: b :: r).length 0 (some 2) = 2 := by
    unfold HT.sIx
    rw [List.length_cons, List.length_cons]
    simp
  rw [e1]
  show r.take _ = r
  exact List.take_of_length_le (by show r.length ≤ (r.length + 1 + 1) - 2; omega)
def spSmallLog (K : PySem.W.Frag) : Sp := fun vs H Q _ => ∃ (p : Addr) (m s : Int), vs = [.ref p, .int m, .int s] ∧ 0 ≤ m ∧ m ≤ 100 ∧ Pool H p ∧ ∀ H' t es, But p H H' → Pool H' p → Dp K H' (.ref t) (.tuple (es.map Ent.tup)) → (es.length : Int) = m → (∀ e ∈ es, e.ok) → Right es → ((swaps es : Int) ≤ s ∨ s < 0) → Q (.ref t) H'
theorem ok_Lsmall_log (T : Top w K mg) : FnOk P w K mg base CX0 6 T.a_Lsmall_log T.fd_Lsmall_log ["_law_pool_here", "_law_many", "_law_swaps"] (spSmallLog K) := by
  have G_Lany_log := ok_Lany_log (P := P) (w := w) (base := base) T
  refine T.F_Lsmall_log.ok sc_Lsmall_log (fun vs H Q E h => ?_) (fun cdv A outer s H vs Q E hr h => ?_)
  · obtain ⟨p, m, s, rfl, _⟩ := h
    rfl
  · obtain ⟨p, m, sw, rfl, m0, m1, hp, q⟩ := h
    refine ⟨_, (pss_cons (ps_set (i := 3) sc_Lsmall_log.nd rfl (.inl rfl) (pe_lst pa_nil))
      (pss_cons (ps_for PassesOwn.never rfl (pi_tup (pe_call G_Lany_log hr (by rfl) T.g_Lany_log T.F_Lany_log.kp T.b_Lany_log .nil pass0 (pa_cons (pv 0) (pa_cons (pv 1) (pa_cons (pv 2) pa_nil))))) (pg_name (i := 4) sc_Lsmall_log.nd rfl (.inl rfl)) (Evl.pss_cut (ps_if (pt_cmpR op_in_seq (pe_ix ix_tup (pv 4) pe_int (fun _ _ => rfl)) (pe_tup (pa_cons pe_str (pa_cons pe_str pa_nil))) (by rfl)) (pss_one (ps_set (i := 4) sc_Lsmall_log.nd rfl (.inl rfl) (pe_op op_catT (pe_tup (pa_cons (pe_ix ix_tup (pv 4) pe_int (fun _ _ => rfl)) (pa_cons (pe_op op_add pe_int (pe_op op_mod (pe_ix ix_tup (pv 4) pe_int (fun _ _ => rfl)) pe_int)) pa_nil))) (pe_slice sl_tup (pv 4) (po_some pe_int) po_none)))) pss_nil)
      (pss_one (ps_expr (pe_bm PySem.F.plainAttrs_list PySem.F.slot_list_append PySem.F.type_list_append mt_append (pv 3) (pa_cons (pv 4) pa_nil))))))
      (pss_one (ps_ret (pe_callTy call_tuple_of (by rfl) T.m_tuple (by decide +kernel) (pa_cons (pv 3) pa_nil)))))), ?_⟩
    refine ⟨Nat.zero_le _, fun L nL => ?_⟩
    have nLp : L ≠ p := hp.ne_new nL
    have s0 := same_upd (o := .lst []) nL
    have hp0 := hp.same s0
    refine ⟨.ref p, rfl, .int m, rfl, .int sw, rfl, p, m, sw, (fun b => b = p), rfl, m0, m1, hp0, ⟨rfl, fun b h => by rw [h]; exact hp0.known⟩, fun H1 t xs es b1 hp1 _ hs ha len ok R hsw => ?_⟩
    have hs1 := sqt_same wo_same hs
    have ha1 := dpa_same wo_same _ _ ha
    have lx := dpa_len2 ha1
    rw [List.length_map] at lx
    have eL1 := b1 _ _ nLp (upd_same (H := H) (a := L) (o := .lst []))
    refine ⟨t, rfl, ⟨xs, hs1⟩, for_it (walk_tup (xs := xs)) (fun i σ H' => But p H H' ∧ Pool H' p ∧ Tp H1 H' ∧ ∃ y4 ys, σ = [some (.ref p), some (.int m), some (.int sw), some (.ref L), y4] ∧ H' L = some (.lst ys) ∧ ys.length = i ∧ DpAll K H' ys (((es.map shr).take i).map Ent.tup)) ⟨(But.of s0).trans b1, hp1, Tp.of (Same.refl _), _, [], rfl, eL1, rfl, .nil⟩ (fun i σ H' _ h => sqt_kp h.2.2.1 hs1) ?_ ?_⟩
    · rintro i v σ H2 H3 hi ⟨b3, hp3, t3, y4, ys, rfl, eL, ly, hy⟩ ⟨rfl, hv⟩
      obtain ⟨d, fd, gd⟩ := dpa_at _ xs ha1 i v hv
      rw [List.getElem?_map] at fd
      obtain ⟨e, fe, rfl⟩ : ∃ e, es[i]? = some e ∧ Ent.tup e = d := by
        cases e1 : es[i]? with
        | none => rw [e1] at fd; cases fd
        | some e => rw [e1] at fd; exact ⟨e, rfl, Option.some.inj fd⟩
      have gd3 := dp_kp t3 1 _ _ (ent_okT e) gd
      obtain ⟨u, rfl⟩ := dp_ref gd3
      obtain ⟨us, hu, hrest⟩ := tup_atT gd3
      refine ⟨fun σ H' => Same H3 H' ∧ ∃ u, σ = [some (.ref p), some (.int m), some (.int sw), some (.ref L), some (.ref u)] ∧ Dp K H' (.ref u) (Ent.tup (shr e)), ?_, ?_⟩
      · refine ⟨.ref u, rfl, u, _, 0, _, rfl, rfl, hu, atI_nat (j := 0) rfl, by show 2 ≤ sizeLine; decide, fun tp ntp => ⟨tp, _, rfl, .inr (.inl (.inl upd_same)), rfl, by decide +kernel, _, rfl, ?_⟩⟩
        have s4 := same_upd (o := .tup ([PySem.Str.ofString "go", PySem.Str.ofString "spy"].map V.str)) ntp
        show if inV (.str (ws e.kind)) ([PySem.Str.ofString "go", PySem.Str.ofString "spy"].map V.str) = true then _ else _
        rw [gs_in]
        refine ite2 (fun e1 => ?_) (fun e1 => ?_)
        · have hk := of_decide_eq_true e1
          obtain ⟨n, us2, eus, hus2, epar⟩ : ∃ (n : Fin 9) (us2 : List V), us = .int ((n.val : Int) + 1) :: us2 ∧ (∃ ds2, DpAll K H3 us2 ds2 ∧ us2.length ≤ 1 ∧ (shr e).parts = .str (ws e.kind) :: .int (((shrN n).val : Int) + 1) :: ds2) ∧ True := by
            cases e with
            | go n =>
              cases hrest with
              | cons h1 h2 => cases h1; cases h2; exact ⟨n, [], rfl, ⟨[], .nil, by decide, rfl⟩, trivial⟩
            | spy n z =>
              cases hrest with
              | cons h1 h2 =>
                cases h1
                cases h2 with
                | cons h3 h4 => cases h3; cases h4; exact ⟨n, [.str z], rfl, ⟨[.str z], .cons (.str _) .nil, Nat.le_refl 1, rfl⟩, trivial⟩
            | turn q => exact absurd hk (by have : ∀ q : Fin 3, ¬ ((Ent.turn q).kind = 4 ∨ (Ent.turn q).kind = 8) := by decide
                                            exact this q)
            | face l => exact absurd hk (show ¬ ((0 : Fin 10) = 4 ∨ (0 : Fin 10) = 8) by decide)
            | bump => exact absurd hk (by decide)
            | sign z => exact absurd hk (show ¬ ((6 : Fin 10) = 4 ∨ (6 : Fin 10) = 8) by decide)
            | bare => exact absurd hk (by decide)
            | swap => exact absurd hk (by decide)
          subst eus
          obtain ⟨ds2, hds2, lus, epar⟩ := hus2
          have hu4 := sqt_same s4 hu
          refine ⟨.ref u, rfl, u, _, 0, _, rfl, rfl, hu4, atI_nat (j := 0) rfl, .ref u, rfl, u, _, 1, _, rfl, rfl, hu4, atI_nat (j := 1) rfl, _, _, rfl, rfl, (by show (0 : Int) < 3; decide), _, _, rfl, rfl, by show 2 ≤ sizeLine; decide, fun a na => ?_⟩
          have s5 := same_upd (o := .tup [.str (ws e.kind), .int (1 + ((n.val : Int) + 1) % 3)]) na
          refine ⟨.ref u, rfl, 2, rfl, u, _, rfl, sqt_same s5 hu4, ?_, fun c nc => ?_⟩
          · intro z
            have z1 := z.1
            unfold HT.sIx at z1
            rw [List.length_cons, List.length_cons] at z1
            simp at z1
          rw [cut2]
          have s6 := same_upd (o := .tup us2) nc
          have s36 := (s4.trans s5).trans s6
          have ea := s6 _ _ (upd_same (a := a) (o := .tup [.str (ws e.kind), .int (1 + ((n.val : Int) + 1) % 3)]))
          have hsh : Ent.tup (shr e) = .tuple (.str (ws e.kind) :: .int (1 + ((n.val : Int) + 1) % 3) :: ds2) := by
            unfold Ent.tup
            rw [epar, shr_int]
          refine ⟨a, c, _, us2, rfl, rfl, .inl (.inl ea), .inl (.inl upd_same), (fun h => nomatch h), ?_, fun h0 => ?_, fun h0 v nv => ?_⟩
          · show 2 + us2.length ≤ sizeLine
            exact thou (by omega)
          · subst h0
            cases hds2
            refine ⟨s36, a, rfl, ?_⟩
            rw [hsh]
            exact .tup (.inl (.inl ea)) (.cons (.str _) (.cons (.int _) .nil))
          · have s7 := same_upd (o := .tup ([.str (ws e.kind), .int (1 + ((n.val : Int) + 1) % 3)] ++ us2)) nv
            refine ⟨s36.trans s7, v, rfl, ?_⟩
            rw [hsh]
            exact .tup (.inl (.inl upd_same)) (.cons (.str _) (.cons (.int _) (dpa_same (s36.trans s7) _ _ hds2)))
        · refine ⟨s4, u, rfl, ?_⟩
          have esh : shr e = e := by
            cases e with
            | go n => exact absurd (decide_eq_true (.inl rfl)) e1
            | spy n z => exact absurd (decide_eq_true (.inr rfl)) e1
            | _ => rfl
          rw [esh]
          exact dp_same s4 _ _ gd3
      rintro σ H4 ⟨s4, u, rfl, hdu⟩
      have eL4 := s4 _ _ eL
      refine ⟨.ref L, rfl, .inl ⟨rfl, _, .inl (.inl eL4)⟩, .ref u, rfl, L, ys, _, rfl, rfl, eL4, small1000 (by omega), ?_⟩
      have tu : Tp H4 (upd H4 L (.lst (ys ++ [.ref u]))) := Tp.lst eL4
      refine ⟨(b3.trans (But.of s4)).mut nL, (hp3.same s4).upd nLp, (t3.trans (Tp.of s4)).trans tu, _, _, rfl, upd_same, ?_, ?_⟩
      · rw [List.length_append, ly]
        rfl
      · have e1 : ((es.map shr).take (i + 1)).map Ent.tup = ((es.map shr).take i).map Ent.tup ++ [Ent.tup (shr e)] := by
          rw [List.take_add_one, List.getElem?_map, fe, List.map_append]
          rfl
        rw [e1]
        exact dpa_snoc (dp_kp tu 1 _ _ (ent_okT _) hdu) _ _ (dpa_tp ((Tp.of s4).trans tu) (tups_ok _) hy)
    · rintro σ H2 ⟨b3, hp3, t3, y4, ys, rfl, eL, ly, hy⟩
      have lsh : (es.map shr).length = es.length := List.length_map _
      rw [lx, ← lsh, List.take_length] at hy
      refine ⟨.ref L, rfl, L, ys, rfl, .inl ⟨.inl (.inl eL), fun r nr => ?_⟩⟩
      have sr := same_upd (o := .tup ys) nr
      refine q _ r (es.map shr) (b3.trans (But.of sr)) (hp3.same sr) (.tup (.inl (.inl upd_same)) (dpa_same sr _ _ hy)) (by rw [lsh]; exact len) (fun e he => ?_) (shr_right R) (by rw [shr_swaps]; exact hsw)
      obtain ⟨x, hx, rfl⟩ := List.mem_map.mp he
      exact shr_ok (ok x hx)
/-- a row of rows: a tuple of a name and a log -/
def RowAt (K : PySem.W.Frag) (H : Hp) (v : V) (r : Row) : Prop := ∃ t l, v = .ref t ∧ H t = some (.tup [.str r.1, .ref l]) ∧ Dp K H (.ref l) (logD r)
theorem RowAt.tp {K : PySem.W.Frag} {H H' : Hp} {v : V} {r : Row} (h : RowAt K H v r) (hl : r.2.length ≤ 1000) (e : Tp H H') : RowAt K H' v r := by
  obtain ⟨t, l, rfl, h1, h2⟩ := h
  exact ⟨t, l, rfl, e _ _ rfl h1, dp_kp e 2 _ _ (log_okD hl) h2⟩
inductive RowsAt (K : PySem.W.Frag) (H : Hp) : List V → List Row → Prop
  | nil : RowsAt K H [] []
  | cons {v : V} {r : Row} {vs : List V} {rs : List Row} : RowAt K H v r → RowsAt K H vs rs → RowsAt K H (v :: vs) (r :: rs)
theorem RowsAt.tp {K : PySem.W.Frag} {H H' : Hp} {vs : List V} {rs : List Row} (h : RowsAt K H vs rs) (hl : ∀ r ∈ rs, r.2.length ≤ 1000) (e : Tp H H') : RowsAt K H' vs rs := by
  induction h with
  | nil => exact .nil
  | cons h1 _ ih => exact .cons (h1.tp (hl _ List.mem_cons_self) e) (ih fun r hr => hl r (List.mem_cons_of_mem _ hr))
theorem RowsAt.len {K : PySem.W.Frag} {H : Hp} {vs : List V} {rs : List Row} (h : RowsAt K H vs rs) : vs.length = rs.length := by
  induction h with
  | nil => rfl
  | cons _ _ ih => rw [List.length_cons, List.length_cons, ih]
theorem RowsAt.at_ {K : PySem.W.Frag} {H : Hp} {vs : List V} {rs : List Row} (h : RowsAt K H vs rs) : ∀ {i : Nat} {v : V}, vs[i]? = some v → ∃ r, rs[i]? = some r ∧ RowAt K H v r := by
  induction h with
  | nil => exact fun h => by cases h
  | cons h1 _ ih =>
    intro i v hv
    cases i with
    | zero => cases hv; exact ⟨_, rfl, h1⟩
    | succ i => exact ih hv
theorem RowsAt.snoc {K : PySem.W.Frag} {H : Hp} {vs : List V} {rs : List Row} {v : V} {r : Row} (h : RowsAt K H vs rs) (h1 : RowAt K H v r) : RowsAt K H (vs ++ [v]) (rs ++ [r]) := by
  induction h with
  | nil => exact .cons h1 .nil
  | cons h2 _ ih => exact .cons h2 ih
def legsSum (rs : List Row) : Nat := (rs.map fun r => 1 + swaps r.2).sum
def spSmallRows (K : PySem.W.Frag) : Sp := fun vs H Q _ => ∃ (p : Addr) (m : Nat), vs = [.ref p, .int (m : Nat)] ∧ m ≤ 6 ∧ Pool H p ∧ ∀ H' L xs rs, But p H H' → Pool H' p → H L = none → H' L = some (.lst xs) → RowsAt K H' xs rs → rs.length = m → (nms rs).Nodup → (∀ r ∈ rs, RowOk r) → (∀ r ∈ rs, r.2.length ≤ 8) → legsSum rs ≤ 6 → Q (.ref L) H'
theorem ok_Lsmall_rows (T : Top w K mg) : FnOk P w K mg base CX0 7 T.a_Lsmall_rows T.fd_Lsmall_rows ["_law_pool_here", "_law_walkers"] (spSmallRows K) := by
  have G_Ltake := ok_Ltake (P := P) (w := w) (base := base) T
  have G_Lnames := ok_Lnames (P := P) (w := w) (base := base) T
  have G_Lsmall_log := ok_Lsmall_log (P := P) (w := w) (base := base) T
  have G_Llegs := ok_Llegs (P := P) (w := w) (base := base) T
  refine T.F_Lsmall_rows.ok sc_Lsmall_rows (fun vs H Q E h => ?_) (fun cdv A outer s H vs Q E hr h => ?_)
  · obtain ⟨p, m, rfl, _⟩ := h
    rfl
  · obtain ⟨p, m, rfl, hm, hp, q⟩ := h
    refine ⟨_, (pss_cons (ps_set (i := 2) sc_Lsmall_rows.nd rfl (.inl rfl) (pe_lst pa_nil))
      (pss_cons (ps_set (i := 3) sc_Lsmall_rows.nd rfl (.inl rfl) (pe_op op_sub pe_int (pv 1)))
      (pss_cons (ps_for PassesOwn.never rfl (pi_list (pe_call G_Lnames (hr.mono (by decide)) (by rfl) T.g_Lnames T.F_Lnames.kp T.b_Lnames .nil pass0 (pa_cons (pv 0) (pa_cons (pv 1) pa_nil)))) (pg_name (i := 4) sc_Lsmall_rows.nd rfl (.inl rfl)) (pss_cons (ps_set (i := 5) sc_Lsmall_rows.nd rfl (.inl rfl) (pe_call G_Lsmall_log hr (by rfl) T.g_Lsmall_log T.F_Lsmall_log.kp T.b_Lsmall_log .nil pass0 (pa_cons (pv 0) (pa_cons (pe_call G_Ltake (hr.mono (by decide)) (by rfl) T.g_Ltake T.F_Ltake.kp T.b_Ltake .nil pass0 (pa_cons (pv 0) (pa_cons pe_int pa_nil))) (pa_cons (pv 3) pa_nil)))))
      (pss_cons (ps_set (i := 3) sc_Lsmall_rows.nd rfl (.inl rfl) (pe_op op_sub (pv 3) (pe_op op_sub (pe_call G_Llegs (hr.mono (by decide)) (by rfl) T.g_Llegs T.F_Llegs.kp T.b_Llegs .nil pass0 (pa_cons (pv 5) pa_nil)) pe_int)))
      (pss_one (ps_expr (pe_bm PySem.F.plainAttrs_list PySem.F.slot_list_append PySem.F.type_list_append mt_append (pv 2) (pa_cons (pe_tup (pa_cons (pv 4) (pa_cons (pv 5) pa_nil))) pa_nil)))))))
      (pss_one (ps_ret (pv 2)))))), ?_⟩
    refine ⟨Nat.zero_le _, fun L nL => ?_⟩
    have nLp : L ≠ p := hp.ne_new nL
    have s0 := same_upd (o := .lst []) nL
    refine ⟨.int m, rfl, _, _, rfl, rfl, .ref p, rfl, .int m, rfl, p, m, rfl, by omega, hp.same s0, fun H1 N zs b1 hp1 nN eN lz nd hz => ?_⟩
    have eL1 := b1 _ _ nLp (upd_same (H := H) (a := L) (o := .lst []))
    have nNL : N ≠ L := fun z => by rw [z, upd_same] at nN; cases nN
    have nNp : N ≠ p := (hp.same s0).ne_new nN
    have nN0 : H N = none := s0.free nN
    refine ⟨N, rfl, ⟨_, .inl (.inl eN)⟩, for_it (walk_list (xs := zs.map V.str)) (fun i σ H' => But p H H' ∧ Pool H' p ∧ H' N = some (.lst (zs.map V.str)) ∧ ∃ (left : Int) (y4 y5 : Option V) (xs : List V) (rs : List Row), σ = [some (.ref p), some (.int (m : Nat)), some (.ref L), some (.int left), y4, y5] ∧ H' L = some (.lst xs) ∧ RowsAt K H' xs rs ∧ nms rs = zs.take i ∧ (∀ r ∈ rs, RowOk r) ∧ (∀ r ∈ rs, r.2.length ≤ 8) ∧ left = 6 - (m : Int) - ((legsSum rs : Int) - (rs.length : Int)) ∧ 0 ≤ left) ⟨(But.of s0).trans b1, hp1, eN, _, _, _, [], [], rfl, eL1, .nil, rfl, (fun _ h => nomatch h), (fun _ h => nomatch h), by show 6 - (m : Int) = 6 - (m : Int) - (((0 : Nat) : Int) - ((0 : Nat) : Int)); omega, by omega⟩ (fun i σ H' _ h => .inl (.inl h.2.2.1)) ?_ ?_⟩
    · rintro i v σ H2 H3 hi ⟨b3, hp3, eN3, left, y4, y5, xs, rs, rfl, eL, hrs, enm, rok, r8, hleft, l0⟩ ⟨rfl, hv⟩
      rw [List.getElem?_map] at hv
      obtain ⟨z, fz, rfl⟩ : ∃ z, zs[i]? = some z ∧ V.str z = v := by
        cases e1 : zs[i]? with
        | none => rw [e1] at hv; cases hv
        | some z => rw [e1] at hv; exact ⟨z, rfl, Option.some.inj hv⟩
      have hil : i < zs.length := (List.getElem?_eq_some_iff.mp fz).1
      have lrs : rs.length = i := by
        have := congrArg List.length enm
        unfold nms at this
        rw [List.length_map, List.length_take] at this
        omega
      refine ⟨.ref p, rfl, .ref p, rfl, p, 9, rfl, by decide, by decide, hp3, fun H4 k b4 hp4 k0 k1 => ?_⟩
      refine ⟨_, rfl, p, k, left, rfl, k0, by omega, hp4, fun H5 t es b5 hp5 hdt len ok R hsw => ?_⟩
      obtain ⟨a, ys, rfl', hsq, hrw⟩ := log_rows (r := (z, es)) hdt
      cases rfl'
      refine ⟨_, rfl, .ref t, rfl, t, ys, es, rfl, .inr hsq, hrw, by omega, fun H6 s6 => ⟨_, _, rfl, rfl, _, _, rfl, rfl, ?_⟩⟩
      have t36 : Tp H3 H6 := ((Tp.but hp3 b4).trans (Tp.but hp4 b5)).trans (Tp.of s6)
      have b36 := (b4.trans b5).trans (But.of s6)
      have hp6 := hp5.same s6
      refine ⟨.ref L, rfl, .inl ⟨rfl, _, .inl (.inl (b36 _ _ nLp eL))⟩, .str z, rfl, .ref t, rfl, by show 2 ≤ sizeLine; decide, fun u nu => ?_⟩
      have su := same_upd (o := .tup [.str z, .ref t]) nu
      have eL7 := su _ _ (b36 _ _ nLp eL)
      have tu : Tp (upd H6 u (.tup [.str z, .ref t])) (upd (upd H6 u (.tup [.str z, .ref t])) L (.lst (xs ++ [.ref u]))) := Tp.lst eL7
      have lxs := hrs.len
      have hsl := swaps_le es
      have r1000 : ∀ r ∈ rs, r.2.length ≤ 1000 := fun r hr => by have := r8 r hr; omega
      refine ⟨L, xs, _, rfl, rfl, eL7, small1000 (by omega), ((b3.trans b36).trans (But.of su)).mut nL, (hp6.same su).upd nLp, ?_, _, _, _, _, rs ++ [(z, es)], rfl, upd_same, ?_, ?_, ?_, ?_, ?_, ?_⟩
      · rw [upd_ne nNL]
        exact su _ _ (b36 _ _ nNp eN3)
      · refine (hrs.tp r1000 ((t36.trans (Tp.of su)).trans tu)).snoc ⟨u, t, rfl, tu _ _ rfl upd_same, dp_kp (((Tp.of s6).trans (Tp.of su)).trans tu) 2 _ _ (log_okD (r := (z, es)) (show es.length ≤ 1000 by omega)) hdt⟩
      · rw [List.take_add_one, fz, ← enm]
        unfold nms
        rw [List.map_append]
        rfl
      · intro r hr
        rcases List.mem_append.mp hr with h | h
        · exact rok r h
        · rw [List.mem_singleton.mp h]
          exact ⟨hz z (List.mem_of_getElem? fz), ok, R, show es.length ≤ 100 by omega⟩
      · intro r hr
        rcases List.mem_append.mp hr with h | h
        · exact r8 r h
        · rw [List.mem_singleton.mp h]
          show es.length ≤ 8
          omega
      · have e1 : legsSum (rs ++ [(z, es)]) = legsSum rs + (1 + swaps es) := by
          unfold legsSum
          rw [List.map_append, List.sum_append]
          rfl
        rw [e1, List.length_append, hleft]
        show _ = 6 - (m : Int) - (((legsSum rs + (1 + swaps es) : Nat) : Int) - ((rs.length + 1 : Nat) : Int))
        omega
      · omega
    · rintro σ H2 ⟨b3, hp3, eN3, left, y4, y5, xs, rs, rfl, eL, hrs, enm, rok, r8, hleft, l0⟩
      rw [List.length_map, List.take_length] at enm
      have lrs : rs.length = m := by
        have := congrArg List.length enm
        unfold nms at this
        rw [List.length_map] at this
        omega
      exact ⟨.ref L, rfl, q H2 L xs rs b3 hp3 nL eL hrs lrs (by rw [enm]; exact nd) rok r8 (by omega)⟩
theorem dpa_appT {K : PySem.W.Frag} {H : Hp} : ∀ {ds es : List PyData} {xs ys : List V}, DpAll K H xs ds → DpAll K H ys es → DpAll K H (xs ++ ys) (ds ++ es)
  | [], _, _, _, h, g => by cases h; exact g
  | d :: ds, es, _, ys, h, g => by
    cases h with
    | cons h1 h2 => exact .cons h1 (dpa_appT h2 g)
/-! ### the legs that are due -/
def rowD (r : Row) : PyData := .tuple [.str r.1, logD r]
def spLegsOf (K : PySem.W.Frag) : Sp := fun vs H Q _ => ∃ (L : Addr) (xs : List V) (rs : List Row), vs = [.ref L] ∧ SqL K H L xs ∧ RowsAt K H xs rs ∧ (∀ r ∈ rs, RowOk r) ∧ rs.length ≤ 60 ∧ ∀ H' r, Same H H' → Dp K H' (.ref r) (.tuple (legL rs)) → Q (.ref r) H'
theorem RowAt.same {K : PySem.W.Frag} {H H' : Hp} {v : V} {r : Row} (h : RowAt K H v r) (s : Same H H') : RowAt K H' v r := by
  obtain ⟨t, l, rfl, h1, h2⟩ := h
  exact ⟨t, l, rfl, s _ _ h1, dp_same s _ _ h2⟩
theorem leg_okD (rs : List Row) : ∀ d ∈ legL rs, okD 1 d = true := fun d hd => by
  obtain ⟨r, _, hr⟩ := List.mem_flatMap.mp hd
  obtain ⟨k, _, rfl⟩ := List.mem_map.mp hr
  rfl
theorem ok_Llegs_of (T : Top w K mg) : FnOk P w K mg base CX0 2 T.a_Llegs_of T.fd_Llegs_of ["_law_rows"] (spLegsOf K) := by
  have G_Llegs := ok_Llegs (P := P) (w := w) (base := base) T
  refine T.F_Llegs_of.ok sc_Llegs_of (fun vs H Q E h => ?_) (fun cdv A outer s H vs Q E hr h => ?_)
  · obtain ⟨L, xs, rs, rfl, _⟩ := h
    rfl
  · obtain ⟨R, xs, rs, rfl, hs, hrs, rok, hlen, q⟩ := h
    refine ⟨_, (pss_cons (ps_set (i := 1) sc_Llegs_of.nd rfl (.inl rfl) (pe_lst pa_nil))
      (pss_cons (ps_for PassesOwn.never rfl (pi_list (pv 0)) (pg_tup rfl (pgs_cons (pg_name (i := 2) sc_Llegs_of.nd rfl (.inr rfl)) (pgs_cons (pg_name (i := 3) sc_Llegs_of.nd rfl (.inl rfl)) pgs_nil))) (pss_one (ps_expr (pe_bm PySem.F.plainAttrs_list PySem.F.slot_list_extend PySem.F.type_list_extend mt_extend (pv 1) (pa_cons (pe_lc (own := [("_law_leg", 4)]) (g := gName 4) (by rfl) sc_Llegs_of.nd (pi_range1 (by rfl) T.m_range (pa_cons (pe_call G_Llegs hr (by rfl) T.g_Llegs T.F_Llegs.kp T.b_Llegs .nil pass0 (pa_cons (pv 3) pa_nil)) pa_nil)) (blkOk_by (own := [("_law_leg", 4)]) (N := ["_law_rows", "_law_found", "_law_name_here", "_law_log", "_law_leg"]) (sc := defScope s_Llegs_of) (by decide +kernel)) (fun _ _ _ _ _ => (pg_name (i := 4) sc_Llegs_of.nd rfl (Or.inl rfl))) (fun _ _ _ _ _ => pts_nil) (fun _ _ _ _ _ => (pe_tup (pa_cons (pv 2) (pa_cons (pv 4) pa_nil))))) pa_nil)))))
      (pss_one (ps_ret (pe_callTy call_tuple_of (by rfl) T.m_tuple (by decide +kernel) (pa_cons (pv 1) pa_nil)))))), ?_⟩
    have lxs := hrs.len
    refine ⟨Nat.zero_le _, fun L nL => ?_⟩
    have s0 := same_upd (o := .lst []) nL
    refine ⟨.ref R, rfl, R, rfl, ⟨xs, s0.seq hs⟩, for_it (walk_list (xs := xs)) (fun i σ H' => Same H H' ∧ ∃ y2 y3 y4 ys, σ = [some (.ref R), some (.ref L), y2, y3, y4] ∧ H' L = some (.lst ys) ∧ ys.length = (legL (rs.take i)).length ∧ DpAll K H' ys (legL (rs.take i))) ⟨s0, _, _, _, [], rfl, upd_same, rfl, .nil⟩ (fun i σ H' _ h => h.1.seq hs) ?_ ?_⟩
    · rintro i v σ H1 H2 hi ⟨sm, y2, y3, y4, ys, rfl, eL, ly, hy⟩ ⟨rfl, hv⟩
      obtain ⟨r, fr, hra⟩ := hrs.at_ hv
      have ro := rok r (List.mem_of_getElem? fr)
      obtain ⟨t, l, rfl, ht, hd⟩ := hra.same sm
      obtain ⟨a, us, ea, hsq, hrw⟩ := log_rows hd
      cases ea
      have hsw := swaps_le r.2
      have hrl := ro.len
      refine ⟨t, _, rfl, .inl (.inl ht), rfl, _, _, rfl, _, _, rfl, rfl, ?_⟩
      refine ⟨.ref L, rfl, .inl ⟨rfl, _, .inl (.inl eL)⟩, .ref l, rfl, l, us, r.2, rfl, .inr hsq, hrw, by omega, fun H3 s3 => ?_⟩
      refine ⟨_, rfl, by omega, by omega, fun D hD => lc_range (lo := 0) (n := (1 + (swaps r.2 : Int)).toNat) (fun j H' => Same H3 H' ∧ ∃ zs, H' D = some (.lst zs) ∧ zs.length = j ∧ DpAll K H' zs ((List.range j).map fun (k : Nat) => PyData.tuple [.str r.1, .int (k : Nat)])) ⟨same_upd hD, [], upd_same, rfl, .nil⟩ ?_ ?_⟩
      · rintro j H4 hj ⟨s4, zs, eD, lz, hz⟩
        refine ⟨rfl, .str r.1, rfl, _, rfl, by show 2 ≤ sizeLine; decide, fun u nu => ?_⟩
        have su := same_upd (o := .tup [.str r.1, .int (0 + (j : Int))]) nu
        have eD5 := su _ _ eD
        have tu : Tp (upd H4 u (.tup [.str r.1, .int (0 + (j : Int))])) (upd (upd H4 u (.tup [.str r.1, .int (0 + (j : Int))])) D (.lst (zs ++ [.ref u]))) := Tp.lst eD5
        refine ⟨zs, eD5, small1000 (by omega), ?_, _, upd_same, ?_, ?_⟩
        · exact fun c o h => by
            rw [upd_ne (ne_of_none h hD)]
            exact su _ _ (s4 _ _ h)
        · rw [List.length_append, lz]
          rfl
        · rw [List.range_succ, List.map_append]
          refine dpa_snoc ?_ _ _ (dpa_tp (n := 1) ((Tp.of su).trans tu) (fun d hd => ?_) hz)
          · refine .tup (xs := [.str r.1, .int (0 + (j : Int))]) (.inl (.inl (tu _ _ rfl upd_same))) (.cons (.str _) (.cons ?_ .nil))
            have : (0 + (j : Int)) = ((j : Nat) : Int) := by omega
            rw [this]
            exact .int _
          · obtain ⟨k, _, rfl⟩ := List.mem_map.mp hd
            rfl
      · rintro H4 ⟨s4, zs, eD, lz, hz⟩
        have eL4 := s4 _ _ (s3 _ _ eL)
        have tk : (1 + (swaps r.2 : Int)).toNat = 1 + swaps r.2 := by omega
        rw [tk] at lz hz
        have ll := legL_len (rs := rs.take i) (fun x hx => rok x (List.mem_of_mem_take hx))
        rw [List.length_take] at ll
        have el : legL (rs.take (i + 1)) = legL (rs.take i) ++ (List.range (1 + swaps r.2)).map fun (k : Nat) => PyData.tuple [.str r.1, .int (k : Nat)] := by
          rw [List.take_add_one, fr]
          exact legL_snoc _ _
        have tu : Tp H4 (upd H4 L (.lst (ys ++ zs))) := Tp.lst eL4
        refine ⟨L, D, ys, zs, rfl, rfl, eL4, eD, ?_, fun c o h => ?_, _, _, _, _, rfl, upd_same, ?_, ?_⟩
        · exact Nat.le_trans (show ys.length + zs.length ≤ 100000 by omega) (by decide)
        · rw [upd_ne (ne_of_none h nL)]
          exact s4 _ _ (s3 _ _ (sm _ _ h))
        · rw [el, List.length_append, List.length_append, List.length_map, List.length_range, ly, lz]
        · rw [el]
          refine dpa_appT ?_ ?_
          · exact dpa_tp (n := 1) ((Tp.of (s3.trans s4)).trans tu) (leg_okD _) hy
          · refine dpa_tp (n := 1) tu (fun d hd => ?_) hz
            obtain ⟨k, _, rfl⟩ := List.mem_map.mp hd
            rfl
    · rintro σ H1 ⟨sm, y2, y3, y4, ys, rfl, eL, ly, hy⟩
      rw [lxs, List.take_length] at hy
      refine ⟨.ref L, rfl, L, ys, rfl, .inl ⟨.inl (.inl eL), fun r nr => ?_⟩⟩
      have sr := same_upd (o := .tup ys) nr
      exact q _ r (sm.trans sr) (.tup (.inl (.inl upd_same)) (dpa_same sr _ _ hy))
def nmAt (H : Hp) (v : V) : Str := match v with
  | .ref t => match H t with
    | some (.tup (.str z :: _)) => z
    | _ => ⟨#[]⟩
  | _ => ⟨#[]⟩
def lgAt (H : Hp) (v : V) : Addr := match v with
  | .ref t => match H t with
    | some (.tup [_, .ref l]) => l
    | _ => 0
  | _ => 0
theorem RowAt.nm {K : PySem.W.Frag} {H : Hp} {v : V} {r : Row} (h : RowAt K H v r) : nmAt H v = r.1 ∧ ∃ t, v = .ref t ∧ H t = some (.tup [.str (nmAt H v), .ref (lgAt H v)]) := by
  obtain ⟨t, l, rfl, h1, h2⟩ := h
  have e1 : nmAt H (.ref t) = r.1 := by unfold nmAt; simp only [h1]
  have e2 : lgAt H (.ref t) = l := by unfold lgAt; simp only [h1]
  refine ⟨e1, t, rfl, ?_⟩
  rw [e1, e2]
  exact h1
theorem RowsAt.zip {K : PySem.W.Frag} {H : Hp} {vs : List V} {rs : List Row} (h : RowsAt K H vs rs) : ∃ zs : List (V × Row), vs = zs.map (·.1) ∧ rs = zs.map (·.2) ∧ ∀ z ∈ zs, RowAt K H z.1 z.2 := by
  induction h with
  | nil => exact ⟨[], rfl, rfl, fun _ h => nomatch h⟩
  | @cons v r vs rs h1 _ ih =>
    obtain ⟨zs, e1, e2, h2⟩ := ih
    refine ⟨(v, r) :: zs, by rw [e1]; rfl, by rw [e2]; rfl, fun z hz => ?_⟩
    rcases List.mem_cons.mp hz with e | hz
    · rw [e]; exact h1
    · exact h2 z hz
theorem RowsAt.unzip {K : PySem.W.Frag} {H : Hp} : ∀ {zs : List (V × Row)}, (∀ z ∈ zs, RowAt K H z.1 z.2) → RowsAt K H (zs.map (·.1)) (zs.map (·.2))
  | [], _ => .nil
  | z :: zs, h => .cons (h z List.mem_cons_self) (RowsAt.unzip fun y hy => h y (List.mem_cons_of_mem _ hy))
theorem RowsAt.perm {K : PySem.W.Frag} {H : Hp} {vs ys : List V} {rs : List Row} (h : RowsAt K H vs rs) (p : ys.Perm vs) : ∃ rs', RowsAt K H ys rs' ∧ rs'.Perm rs := by
  obtain ⟨zs, e1, e2, hz⟩ := h.zip
  rw [e1] at p
  obtain ⟨zs', p', e⟩ := perm_lift (f := fun z : V × Row => z.1) p
  refine ⟨zs'.map (·.2), ?_, ?_⟩
  · rw [← e]
    exact RowsAt.unzip fun z hz' => hz z (p'.mem_iff.mp hz')
  · rw [e2]
    exact p'.map _
theorem RowsAt.same {K : PySem.W.Frag} {H H' : Hp} {vs : List V} {rs : List Row} (h : RowsAt K H vs rs) (s : Same H H') : RowsAt K H' vs rs := by
  induction h with
  | nil => exact .nil
  | cons h1 _ ih => exact .cons (h1.same s) ih
theorem RowsAt.nms {K : PySem.W.Frag} {H : Hp} {vs : List V} {rs : List Row} (h : RowsAt K H vs rs) : vs.map (nmAt H) = M.nms rs := by
  induction h with
  | nil => rfl
  | cons h1 _ ih =>
    show _ :: _ = _ :: _
    rw [h1.nm.1]
    exact congrArg _ ih
theorem RowsAt.pairs {K : PySem.W.Frag} {H : Hp} {vs : List V} {rs : List Row} (h : RowsAt K H vs rs) : Pairs K H vs rs := by
  induction h with
  | nil => exact .nil
  | cons h1 _ ih =>
    obtain ⟨t, l, rfl, h2, h3⟩ := h1
    obtain ⟨a, xs, e, hs, hr⟩ := log_rows h3
    cases e
    exact .cons ⟨t, l, xs, rfl, .inr (.inl (.inl h2)), .inr hs, hr⟩ ih
theorem RowsAt.apart {K : PySem.W.Frag} {H : Hp} {xs : List V} {rs : List Row} (h : RowsAt K H xs rs) (nd : (M.nms rs).Nodup) : ∀ u ∈ xs, ∀ v ∈ xs, nmAt H u = nmAt H v → lgAt H u = lgAt H v := fun u hu v hv e => by
  obtain ⟨i, hi⟩ := List.mem_iff_getElem?.mp hu
  obtain ⟨j, hj⟩ := List.mem_iff_getElem?.mp hv
  obtain ⟨r1, f1, h1⟩ := h.at_ hi
  obtain ⟨r2, f2, h2⟩ := h.at_ hj
  have e1 : (M.nms rs)[i]? = some (nmAt H u) := by unfold M.nms; rw [List.getElem?_map, f1, h1.nm.1]; rfl
  have e2 : (M.nms rs)[j]? = some (nmAt H v) := by unfold M.nms; rw [List.getElem?_map, f2, h2.nm.1]; rfl
  have i1 := List.getElem?_eq_some_iff.mp e1
  have j1 := List.getElem?_eq_some_iff.mp e2
  have eij : i = j := by
    rcases Nat.lt_trichotomy i j with h | h | h
    · exact absurd (i1.2.trans (e.trans j1.2.symm)) ((List.pairwise_iff_getElem.mp nd) i j i1.1 j1.1 h)
    · exact h
    · exact absurd (j1.2.trans (e.symm.trans i1.2.symm)) ((List.pairwise_iff_getElem.mp nd) j i j1.1 i1.1 h)
  subst eij
  rw [Option.some.inj (hi.symm.trans hj)]
theorem RowsAt.keyed {K : PySem.W.Frag} {H : Hp} {xs : List V} {rs : List Row} (h : RowsAt K H xs rs) : ∀ v ∈ xs, ∃ t, v = .ref t ∧ H t = some (.tup [.str (nmAt H v), .ref (lgAt H v)]) := fun v hv => by
  obtain ⟨i, hi⟩ := List.mem_iff_getElem?.mp hv
  obtain ⟨r, _, hr'⟩ := h.at_ hi
  exact hr'.nm.2
theorem RowsAt.sorted {K : PySem.W.Frag} {H : Hp} {xs ys : List V} {rs : List Row} (h : RowsAt K H xs rs) (nd : (M.nms rs).Nodup) (srt : SrtO.Srtd (fun x y => SrtSP.ltS (nmAt H x) (nmAt H y)) ys) (prm : ys.Perm xs) : ∃ rs2, RowsAt K H ys rs2 ∧ rs2.Perm rs ∧ Srt rs2 := by
  obtain ⟨rs2, hrs2, p2⟩ := h.perm prm
  refine ⟨rs2, hrs2, p2, srt_of ((show (M.nms rs2).Perm (M.nms rs) from p2.map _).nodup_iff.mpr nd) ?_⟩
  rw [← hrs2.nms]
  exact List.pairwise_map.mpr (srt.imp fun {a b} h z => by
    have h : SrtSP.ltS (nmAt H b) (nmAt H a) = false := h
    have this : SrtSP.ltS (nmAt H b) (nmAt H a) = true := decide_eq_true z
    rw [h] at this
    cases this)
--@@SPLIT
/-! ### dealings that the box lets by -/
def lotD : PyData → Bool
  | .int i => decide (0 ≤ i) && decide (i ≤ 7)
  | _ => false
def spIsLotD (K : PySem.W.Frag) : Sp := fun vs H Q _ => ∃ (v : V) (d : PyData), vs = [v] ∧ Dp K H v d ∧ Q (.bl (lotD d)) H
theorem ok_is_lotD (T : Top w K mg) : FnOk P w K mg base CX0 2 T.a_is_lot T.fd_is_lot ["thing"] (spIsLotD K) := by
  have G_is_whole := ok_is_wholeD (P := P) (w := w) (base := base) T
  refine T.F_is_lot.ok sc_is_lot (fun vs H Q E h => ?_) (fun cdv A outer s H vs Q E hr h => ?_)
  · obtain ⟨v, d, rfl, _⟩ := h
    rfl
  · obtain ⟨v, d, rfl, hd, q⟩ := h
    refine ⟨_, (pss_one (ps_ret (pe_and (pe_call G_is_whole hr (by rfl) T.g_is_whole T.F_is_whole.kp T.b_is_whole .nil pass0 (pa_cons (pv 0) pa_nil)) (pe_one (pe_chain op_le op_le pe_int (pv 0) pe_int))))), ?_⟩
    refine ⟨v, rfl, v, d, rfl, hd, _, rfl, ?_⟩
    cases hd with
    | int i =>
      refine iteT ⟨.int i, rfl, _, _, rfl, rfl, _, rfl, ite2 (fun e => ?_) (fun e => ?_)⟩
      · refine ⟨_, _, rfl, rfl, ?_⟩
        have e2 : lotD (.int i) = decide (i ≤ 7) := by
          show (decide (0 ≤ i) && decide (i ≤ 7)) = _
          rw [e]
          rfl
        rw [e2] at q
        exact q
      · have e2 : lotD (.int i) = false := by
          show (decide (0 ≤ i) && decide (i ≤ 7)) = _
          rw [Bool.eq_false_iff.mpr e]
          rfl
        rw [e2] at q
        exact q
    | non => exact iteF q
    | bl b => exact iteF q
    | str z => exact iteF q
    | lst h _ => exact iteF q
    | tup h _ => exact iteF q
theorem lot_of {d : PyData} (h : lotD d = true) : ∃ k : Nat, d = .int (k : Nat) ∧ k < 8 := by
  cases d with
  | int i =>
    obtain ⟨h1, h2⟩ := Bool.and_eq_true_iff.mp (show (decide (0 ≤ i) && decide (i ≤ 7)) = true from h)
    have h1 := of_decide_eq_true h1
    have h2 := of_decide_eq_true h2
    exact ⟨i.toNat, by rw [Int.toNat_of_nonneg h1], by omega⟩
  | _ => cases h
def isI (k : Nat) : PyData → Bool
  | .int i => i == (k : Int)
  | _ => false
def cntI (k : Nat) (ds : List PyData) : Nat := ds.countP (isI k)
/-- a lot of which the box has more than these -/
def moreI (box : List Nat) (pre : List PyData) (d : PyData) : Bool := lotD d && (List.range 8).any fun k => isI k d && decide (cntI k pre < box.getD k 0)
theorem more_lot (box : List Nat) (pre : List PyData) (k : Nat) (hk : k < 8) : moreI box pre (.int (k : Nat)) = decide (cntI k pre < box.getD k 0) := by
  have e1 : lotD (.int (k : Nat)) = true := by
    show (decide (0 ≤ ((k : Nat) : Int)) && decide (((k : Nat) : Int) ≤ 7)) = true
    rw [decide_eq_true (by omega), decide_eq_true (by omega)]
    rfl
  unfold moreI
  rw [e1, Bool.true_and]
  by_cases h : cntI k pre < box.getD k 0
  · rw [decide_eq_true h]
    refine List.any_eq_true.mpr ⟨k, List.mem_range.mpr hk, ?_⟩
    rw [decide_eq_true h]
    show ((((k : Nat) : Int) == ((k : Nat) : Int)) && true) = true
    rw [beq_self_eq_true]
    rfl
  · rw [decide_eq_false h]
    refine Bool.eq_false_iff.mpr fun z => h ?_
    obtain ⟨j, _, hj⟩ := List.any_eq_true.mp z
    obtain ⟨h1, h2⟩ := Bool.and_eq_true_iff.mp hj
    have e : ((k : Nat) : Int) = (j : Int) := eq_of_beq h1
    have : k = j := by omega
    rw [this]
    exact of_decide_eq_true h2
theorem more_no (box : List Nat) (pre : List PyData) {d : PyData} (h : lotD d = false) : moreI box pre d = false := by
  unfold moreI
  rw [h]
  rfl
theorem more_is (box : List Nat) (pre : List PyData) {d : PyData} (h : moreI box pre d = true) : lotD d = true := (Bool.and_eq_true_iff.mp h).1
theorem cnt_vals {K : PySem.W.Frag} {H : Hp} : ∀ {ds : List PyData} {vs : List V}, DpAll K H vs ds → (∀ d ∈ ds, lotD d = true) → vs.all flatV = true ∧ ∀ k : Nat, vs.countP (fun z => eqV z (.int (k : Nat))) = cntI k ds
  | [], _, h, _ => by cases h; exact ⟨rfl, fun _ => rfl⟩
  | d :: ds, _, h, hl => by
    cases h with
    | cons h1 h2 =>
      obtain ⟨i1, i2⟩ := cnt_vals h2 (fun x hx => hl x (List.mem_cons_of_mem _ hx))
      obtain ⟨j, rfl, _⟩ := lot_of (hl _ List.mem_cons_self)
      cases h1
      refine ⟨by rw [List.all_cons, i1]; rfl, fun k => ?_⟩
      unfold cntI at i2 ⊢
      rw [List.countP_cons, List.countP_cons, i2 k]
      rfl
/-- what the box lets by -/
def dueL (box : List Nat) (ds : List PyData) : Bool := ds.all lotD && (List.range 8).all fun k => decide (cntI k ds ≤ box.getD k 0)
theorem cnt_snoc (k : Nat) (ds : List PyData) (d : PyData) : cntI k (ds ++ [d]) = cntI k ds + (if isI k d = true then 1 else 0) := by
  unfold cntI
  rw [List.countP_append, List.countP_cons, List.countP_nil]
  omega
theorem due_of (box : List Nat) (ds : List PyData) (h : ∀ i d, ds[i]? = some d → moreI box (ds.take i) d = true) : dueL box ds = true := by
  have hl : ∀ d ∈ ds, lotD d = true := fun d hd => by
    obtain ⟨i, hi⟩ := List.mem_iff_getElem?.mp hd
    exact more_is _ _ (h i d hi)
  refine Bool.and_eq_true_iff.mpr ⟨List.all_eq_true.mpr hl, List.all_eq_true.mpr fun k hk => decide_eq_true ?_⟩
  have hk := List.mem_range.mp hk
  have go : ∀ n, cntI k (ds.take n) ≤ box.getD k 0 := fun n => by
    induction n with
    | zero => exact Nat.zero_le _
    | succ n ih =>
      rw [List.take_add_one]
      cases e : ds[n]? with
      | none =>
        show cntI k (ds.take n ++ []) ≤ _
        rw [List.append_nil]
        exact ih
      | some d =>
        show cntI k (ds.take n ++ [d]) ≤ _
        rw [cnt_snoc]
        have hm := h n d e
        obtain ⟨j, rfl, hj⟩ := lot_of (more_is _ _ hm)
        rw [more_lot _ _ _ hj] at hm
        have hm := of_decide_eq_true hm
        by_cases ej : isI k (.int (j : Nat)) = true
        · have e2 : ((j : Nat) : Int) = (k : Int) := eq_of_beq ej
          have : j = k := by omega
          subst this
          rw [if_pos ej]
          omega
        · rw [if_neg ej]
          omega
  have := go ds.length
  rw [List.take_length] at this
  exact this
theorem due_more (box : List Nat) (ds : List PyData) (h : dueL box ds = true) {i : Nat} {d : PyData} (hi : ds[i]? = some d) : moreI box (ds.take i) d = true := by
  obtain ⟨h1, h2⟩ := Bool.and_eq_true_iff.mp h
  obtain ⟨j, rfl, hj⟩ := lot_of (List.all_eq_true.mp h1 d (List.mem_of_getElem? hi))
  rw [more_lot _ _ _ hj]
  refine decide_eq_true ?_
  have h3 := of_decide_eq_true (List.all_eq_true.mp h2 j (List.mem_range.mpr hj))
  have h4 : cntI j (ds.take (i + 1)) ≤ cntI j ds := (List.take_sublist (i + 1) ds).countP_le
  rw [List.take_add_one, hi] at h4
  have h5 : cntI j (ds.take i ++ [.int (j : Nat)]) ≤ cntI j ds := h4
  rw [cnt_snoc] at h5
  have : isI j (.int (j : Nat)) = true := beq_self_eq_true _
  rw [if_pos this] at h5
  omega
def leftV (box : List Nat) (us : List V) (n : Nat) : List V := ((List.range n).filter fun k => decide (us.countP (fun z => eqV z (.int (k : Nat))) < box.getD k 0)).map fun k => V.int (k : Nat)
def spLeft (K : PySem.W.Frag) : Sp := fun vs H Q _ => ∃ (b l : Addr) (box : List Nat) (us : List V), vs = [.ref b, .ref l] ∧ SqT K H b (boxV box) ∧ box.length = 8 ∧ OwnI.Cnt K H l us ∧ us.all flatV = true ∧ ∀ H' D, Same H H' → H' D = some (.lst (leftV box us 8)) → Q (.ref D) H'
theorem left_in (box : List Nat) (us : List V) (k : Nat) (hk : k < 8) : inV (.int (k : Nat)) (leftV box us 8) = decide (us.countP (fun z => eqV z (.int (k : Nat))) < box.getD k 0) := by
  unfold inV leftV
  by_cases h : us.countP (fun z => eqV z (.int (k : Nat))) < box.getD k 0
  · rw [decide_eq_true h]
    refine List.any_eq_true.mpr ⟨.int (k : Nat), List.mem_map.mpr ⟨k, List.mem_filter.mpr ⟨List.mem_range.mpr hk, decide_eq_true h⟩, rfl⟩, ?_⟩
    exact beq_self_eq_true ((k : Nat) : Int)
  · rw [decide_eq_false h]
    refine Bool.eq_false_iff.mpr fun z => h ?_
    obtain ⟨v, hv, ev⟩ := List.any_eq_true.mp z
    obtain ⟨j, hj, rfl⟩ := List.mem_map.mp hv
    have e : ((j : Nat) : Int) = (k : Int) := eq_of_beq (show (((j : Nat) : Int) == ((k : Nat) : Int)) = true from ev)
    have : j = k := by omega
    rw [this] at hj
    exact of_decide_eq_true (List.mem_filter.mp hj).2
theorem box_at {box : List Nat} {i : Nat} (h : i < box.length) : (boxV box)[i]? = some (.int ((box.getD i 0 : Nat) : Int)) := by
  unfold boxV
  rw [List.getElem?_map, List.getD_eq_getElem?_getD, List.getElem?_eq_getElem h]
  rfl
theorem leftV_flat (box : List Nat) (us : List V) (n : Nat) : (leftV box us n).all flatV = true := List.all_eq_true.mpr fun v hv => by
  obtain ⟨k, _, rfl⟩ := List.mem_map.mp hv
  rfl
theorem leftV_len (box : List Nat) (us : List V) (n : Nat) : (leftV box us n).length ≤ n := by
  unfold leftV
  rw [List.length_map]
  have := List.length_filter_le (fun k => decide (us.countP (fun z => eqV z (.int (k : Nat))) < box.getD k 0)) (List.range n)
  rw [List.length_range] at this
  exact this
theorem leftV_succ (box : List Nat) (us : List V) (n : Nat) : leftV box us (n + 1) = leftV box us n ++ (if decide (us.countP (fun z => eqV z (.int (n : Nat))) < box.getD n 0) = true then [V.int (n : Nat)] else []) := by
  unfold leftV
  rw [List.range_succ, List.filter_append, List.map_append]
  congr 1
  cases e : decide (us.countP (fun z => eqV z (.int (n : Nat))) < box.getD n 0) with
  | true => rw [List.filter_cons, if_pos e]; rfl
  | false => rw [List.filter_cons, if_neg (by rw [e]; exact Bool.false_ne_true)]; rfl
theorem ok_lots_left_in (T : Top w K mg) : FnOk P w K mg base CX0 1 T.a_lots_left_in T.fd_lots_left_in ["box", "lots"] (spLeft K) := by
  refine T.F_lots_left_in.ok sc_lots_left_in (fun vs H Q E h => ?_) (fun cdv A outer s H vs Q E hr h => ?_)
  · obtain ⟨b, l, box, us, rfl, _⟩ := h
    rfl
  · obtain ⟨b, l, box, us, rfl, hb, h8, hc, hf, q⟩ := h
    refine ⟨_, (pss_one (ps_ret (pe_lc (own := [("lot", 2)]) (g := gName 2) (by rfl) sc_lots_left_in.nd (pi_range1 (by rfl) T.m_range (pa_cons (pe_glob (v := .int 8) (by rfl) T.g_HOW_MANY_LOTS.choose_spec ⟨_, rfl⟩) pa_nil)) (blkOk_by (own := [("lot", 2)]) (N := ["box", "lots", "lot"]) (sc := defScope s_lots_left_in) (by decide +kernel)) (fun _ _ _ _ _ => (pg_name (i := 2) sc_lots_left_in.nd rfl (Or.inl rfl))) (fun _ _ _ _ _ => (pts_one (pt_cmpR op_gt (pe_ix (r := rIx K) (SeqW.ix_seqK rfl) (pv 0) (pv 2) (fun _ _ => rfl)) (OwnI.pe_cnt (K := K) rfl (pv 1) (pa_cons (pv 2) pa_nil)) (nomark _)))) (fun _ _ _ _ _ => (pv 2))))), ?_⟩
    refine ⟨_, rfl, by decide, by decide, fun D hD => lc_it (walk_range (n := 8)) (fun i H' => Same H H' ∧ H' D = some (.lst (leftV box us i))) ⟨same_upd hD, upd_same⟩ (fun i H' _ h => trivial) ?_ ?_⟩
    · rintro i v H1 H2 hi ⟨sm, eD⟩ ⟨rfl, rfl⟩
      have e0 : (0 : Int) + (i : Int) = ((i : Nat) : Int) := by omega
      simp only [e0]
      have fin : if decide (((us.countP (fun z => eqV z (.int (i : Nat))) : Nat) : Int) < ((box.getD i 0 : Nat) : Int)) = true then ∃ acc, H2 D = some (HO.lst acc) ∧ acc.length < sizeLine ∧ Same H (upd H2 D (HO.lst (acc ++ [.int (i : Nat)]))) ∧ upd H2 D (HO.lst (acc ++ [.int (i : Nat)])) D = some (HO.lst (leftV box us (i + 1))) else Same H H2 ∧ H2 D = some (HO.lst (leftV box us (i + 1))) := by
        have ll := leftV_len box us i
        rw [leftV_succ]
        refine ite2 (fun e => ?_) (fun e => ?_)
        · have e := of_decide_eq_true e
          rw [if_pos (decide_eq_true (by omega))]
          refine ⟨_, eD, small1000 (by omega), fun c o h => ?_, upd_same⟩
          rw [upd_ne (ne_of_none h hD)]
          exact sm _ _ h
        · have e : ¬ _ := fun z => e (decide_eq_true z)
          rw [if_neg (fun z => e (by have := of_decide_eq_true z; omega)), List.append_nil]
          exact ⟨sm, eD⟩
      refine ⟨rfl, .ref b, rfl, _, rfl, ixA (.inr (sqt_same sm hb)) (box_at (by omega)) ⟨.ref l, rfl, l, us, rfl, ?_⟩⟩
      rcases hc.same sm with h | ⟨o, h, ho⟩
      · refine .inl ⟨h, _, rfl, _, rfl, h, rfl, hf, _, _, rfl, rfl, _, rfl, ?_⟩
        refine ite2 (fun e => ?_) (fun e => ?_)
        · rw [if_pos e] at fin
          exact ⟨_, rfl, fin⟩
        · rw [if_neg e] at fin
          exact fin
      · refine .inr ⟨⟨o, h, ho⟩, _, rfl, _, rfl, .inl (.inr ⟨o, h⟩), rfl, hf, _, _, rfl, rfl, _, rfl, ?_⟩
        refine ite2 (fun e => ?_) (fun e => ?_)
        · rw [if_pos e] at fin
          exact ⟨_, rfl, fin⟩
        · rw [if_neg e] at fin
          exact fin
    · rintro H1 ⟨sm, eD⟩
      exact q _ D sm eD
theorem cut_to (xs : List V) (n : Nat) (h : n ≤ xs.length) : cutV xs none (some (n : Int)) = xs.take n := by
  unfold cutV
  have e1 : HT.sIx xs.length 0 none = 0 := rfl
  have e2 : HT.sIx xs.length xs.length (some (n : Int)) = n := by
    unfold HT.sIx
    simp only []
    split <;> omega
  rw [e1, e2]
  rfl
theorem dpa_take {K : PySem.W.Frag} {H : Hp} : ∀ {ds : List PyData} {vs : List V} (n : Nat), DpAll K H vs ds → DpAll K H (vs.take n) (ds.take n)
  | _, _, 0, _ => by rw [List.take_zero, List.take_zero]; exact .nil
  | [], _, n + 1, h => by cases h; exact .nil
  | d :: ds, _, n + 1, h => by
    cases h with
    | cons h1 h2 => exact .cons h1 (dpa_take n h2)
def spFirst (K : PySem.W.Frag) : Sp := fun vs H Q _ => ∃ (b l : Addr) (box : List Nat) (us : List V) (ds : List PyData), vs = [.ref b, .ref l] ∧ SqT K H b (boxV box) ∧ box.length = 8 ∧ SqA K H l us ∧ DpAll K H us ds ∧
  (∀ H', Same H H' → (∀ i d, ds[i]? = some d → moreI box (ds.take i) d = true) → Q .non H') ∧ (∀ H' i d, Same H H' → ds[i]? = some d → (∀ j e, j < i → ds[j]? = some e → moreI box (ds.take j) e = true) → moreI box (ds.take i) d = false → Q (.int (i : Nat)) H')
theorem ok_first_not_dealt (T : Top w K mg) : FnOk P w K mg base CX0 3 T.a_first_not_dealt T.fd_first_not_dealt ["box", "lots"] (spFirst K) := by
  have G_is_lot := ok_is_lotD (P := P) (w := w) (base := base) T
  have G_lots_left_in := ok_lots_left_in (P := P) (w := w) (base := base) T
  refine T.F_first_not_dealt.ok sc_first_not_dealt (fun vs H Q E h => ?_) (fun cdv A outer s H vs Q E hr h => ?_)
  · obtain ⟨b, l, box, us, ds, rfl, _⟩ := h
    rfl
  · obtain ⟨b, l, box, us, ds, rfl, hb, h8, hl, hd, q1, q2⟩ := h
    have lu := dpa_len _ _ hd
    refine ⟨_, (pss_cons (ps_for PassesOwn.never rfl (SeqW.pi_enumA (by rfl) T.m_enumerate (pa_cons (pv 1) pa_nil)) (pg_tup rfl (pgs_cons (pg_name (i := 2) sc_first_not_dealt.nd rfl (.inl rfl)) (pgs_cons (pg_name (i := 3) sc_first_not_dealt.nd rfl (.inl rfl)) pgs_nil))) (pss_one (ps_if (PW.pt (pw_or (pt_not (pt_val (pe_call G_is_lot hr (by rfl) T.g_is_lot T.F_is_lot.kp T.b_is_lot .nil pass0 (pa_cons (pv 3) pa_nil)))) (pw_or1 (pt_cmpR (r := rIn K true) (SeqW.notIn_K rfl) (pv 3) (pe_call G_lots_left_in (hr.mono (by decide)) (by rfl) T.g_lots_left_in T.F_lots_left_in.kp T.b_lots_left_in .nil pass0 (pa_cons (pv 0) (pa_cons (pe_slice OwnI.sl_cnt (pv 1) po_none (po_some (pv 2))) pa_nil))) (by rfl))))) (pss_one (ps_ret (pv 2))) pss_nil)))
      (pss_one (ps_ret pe_non))), ?_⟩
    refine ⟨.ref l, rfl, l, us, rfl, (fun H' => Same H H'), kpA hl, Same.refl _, fun J G wk hG => for_it wk (fun i σ H' => Same H H' ∧ (∀ j e, j < i → ds[j]? = some e → moreI box (ds.take j) e = true) ∧ ∃ y2 y3, σ = [some (.ref b), some (.ref l), y2, y3]) ⟨Same.refl _, (fun j e h => absurd h (Nat.not_lt_zero _)), _, _, rfl⟩ (fun i σ H' _ h => hG _ h.1) ?_ ?_⟩
    · rintro i v σ H1 H2 hi ⟨sm, hm, y2, y3, rfl⟩ ⟨t, u1, u2, rfl, nt, rfl, e1, e2⟩
      cases e1
      have e2 : us[i]? = some u2 := e2
      have st := same_upd (o := .tup [.int (i : Nat), u2]) nt
      have sm2 := sm.trans st
      obtain ⟨d, fd, gd⟩ := dpa_at _ us hd i u2 e2
      refine ⟨t, _, rfl, .inl (.inl upd_same), rfl, _, _, rfl, _, _, rfl, rfl, ?_⟩
      refine ⟨_, rfl, u2, d, rfl, dp_same sm2 _ _ gd, _, rfl, ?_⟩
      cases el : lotD d with
      | false => exact iteT ⟨_, rfl, q2 _ i d sm2 fd hm (more_no _ _ el)⟩
      | true =>
        refine iteF ?_
        obtain ⟨k, rfl, hk⟩ := lot_of el
        cases gd
        have hil : i < us.length := hi
        have pre : ∀ e ∈ ds.take i, lotD e = true := fun e he => by
          obtain ⟨j, hj⟩ := List.mem_iff_getElem?.mp he
          have hjl := (List.getElem?_eq_some_iff.mp hj).1
          rw [List.length_take] at hjl
          have hji : j < i := by omega
          rw [List.getElem?_take_of_lt hji] at hj
          exact more_is _ _ (hm j e hji hj)
        obtain ⟨c1, c2⟩ := cnt_vals (dpa_take i hd) pre
        have more : moreI box (ds.take i) (.int (k : Nat)) = inV (.int (k : Nat)) (leftV box (us.take i) 8) := by
          rw [left_in _ _ _ hk, more_lot _ _ _ hk, c2 k]
        have fin : ∀ H5, Same (upd H1 t (HO.tup [V.int (i : Nat), V.int (k : Nat)])) H5 → if (!inV (.int (k : Nat)) (leftV box (us.take i) 8)) = true then ∃ v, V.int (i : Nat) = v ∧ Q v H5 else Same H H5 ∧ (∀ j e, j < i + 1 → ds[j]? = some e → moreI box (ds.take j) e = true) ∧ ∃ y2 y3, [some (V.ref b), some (V.ref l), some (.int (i : Nat)), some (.int (k : Nat))] = [some (V.ref b), some (V.ref l), y2, y3] := fun H5 s5 => by
          rw [← more]
          refine ite2 (fun e => ⟨_, rfl, q2 _ i _ (sm2.trans s5) fd hm ?_⟩) (fun e => ⟨sm2.trans s5, fun j e3 hj hje => ?_, _, _, rfl⟩)
          · rw [Bool.not_eq_true'] at e
            exact e
          · by_cases eji : j = i
            · rw [eji] at hje ⊢
              rw [fd] at hje
              cases hje
              cases em : moreI box (ds.take i) (.int (k : Nat)) with
              | true => rfl
              | false => rw [em] at e; exact absurd rfl e
            · exact hm j e3 (by omega) hje
        have left : ∀ (H4 : Hp) (l2 : Addr), Same (upd H1 t (HO.tup [V.int (i : Nat), V.int (k : Nat)])) H4 → OwnI.Cnt K H4 l2 (us.take i) → SqT K H4 b (boxV box) := fun H4 l2 s4 _ => sqt_same (sm2.trans s4) hb
        have cut := cut_to us i (Nat.le_of_lt hil)
        refine ⟨_, rfl, .ref b, rfl, .ref l, rfl, _, rfl, _, rfl, l, us, rfl, ?_⟩
        rcases hl.same sm2 with h | h
        · refine .inl ⟨h, fun p np => ?_⟩
          rw [cut]
          have sp := same_upd (o := .lst (us.take i)) np
          refine ⟨b, p, box, us.take i, rfl, sqt_same (sm2.trans sp) hb, h8, .inl (.inl (.inl upd_same)), c1, fun H5 D s5 eD => ?_⟩
          refine ⟨D, _, rfl, .inl (.inl (.inl eD)), rfl, leftV_flat _ _ _, _, rfl, ?_⟩
          have := fin H5 (sp.trans s5)
          refine ite2 (fun e => ?_) (fun e => ?_)
          · rw [if_pos (show (!inV (.int (k : Nat)) (leftV box (us.take i) 8)) = true from e)] at this
            obtain ⟨v, rfl, h⟩ := this
            exact ⟨_, rfl, h⟩
          · rw [if_neg (show ¬ (!inV (.int (k : Nat)) (leftV box (us.take i) 8)) = true from e)] at this
            exact this
        · refine .inr ⟨h, fun z => ?_, fun p o po np => ?_⟩
          · have e2 : HT.sIx us.length us.length (some (i : Int)) = i := by
              unfold HT.sIx
              simp only []
              split <;> omega
            rw [e2] at z
            omega
          rw [cut]
          have sp := same_upd (o := .frz o (.tup (us.take i))) np
          refine ⟨b, p, box, us.take i, rfl, sqt_same (sm2.trans sp) hb, h8, .inr ⟨o, upd_same, po⟩, c1, fun H5 D s5 eD => ?_⟩
          refine ⟨D, _, rfl, .inl (.inl (.inl eD)), rfl, leftV_flat _ _ _, _, rfl, ?_⟩
          have := fin H5 (sp.trans s5)
          refine ite2 (fun e => ?_) (fun e => ?_)
          · rw [if_pos (show (!inV (.int (k : Nat)) (leftV box (us.take i) 8)) = true from e)] at this
            obtain ⟨v, rfl, h⟩ := this
            exact ⟨_, rfl, h⟩
          · rw [if_neg (show ¬ (!inV (.int (k : Nat)) (leftV box (us.take i) 8)) = true from e)] at this
            exact this
    · rintro σ H1 ⟨sm, hm, y2, y3, rfl⟩
      exact q1 _ sm fun i d h => hm i d (by rw [lu]; exact (List.getElem?_eq_some_iff.mp h).1) h
--@@SPLIT
def spIsLot : Sp := fun vs H Q _ => ∃ i : Int, vs = [.int i] ∧ 0 ≤ i ∧ i ≤ 7 ∧ Q (.bl true) H
def spRefuse : Sp := fun vs H Q _ => ∃ i : Int, vs = [.int i] ∧ 0 ≤ i ∧ i ≤ 7 ∧ Q .non H
def spMirrors : Sp := fun vs H Q _ => ∃ i : Int, vs = [.int i] ∧ Q (.bl (decide (4 ≤ i))) H
def spTrue : Sp := fun vs H Q _ => ∃ (a : Fin 8) (l : Fin 4), vs = [.int a.val, .str (Lt l)] ∧ Q (.str (Lt (tr a l))) H
def spShown : Sp := fun vs H Q _ => ∃ (a : Fin 8) (l : Fin 4), vs = [.int a.val, .str (Lt l)] ∧ Q (.str (Lt (tr (un a) l))) H
def spUndone : Sp := fun vs H Q _ => ∃ (a : Fin 8), vs = [.int a.val] ∧ Q (.int (un a).val) H
def spBoth : Sp := fun vs H Q _ => ∃ (a b : Fin 8), vs = [.int a.val, .int b.val] ∧ Q (.int (bo a b).val) H
theorem f8 (a : Fin 8) : (0 : Int) ≤ a.val ∧ (a.val : Int) ≤ 7 := by omega
theorem ok_is_whole (T : Top w K mg) : FnOk P w K mg base CX0 1 T.a_is_whole T.fd_is_whole ["thing"] spWhole := by
  refine T.F_is_whole.ok sc_is_whole (fun vs H Q E h => ?_) (fun cdv A outer s H vs Q E hr h => ?_)
  · obtain ⟨i, rfl, _⟩ := h
    rfl
  · obtain ⟨i, rfl, q⟩ := h
    refine ⟨_, (pss_one (ps_ret (pe_and (pe_callB call_isi (by rfl) T.m_isinstance (by decide +kernel) (pa_cons (pv 0) (pa_cons (pe_bltn (v := .ty "int") (by rfl) T.m_int (by decide +kernel) rfl) pa_nil))) (pe_one (pe_not (pe_callB call_isi (by rfl) T.m_isinstance (by decide +kernel) (pa_cons (pv 0) (pa_cons (pe_bltn (v := .ty "bool") (by rfl) T.m_bool (by decide +kernel) rfl) pa_nil)))))))), ?_⟩
    refine ⟨.int i, rfl, _, _, _, _, true, rfl, .ty _, .base (.int i), kit_ty (by decide +kernel), _, rfl, iteT ?_⟩
    exact ⟨.int i, rfl, _, _, _, _, false, rfl, .ty _, .base (.int i), kit_ty (by decide +kernel), _, rfl, q⟩
theorem ok_is_lot (T : Top w K mg) : FnOk P w K mg base CX0 2 T.a_is_lot T.fd_is_lot ["thing"] spIsLot := by
  have G_is_whole := ok_is_whole (P := P) (w := w) (base := base) T
  refine T.F_is_lot.ok sc_is_lot (fun vs H Q E h => ?_) (fun cdv A outer s H vs Q E hr h => ?_)
  · obtain ⟨i, rfl, _⟩ := h
    rfl
  · obtain ⟨i, rfl, h0, h7, q⟩ := h
    refine ⟨_, (pss_one (ps_ret (pe_and (pe_call G_is_whole hr (by rfl) T.g_is_whole T.F_is_whole.kp T.b_is_whole .nil pass0 (pa_cons (pv 0) pa_nil)) (pe_one (pe_chain op_le op_le pe_int (pv 0) pe_int))))), ?_⟩
    refine ⟨.int i, rfl, i, rfl, _, rfl, iteT ?_⟩
    refine ⟨.int i, rfl, _, _, rfl, rfl, _, rfl, ite2 (fun e => ?_) (fun e => absurd (decide_eq_true h0) e)⟩
    refine ⟨_, _, rfl, rfl, ?_⟩
    show Q (.bl (decide (i ≤ 7))) H
    rw [decide_eq_true h7]
    exact q
theorem ok_refuse_unless_lot (T : Top w K mg) : FnOk P w K mg base CX0 3 T.a_refuse_unless_lot T.fd_refuse_unless_lot ["thing"] spRefuse := by
  have G_is_lot := ok_is_lot (P := P) (w := w) (base := base) T
  refine T.F_refuse_unless_lot.ok sc_refuse_unless_lot (fun vs H Q E h => ?_) (fun cdv A outer s H vs Q E hr h => ?_)
  · obtain ⟨i, rfl, _⟩ := h
    rfl
  · obtain ⟨i, rfl, h0, h7, q⟩ := h
    refine ⟨_, (pss_one (ps_if (pt_not (pt_val (pe_call G_is_lot hr (by rfl) T.g_is_lot T.F_is_lot.kp T.b_is_lot .nil pass0 (pa_cons (pv 0) pa_nil)))) (pss_one ps_never) pss_nil)), ?_⟩
    exact ⟨.int i, rfl, i, rfl, h0, h7, _, rfl, iteF q⟩
theorem ok_mirrors (T : Top w K mg) : FnOk P w K mg base CX0 1 T.a_mirrors T.fd_mirrors ["lot"] spMirrors := by
  refine T.F_mirrors.ok sc_mirrors (fun vs H Q E h => ?_) (fun cdv A outer s H vs Q E hr h => ?_)
  · obtain ⟨i, rfl, _⟩ := h
    rfl
  · obtain ⟨i, rfl, q⟩ := h
    exact ⟨_, (pss_one (ps_ret (pe_cmpR op_ge (pv 0) pe_int (nomark _)))), .int i, rfl, _, _, rfl, rfl, q⟩
theorem ok_true (T : Top w K mg) : FnOk P w K mg base CX0 4 T.a_true T.fd_true ["lot", "letter"] spTrue := by
  have G_refuse_unless_lot := ok_refuse_unless_lot (P := P) (w := w) (base := base) T
  have G_mirrors := ok_mirrors (P := P) (w := w) (base := base) T
  refine T.F_true.ok sc_true (fun vs H Q E h => ?_) (fun cdv A outer s H vs Q E hr h => ?_)
  · obtain ⟨a, l, rfl, _⟩ := h
    rfl
  · obtain ⟨a, l, rfl, q⟩ := h
    refine ⟨_, (pss_cons (ps_expr (pe_call G_refuse_unless_lot hr (by rfl) T.g_refuse_unless_lot T.F_refuse_unless_lot.kp T.b_refuse_unless_lot .nil pass0 (pa_cons (pv 0) pa_nil)))
      (pss_cons (ps_set (i := 2) sc_true.nd rfl (.inl rfl) (pe_bm PySem.F.plainAttrs_str PySem.F.slot_str_index PySem.F.type_str_index mt_sindex (pe_glob (v := .str "nesw") (by rfl) T.g_LETTERS.choose_spec ⟨_, rfl⟩) (pa_cons (pv 1) pa_nil)))
      (pss_cons (ps_if (pt_val (pe_call G_mirrors (hr.mono (by decide)) (by rfl) T.g_mirrors T.F_mirrors.kp T.b_mirrors .nil pass0 (pa_cons (pv 0) pa_nil))) (pss_one (ps_ret (pe_ix ix_str (pe_glob (v := .str "nesw") (by rfl) T.g_LETTERS.choose_spec ⟨_, rfl⟩) (pe_op op_mod (pe_op op_sub (pv 0) (pv 2)) pe_int) (fun _ _ => rfl)))) pss_nil)
      (pss_one (ps_ret (pe_ix ix_str (pe_glob (v := .str "nesw") (by rfl) T.g_LETTERS.choose_spec ⟨_, rfl⟩) (pe_op op_mod (pe_op op_add (pv 0) (pv 2)) pe_int) (fun _ _ => rfl))))))), ?_⟩
    refine ⟨.int a.val, rfl, a.val, rfl, (f8 a).1, (f8 a).2, ?_⟩
    refine ⟨rfl, _, rfl, _, _, l.val, [], rfl, rfl, occ l, ?_⟩
    refine ⟨.int a.val, rfl, a.val, rfl, _, rfl, ite2 (fun e => ?_) (fun e => ?_)⟩
    · have e1 : (4 : Int) ≤ a.val := of_decide_eq_true e
      exact ⟨.int a.val, rfl, _, rfl, _, _, rfl, rfl, _, _, rfl, rfl, by show (0 : Int) < 4; decide, _, _, _, rfl, rfl, nesw_len, at_mir a l e1, q⟩
    · have e1 : ¬ (4 : Int) ≤ a.val := fun z => e (decide_eq_true z)
      exact ⟨.int a.val, rfl, _, rfl, _, _, rfl, rfl, _, _, rfl, rfl, by show (0 : Int) < 4; decide, _, _, _, rfl, rfl, nesw_len, at_tur a l e1, q⟩
def spStep (K : PySem.W.Frag) : Sp := fun vs H Q _ => ∃ (l : Fin 4), vs = [.str (Lt l)] ∧ ∀ q, (∀ H', SqT K H' q [.int (dx l), .int (dy l)]) → Q (.ref q) H
theorem steps_at (T : Top w K mg) : ∀ l : Fin 4, ∃ q, KDct K w T.a_STEPS (Lt l) (.ref q) ∧ ∀ H, SqT K H q [.int (dx l), .int (dy l)]
  | 0 => by rw [← lt0]; exact T.v_STEPS_0
  | 1 => by rw [← lt1]; exact T.v_STEPS_1
  | 2 => by rw [← lt2]; exact T.v_STEPS_2
  | 3 => by rw [← lt3]; exact T.v_STEPS_3
theorem ok_step (T : Top w K mg) : FnOk P w K mg base CX0 1 T.a_step T.fd_step ["letter"] (spStep K) := by
  refine T.F_step.ok sc_step (fun vs H Q E h => ?_) (fun cdv A outer s H vs Q E hr h => ?_)
  · obtain ⟨l, rfl, _⟩ := h
    rfl
  · obtain ⟨l, rfl, q⟩ := h
    obtain ⟨r, hk, ht⟩ := steps_at T l
    exact ⟨_, (pss_one (ps_ret (pe_ix ix_kdict (pe_glob (v := .ref T.a_STEPS) (by rfl) T.g_STEPS rfl) (pv 0) (fun _ _ => rfl)))), .str (Lt l), rfl, _, _, _, rfl, rfl, hk, q r ht⟩
def lotV (a : Fin 8) : V := .int (a.val : Nat)
/-! ### the program's track -/
def spRefL (K : PySem.W.Frag) : Sp := fun vs H Q _ => ∃ (e l : Addr) (xs : List V) (es : List Ent) (lots : List (Fin 8)), vs = [.ref e, .ref l] ∧ SqA K H e xs ∧ Rows K H xs es ∧ SqA K H l (lots.map lotV) ∧ lots.length = 1 + swaps es ∧ es.length ≤ 200 ∧ ∀ H', Same H H' → Q .non H'
theorem lot_at {lots : List (Fin 8)} {i : Nat} {v : V} (h : (lots.map lotV)[i]? = some v) : ∃ a, lots[i]? = some a ∧ v = lotV a := by
  rw [List.getElem?_map] at h
  cases e : lots[i]? with
  | none => rw [e] at h; cases h
  | some a => rw [e] at h; exact ⟨a, rfl, (Option.some.inj h).symm⟩
theorem ok_refuse_unless_lots (T : Top w K mg) : FnOk P w K mg base CX0 3 T.a_refuse_unless_lots T.fd_refuse_unless_lots ["log", "lots"] (spRefL K) := by
  have G_legs_in := ok_legs_in (P := P) (w := w) (base := base) T
  have G_is_lot := ok_is_lot (P := P) (w := w) (base := base) T
  refine T.F_refuse_unless_lots.ok sc_refuse_unless_lots (fun vs H Q E h => ?_) (fun cdv A outer s H vs Q E hr h => ?_)
  · obtain ⟨e, l, xs, es, lots, rfl, _⟩ := h
    rfl
  · obtain ⟨e, l, xs, es, lots, rfl, hs, ha, hl, hn, hlen, q⟩ := h
    refine ⟨_, (pss_cons (ps_set (i := 2) sc_refuse_unless_lots.nd rfl (.inl rfl) (pe_call G_legs_in (hr.mono (by decide)) (by rfl) T.g_legs_in T.F_legs_in.kp T.b_legs_in .nil pass0 (pa_cons (pv 0) pa_nil)))
      (pss_cons (ps_if (pt_cmpR op_ne (pe_callB call_len_seq (by rfl) T.m_len (by decide +kernel) (pa_cons (pv 1) pa_nil)) (pv 2) (nomark _)) (pss_one ps_never) pss_nil)
      (pss_one (ps_for PassesOwn.never rfl (SeqW.pi_enumA (by rfl) T.m_enumerate (pa_cons (pv 1) pa_nil)) (pg_tup rfl (pgs_cons (pg_name (i := 3) sc_refuse_unless_lots.nd rfl (.inl rfl)) (pgs_cons (pg_name (i := 4) sc_refuse_unless_lots.nd rfl (.inl rfl)) pgs_nil))) (pss_one (ps_if (pt_not (pt_val (pe_call G_is_lot hr (by rfl) T.g_is_lot T.F_is_lot.kp T.b_is_lot .nil pass0 (pa_cons (pv 4) pa_nil)))) (pss_one ps_never) pss_nil)))))), ?_⟩
    refine ⟨.ref e, rfl, e, xs, es, rfl, hs, ha, hlen, fun H1 s1 => ?_⟩
    refine ⟨.ref l, rfl, l, _, rfl, hl.same s1, _, rfl, rfl, _, rfl, iteN (by rw [List.length_map, hn]; show V.int ((1 + swaps es : Nat) : Int) = .int (1 + (swaps es : Int)); congr 1) ?_⟩
    refine ⟨.ref l, rfl, l, _, rfl, (fun H' => Same H H'), kpA hl, s1, fun J G wk hG => for_it wk (fun i σ H' => Same H1 H' ∧ ∃ y3 y4, σ = [some (.ref e), some (.ref l), some (.int (1 + (swaps es : Int))), y3, y4]) ⟨Same.refl _, none, none, rfl⟩ (fun i σ H' _ h => hG _ (s1.trans h.1)) ?_ ?_⟩
    · rintro i v σ H2 H3 hi ⟨sm, y3, y4, rfl⟩ ⟨t, u1, u2, rfl, nt, rfl, e1, e2⟩
      cases e1
      obtain ⟨a, _, rfl⟩ := lot_at e2
      refine ⟨t, _, rfl, .inl (.inl upd_same), rfl, _, _, rfl, _, _, rfl, rfl, ?_⟩
      exact ⟨_, rfl, _, rfl, (f8 a).1, (f8 a).2, _, rfl, iteF ⟨sm.trans (same_upd nt), _, _, rfl⟩⟩
    · rintro σ H2 ⟨sm, y3, y4, rfl⟩
      exact q _ (s1.trans sm)
def spLook (K : PySem.W.Frag) : Sp := fun vs H Q _ => ∃ (v : V) (e : Ent) (a : Fin 8) (look : Option (Fin 4)), vs = [v, lotV a, .str (lk look)] ∧ EntAt K H v e ∧ (e.need = true → look.isSome = true) ∧ Q (.str (lk (nlook a look e))) H
theorem at_turn : ∀ (l : Fin 4) (q : Fin 3), atI nesw.cps.toList (((l.val : Int) + ((tq q).val : Int)) % 4) = some (cd (l + tq q)) := by decide +kernel
theorem turnQ (T : Top w K mg) : ∀ (q : Fin 3), KDct K w T.a_QUARTERS (ws (Ent.kind (.turn q))) (.int ((tq q).val : Int))
  | 0 => T.v_QUARTERS_2
  | 1 => T.v_QUARTERS_0
  | 2 => T.v_QUARTERS_1
def Ent.isTurn : Ent → Bool
  | .turn _ => true
  | _ => false
theorem inQ (e : Ent) : (([PySem.Str.ofString "right", PySem.Str.ofString "back", PySem.Str.ofString "left"] : List Str).any fun s => s == ws e.kind) = e.isTurn := by
  have h : ∀ k : Fin 10, (([PySem.Str.ofString "right", PySem.Str.ofString "back", PySem.Str.ofString "left"] : List Str).any fun s => s == ws k) = decide (k = 1 ∨ k = 2 ∨ k = 3) := by decide +kernel
  rw [h]
  cases e with
  | turn q => match q with
    | 0 => rfl
    | 1 => rfl
    | 2 => rfl
  | _ => rfl
theorem isf (e : Ent) : decide (V.str (ws e.kind) = V.str (PySem.Str.ofString "face")) = e.isFace := (wsd e.kind 0).trans e.face_iff.symm
theorem ok_look_behind (T : Top w K mg) : FnOk P w K mg base CX0 5 T.a_look_behind T.fd_look_behind ["entry", "lot", "look"] (spLook K) := by
  have G_true := ok_true (P := P) (w := w) (base := base) T
  refine T.F_look_behind.ok sc_look_behind (fun vs H Q E h => ?_) (fun cdv A outer s H vs Q E hr h => ?_)
  · obtain ⟨v, e, a, look, rfl, _⟩ := h
    rfl
  · obtain ⟨v, e, a, look, rfl, ⟨p, us, rfl, hq, hu⟩, hn, q⟩ := h
    refine ⟨_, (pss_cons (ps_set (i := 3) sc_look_behind.nd rfl (.inl rfl) (pe_ix (r := rIx K) (SeqW.ix_seqK rfl) (pv 0) pe_int (fun _ _ => rfl)))
      (pss_cons (ps_if (pt_cmpR op_eq (pv 3) pe_str (nomark _)) (pss_one (ps_ret (pe_call G_true hr (by rfl) T.g_true T.F_true.kp T.b_true .nil pass0 (pa_cons (pv 1) (pa_cons (pe_ix (r := rIx K) (SeqW.ix_seqK rfl) (pv 0) pe_int (fun _ _ => rfl)) pa_nil))))) pss_nil)
      (pss_cons (ps_if (pt_cmpR (op_in_kd T.kd_QUARTERS) (pv 3) (pe_glob (v := .ref T.a_QUARTERS) (by rfl) T.g_QUARTERS rfl) (by rfl)) (pss_one (ps_ret (pe_ix ix_str (pe_glob (v := .str "nesw") (by rfl) T.g_LETTERS.choose_spec ⟨_, rfl⟩) (pe_op op_mod (pe_op op_add (pe_bm PySem.F.plainAttrs_str PySem.F.slot_str_index PySem.F.type_str_index mt_sindex (pe_glob (v := .str "nesw") (by rfl) T.g_LETTERS.choose_spec ⟨_, rfl⟩) (pa_cons (pv 2) pa_nil)) (pe_ix ix_kdict (pe_glob (v := .ref T.a_QUARTERS) (by rfl) T.g_QUARTERS rfl) (pv 3) (fun _ _ => rfl))) pe_int) (fun _ _ => rfl)))) pss_nil)
      (pss_one (ps_ret (pv 2)))))), ?_⟩
    refine ⟨.ref p, rfl, ixA (j := 0) hq rfl ⟨_, rfl, rfl, _, rfl, ?_⟩⟩
    rw [isf]
    obtain ⟨r, h1, h2⟩ := T.ns_QUARTERS (ws e.kind)
    rw [inQ] at h2
    cases e with
    | face l =>
      cases hu with
      | cons h3 h4 =>
        cases h3
        cases h4
        exact iteT ⟨_, rfl, .ref p, rfl, ixA (j := 1) hq rfl ⟨a, l, rfl, q⟩⟩
    | turn k =>
      cases look with
      | none => cases hn rfl
      | some l =>
        refine iteF ⟨_, rfl, _, r, rfl, rfl, h1, _, rfl, ?_⟩
        rw [h2]
        exact iteT ⟨rfl, _, rfl, _, _, l.val, [], rfl, rfl, occ l, _, rfl, _, _, _, rfl, rfl, turnQ T k, _, _, rfl, rfl, _, _, rfl, rfl, by show (0 : Int) < 4; decide, _, _, _, rfl, rfl, nesw_len, at_turn l k, q⟩
    | _ =>
      refine iteF ⟨_, rfl, _, r, rfl, rfl, h1, _, rfl, ?_⟩
      rw [h2]
      exact iteF ⟨_, rfl, q⟩
def spGone (K : PySem.W.Frag) : Sp := fun vs H Q _ => ∃ (p : Addr) (e n m : Int) (l : Fin 4), vs = [.ref p, .str (Lt l), .int m] ∧ SqT K H p [.int e, .int n] ∧ ∀ q, H q = none → Q (.ref q) (upd H q (.tup [.int (e + m * dx l), .int (n + m * dy l)]))
theorem ok_gone (T : Top w K mg) : FnOk P w K mg base CX0 2 T.a_gone T.fd_gone ["place", "letter", "many"] (spGone K) := by
  have G_step := ok_step (P := P) (w := w) (base := base) T
  refine T.F_gone.ok sc_gone (fun vs H Q E h => ?_) (fun cdv A outer s H vs Q E hr h => ?_)
  · obtain ⟨p, e, n, m, l, rfl, _⟩ := h
    rfl
  · obtain ⟨p, e, n, m, l, rfl, hp, q⟩ := h
    refine ⟨_, (pss_cons (ps_asg (pe_call G_step hr (by rfl) T.g_step T.F_step.kp T.b_step .nil pass0 (pa_cons (pv 1) pa_nil)) (pg_tup rfl (pgs_cons (pg_name (i := 3) sc_gone.nd rfl (.inl rfl)) (pgs_cons (pg_name (i := 4) sc_gone.nd rfl (.inl rfl)) pgs_nil))))
      (pss_one (ps_ret (pe_tup (pa_cons (pe_op op_add (pe_ix ix_tup (pv 0) pe_int (fun _ _ => rfl)) (pe_op op_mul (pv 2) (pv 3))) (pa_cons (pe_op op_add (pe_ix ix_tup (pv 0) pe_int (fun _ _ => rfl)) (pe_op op_mul (pv 2) (pv 4))) pa_nil)))))), ?_⟩
    refine ⟨.str (Lt l), rfl, l, rfl, fun q0 hq => ⟨q0, _, rfl, hq _, rfl, _, _, rfl, _, _, rfl, rfl, ?_⟩⟩
    refine ⟨.ref p, rfl, p, _, 0, .int e, rfl, rfl, hp, rfl, .int m, rfl, _, rfl, m, dx l, rfl, rfl, .inr (dxb l), _, _, rfl, rfl, ?_⟩
    exact ⟨.ref p, rfl, p, _, 1, .int n, rfl, rfl, hp, rfl, .int m, rfl, _, rfl, m, dy l, rfl, rfl, .inr (dyb l), _, _, rfl, rfl, by show 2 ≤ sizeLine; decide, fun r nr => q r nr⟩
--@@SPLIT
def spTrack (K : PySem.W.Frag) : Sp := fun vs H Q _ => ∃ (e l : Addr) (xs : List V) (es : List Ent) (lots : List (Fin 8)), vs = [.ref e, .ref l] ∧ SqA K H e xs ∧ Rows K H xs es ∧ SqA K H l (lots.map lotV) ∧ lots.length = 1 + swaps es ∧ es.length ≤ 200 ∧ Right es ∧ ∀ H' r, Same H H' → Dp K H' (.ref r) (trackD lots es) → Q (.ref r) H'
theorem go_of_kind {e : Ent} (h : e.kind = 4) : ∃ n, e = .go n := by
  cases e with
  | go n => exact ⟨n, rfl⟩
  | turn q => exact absurd h (by match q with | 0 => decide | 1 => decide | 2 => decide)
  | _ => cases h
theorem one_int {K : PySem.W.Frag} {H : Hp} {us : List V} {i : Int} (h : DpAll K H us [.int i]) : ∃ v1, us = [v1] ∧ v1 = V.int i := by
  cases h with
  | cons h1 h2 =>
    cases h1
    cases h2
    exact ⟨_, rfl, rfl⟩
theorem isg (e : Ent) : decide (V.str (ws e.kind) = V.str (PySem.Str.ofString "go")) = decide (e.kind = 4) := wsd e.kind 4
theorem ok_track (T : Top w K mg) : FnOk P w K mg base CX0 6 T.a_track T.fd_track ["log", "lots"] (spTrack K) := by
  have G_refuse_unless_lots := ok_refuse_unless_lots (P := P) (w := w) (base := base) T
  have G_look_behind := ok_look_behind (P := P) (w := w) (base := base) T
  have G_gone := ok_gone (P := P) (w := w) (base := base) T
  obtain ⟨q0, hS, hS0⟩ := T.v_START
  refine T.F_track.ok sc_track (fun vs H Q E h => ?_) (fun cdv A outer s H vs Q E hr h => ?_)
  · obtain ⟨e, l, xs, es, lots, rfl, _⟩ := h
    rfl
  · obtain ⟨e, l, xs, es, lots, rfl, hs, ha, hl, hn, hlen, hR, q⟩ := h
    have lx := ha.len
    refine ⟨_, (pss_cons (ps_expr (pe_call G_refuse_unless_lots (hr.mono (by decide)) (by rfl) T.g_refuse_unless_lots T.F_refuse_unless_lots.kp T.b_refuse_unless_lots .nil pass0 (pa_cons (pv 0) (pa_cons (pv 1) pa_nil))))
      (pss_cons (ps_asg (pe_glob (v := .ref T.a_START) (by rfl) T.g_START rfl) (pg_tup rfl (pgs_cons (pg_name (i := 2) sc_track.nd rfl (.inl rfl)) (pgs_cons (pg_name (i := 3) sc_track.nd rfl (.inl rfl)) pgs_nil))))
      (pss_cons (ps_set (i := 4) sc_track.nd rfl (.inl rfl) pe_int)
      (pss_cons (ps_set (i := 5) sc_track.nd rfl (.inl rfl) (pe_lst pa_nil))
      (pss_cons (ps_for PassesOwn.never rfl (SeqW.pi_seq (pv 0)) (pg_name (i := 6) sc_track.nd rfl (.inl rfl)) (Evl.pss_cut (ps_if (pt_cmpR op_eq (pe_ix (r := rIx K) (SeqW.ix_seqK rfl) (pv 6) pe_int (fun _ _ => rfl)) pe_str (nomark _)) (pss_one (ps_aug (i := 4) sc_track.nd rfl (.inl rfl) pe_int ip_add)) pss_nil)
      (pss_cons (ps_set (i := 3) sc_track.nd rfl (.inl rfl) (pe_call G_look_behind hr (by rfl) T.g_look_behind T.F_look_behind.kp T.b_look_behind .nil pass0 (pa_cons (pv 6) (pa_cons (pe_ix (r := rIx K) (SeqW.ix_seqK rfl) (pv 1) (pv 4) (fun _ _ => rfl)) (pa_cons (pv 3) pa_nil)))))
      (pss_cons (ps_if (pt_cmpR op_eq (pe_ix (r := rIx K) (SeqW.ix_seqK rfl) (pv 6) pe_int (fun _ _ => rfl)) pe_str (nomark _)) (pss_one (ps_set (i := 2) sc_track.nd rfl (.inl rfl) (pe_call G_gone (hr.mono (by decide)) (by rfl) T.g_gone T.F_gone.kp T.b_gone .nil pass0 (pa_cons (pv 2) (pa_cons (pv 3) (pa_cons (pe_ix (r := rIx K) (SeqW.ix_seqK rfl) (pv 6) pe_int (fun _ _ => rfl)) pa_nil)))))) pss_nil)
      (pss_one (ps_expr (pe_bm PySem.F.plainAttrs_list PySem.F.slot_list_append PySem.F.type_list_append mt_append (pv 5) (pa_cons (pe_tup (pa_cons (pv 2) (pa_cons (pv 3) pa_nil))) pa_nil))))))))
      (pss_one (ps_ret (pe_callTy call_tuple_of (by rfl) T.m_tuple (by decide +kernel) (pa_cons (pv 5) pa_nil))))))))), ?_⟩
    refine ⟨.ref e, rfl, .ref l, rfl, e, l, xs, es, lots, rfl, hs, ha, hl, hn, hlen, fun H1 s1 => ?_⟩
    refine ⟨T.a_START, _, rfl, hS _, rfl, _, _, rfl, _, _, rfl, rfl, ?_⟩
    refine ⟨Nat.zero_le _, fun S nS => ?_⟩
    have s2 := s1.trans (same_upd (o := .lst []) nS)
    have nS0 : H S = none := s1.free nS
    refine ⟨.ref e, rfl, e, xs, rfl, (fun H' => Same H H'), kpA hs, s2, fun J G wk hG => for_it wk (fun i σ H' => Same H H' ∧ ∃ pl ys y6, σ = [some (.ref e), some (.ref l), some (.ref pl), some (.str (lk (wat lots es i).look)), some (.int ((wat lots es i).leg : Nat)), some (.ref S), y6] ∧ SqT K (wo H' (fun b => b = S)) pl [.int (wat lots es i).x, .int (wat lots es i).y] ∧ H' S = some (.lst ys) ∧ DpAll K (wo H' (fun b => b = S)) ys (trackL lots es i))
      ⟨s2, q0, [], none, by rw [wat_zero]; rfl, by rw [wat_zero]; exact hS0 _, upd_same, .nil⟩ (fun i σ H' _ h => hG _ h.1) ?_ ?_⟩
    · rintro i v σ H2 H3 hi ⟨sm, pl, ys, y6, rfl, hpl, eS, hy⟩ ⟨rfl, hx⟩
      obtain ⟨en, fe, hen⟩ := (ha.same sm).at_ hx
      have hen0 := hen
      obtain ⟨a, us, rfl, hq, hu⟩ := hen
      have hw := wat_succ (lots := lots) fe
      have il : i < es.length := (List.getElem?_eq_some_iff.mp fe).1
      refine ⟨fun σ' H' => H3 = H' ∧ σ' = [some (.ref e), some (.ref l), some (.ref pl), some (.str (lk (wat lots es i).look)), some (.int ((wat lots es (i + 1)).leg : Nat)), some (.ref S), some (.ref a)], ?_, ?_⟩
      · refine ⟨.ref a, rfl, ixA (j := 0) hq rfl ⟨rfl, _, rfl, ?_⟩⟩
        rw [isw]
        have e1 : (wat lots es (i + 1)).leg = nleg (wat lots es i).leg en := by rw [hw]; rfl
        rw [e1]
        unfold nleg
        cases en.isSwap with
        | true => exact iteT ⟨_, rfl, _, _, rfl, rfl, rfl, rfl⟩
        | false => exact iteF ⟨rfl, rfl⟩
      rintro σ' H4 ⟨rfl, rfl⟩
      have lg : (wat lots es (i + 1)).leg < lots.length := by
        have h1 := wat_leg lots es (i + 1)
        have h2 := swaps_take es (i + 1)
        omega
      obtain ⟨lot, flot⟩ : ∃ lot, lots[(wat lots es (i + 1)).leg]? = some lot := ⟨_, List.getElem?_eq_getElem lg⟩
      have fl2 : (lots.map lotV)[(wat lots es (i + 1)).leg]? = some (lotV lot) := by rw [List.getElem?_map, flot]; rfl
      have e2 : (wat lots es (i + 1)).look = nlook lot (wat lots es i).look en := by
        have : lots.getD (wat lots es (i + 1)).leg 0 = lot := by rw [List.getD_eq_getElem?_getD, flot]; rfl
        rw [hw] at this ⊢
        show nlook (lots.getD (nleg (wat lots es i).leg en) 0) _ en = _
        rw [show lots.getD (nleg (wat lots es i).leg en) 0 = lot from this]
      have nl : en.need = true → (wat lots es i).look.isSome = true := fun h => by
        rw [wat_look]
        exact hR i en fe h
      refine ⟨.ref a, rfl, .ref l, rfl, _, rfl, ixA (hl.same sm) fl2 ⟨_, rfl, .ref a, en, lot, (wat lots es i).look, rfl, hen0, nl, ?_⟩⟩
      rw [← e2]
      refine ⟨.ref a, rfl, ixA (j := 0) hq rfl ⟨rfl, _, rfl, ?_⟩⟩
      rw [isg]
      have put : ∀ (H5 : Hp) (pl' : Addr), Same H3 H5 → SqT K (wo H5 (fun b => b = S)) pl' [.int (wat lots es (i + 1)).x, .int (wat lots es (i + 1)).y] → ∀ t, H5 t = none → ∃ l' b ys', V.ref S = .ref l' ∧ [V.ref t] = [b] ∧ upd H5 t (.tup [.ref pl', .str (lk (wat lots es (i + 1)).look)]) l' = some (.lst ys') ∧ ys'.length < sizeLine ∧ Same H (upd (upd H5 t (.tup [.ref pl', .str (lk (wat lots es (i + 1)).look)])) l' (.lst (ys' ++ [b]))) ∧ SqT K (wo (upd (upd H5 t (.tup [.ref pl', .str (lk (wat lots es (i + 1)).look)])) l' (.lst (ys' ++ [b]))) (fun b => b = S)) pl' [.int (wat lots es (i + 1)).x, .int (wat lots es (i + 1)).y] ∧ (∃ zs, (upd (upd H5 t (.tup [.ref pl', .str (lk (wat lots es (i + 1)).look)])) l' (.lst (ys' ++ [b]))) S = some (.lst zs) ∧ DpAll K (wo (upd (upd H5 t (.tup [.ref pl', .str (lk (wat lots es (i + 1)).look)])) l' (.lst (ys' ++ [b]))) (fun b => b = S)) zs (trackL lots es (i + 1))) := fun H5 pl' s5 hpl' t nt => by
        have st := same_upd (o := .tup [.ref pl', .str (lk (wat lots es (i + 1)).look)]) nt
        have eS5 := s5 _ _ eS
        have tS : t ≠ S := Ne.symm (ne_of_none eS5 nt)
        have m5 : Same (wo H3 (fun b => b = S)) (wo H5 (fun b => b = S)) := fun c o h => by
          have h2 := wo_some h
          rw [wo_in (X := fun b => b = S) h2.1]
          exact s5 _ _ h2.2
        have m6 : Same (wo H5 (fun b => b = S)) (wo (upd H5 t (.tup [.ref pl', .str (lk (wat lots es (i + 1)).look)])) (fun b => b = S)) := fun c o h => by
          have h2 := wo_some h
          rw [wo_in (X := fun b => b = S) h2.1]
          exact st _ _ h2.2
        have m7 : Same (wo (upd H5 t (.tup [.ref pl', .str (lk (wat lots es (i + 1)).look)])) (fun b => b = S)) (wo (upd (upd H5 t (.tup [.ref pl', .str (lk (wat lots es (i + 1)).look)])) S (.lst (ys ++ [.ref t]))) (fun b => b = S)) := wo_mut rfl
        have ly := dpa_len2 hy
        have lt : (trackL lots es i).length = i := by unfold trackL; rw [List.length_map, List.length_range]
        refine ⟨S, .ref t, ys, rfl, rfl, st _ _ eS5, small1000 (by omega), fun c o h => ?_, sqt_same (m6.trans m7) hpl', ys ++ [.ref t], upd_same, ?_⟩
        · rw [upd_ne (ne_of_none h nS0)]
          exact st _ _ (s5 _ _ (sm _ _ h))
        · rw [trackL_succ]
          refine dpa_snoc (.tup (.inl (.inl ?_)) (.cons (.tup (sqt_same (m6.trans m7) hpl') (.cons (.int _) (.cons (.int _) .nil))) (.cons (.str _) .nil))) _ _ (dpa_same (m5.trans (m6.trans m7)) _ _ hy)
          rw [wo_in (X := fun b => b = S) tS, upd_ne tS]
          exact upd_same
      by_cases hg : en.kind = 4
      · obtain ⟨n, rfl⟩ := go_of_kind hg
        obtain ⟨v1, rfl, hv1⟩ : ∃ v1, us = [v1] ∧ v1 = V.int ((n.val : Int) + 1) := one_int hu
        subst hv1
        obtain ⟨lt, elk⟩ : ∃ lt, (wat lots es i).look = some lt := Option.isSome_iff_exists.mp (nl rfl)
        have e3 : (wat lots es (i + 1)).look = some lt := by rw [e2, elk]; rfl
        refine iteDY (decide_eq_true rfl) ⟨_, rfl, _, rfl, .ref a, rfl, ixA (j := 1) hq rfl ⟨pl, (wat lots es i).x, (wat lots es i).y, (n.val : Int) + 1, lt, by rw [e3]; rfl, sqt_same wo_same hpl, fun p2 np2 => ?_⟩⟩
        have sp := same_upd (o := .tup [.int ((wat lots es i).x + ((n.val : Int) + 1) * dx lt), .int ((wat lots es i).y + ((n.val : Int) + 1) * dy lt)]) np2
        have ex : (wat lots es (i + 1)).x = (wat lots es i).x + ((n.val : Int) + 1) * dx lt := by
          rw [hw]
          show nx _ (wat lots es i).look (.go n) = _
          rw [elk]
          rfl
        have ey : (wat lots es (i + 1)).y = (wat lots es i).y + ((n.val : Int) + 1) * dy lt := by
          rw [hw]
          show ny _ (wat lots es i).look (.go n) = _
          rw [elk]
          rfl
        refine ⟨.ref S, rfl, .inl ⟨rfl, _, .inl (.inl (sp _ _ eS))⟩, _, rfl, _, rfl, by show 2 ≤ sizeLine; decide, fun t nt => ?_⟩
        have pS : p2 ≠ S := Ne.symm (ne_of_none eS np2)
        obtain ⟨l', b, ys', h1, h2, h3, h4, h5, h6, zs, h7, h8⟩ := put _ p2 sp (by rw [ex, ey]; exact .inl (.inl (by rw [wo_in (X := fun b => b = S) pS]; exact upd_same))) t nt
        exact ⟨l', ys', b, h1, h2, h3, h4, h5, p2, zs, _, rfl, h6, h7, h8⟩
      · have ex : (wat lots es (i + 1)).x = (wat lots es i).x := by
          rw [hw]
          cases en with
          | go n => exact absurd rfl hg
          | _ => rfl
        have ey : (wat lots es (i + 1)).y = (wat lots es i).y := by
          rw [hw]
          cases en with
          | go n => exact absurd rfl hg
          | _ => rfl
        refine iteDN (decide_eq_false hg) ⟨.ref S, rfl, .inl ⟨rfl, _, .inl (.inl eS)⟩, _, rfl, _, rfl, by show 2 ≤ sizeLine; decide, fun t nt => ?_⟩
        obtain ⟨l', b, ys', h1, h2, h3, h4, h5, h6, zs, h7, h8⟩ := put _ pl (Same.refl _) (by rw [ex, ey]; exact hpl) t nt
        exact ⟨l', ys', b, h1, h2, h3, h4, h5, pl, zs, _, rfl, h6, h7, h8⟩
    · rintro σ H2 ⟨sm, pl, ys, y6, rfl, hpl, eS, hy⟩
      refine ⟨.ref S, rfl, S, ys, rfl, .inl ⟨.inl (.inl eS), fun r nr => ?_⟩⟩
      have sr := same_upd (o := .tup ys) nr
      refine q _ r (sm.trans sr) (.tup (.inl (.inl upd_same)) ?_)
      rw [lx] at hy
      exact dpa_same (wo_same.trans sr) _ _ hy
--@@SPLIT
/-! ### facts -/
def wx (x : Int) : Fin 4 → Int
  | 3 => x - 1
  | _ => x
def wy (y : Int) : Fin 4 → Int
  | 2 => y - 1
  | _ => y
def wside : Fin 4 → Fin 4
  | 0 => 0
  | 1 => 1
  | 2 => 0
  | 3 => 1
def factD (i : Nat) (word : Str) (x y : Int) (what : Str) : PyData := .tuple [.int (i : Nat), .str word, .tuple [.int x, .int y], .str what]
def wayD (i : Nat) (word : Str) (x y : Int) (l : Fin 4) : PyData := factD i word (wx x l) (wy y l) (Lt (wside l))
def openL (i : Nat) (x y : Int) (l : Fin 4) (n : Nat) : List PyData := (List.range n).map fun k : Nat => wayD i "open" (x + (k : Int) * dx l) (y + (k : Int) * dy l) l
theorem openL_succ (i : Nat) (x y : Int) (l : Fin 4) (n : Nat) : openL i x y l (n + 1) = openL i x y l n ++ [wayD i "open" (x + (n : Int) * dx l) (y + (n : Int) * dy l) l] := by
  unfold openL
  rw [List.range_succ, List.map_append]
  rfl
def factsOf (i : Nat) (p : Wk) : Ent → List PyData
  | .sign z => [factD i "sign" p.x p.y z]
  | .bare => [factD i "bare" p.x p.y ""]
  | .spy n z => match p.look with
    | some l => [factD i "sign" (p.x + ((n.val : Int) + 1) * dx l) (p.y + ((n.val : Int) + 1) * dy l) z]
    | none => []
  | .go n => match p.look with
    | some l => openL i p.x p.y l (n.val + 1)
    | none => []
  | .bump => match p.look with
    | some l => [wayD i "shut" p.x p.y l]
    | none => []
  | _ => []
theorem factsOf_len (i : Nat) (p : Wk) (e : Ent) : (factsOf i p e).length ≤ 9 := by
  cases e with
  | go n =>
    unfold factsOf
    cases p.look with
    | none => exact Nat.zero_le _
    | some l =>
      show (openL i p.x p.y l (n.val + 1)).length ≤ 9
      unfold openL
      rw [List.length_map, List.length_range]
      omega
  | spy n z => unfold factsOf; cases p.look <;> simp
  | bump => unfold factsOf; cases p.look <;> simp
  | _ => unfold factsOf; simp
def factsAt (lots : List (Fin 8)) (es : List Ent) (i : Nat) : List PyData := match es[i]? with
  | some e => factsOf i (wat lots es i) e
  | none => []
theorem factsAt_eq {lots : List (Fin 8)} {es : List Ent} {i : Nat} {e : Ent} (h : es[i]? = some e) : factsAt lots es i = factsOf i (wat lots es i) e := by
  unfold factsAt
  rw [h]
def factsL (lots : List (Fin 8)) (es : List Ent) : Nat → List PyData
  | 0 => []
  | n + 1 => factsL lots es n ++ factsAt lots es n
theorem factsL_len (lots : List (Fin 8)) (es : List Ent) : ∀ n, (factsL lots es n).length ≤ 9 * n
  | 0 => Nat.le_refl _
  | n + 1 => by
    have h1 := factsL_len lots es n
    have h2 : (factsAt lots es n).length ≤ 9 := by
      unfold factsAt
      cases es[n]? with
      | none => exact Nat.zero_le _
      | some e => exact factsOf_len _ _ _
    show (factsL lots es n ++ factsAt lots es n).length ≤ _
    rw [List.length_append]
    omega
def factsD (lots : List (Fin 8)) (es : List Ent) : PyData := .tuple (factsL lots es es.length)
theorem sign_of_kind {e : Ent} (h : e.kind = 6) : ∃ z, e = .sign z := by
  cases e with
  | sign z => exact ⟨z, rfl⟩
  | turn q => exact absurd h (by match q with | 0 => decide | 1 => decide | 2 => decide)
  | _ => cases h
theorem spy_of_kind {e : Ent} (h : e.kind = 8) : ∃ n z, e = .spy n z := by
  cases e with
  | spy n z => exact ⟨n, z, rfl⟩
  | turn q => exact absurd h (by match q with | 0 => decide | 1 => decide | 2 => decide)
  | _ => cases h
theorem bare_of_kind {e : Ent} (h : e.kind = 7) : e = .bare := by
  cases e with
  | bare => rfl
  | turn q => exact absurd h (by match q with | 0 => decide | 1 => decide | 2 => decide)
  | _ => cases h
theorem bump_of_kind {e : Ent} (h : e.kind = 5) : e = .bump := by
  cases e with
  | bump => rfl
  | turn q => exact absurd h (by match q with | 0 => decide | 1 => decide | 2 => decide)
  | _ => cases h
/-! ### the program's facts -/
def spWay (K : PySem.W.Frag) : Sp := fun vs H Q _ => ∃ (p : Addr) (x y : Int) (l : Fin 4), vs = [.ref p, .str (Lt l)] ∧ SqT K H p [.int x, .int y] ∧ ∀ t, H t = none → Q (.ref t) (upd H t (.tup [.int (wx x l), .int (wy y l), .str (Lt (wside l))]))
theorem ok_way_of (T : Top w K mg) : FnOk P w K mg base CX0 1 T.a_way_of T.fd_way_of ["place", "letter"] (spWay K) := by
  refine T.F_way_of.ok sc_way_of (fun vs H Q E h => ?_) (fun cdv A outer s H vs Q E hr h => ?_)
  · obtain ⟨p, x, y, l, rfl, _⟩ := h
    rfl
  · obtain ⟨p, x, y, l, rfl, hp, q⟩ := h
    refine ⟨_, (pss_cons (ps_asg (pv 0) (pg_tup rfl (pgs_cons (pg_name (i := 2) sc_way_of.nd rfl (.inl rfl)) (pgs_cons (pg_name (i := 3) sc_way_of.nd rfl (.inl rfl)) pgs_nil))))
      (pss_cons (ps_if (pt_cmpR op_eq (pv 1) pe_str (nomark _)) (pss_one (ps_ret (pe_tup (pa_cons (pv 2) (pa_cons (pe_op op_sub (pv 3) pe_int) (pa_cons pe_str pa_nil)))))) pss_nil)
      (pss_cons (ps_if (pt_cmpR op_eq (pv 1) pe_str (nomark _)) (pss_one (ps_ret (pe_tup (pa_cons (pe_op op_sub (pv 2) pe_int) (pa_cons (pv 3) (pa_cons pe_str pa_nil)))))) pss_nil)
      (pss_one (ps_ret (pe_tup (pa_cons (pv 2) (pa_cons (pv 3) (pa_cons (pv 1) pa_nil))))))))), ?_⟩
    refine ⟨_, rfl, p, _, rfl, hp, rfl, _, _, rfl, _, _, rfl, rfl, ?_⟩
    refine ⟨_, rfl, rfl, _, rfl, ?_⟩
    rw [show decide (V.str (Lt l) = V.str (PySem.Str.ofString "s")) = decide (l = 2) by rw [lt2]; exact ltd l 2]
    match l, q with
    | 2, q => exact iteT ⟨_, rfl, _, rfl, _, _, rfl, rfl, by show 3 ≤ sizeLine; decide, fun t nt => q t nt⟩
    | 0, q =>
      refine iteF ⟨_, rfl, rfl, _, rfl, ?_⟩
      rw [show decide (V.str (Lt 0) = V.str (PySem.Str.ofString "w")) = decide ((0 : Fin 4) = 3) by rw [lt3]; exact ltd 0 3]
      exact iteF ⟨_, rfl, _, rfl, _, rfl, by show 3 ≤ sizeLine; decide, fun t nt => q t nt⟩
    | 1, q =>
      refine iteF ⟨_, rfl, rfl, _, rfl, ?_⟩
      rw [show decide (V.str (Lt 1) = V.str (PySem.Str.ofString "w")) = decide ((1 : Fin 4) = 3) by rw [lt3]; exact ltd 1 3]
      exact iteF ⟨_, rfl, _, rfl, _, rfl, by show 3 ≤ sizeLine; decide, fun t nt => q t nt⟩
    | 3, q =>
      refine iteF ⟨_, rfl, rfl, _, rfl, ?_⟩
      rw [show decide (V.str (Lt 3) = V.str (PySem.Str.ofString "w")) = decide ((3 : Fin 4) = 3) by rw [lt3]; exact ltd 3 3]
      exact iteT ⟨_, rfl, _, _, rfl, rfl, _, rfl, by show 3 ≤ sizeLine; decide, fun t nt => q t nt⟩
def spWayFact (K : PySem.W.Frag) : Sp := fun vs H Q _ => ∃ (p : Addr) (i : Nat) (z : Str) (x y : Int) (l : Fin 4), vs = [.int i, .str z, .ref p, .str (Lt l)] ∧ SqT K H p [.int x, .int y] ∧ ∀ H' u t, Same H H' → H u = none → H t = none → H' u = some (.tup [.int (wx x l), .int (wy y l)]) → H' t = some (.tup [.int i, .str z, .ref u, .str (Lt (wside l))]) → Q (.ref t) H'
theorem ok_way_fact (T : Top w K mg) : FnOk P w K mg base CX0 2 T.a_way_fact T.fd_way_fact ["at", "word", "place", "look"] (spWayFact K) := by
  have G_way_of := ok_way_of (P := P) (w := w) (base := base) T
  refine T.F_way_fact.ok sc_way_fact (fun vs H Q E h => ?_) (fun cdv A outer s H vs Q E hr h => ?_)
  · obtain ⟨p, i, z, x, y, l, rfl, _⟩ := h
    rfl
  · obtain ⟨p, i, z, x, y, l, rfl, hp, q⟩ := h
    refine ⟨_, (pss_cons (ps_asg (pe_call G_way_of hr (by rfl) T.g_way_of T.F_way_of.kp T.b_way_of .nil pass0 (pa_cons (pv 2) (pa_cons (pv 3) pa_nil))) (pg_tup rfl (pgs_cons (pg_name (i := 4) sc_way_fact.nd rfl (.inl rfl)) (pgs_cons (pg_name (i := 5) sc_way_fact.nd rfl (.inl rfl)) (pgs_cons (pg_name (i := 6) sc_way_fact.nd rfl (.inl rfl)) pgs_nil)))))
      (pss_one (ps_ret (pe_tup (pa_cons (pv 0) (pa_cons (pv 1) (pa_cons (pe_tup (pa_cons (pv 4) (pa_cons (pv 5) pa_nil))) (pa_cons (pv 6) pa_nil)))))))), ?_⟩
    refine ⟨_, rfl, _, rfl, p, x, y, l, rfl, hp, fun a na => ?_⟩
    have sa := same_upd (o := .tup [.int (wx x l), .int (wy y l), .str (Lt (wside l))]) na
    refine ⟨a, _, rfl, .inl (.inl upd_same), rfl, _, _, rfl, _, _, rfl, _, _, rfl, rfl, ?_⟩
    refine ⟨_, rfl, _, rfl, _, rfl, _, rfl, by show 2 ≤ sizeLine; decide, fun u nu => ⟨_, rfl, by show 4 ≤ sizeLine; decide, fun t nt => ?_⟩⟩
    have su := same_upd (o := .tup [.int (wx x l), .int (wy y l)]) nu
    have st := same_upd (o := .tup [.int (i : Int), .str z, .ref u, .str (Lt (wside l))]) nt
    exact q _ u t ((sa.trans su).trans st) (sa.free nu) ((sa.trans su).free nt) (st _ _ upd_same) upd_same
def Xk (X : Addr → Prop) (H : Hp) : Prop := ∀ b, X b → H b ≠ none
theorem Xk.same {X : Addr → Prop} {H H' : Hp} (x : Xk X H) (s : Same H H') : Xk X H' := fun b h => by
  cases o : H b with
  | none => exact absurd o (x b h)
  | some o' => rw [s b o' o]; exact fun z => nomatch z
theorem Xk.wo {X : Addr → Prop} {H H' : Hp} (s : Same H H') : Same (M.wo H X) (M.wo H' X) := fun b o h => by
  have h2 := wo_some h
  rw [wo_in (X := X) h2.1]
  exact s _ _ h2.2
theorem Xk.out {X : Addr → Prop} {H H' : Hp} {t : Addr} {o : HO} (x : Xk X H) (n : H t = none) (e : H' t = some o) : M.wo H' X t = some o := by
  rw [wo_in (X := X) (fun z => x t z n)]
  exact e
theorem way_dp {K : PySem.W.Frag} {H H' : Hp} {X : Addr → Prop} {i : Nat} {z : Str} {x y : Int} {l : Fin 4} {u t : Addr} (xk : Xk X H) (nu : H u = none) (nt : H t = none) (eu : H' u = some (.tup [.int (wx x l), .int (wy y l)])) (et : H' t = some (.tup [.int i, .str z, .ref u, .str (Lt (wside l))])) : Dp K (M.wo H' X) (.ref t) (wayD i z x y l) :=
  .tup (.inl (.inl (xk.out nt et))) (.cons (.int _) (.cons (.str _) (.cons (.tup (.inl (.inl (xk.out nu eu))) (.cons (.int _) (.cons (.int _) .nil))) (.cons (.str _) .nil))))
def spFactsOf (K : PySem.W.Frag) : Sp := fun vs H Q _ => ∃ (v : V) (p : Addr) (i : Nat) (k : Wk) (e : Ent) (X : Addr → Prop), vs = [.int i, v, .ref p, .str (lk k.look)] ∧ EntAt K H v e ∧ (e.need = true → k.look.isSome = true) ∧ Xk X H ∧ SqT K (M.wo H X) p [.int k.x, .int k.y] ∧ ∀ H' L ys, Same H H' → H L = none → H' L = some (.lst ys) → DpAll K (M.wo H' X) ys (factsOf i k e) → Q (.ref L) H'
theorem isk (e : Ent) (j : Fin 10) : decide (V.str (ws e.kind) = V.str (ws j)) = decide (e.kind = j) := wsd e.kind j
theorem ok_facts_of_entry (T : Top w K mg) : FnOk P w K mg base CX0 3 T.a_facts_of_entry T.fd_facts_of_entry ["at", "entry", "place", "look"] (spFactsOf K) := by
  have G_gone := ok_gone (P := P) (w := w) (base := base) T
  have G_way_fact := ok_way_fact (P := P) (w := w) (base := base) T
  refine T.F_facts_of_entry.ok sc_facts_of_entry (fun vs H Q E h => ?_) (fun cdv A outer s H vs Q E hr h => ?_)
  · obtain ⟨v, p, i, k, e, X, rfl, _⟩ := h
    rfl
  · obtain ⟨v, p, i, k, e, X, rfl, ⟨a, us, rfl, hq, hu⟩, hn, xk, hp, q⟩ := h
    refine ⟨_, (pss_cons (ps_set (i := 4) sc_facts_of_entry.nd rfl (.inl rfl) (pe_ix (r := rIx K) (SeqW.ix_seqK rfl) (pv 1) pe_int (fun _ _ => rfl)))
      (pss_cons (ps_if (pt_cmpR op_eq (pv 4) pe_str (nomark _)) (pss_one (ps_ret (pe_lst (pa_cons (pe_tup (pa_cons (pv 0) (pa_cons pe_str (pa_cons (pv 2) (pa_cons (pe_ix (r := rIx K) (SeqW.ix_seqK rfl) (pv 1) pe_int (fun _ _ => rfl)) pa_nil))))) pa_nil)))) pss_nil)
      (pss_cons (ps_if (pt_cmpR op_eq (pv 4) pe_str (nomark _)) (pss_one (ps_ret (pe_lst (pa_cons (pe_tup (pa_cons (pv 0) (pa_cons pe_str (pa_cons (pe_call G_gone hr (by rfl) T.g_gone T.F_gone.kp T.b_gone .nil pass0 (pa_cons (pv 2) (pa_cons (pv 3) (pa_cons (pe_ix (r := rIx K) (SeqW.ix_seqK rfl) (pv 1) pe_int (fun _ _ => rfl)) pa_nil)))) (pa_cons (pe_ix (r := rIx K) (SeqW.ix_seqK rfl) (pv 1) pe_int (fun _ _ => rfl)) pa_nil))))) pa_nil)))) pss_nil)
      (pss_cons (ps_if (pt_cmpR op_eq (pv 4) pe_str (nomark _)) (pss_one (ps_ret (pe_lst (pa_cons (pe_tup (pa_cons (pv 0) (pa_cons pe_str (pa_cons (pv 2) (pa_cons pe_str pa_nil))))) pa_nil)))) pss_nil)
      (pss_cons (ps_if (pt_cmpR op_eq (pv 4) pe_str (nomark _)) (pss_one (ps_ret (pe_lc (own := [("done", 5)]) (g := gName 5) (by rfl) sc_facts_of_entry.nd (pi_range1 (by rfl) T.m_range (pa_cons (pe_ix (r := rIx K) (SeqW.ix_seqK rfl) (pv 1) pe_int (fun _ _ => rfl)) pa_nil)) (blkOk_by (own := [("done", 5)]) (N := ["at", "entry", "place", "look", "word", "done"]) (sc := defScope s_facts_of_entry) (by decide +kernel)) (fun _ _ _ _ _ => (pg_name (i := 5) sc_facts_of_entry.nd rfl (Or.inl rfl))) (fun _ _ _ _ _ => pts_nil) (fun _ _ _ _ _ => (pe_call G_way_fact hr (by rfl) T.g_way_fact T.F_way_fact.kp T.b_way_fact .nil pass0 (pa_cons (pv 0) (pa_cons pe_str (pa_cons (pe_call G_gone hr (by rfl) T.g_gone T.F_gone.kp T.b_gone .nil pass0 (pa_cons (pv 2) (pa_cons (pv 3) (pa_cons (pv 5) pa_nil)))) (pa_cons (pv 3) pa_nil))))))))) pss_nil)
      (pss_cons (ps_if (pt_cmpR op_eq (pv 4) pe_str (nomark _)) (pss_one (ps_ret (pe_lst (pa_cons (pe_call G_way_fact hr (by rfl) T.g_way_fact T.F_way_fact.kp T.b_way_fact .nil pass0 (pa_cons (pv 0) (pa_cons pe_str (pa_cons (pv 2) (pa_cons (pv 3) pa_nil))))) pa_nil)))) pss_nil)
      (pss_one (ps_ret (pe_lst pa_nil))))))))), ?_⟩
    refine ⟨.ref a, rfl, ixA (j := 0) hq rfl ⟨_, rfl, rfl, _, rfl, ?_⟩⟩
    have hp0 := sqt_same wo_same hp
    have step1 : ∀ (j : Fin 10) (B C : Prop), (e.kind = j → B) → (e.kind ≠ j → C) → if decide (V.str (ws e.kind) = V.str (ws j)) = true then B else C := fun j B C h1 h2 => by
      rw [isk]
      exact ite2 (fun z => h1 (of_decide_eq_true z)) (fun z => h2 (fun y => z (decide_eq_true y)))
    refine step1 6 _ _ (fun h6 => ?_) (fun h6 => ⟨_, rfl, rfl, _, rfl, step1 8 _ _ (fun h8 => ?_) (fun h8 => ⟨_, rfl, rfl, _, rfl, step1 7 _ _ (fun h7 => ?_) (fun h7 => ⟨_, rfl, rfl, _, rfl, step1 4 _ _ (fun h4 => ?_) (fun h4 => ⟨_, rfl, rfl, _, rfl, step1 5 _ _ (fun h5 => ?_) (fun h5 => ?_)⟩)⟩)⟩)⟩)
    · obtain ⟨z, rfl⟩ : ∃ z, e = .sign z := sign_of_kind h6
      obtain ⟨v1, rfl, rfl⟩ : ∃ v1, us = [v1] ∧ v1 = V.str z := by
        cases hu with
        | cons h1 h2 => cases h1; cases h2; exact ⟨_, rfl, rfl⟩
      refine ⟨_, rfl, _, rfl, .ref a, rfl, ixA (j := 1) hq rfl ⟨by show 4 ≤ sizeLine; decide, fun t nt => ⟨by show 1 ≤ sizeLine; decide, fun L nL => ?_⟩⟩⟩
      have st := same_upd (o := .tup [.int (i : Int), .str "sign", .ref p, .str z]) nt
      have sL := same_upd (o := .lst [.ref t]) nL
      exact q _ L _ (st.trans sL) (st.free nL) upd_same (.cons (.tup (.inl (.inl (xk.out nt (sL _ _ upd_same)))) (.cons (.int _) (.cons (.str _) (.cons (.tup (sqt_same (Xk.wo (st.trans sL)) hp) (.cons (.int _) (.cons (.int _) .nil))) (.cons (.str _) .nil))))) .nil)
    · obtain ⟨n, z, rfl⟩ : ∃ n z, e = .spy n z := spy_of_kind h8
      obtain ⟨v1, v2, rfl, rfl, rfl⟩ : ∃ v1 v2, us = [v1, v2] ∧ v1 = V.int ((n.val : Int) + 1) ∧ v2 = V.str z := by
        cases hu with
        | cons h1 h2 =>
          cases h1
          cases h2 with
          | cons h3 h4 => cases h3; cases h4; exact ⟨_, _, rfl, rfl, rfl⟩
      obtain ⟨l, el⟩ := Option.isSome_iff_exists.mp (hn rfl)
      refine ⟨_, rfl, _, rfl, _, rfl, .ref a, rfl, ixA (j := 1) hq rfl ⟨p, k.x, k.y, (n.val : Int) + 1, l, by rw [el]; rfl, hp0, fun g ng => ?_⟩⟩
      have sg := same_upd (o := .tup [.int (k.x + ((n.val : Int) + 1) * dx l), .int (k.y + ((n.val : Int) + 1) * dy l)]) ng
      refine ⟨.ref a, rfl, ixA (j := 2) (hq.same sg) rfl ⟨by show 4 ≤ sizeLine; decide, fun t nt => ⟨by show 1 ≤ sizeLine; decide, fun L nL => ?_⟩⟩⟩
      have st := same_upd (o := .tup [.int (i : Int), .str "sign", .ref g, .str z]) nt
      have sL := same_upd (o := .lst [.ref t]) nL
      refine q _ L _ ((sg.trans st).trans sL) ((sg.trans st).free nL) upd_same ?_
      have ef : factsOf i k (.spy n z) = [factD i "sign" (k.x + ((n.val : Int) + 1) * dx l) (k.y + ((n.val : Int) + 1) * dy l) z] := by
        unfold factsOf
        rw [el]
      rw [ef]
      exact .cons (.tup (.inl (.inl (xk.out (sg.free nt) (sL _ _ upd_same)))) (.cons (.int _) (.cons (.str _) (.cons (.tup (.inl (.inl (xk.out ng (sL _ _ (st _ _ upd_same))))) (.cons (.int _) (.cons (.int _) .nil))) (.cons (.str _) .nil))))) .nil
    · obtain rfl : e = .bare := bare_of_kind h7
      refine ⟨_, rfl, _, rfl, by show 4 ≤ sizeLine; decide, fun t nt => ⟨by show 1 ≤ sizeLine; decide, fun L nL => ?_⟩⟩
      have st := same_upd (o := .tup [.int (i : Int), .str "bare", .ref p, .str ""]) nt
      have sL := same_upd (o := .lst [.ref t]) nL
      exact q _ L _ (st.trans sL) (st.free nL) upd_same (.cons (.tup (.inl (.inl (xk.out nt (sL _ _ upd_same)))) (.cons (.int _) (.cons (.str _) (.cons (.tup (sqt_same (Xk.wo (st.trans sL)) hp) (.cons (.int _) (.cons (.int _) .nil))) (.cons (.str _) .nil))))) .nil)
    · obtain ⟨n, rfl⟩ := go_of_kind h4
      obtain ⟨v1, rfl, rfl⟩ := one_int hu
      obtain ⟨l, el⟩ := Option.isSome_iff_exists.mp (hn rfl)
      have ef : factsOf i k (.go n) = openL i k.x k.y l (n.val + 1) := by
        unfold factsOf
        rw [el]
      refine ⟨.ref a, rfl, ixA (j := 1) hq rfl ⟨(n.val : Int) + 1, rfl, by omega, by omega, fun D hD => lc_it (walk_range (n := ((n.val : Int) + 1 - 0).toNat)) (fun j H' => Same H H' ∧ ∃ ys : List V, ys.length = j ∧ DpAll K (M.wo H' (fun b => X b ∨ b = D)) ys (openL i k.x k.y l j) ∧ H' D = some (.lst ys)) ⟨same_upd hD, [], rfl, .nil, upd_same⟩ (fun _ _ _ _ => trivial) ?_ ?_⟩⟩
      · rintro j v H1 H2 hj ⟨sm, ys, ly, hy, eD⟩ ⟨rfl, rfl⟩
        have x1 : Xk (fun b => X b ∨ b = D) H2 := fun b h => h.elim ((xk.same sm) b) (fun z => by rw [z, eD]; exact fun y => nomatch y)
        refine ⟨rfl, _, rfl, _, rfl, _, rfl, _, rfl, p, k.x, k.y, _, l, by rw [el]; rfl, sqt_same sm hp0, fun g ng => ?_⟩
        have e0 : (0 : Int) + (j : Int) = j := by omega
        rw [e0] at *
        have sg := same_upd (o := .tup [.int (k.x + (j : Int) * dx l), .int (k.y + (j : Int) * dy l)]) ng
        refine ⟨_, rfl, g, i, _, k.x + (j : Int) * dx l, k.y + (j : Int) * dy l, l, by rw [el]; rfl, .inl (.inl upd_same), fun H3 u t s3 nu nt eu et => ?_⟩
        have s23 := sg.trans s3
        have m6 : Same (M.wo H3 (fun b => X b ∨ b = D)) (M.wo (upd H3 D (.lst (ys ++ [.ref t]))) (fun b => X b ∨ b = D)) := wo_mut (X := fun b => X b ∨ b = D) (.inr rfl)
        refine ⟨ys, s23 _ _ eD, small1000 (by omega), fun b o h => ?_, ys ++ [.ref t], by rw [List.length_append, ly]; rfl, ?_, upd_same⟩
        · rw [upd_ne (ne_of_none h hD)]
          exact s23 _ _ (sm _ _ h)
        · rw [openL_succ]
          exact dpa_snoc (dp_same m6 _ _ (way_dp (x1.same sg) nu nt eu et)) _ _ (dpa_same ((Xk.wo s23).trans m6) _ _ hy)
      · rintro H1 ⟨sm, ys, ly, hy, eD⟩
        have en : ((n.val : Int) + 1 - 0).toNat = n.val + 1 := by omega
        rw [en, ← ef] at hy
        exact q _ D ys sm hD eD (dpa_same (wo_less (fun b z => .inl z)) _ _ hy)
    · obtain rfl : e = .bump := bump_of_kind h5
      obtain ⟨l, el⟩ := Option.isSome_iff_exists.mp (hn rfl)
      refine ⟨_, rfl, _, rfl, _, rfl, p, i, _, k.x, k.y, l, by rw [el]; rfl, hp0, fun H3 u t s3 nu nt eu et => ⟨by show 1 ≤ sizeLine; decide, fun L nL => ?_⟩⟩
      have sL := same_upd (o := .lst [.ref t]) nL
      have ef : factsOf i k .bump = [wayD i "shut" k.x k.y l] := by
        unfold factsOf
        rw [el]
      refine q _ L _ (s3.trans sL) (s3.free nL) upd_same ?_
      rw [ef]
      exact .cons (way_dp xk nu nt (sL _ _ eu) (sL _ _ et)) .nil
    · refine ⟨Nat.zero_le _, fun L nL => q _ L _ (same_upd nL) nL upd_same ?_⟩
      have ef : factsOf i k e = [] := by
        cases e with
        | face l => rfl
        | turn q => rfl
        | swap => rfl
        | sign z => exact absurd rfl h6
        | spy n z => exact absurd rfl h8
        | bare => exact absurd rfl h7
        | go n => exact absurd rfl h4
        | bump => exact absurd rfl h5
      rw [ef]
      exact .nil
--@@SPLIT
/-! ### all facts of a log -/
def posL (lots : List (Fin 8)) (es : List Ent) (n : Nat) : List PyData := (List.range n).map fun i : Nat => posD (wat lots es i)
theorem posL_eq (lots : List (Fin 8)) (es : List Ent) (n : Nat) : posL lots es (n + 1) = posD (wat lots es 0) :: trackL lots es n := by
  unfold posL trackL
  rw [List.range_succ_eq_map, List.map_cons, List.map_map]
  rfl
theorem posL_at {lots : List (Fin 8)} {es : List Ent} {n i : Nat} {d : PyData} (h : (posL lots es n)[i]? = some d) : d = posD (wat lots es i) := by
  unfold posL at h
  rw [List.getElem?_map] at h
  cases e : (List.range n)[i]? with
  | none => rw [e] at h; cases h
  | some j =>
    rw [e] at h
    obtain ⟨h1, h2⟩ := List.getElem?_eq_some_iff.mp e
    rw [List.getElem_range] at h2
    rw [← h2] at h
    exact (Option.some.inj h).symm
theorem pos_parts {K : PySem.W.Frag} {H : Hp} {v : V} {p : Wk} (h : Dp K H v (posD p)) : ∃ t pl, v = .ref t ∧ SqT K H t [.ref pl, .str (lk p.look)] ∧ SqT K H pl [.int p.x, .int p.y] := by
  cases h with
  | tup hs ha =>
    cases ha with
    | cons h1 h2 =>
      cases h2 with
      | cons h3 h4 =>
        cases h3
        cases h4
        cases h1 with
        | tup hp hq =>
          cases hq with
          | cons h5 h6 =>
            cases h5
            cases h6 with
            | cons h7 h8 =>
              cases h7
              cases h8
              exact ⟨_, _, rfl, hs, hp⟩
def spFacts (K : PySem.W.Frag) : Sp := fun vs H Q _ => ∃ (e l : Addr) (xs : List V) (es : List Ent) (lots : List (Fin 8)), vs = [.ref e, .ref l] ∧ SqA K H e xs ∧ Rows K H xs es ∧ SqA K H l (lots.map lotV) ∧ lots.length = 1 + swaps es ∧ es.length ≤ 100 ∧ Right es ∧ ∀ H' r, Same H H' → Dp K H' (.ref r) (factsD lots es) → Q (.ref r) H'
theorem ok_facts (T : Top w K mg) : FnOk P w K mg base CX0 7 T.a_facts T.fd_facts ["log", "lots"] (spFacts K) := by
  have G_track := ok_track (P := P) (w := w) (base := base) T
  have G_facts_of_entry := ok_facts_of_entry (P := P) (w := w) (base := base) T
  obtain ⟨q0, hS, hS0⟩ := T.v_START
  refine T.F_facts.ok sc_facts (fun vs H Q E h => ?_) (fun cdv A outer s H vs Q E hr h => ?_)
  · obtain ⟨e, l, xs, es, lots, rfl, _⟩ := h
    rfl
  · obtain ⟨e, l, xs, es, lots, rfl, hs, ha, hl, hn, hlen, hR, q⟩ := h
    have lx := ha.len
    refine ⟨_, (pss_cons (ps_set (i := 2) sc_facts.nd rfl (.inl rfl) (pe_call G_track hr (by rfl) T.g_track T.F_track.kp T.b_track .nil pass0 (pa_cons (pv 0) (pa_cons (pv 1) pa_nil))))
      (pss_cons (ps_set (i := 3) sc_facts.nd rfl (.inl rfl) (pe_lst (pa_cons (pe_glob (v := .ref T.a_START) (by rfl) T.g_START rfl) (StX.pa_star (pv 2) pa_nil))))
      (pss_cons (ps_set (i := 4) sc_facts.nd rfl (.inl rfl) (pe_lst pa_nil))
      (pss_cons (ps_for PassesOwn.never rfl (SeqW.pi_enumA (by rfl) T.m_enumerate (pa_cons (pv 0) pa_nil)) (pg_tup rfl (pgs_cons (pg_name (i := 5) sc_facts.nd rfl (.inl rfl)) (pgs_cons (pg_name (i := 6) sc_facts.nd rfl (.inl rfl)) pgs_nil))) (pss_cons (ps_asg (pe_ix ix_list (pv 3) (pv 5) (fun _ _ => rfl)) (pg_tup rfl (pgs_cons (pg_name (i := 7) sc_facts.nd rfl (.inl rfl)) (pgs_cons (pg_name (i := 8) sc_facts.nd rfl (.inl rfl)) pgs_nil))))
      (pss_one (ps_expr (pe_bm PySem.F.plainAttrs_list PySem.F.slot_list_extend PySem.F.type_list_extend mt_extend (pv 4) (pa_cons (pe_call G_facts_of_entry (hr.mono (by decide)) (by rfl) T.g_facts_of_entry T.F_facts_of_entry.kp T.b_facts_of_entry .nil pass0 (pa_cons (pv 5) (pa_cons (pv 6) (pa_cons (pv 7) (pa_cons (pv 8) pa_nil))))) pa_nil))))))
      (pss_one (ps_ret (pe_callTy call_tuple_of (by rfl) T.m_tuple (by decide +kernel) (pa_cons (pv 4) pa_nil)))))))), ?_⟩
    refine ⟨.ref e, rfl, .ref l, rfl, e, l, xs, es, lots, rfl, hs, ha, hl, hn, by omega, hR, fun H1 r s1 hr1 => ?_⟩
    obtain ⟨zs, hz1, hz2⟩ : ∃ zs, SqT K H1 r zs ∧ DpAll K H1 zs (trackL lots es es.length) := by
      cases hr1 with
      | tup h1 h2 => exact ⟨_, h1, h2⟩
    have lz := dpa_len2 hz2
    have lt : (trackL lots es es.length).length = es.length := by unfold trackL; rw [List.length_map, List.length_range]
    have hp : DpAll K H1 (.ref T.a_START :: zs) (posL lots es (es.length + 1)) := by
      rw [posL_eq, wat_zero]
      exact .cons (.tup (hS _) (.cons (.tup (hS0 _) (.cons (.int _) (.cons (.int _) .nil))) (.cons (.str _) .nil))) hz2
    refine ⟨.ref r, rfl, r, zs, rfl, .inl hz1, ?_, fun A0 nA => ?_⟩
    · show (.ref T.a_START :: (zs ++ [])).length ≤ sizeLine
      rw [List.append_nil]
      exact Nat.le_of_lt (small1000 (by rw [List.length_cons]; omega))
    refine ⟨Nat.zero_le _, fun F nF => ?_⟩
    have sA := same_upd (o := .lst (.ref T.a_START :: (zs ++ []))) nA
    have sF := same_upd (o := .lst []) nF
    have s2 := (s1.trans sA).trans sF
    have nF1 : H1 F = none := sA.free nF
    have AF : A0 ≠ F := ne_of_none upd_same nF
    refine ⟨.ref e, rfl, e, xs, rfl, (fun H' => Same H H'), kpA hs, s2, fun J G wk hG => for_it wk (fun i σ H' => Same H1 H' ∧ ∃ ys y5 y6 y7 y8, σ = [some (.ref e), some (.ref l), some (.ref r), some (.ref A0), some (.ref F), y5, y6, y7, y8] ∧ H' A0 = some (.lst (.ref T.a_START :: zs)) ∧ H' F = some (.lst ys) ∧ DpAll K (M.wo H' (fun b => b = F)) ys (factsL lots es i))
      ⟨sA.trans sF, [], none, none, none, none, rfl, sF _ _ (by rw [upd_same, List.append_nil]), upd_same, .nil⟩ (fun i σ H' _ h => hG _ (s1.trans h.1)) ?_ ?_⟩
    · rintro i v σ H2 H3 hi ⟨sm, ys, y5, y6, y7, y8, rfl, eA, eF, hy⟩ ⟨t, u1, u2, rfl, nt, rfl, e1, e2⟩
      cases e1
      have st := same_upd (o := .tup [.int (i : Nat), u2]) nt
      obtain ⟨en, fe, hen⟩ := (ha.same ((s1.trans sm).trans st)).at_ e2
      have il := (List.getElem?_eq_some_iff.mp fe).1
      obtain ⟨v, gv⟩ : ∃ v, (.ref T.a_START :: zs)[i]? = some v := ⟨_, List.getElem?_eq_getElem (by rw [List.length_cons]; omega)⟩
      have m3 : Same H1 (M.wo (upd H2 t (.tup [.int (i : Nat), u2])) (fun b => b = F)) := fun c o z => by
        rw [wo_in (X := fun b => b = F) (ne_of_none z nF1)]
        exact st _ _ (sm _ _ z)
      obtain ⟨d, fd, gd⟩ := dpa_at _ _ (dpa_same m3 _ _ hp) i v gv
      have := posL_at fd
      subst this
      obtain ⟨tp, pl, rfl, hp1, hp2⟩ := pos_parts gd
      have eF3 := st _ _ eF
      refine ⟨t, _, rfl, .inl (.inl upd_same), rfl, _, _, rfl, _, _, rfl, rfl, ?_⟩
      refine ⟨.ref A0, rfl, _, rfl, A0, _, _, _, rfl, rfl, .inl (.inl (st _ _ eA)), atI_nat gv, tp, _, rfl, sqt_same wo_same hp1, rfl, _, _, rfl, _, _, rfl, rfl, ?_⟩
      have nl : en.need = true → (wat lots es i).look.isSome = true := fun h => by
        rw [wat_look]
        exact hR i en fe h
      have xk : Xk (fun b => b = F) (upd H2 t (.tup [.int (i : Nat), u2])) := fun b h => by rw [h, eF3]; exact fun z => nomatch z
      refine ⟨.ref F, rfl, .inl ⟨rfl, _, .inl (.inl eF3)⟩, _, rfl, _, rfl, _, rfl, _, rfl, u2, pl, i, wat lots es i, en, (fun b => b = F), rfl, hen, nl, xk, hp2, fun H4 L fs s4 nL eL hf => ?_⟩
      have ly := dpa_len2 hy
      have lf := dpa_len2 hf
      have b1 := factsL_len lots es i
      have b2 := factsOf_len i (wat lots es i) en
      have m6 : Same (M.wo H4 (fun b => b = F)) (M.wo (upd H4 F (.lst (ys ++ fs))) (fun b => b = F)) := wo_mut rfl
      refine ⟨F, L, ys, fs, rfl, rfl, s4 _ _ eF3, eL, Nat.le_of_lt (small1000 (by omega)), fun c o z => ?_, ys ++ fs, _, _, _, _, rfl, ?_, upd_same, ?_⟩
      · rw [upd_ne (ne_of_none z nF1)]
        exact s4 _ _ (st _ _ (sm _ _ z))
      · rw [upd_ne AF]
        exact s4 _ _ (st _ _ eA)
      · show DpAll K _ (ys ++ fs) (factsL lots es i ++ factsAt lots es i)
        rw [factsAt_eq fe]
        exact dpa_app _ _ _ _ (dpa_same ((Xk.wo (st.trans s4)).trans m6) _ _ hy) (dpa_same m6 _ _ hf)
    · rintro σ H2 ⟨sm, ys, y5, y6, y7, y8, rfl, eA, eF, hy⟩
      refine ⟨.ref F, rfl, F, ys, rfl, .inl ⟨.inl (.inl eF), fun r2 nr => ?_⟩⟩
      have sr := same_upd (o := .tup ys) nr
      rw [lx] at hy
      exact q _ r2 ((s1.trans sm).trans sr) (.tup (.inl (.inl upd_same)) (dpa_same (wo_same.trans sr) _ _ hy))
--@@SPLIT
/-! ### of its own class alone -/
theorem count_vals {y : V} : ∀ {ys : List V} {us : List Value}, Vals ys us → ys.all flatV = true → us.countP (eqU y) = ys.countP (fun z => eqV z y)
  | _, _, .nil, _ => rfl
  | _, _, .cons r rs, h => by
    rw [List.all_cons] at h
    obtain ⟨h1, h2⟩ := Bool.and_eq_true_iff.mp h
    rw [List.countP_cons, List.countP_cons, count_vals rs h2, eqU_of r h1]
theorem mt_countV {X : Cx} : MtR X "list.count" (fun x xs H Q => ∃ (p : Addr) (ys : List V) (y : V), x = .ref p ∧ xs = [y] ∧ SqL X.K H p ys ∧ flatV y = true ∧ ys.all flatV = true ∧ Q (.int (ys.countP (fun z => eqV z y) : Nat)) H) := by
  intro pins s σ H x xs v us Q I rx rxs h
  obtain ⟨p, ys, y, rfl, rfl, hs, fy, fys, q⟩ := h
  cases rx
  obtain ⟨u, rfl, ru⟩ := rxs.one
  obtain ⟨its, rv, ⟨⟨cls, dd, data, sl⟩, n, ho, hc, hdn, hd⟩, hlen⟩ := I.list hs
  simp only at hc hd
  subst hc hd
  refine call_meets PySem.F.slot_list_count ⟨_, ho, rfl⟩ PySem.F.entry_list_count (PySem.F.args_list_count_2 _ _) (SeqAt.list_countAt p its.toArray n dd sl u (eqU y)) ⟨ho, fun z hz => mem_eqAt ru fy rv fys z (by simpa using hz), ?_⟩
  refine ⟨.int (ys.countP (fun z => eqV z y) : Nat), H, I.tok _, ⟨s.toks, ?_⟩, q⟩
  show Value.int ((its.toArray.toList.countP (eqU y) : Nat) : Int) s.toks = _
  rw [show its.toArray.toList = its from rfl, count_vals rv fys]
def spOwn (C : Addr) (a : Addr) (cls : Value) (d : Option Addr) : Sp := fun vs H Q _ => vs = [.ref a] ∧ cls = .ref C ∧ ∃ dd fs, d = some dd ∧ H dd = some (.xd fs) ∧ ∀ H', Same H H' → Q (.bl true) H'
theorem ok_Lown (T : Top w K mg) {a : Addr} {oe : Obj} {cls : Value} {d : Option Addr} (hz : Zc cls d oe) (hf : ∃ vs, oe.data = .fields vs) : ExcM.FnP P w K mg base (a, oe) 1 T.a_Lown T.fd_Lown ["_law_e"] (spOwn T.a_NoDealing a cls d) := by
  refine ExcM.fun_okP T.F_Lown sc_Lown (fun vs H Q E h => ?_) (fun cdv A outer s H vs Q E hr h => ?_)
  · obtain ⟨rfl, _⟩ := h
    rfl
  · obtain ⟨rfl, rfl, dd, fs, rfl, hd, q⟩ := h
    refine ⟨_, (pss_cons (ps_set (i := 1) sc_Lown.nd rfl (.inl rfl) (pe_lst (pa_cons (pe_callB (ExcM.call_isP T.exc List.mem_cons_self hz hf) (by rfl) T.m_isinstance (by decide +kernel) (pa_cons (pv 0) (pa_cons (pe_glob (v := .ref T.a_NoLot) (by rfl) T.g_NoLot rfl) pa_nil))) (pa_cons (pe_callB (ExcM.call_isP T.exc List.mem_cons_self hz hf) (by rfl) T.m_isinstance (by decide +kernel) (pa_cons (pv 0) (pa_cons (pe_glob (v := .ref T.a_BadLog) (by rfl) T.g_BadLog rfl) pa_nil))) (pa_cons (pe_callB (ExcM.call_isP T.exc List.mem_cons_self hz hf) (by rfl) T.m_isinstance (by decide +kernel) (pa_cons (pv 0) (pa_cons (pe_glob (v := .ref T.a_NoDealing) (by rfl) T.g_NoDealing rfl) pa_nil))) (pa_cons (pe_callB (ExcM.call_isP T.exc List.mem_cons_self hz hf) (by rfl) T.m_isinstance (by decide +kernel) (pa_cons (pv 0) (pa_cons (pe_glob (v := .ref T.a_BadBox) (by rfl) T.g_BadBox rfl) pa_nil))) pa_nil))))))
      (pss_cons (ps_set (i := 1) sc_Lown.nd rfl (.inl rfl) (pe_op op_cat (pv 1) (pe_lst (pa_cons (pe_callB (ExcM.call_isP T.exc List.mem_cons_self hz hf) (by rfl) T.m_isinstance (by decide +kernel) (pa_cons (pv 0) (pa_cons (pe_glob (v := .ref T.a_NoName) (by rfl) T.g_NoName rfl) pa_nil))) (pa_cons (pe_callB (ExcM.call_isP T.exc List.mem_cons_self hz hf) (by rfl) T.m_isinstance (by decide +kernel) (pa_cons (pv 0) (pa_cons (pe_glob (v := .ref T.a_Twice) (by rfl) T.g_Twice rfl) pa_nil))) (pa_cons (pe_callB (ExcM.call_isP T.exc List.mem_cons_self hz hf) (by rfl) T.m_isinstance (by decide +kernel) (pa_cons (pv 0) (pa_cons (pe_glob (v := .ref T.a_NoWalker) (by rfl) T.g_NoWalker rfl) pa_nil))) pa_nil))))))
      (pss_one (ps_ret (pe_and (pe_cmpR op_eq (pe_bm PySem.F.plainAttrs_list PySem.F.slot_list_count PySem.F.type_list_count mt_countV (pv 1) (pa_cons pe_bl pa_nil)) pe_int (nomark _)) (pe_and (pe_callB (ExcM.call_isP T.exc List.mem_cons_self hz hf) (by rfl) T.m_isinstance (by decide +kernel) (pa_cons (pv 0) (pa_cons (pe_glob (v := .ref T.a_NeedleError) (by rfl) T.g_NeedleError rfl) pa_nil))) (pe_one (pe_callB (ExcM.call_isP T.exc List.mem_cons_self hz hf) (by rfl) T.m_isinstance (by decide +kernel) (pa_cons (pv 0) (pa_cons (pe_bltn (v := .ty "ValueError") (by rfl) T.m_ValueError (by decide +kernel) rfl) pa_nil)))))))))), ?_⟩
    have ro : ∀ {C : Addr} (u : Value), RelV (.ref C) u → u = .ref C := fun u h => h
    refine ⟨_, rfl, _, _, _, fs, rfl, ro, hd, T.kit_NoLot, _, rfl, _, _, _, fs, rfl, ro, hd, T.kit_BadLog, _, rfl, _, _, _, fs, rfl, ro, hd, T.kit_NoDealing, _, rfl, _, _, _, fs, rfl, ro, hd, T.kit_BadBox, by show 4 ≤ sizeLine; decide, fun l1 n1 => ?_⟩
    have s1 := same_upd (o := .lst [.bl false, .bl false, .bl true, .bl false]) n1
    have hd1 := s1 _ _ hd
    refine ⟨.ref l1, rfl, _, rfl, _, _, _, fs, rfl, ro, hd1, T.kit_NoName, _, rfl, _, _, _, fs, rfl, ro, hd1, T.kit_Twice, _, rfl, _, _, _, fs, rfl, ro, hd1, T.kit_NoWalker, by show 3 ≤ sizeLine; decide, fun l2 n2 => ?_⟩
    have s2 := same_upd (o := .lst [.bl false, .bl false, .bl false]) n2
    refine ⟨l1, l2, _, _, rfl, rfl, s2 _ _ upd_same, upd_same, by show 7 ≤ sizeLine; decide, fun l3 n3 => ?_⟩
    have s3 := same_upd (o := .lst ([.bl false, .bl false, .bl true, .bl false] ++ [.bl false, .bl false, .bl false])) n3
    have hd3 := s3 _ _ (s2 _ _ hd1)
    refine ⟨.ref l3, rfl, .inl ⟨rfl, _, .inl (.inl upd_same)⟩, l3, _, _, rfl, rfl, .inl (.inl upd_same), rfl, rfl, rfl, _, rfl, ite2 (fun _ => ?_) (fun z => absurd (decide_eq_true rfl) z)⟩
    refine ⟨_, rfl, _, _, _, fs, rfl, ro, hd3, T.kit_NeedleError, _, rfl, iteT ?_⟩
    exact ⟨_, rfl, _, _, _, fs, rfl, (fun u h => h), hd3, T.kit_VE, q _ ((s1.trans s2).trans s3)⟩
theorem ok_Lown_NoWalker (T : Top w K mg) {a : Addr} {oe : Obj} {cls : Value} {d : Option Addr} (hz : Zc cls d oe) (hf : ∃ vs, oe.data = .fields vs) : ExcM.FnP P w K mg base (a, oe) 1 T.a_Lown T.fd_Lown ["_law_e"] (spOwn T.a_NoWalker a cls d) := by
  refine ExcM.fun_okP T.F_Lown sc_Lown (fun vs H Q E h => ?_) (fun cdv A outer s H vs Q E hr h => ?_)
  · obtain ⟨rfl, _⟩ := h
    rfl
  · obtain ⟨rfl, rfl, dd, fs, rfl, hd, q⟩ := h
    refine ⟨_, (pss_cons (ps_set (i := 1) sc_Lown.nd rfl (.inl rfl) (pe_lst (pa_cons (pe_callB (ExcM.call_isP T.exc_NoWalker List.mem_cons_self hz hf) (by rfl) T.m_isinstance (by decide +kernel) (pa_cons (pv 0) (pa_cons (pe_glob (v := .ref T.a_NoLot) (by rfl) T.g_NoLot rfl) pa_nil))) (pa_cons (pe_callB (ExcM.call_isP T.exc_NoWalker List.mem_cons_self hz hf) (by rfl) T.m_isinstance (by decide +kernel) (pa_cons (pv 0) (pa_cons (pe_glob (v := .ref T.a_BadLog) (by rfl) T.g_BadLog rfl) pa_nil))) (pa_cons (pe_callB (ExcM.call_isP T.exc_NoWalker List.mem_cons_self hz hf) (by rfl) T.m_isinstance (by decide +kernel) (pa_cons (pv 0) (pa_cons (pe_glob (v := .ref T.a_NoDealing) (by rfl) T.g_NoDealing rfl) pa_nil))) (pa_cons (pe_callB (ExcM.call_isP T.exc_NoWalker List.mem_cons_self hz hf) (by rfl) T.m_isinstance (by decide +kernel) (pa_cons (pv 0) (pa_cons (pe_glob (v := .ref T.a_BadBox) (by rfl) T.g_BadBox rfl) pa_nil))) pa_nil))))))
      (pss_cons (ps_set (i := 1) sc_Lown.nd rfl (.inl rfl) (pe_op op_cat (pv 1) (pe_lst (pa_cons (pe_callB (ExcM.call_isP T.exc_NoWalker List.mem_cons_self hz hf) (by rfl) T.m_isinstance (by decide +kernel) (pa_cons (pv 0) (pa_cons (pe_glob (v := .ref T.a_NoName) (by rfl) T.g_NoName rfl) pa_nil))) (pa_cons (pe_callB (ExcM.call_isP T.exc_NoWalker List.mem_cons_self hz hf) (by rfl) T.m_isinstance (by decide +kernel) (pa_cons (pv 0) (pa_cons (pe_glob (v := .ref T.a_Twice) (by rfl) T.g_Twice rfl) pa_nil))) (pa_cons (pe_callB (ExcM.call_isP T.exc_NoWalker List.mem_cons_self hz hf) (by rfl) T.m_isinstance (by decide +kernel) (pa_cons (pv 0) (pa_cons (pe_glob (v := .ref T.a_NoWalker) (by rfl) T.g_NoWalker rfl) pa_nil))) pa_nil))))))
      (pss_one (ps_ret (pe_and (pe_cmpR op_eq (pe_bm PySem.F.plainAttrs_list PySem.F.slot_list_count PySem.F.type_list_count mt_countV (pv 1) (pa_cons pe_bl pa_nil)) pe_int (nomark _)) (pe_and (pe_callB (ExcM.call_isP T.exc_NoWalker List.mem_cons_self hz hf) (by rfl) T.m_isinstance (by decide +kernel) (pa_cons (pv 0) (pa_cons (pe_glob (v := .ref T.a_NeedleError) (by rfl) T.g_NeedleError rfl) pa_nil))) (pe_one (pe_callB (ExcM.call_isP T.exc_NoWalker List.mem_cons_self hz hf) (by rfl) T.m_isinstance (by decide +kernel) (pa_cons (pv 0) (pa_cons (pe_bltn (v := .ty "ValueError") (by rfl) T.m_ValueError (by decide +kernel) rfl) pa_nil)))))))))), ?_⟩
    have ro : ∀ {C : Addr} (u : Value), RelV (.ref C) u → u = .ref C := fun u h => h
    refine ⟨_, rfl, _, _, _, fs, rfl, ro, hd, T.kit_NoWalker_NoLot, _, rfl, _, _, _, fs, rfl, ro, hd, T.kit_NoWalker_BadLog, _, rfl, _, _, _, fs, rfl, ro, hd, T.kit_NoWalker_NoDealing, _, rfl, _, _, _, fs, rfl, ro, hd, T.kit_NoWalker_BadBox, by show 4 ≤ sizeLine; decide, fun l1 n1 => ?_⟩
    have s1 := same_upd (o := .lst [.bl false, .bl false, .bl false, .bl false]) n1
    have hd1 := s1 _ _ hd
    refine ⟨.ref l1, rfl, _, rfl, _, _, _, fs, rfl, ro, hd1, T.kit_NoWalker_NoName, _, rfl, _, _, _, fs, rfl, ro, hd1, T.kit_NoWalker_Twice, _, rfl, _, _, _, fs, rfl, ro, hd1, T.kit_NoWalker_NoWalker, by show 3 ≤ sizeLine; decide, fun l2 n2 => ?_⟩
    have s2 := same_upd (o := .lst [.bl false, .bl false, .bl true]) n2
    refine ⟨l1, l2, _, _, rfl, rfl, s2 _ _ upd_same, upd_same, by show 7 ≤ sizeLine; decide, fun l3 n3 => ?_⟩
    have s3 := same_upd (o := .lst ([.bl false, .bl false, .bl false, .bl false] ++ [.bl false, .bl false, .bl true])) n3
    have hd3 := s3 _ _ (s2 _ _ hd1)
    refine ⟨.ref l3, rfl, .inl ⟨rfl, _, .inl (.inl upd_same)⟩, l3, _, _, rfl, rfl, .inl (.inl upd_same), rfl, rfl, rfl, _, rfl, ite2 (fun _ => ?_) (fun z => absurd (decide_eq_true rfl) z)⟩
    refine ⟨_, rfl, _, _, _, fs, rfl, ro, hd3, T.kit_NoWalker_NeedleError, _, rfl, iteT ?_⟩
    exact ⟨_, rfl, _, _, _, fs, rfl, (fun u h => h), hd3, T.kit_VE_NoWalker, q _ ((s1.trans s2).trans s3)⟩
def anyD : List PyData := [.none, .bool true, .bool false, .str "", .str "n", .str "N", .str "north", .int 0, .int 1, .int (-1), .int 7, .int 8, .int (10 ^ 29), .str "0", .tuple [], .tuple [.int 0], .tuple [.str "n"], .list [], .list [.int 0], .tuple [.str "a", .int 0]]
def spAnything (K : PySem.W.Frag) : Sp := fun vs H Q _ => ∃ p X, vs = [.ref p] ∧ Pool H p ∧ HX p X H ∧ ∀ H' v d, But p H H' → Pool H' p → d ∈ anyD → Dp K (wo H' X) v d → Q v H'
theorem ok_Lanything (T : Top w K mg) : FnOk P w K mg base CX0 2 T.a_Lanything T.fd_Lanything ["_law_pool_here"] (spAnything K) := by
  have G_Ltake := ok_Ltake (P := P) (w := w) (base := base) T
  refine T.F_Lanything.ok sc_Lanything (fun vs H Q E h => ?_) (fun cdv A outer s H vs Q E hr h => ?_)
  · obtain ⟨p, X, rfl, _⟩ := h
    rfl
  · obtain ⟨p, X, rfl, hp, x, q⟩ := h
    refine ⟨_, (pss_cons (ps_set (i := 1) sc_Lanything.nd rfl (.inl rfl) (pe_lst (pa_cons pe_non (pa_cons pe_bl (pa_cons pe_bl (pa_cons pe_str (pa_cons pe_str (pa_cons pe_str (pa_cons pe_str (pa_cons pe_int (pa_cons pe_int (pa_cons (pe_un un_neg pe_int) (pa_cons pe_int (pa_cons pe_int (pa_cons (pe_op op_pow pe_int pe_int) (pa_cons pe_str pa_nil))))))))))))))))
      (pss_one (ps_ret (pe_ix ix_list (pe_op op_cat (pv 1) (pe_lst (pa_cons (pe_tup pa_nil) (pa_cons (pe_tup (pa_cons pe_int pa_nil)) (pa_cons (pe_tup (pa_cons pe_str pa_nil)) (pa_cons (pe_lst pa_nil) (pa_cons (pe_lst (pa_cons pe_int pa_nil)) (pa_cons (pe_tup (pa_cons pe_str (pa_cons pe_int pa_nil))) pa_nil)))))))) (pe_call G_Ltake hr (by rfl) T.g_Ltake T.F_Ltake.kp T.b_Ltake .nil pass0 (pa_cons (pv 0) (pa_cons pe_int pa_nil))) (fun _ _ => rfl))))), ?_⟩
    refine ⟨_, rfl, _, _, rfl, rfl, ⟨by decide, by decide, by decide⟩, by show 14 ≤ sizeLine; decide, fun l1 n1 => ?_⟩
    refine ⟨.ref l1, rfl, Nat.zero_le _, fun t1 m1 => ⟨by show 1 ≤ sizeLine; decide, fun t2 m2 => ⟨by show 1 ≤ sizeLine; decide, fun t3 m3 => ⟨Nat.zero_le _, fun t4 m4 => ⟨by show 1 ≤ sizeLine; decide, fun t5 m5 => ⟨by show 2 ≤ sizeLine; decide, fun t6 m6 => ⟨by show 6 ≤ sizeLine; decide, fun l2 n2 => ?_⟩⟩⟩⟩⟩⟩⟩
    have z1 := same_upd (o := .lst [.non, .bl true, .bl false, .str "", .str "n", .str "N", .str "north", .int 0, .int 1, .int (-1), .int 7, .int 8, .int (10 ^ (Int.toNat 29)), .str "0"]) n1
    have z2 := same_upd (o := .tup []) m1
    have z3 := same_upd (o := .tup [.int 0]) m2
    have z4 := same_upd (o := .tup [.str "n"]) m3
    have z5 := same_upd (o := .lst []) m4
    have z6 := same_upd (o := .lst [.int 0]) m5
    have z7 := same_upd (o := .tup [.str "a", .int 0]) m6
    have z8 := same_upd (o := .lst [.ref t1, .ref t2, .ref t3, .ref t4, .ref t5, .ref t6]) n2
    refine ⟨l1, l2, _, _, rfl, rfl, z8 _ _ (z7 _ _ (z6 _ _ (z5 _ _ (z4 _ _ (z3 _ _ (z2 _ _ upd_same)))))), upd_same, by show 20 ≤ sizeLine; decide, fun l3 n3 => ?_⟩
    have z9 := same_upd (o := .lst ([.non, .bl true, .bl false, .str "", .str "n", .str "N", .str "north", .int 0, .int 1, .int (-1), .int 7, .int 8, .int (10 ^ (Int.toNat 29)), .str "0"] ++ [.ref t1, .ref t2, .ref t3, .ref t4, .ref t5, .ref t6])) n3
    have zA := (((((((z1.trans z2).trans z3).trans z4).trans z5).trans z6).trans z7).trans z8).trans z9
    have hp9 := hp.same zA
    refine ⟨.ref p, rfl, p, 20, rfl, by decide, by decide, hp9, fun H' r bt hp' r0 r1 => ?_⟩
    have e3 := bt _ _ ((hp.same ((((((((z1.trans z2).trans z3).trans z4).trans z5).trans z6).trans z7).trans z8))).ne_new n3) (upd_same (o := .lst ([.non, .bl true, .bl false, .str "", .str "n", .str "N", .str "north", .int 0, .int 1, .int (-1), .int 7, .int 8, .int (10 ^ (Int.toNat 29)), .str "0"] ++ [.ref t1, .ref t2, .ref t3, .ref t4, .ref t5, .ref t6])) (a := l3))
    have f1 := bt _ _ (hp9.ne_tup (z9 _ _ (z8 _ _ (z7 _ _ (z6 _ _ (z5 _ _ (z4 _ _ (z3 _ _ upd_same)))))))) (z9 _ _ (z8 _ _ (z7 _ _ (z6 _ _ (z5 _ _ (z4 _ _ (z3 _ _ (upd_same (a := t1) (o := .tup []))))))))) 
    have f2 := bt _ _ (hp9.ne_tup (z9 _ _ (z8 _ _ (z7 _ _ (z6 _ _ (z5 _ _ (z4 _ _ upd_same))))))) (z9 _ _ (z8 _ _ (z7 _ _ (z6 _ _ (z5 _ _ (z4 _ _ (upd_same (a := t2) (o := .tup [.int 0]))))))))
    have f3 := bt _ _ (hp9.ne_tup (z9 _ _ (z8 _ _ (z7 _ _ (z6 _ _ (z5 _ _ upd_same)))))) (z9 _ _ (z8 _ _ (z7 _ _ (z6 _ _ (z5 _ _ (upd_same (a := t3) (o := .tup [.str "n"])))))))
    have f4 := bt _ _ ((hp.same (((z1.trans z2).trans z3).trans z4)).ne_new m4) (z9 _ _ (z8 _ _ (z7 _ _ (z6 _ _ (upd_same (a := t4) (o := .lst []))))))
    have f5 := bt _ _ ((hp.same ((((z1.trans z2).trans z3).trans z4).trans z5)).ne_new m5) (z9 _ _ (z8 _ _ (z7 _ _ (upd_same (a := t5) (o := .lst [.int 0])))))
    have f6 := bt _ _ (hp9.ne_tup (z9 _ _ (z8 _ _ upd_same))) (z9 _ _ (z8 _ _ (upd_same (a := t6) (o := .tup [.str "a", .int 0]))))
    have f1 := (wo_in (H := H') (X := X) (b := t1) (x.fresh (z1.free m1))).trans f1
    have f2 := (wo_in (H := H') (X := X) (b := t2) (x.fresh ((z1.trans z2).free m2))).trans f2
    have f3 := (wo_in (H := H') (X := X) (b := t3) (x.fresh (((z1.trans z2).trans z3).free m3))).trans f3
    have f4 := (wo_in (H := H') (X := X) (b := t4) (x.fresh ((((z1.trans z2).trans z3).trans z4).free m4))).trans f4
    have f5 := (wo_in (H := H') (X := X) (b := t5) (x.fresh (((((z1.trans z2).trans z3).trans z4).trans z5).free m5))).trans f5
    have f6 := (wo_in (H := H') (X := X) (b := t6) (x.fresh ((((((z1.trans z2).trans z3).trans z4).trans z5).trans z6).free m6))).trans f6
    have bA : But p H H' := (But.of zA).trans bt
    obtain ⟨k, rfl⟩ : ∃ k : Nat, r = k := ⟨r.toNat, by omega⟩
    have hk : k < 20 := by omega
    have go : ∀ v d, ([.non, .bl true, .bl false, .str "", .str "n", .str "N", .str "north", .int 0, .int 1, .int (-1), .int 7, .int 8, .int (10 ^ (Int.toNat 29)), .str "0"] ++ [.ref t1, .ref t2, .ref t3, .ref t4, .ref t5, .ref t6] : List V)[k]? = some v → anyD[k]? = some d → Dp K (wo H' X) v d → rIxL K (.ref l3) (.int (k : Int)) H' Q := fun v d h1 h2 h3 =>
      ⟨l3, _, _, v, rfl, rfl, .inl (.inl e3), atI_nat h1, q H' v d bA hp' (List.mem_of_getElem? h2) h3⟩
    match k, hk, go with
    | 0, _, go => exact go _ _ rfl rfl .non
    | 1, _, go => exact go _ _ rfl rfl (.bl _)
    | 2, _, go => exact go _ _ rfl rfl (.bl _)
    | 3, _, go => exact go _ _ rfl rfl (.str _)
    | 4, _, go => exact go _ _ rfl rfl (.str _)
    | 5, _, go => exact go _ _ rfl rfl (.str _)
    | 6, _, go => exact go _ _ rfl rfl (.str _)
    | 7, _, go => exact go _ _ rfl rfl (.int _)
    | 8, _, go => exact go _ _ rfl rfl (.int _)
    | 9, _, go => exact go _ _ rfl rfl (.int _)
    | 10, _, go => exact go _ _ rfl rfl (.int _)
    | 11, _, go => exact go _ _ rfl rfl (.int _)
    | 12, _, go => exact go _ _ rfl rfl (.int _)
    | 13, _, go => exact go _ _ rfl rfl (.str _)
    | 14, _, go => exact go _ _ rfl rfl (.tup (.inl (.inl f1)) .nil)
    | 15, _, go => exact go _ _ rfl rfl (.tup (.inl (.inl f2)) (.cons (.int _) .nil))
    | 16, _, go => exact go _ _ rfl rfl (.tup (.inl (.inl f3)) (.cons (.str _) .nil))
    | 17, _, go => exact go _ _ rfl rfl (.lst (.inl (.inl f4)) .nil)
    | 18, _, go => exact go _ _ rfl rfl (.lst (.inl (.inl f5)) (.cons (.int _) .nil))
    | 19, _, go => exact go _ _ rfl rfl (.tup (.inl (.inl f6)) (.cons (.str _) (.cons (.int _) .nil)))
    | k + 20, h, _ => exact absurd h (by omega)
def spSmallBox (K : PySem.W.Frag) : Sp := fun vs H Q _ => ∃ (p : Addr) (n : Int), vs = [.ref p, .int n] ∧ Pool H p ∧ ∀ H' t (box : List Nat), But p H H' → Pool H' p → H t = none → H' t = some (.tup (boxV box)) → box.length = 8 → Q (.ref t) H'
theorem box_set {box : List Nat} {j n : Nat} (h : box[j]? = some n) : (boxV box).set j (.int ((n : Int) + 1)) = boxV (box.set j (n + 1)) := by
  unfold boxV
  rw [List.map_set]
  congr 1
theorem ok_Lsmall_box (T : Top w K mg) : FnOk P w K mg base CX0 2 T.a_Lsmall_box T.fd_Lsmall_box ["_law_pool_here", "_law_legs_here"] (spSmallBox K) := by
  have G_Ltake := ok_Ltake (P := P) (w := w) (base := base) T
  refine T.F_Lsmall_box.ok sc_Lsmall_box (fun vs H Q E h => ?_) (fun cdv A outer s H vs Q E hr h => ?_)
  · obtain ⟨p, n, rfl, _⟩ := h
    rfl
  · obtain ⟨p, n, rfl, hp, q⟩ := h
    refine ⟨_, (pss_cons (ps_set (i := 2) sc_Lsmall_box.nd rfl (.inl rfl) (pe_op op_rep (pe_lst (pa_cons pe_int pa_nil)) pe_int))
      (pss_cons (ps_set (i := 3) sc_Lsmall_box.nd rfl (.inl rfl) (pe_op op_add pe_int (pe_call G_Ltake hr (by rfl) T.g_Ltake T.F_Ltake.kp T.b_Ltake .nil pass0 (pa_cons (pv 0) (pa_cons pe_int pa_nil)))))
      (pss_cons (ps_for PassesOwn.never rfl (pi_range1 (by rfl) T.m_range (pa_cons (pe_call G_Ltake hr (by rfl) T.g_Ltake T.F_Ltake.kp T.b_Ltake .nil pass0 (pa_cons (pv 0) (pa_cons (pe_op op_sub pe_int (pe_op op_mul pe_int (pe_callTy call_int1 (by rfl) T.m_int (by decide +kernel) (pa_cons (pe_cmpR op_gt (pv 1) pe_int (nomark _)) pa_nil)))) pa_nil))) pa_nil)) (pg_name (i := 4) sc_Lsmall_box.nd rfl (.inl rfl)) (pss_one (ps_augS (pv 2) (pe_call G_Ltake hr (by rfl) T.g_Ltake T.F_Ltake.kp T.b_Ltake .nil pass0 (pa_cons (pv 0) (pa_cons (pv 3) pa_nil))) SeqW.get_list pe_int ip_add set_list)))
      (pss_one (ps_ret (pe_callTy call_tuple_of (by rfl) T.m_tuple (by decide +kernel) (pa_cons (pv 2) pa_nil))))))), ?_⟩
    refine ⟨by show 1 ≤ sizeLine; decide, fun l nl => ⟨l, 8, _, rfl, rfl, upd_same, by decide, by decide, by show 1 * 8 ≤ sizeLine; decide, fun L nL => ?_⟩⟩
    have sl := same_upd (o := .lst [.int 0]) nl
    have sL := same_upd (o := .lst (boxV [0, 0, 0, 0, 0, 0, 0, 0])) nL
    have hp2 := (hp.same sl).same sL
    have nLp : L ≠ p := (hp.same sl).ne_new nL
    have nL0 : H L = none := sl.free nL
    have b2 : But p H (upd (upd H l (.lst [.int 0])) L (.lst (boxV [0, 0, 0, 0, 0, 0, 0, 0]))) := But.of (sl.trans sL)
    refine ⟨.ref p, rfl, p, 8, rfl, by decide, by decide, hp2, fun H3 k b3 hp3 k0 k1 => ⟨_, _, rfl, rfl, ?_⟩⟩
    have eL3 := b3 _ _ nLp (upd_same (a := L) (o := .lst (boxV [0, 0, 0, 0, 0, 0, 0, 0])))
    have hm : ∀ b : Bool, 0 < (9 : Int) - 2 * (if b then 1 else 0) ∧ (9 : Int) - 2 * (if b then 1 else 0) < 100 := by decide
    refine ⟨.ref p, rfl, .int n, rfl, _, _, rfl, rfl, .inr ⟨_, rfl, _, _, rfl, rfl, .inl ⟨by decide, by decide⟩, _, _, rfl, rfl, p, _, rfl, (hm _).1, Int.lt_trans (hm _).2 (by decide), hp3, fun H4 r b4 hp4 r0 r1 => ?_⟩⟩
    have r100 := Int.lt_trans r1 (hm _).2
    refine ⟨r, rfl, by omega, by omega, for_range (n := r.toNat) (fun i σ H' => But p H H' ∧ Pool H' p ∧ ∃ y4 box, σ = [some (.ref p), some (.int n), some (.ref L), some (.int (1 + k)), y4] ∧ H' L = some (.lst (boxV box)) ∧ box.length = 8) ⟨(b2.trans b3).trans b4, hp4, _, _, rfl, b4 _ _ nLp eL3, rfl⟩ ?_ ?_⟩
    · rintro i σ H5 hi ⟨b5, hp5, y4, box, rfl, eL, lb⟩
      refine ⟨.ref L, rfl, .ref p, rfl, .int (1 + k), rfl, p, 1 + k, rfl, by omega, by omega, hp5, fun H6 j b6 hp6 j0 j1 => ?_⟩
      obtain ⟨j, rfl⟩ : ∃ jj : Nat, j = jj := ⟨j.toNat, by omega⟩
      have hj : j < box.length := by omega
      have eb : box[j]? = some box[j] := List.getElem?_eq_getElem hj
      have eL6 := b6 _ _ nLp eL
      have lbv : (boxV box).length = box.length := List.length_map _
      refine ⟨L, boxV box, j, .int (box[j] : Nat), rfl, rfl, .inl (.inl eL6), by unfold boxV; rw [List.getElem?_map, eb]; rfl, _, _, rfl, rfl, L, boxV box, j, j, rfl, rfl, eL6, Evl.ixN_nat (by omega), ?_⟩
      refine ⟨(b5.trans b6).mut nL0, hp6.upd nLp, _, box.set j (box[j] + 1), rfl, ?_, by rw [List.length_set]; exact lb⟩
      rw [upd_same, box_set eb]
    · rintro σ H5 ⟨b5, hp5, y4, box, rfl, eL, lb⟩
      refine ⟨.ref L, rfl, L, _, rfl, .inl ⟨.inl (.inl eL), fun t nt => ?_⟩⟩
      have st := same_upd (o := .tup (boxV box)) nt
      exact q _ t box (b5.trans (But.of st)) (hp5.same st) (b5.free (hp5.ne_new nt) nt) upd_same lb
theorem ok_LwholeD (T : Top w K mg) : FnOk P w K mg base CX0 1 T.a_Lwhole T.fd_Lwhole ["_law_thing"] (spWholeD K) := by
  refine T.F_Lwhole.ok sc_Lwhole (fun vs H Q E h => ?_) (fun cdv A outer s H vs Q E hr h => ?_)
  · obtain ⟨v, d, rfl, _⟩ := h
    rfl
  · obtain ⟨v, d, rfl, hd, q⟩ := h
    refine ⟨_, (pss_one (ps_ret (pe_and (pe_callB call_isi (by rfl) T.m_isinstance (by decide +kernel) (pa_cons (pv 0) (pa_cons (pe_bltn (v := .ty "int") (by rfl) T.m_int (by decide +kernel) rfl) pa_nil))) (pe_one (pe_not (pe_callB call_isi (by rfl) T.m_isinstance (by decide +kernel) (pa_cons (pv 0) (pa_cons (pe_bltn (v := .ty "bool") (by rfl) T.m_bool (by decide +kernel) rfl) pa_nil)))))))), ?_⟩
    cases hd with
    | non => exact ⟨.non, rfl, _, _, _, _, false, rfl, .ty _, .base .non, kit_ty (by decide +kernel), _, rfl, iteF q⟩
    | bl b => exact ⟨.bl b, rfl, _, _, _, _, true, rfl, .ty _, .base (.bl b), kit_ty (by decide +kernel), _, rfl, iteT ⟨.bl b, rfl, _, _, _, _, true, rfl, .ty _, .base (.bl b), kit_ty (by decide +kernel), _, rfl, q⟩⟩
    | int i => exact ⟨.int i, rfl, _, _, _, _, true, rfl, .ty _, .base (.int i), kit_ty (by decide +kernel), _, rfl, iteT ⟨.int i, rfl, _, _, _, _, false, rfl, .ty _, .base (.int i), kit_ty (by decide +kernel), _, rfl, q⟩⟩
    | str z => exact ⟨.str z, rfl, _, _, _, _, false, rfl, .ty _, .base (.str z), kit_ty (by decide +kernel), _, rfl, iteF q⟩
    | lst h _ => exact ⟨_, rfl, _, _, _, _, false, rfl, .ty _, ty_lst h, kit_ty (by decide +kernel), _, rfl, iteF q⟩
    | tup h _ => exact ⟨_, rfl, _, _, _, _, false, rfl, .ty _, ty_tup h, kit_ty (by decide +kernel), _, rfl, iteF q⟩
theorem lot8 (i : Int) : lotD (.int i) = (decide (0 ≤ i) && decide (i < 8)) := by
  show (decide (0 ≤ i) && decide (i ≤ 7)) = _
  by_cases h : i < 8
  · rw [decide_eq_true h, decide_eq_true (show i ≤ 7 by omega)]
  · rw [decide_eq_false h, decide_eq_false (show ¬ i ≤ 7 by omega)]
--@@SPLIT
/-! ### a refusal with one field that is flat -/
def RaV (C : Addr) (H : Hp) (fs : List (Str × V)) (E : XK) : Prop := ∀ H' dd, Same H H' → H dd = none → H' dd = some (.xd fs) → E (.ref C) (some dd) H'
theorem RaV.same {C : Addr} {H H' : Hp} {fs : List (Str × V)} {E : XK} (h : RaV C H fs E) (s : Same H H') : RaV C H' fs E := fun H2 dd s2 n e => h H2 dd (s.trans s2) (s.free n) e
def spIni (C : Addr) (key : Str) (fl : V → Prop) : Sp := fun vs H Q _ => ∃ (a : Addr) (v : V), vs = [.ref a, v] ∧ fl v ∧ H a = some (exo a C none) ∧
  ∀ H' dx, (∀ b o, b ≠ a → H b = some o → H' b = some o) → H dx = none → dx ≠ a → H' a = some (exo a C (some dx)) → H' dx = some (exd dx [(key, v)]) → Q .non H'
theorem raise1 {C : Addr} {key : Str} {fl : V → Prop} {v : V} {H : Hp} {E : XK} (hv : fl v) (bad : RaV C H [(key, v)] E) (a : Addr) (na : H a = none) :
    spIni C key fl (.ref a :: ([v] ++ [])) (upd H a (exo a C none)) (fun v H2 => v = .non ∧ ∃ (d : Addr) (fs : List (Str × V)), H2 a = some (exo a C (some d)) ∧ H2 d = some (exd d fs) ∧ H d = none ∧ E (.ref C) (some d) (upd (del H2 a) d (.xd fs))) (fun _ _ _ => False) :=
  ⟨a, v, rfl, hv, upd_same, fun H4 dx keep ndx ne ea ed => by
    rw [upd_ne ne] at ndx
    refine ⟨rfl, dx, _, ea, ed, ndx, bad _ dx (fun b o h => ?_) ndx upd_same⟩
    have na2 : b ≠ a := ne_of_none h na
    rw [upd_ne (ne_of_none h ndx), del_ne na2]
    exact keep b o na2 (by rw [upd_ne na2]; exact h)⟩
def isIntV (v : V) : Prop := ∃ i : Int, v = .int i
def isStrV (v : V) : Prop := ∃ z : Str, v = .str z
theorem ok_init (T : Top w K mg) : FnOk P w K mg base CX0 4 T.a_init T.fd_init ["self", "at"] (spIni T.a_NoDealing "at" isIntV) := by
  have G_kept := ok_kept (P := P) (w := w) (base := base) T
  refine T.F_init.ok sc_init (fun vs H Q E h => ?_) (fun cdv A outer s H vs Q E hr h => ?_)
  · obtain ⟨a, i, rfl, _⟩ := h
    rfl
  · obtain ⟨a, _, rfl, ⟨i, rfl⟩, ha, q⟩ := h
    refine ⟨_, (pss_one (ps_ost (pv 0) (pe_call G_kept (hr.mono (by decide)) (by rfl) T.g_kept T.F_kept.kp T.b_kept .nil pass0 (pa_cons (pv 1) pa_nil)))), ?_⟩
    refine ⟨_, rfl, .int i, .int i, rfl, siz_int _, .int i, fun H1 v' s1 hv' => ?_⟩
    cases hv'
    refine ⟨.ref a, rfl, a, T.a_NoDealing, rfl, T.oex, T.no_at, .inl ⟨s1 _ _ ha, fun dx ndx ne => ?_⟩⟩
    refine q _ dx (fun b o hb h => ?_) (s1.free ndx) ne upd_same ?_
    · rw [upd_ne hb]
      exact same_upd ndx _ _ (s1 _ _ h)
    · rw [upd_ne ne]
      exact upd_same
theorem ok_init_NoWalker (T : Top w K mg) : FnOk P w K mg base CX0 4 T.a_init_NoWalker T.fd_init_NoWalker ["self", "name"] (spIni T.a_NoWalker "name" isStrV) := by
  have G_kept := ok_kept (P := P) (w := w) (base := base) T
  refine T.F_init_NoWalker.ok sc_init_NoWalker (fun vs H Q E h => ?_) (fun cdv A outer s H vs Q E hr h => ?_)
  · obtain ⟨a, i, rfl, _⟩ := h
    rfl
  · obtain ⟨a, _, rfl, ⟨i, rfl⟩, ha, q⟩ := h
    refine ⟨_, (pss_one (ps_ost (pv 0) (pe_call G_kept (hr.mono (by decide)) (by rfl) T.g_kept T.F_kept.kp T.b_kept .nil pass0 (pa_cons (pv 1) pa_nil)))), ?_⟩
    refine ⟨_, rfl, .str i, .str i, rfl, siz_str _, .str i, fun H1 v' s1 hv' => ?_⟩
    cases hv'
    refine ⟨.ref a, rfl, a, T.a_NoWalker, rfl, T.oex_NoWalker, T.no_NoWalker_name, .inl ⟨s1 _ _ ha, fun dx ndx ne => ?_⟩⟩
    refine q _ dx (fun b o hb h => ?_) (s1.free ndx) ne upd_same ?_
    · rw [upd_ne hb]
      exact same_upd ndx _ _ (s1 _ _ h)
    · rw [upd_ne ne]
      exact upd_same
def spLogX (K : PySem.W.Frag) (C D : Addr) : Sp := fun vs H Q E => ∃ (x : Addr) (box : List Nat) (rs : List Row) (z : Str), vs = [.ref x, .str z] ∧ AtlasAt K C H x box rs ∧ (nms rs).Nodup ∧ rs.length ≤ 60 ∧ (∀ (m : Nat) (r : Row), rs[m]? = some r → z = r.1 → ∀ v, Dp K H v (logD r) → Q v H) ∧ (z ∉ nms rs → RaV D H [("name", .str z)] E)
theorem in_nms {rs : List Row} {z : Str} : inV (.str z) (namV rs) = decide (z ∈ nms rs) := by
  unfold inV
  by_cases h : z ∈ nms rs
  · rw [decide_eq_true h]
    exact List.any_eq_true.mpr ⟨.str z, List.mem_map.mpr ⟨z, h, rfl⟩, decide_eq_true rfl⟩
  · rw [decide_eq_false h]
    refine Bool.eq_false_iff.mpr fun e => h ?_
    obtain ⟨v, hv, ev⟩ := List.any_eq_true.mp e
    obtain ⟨y, hy, rfl⟩ := List.mem_map.mp hv
    have ev : y = z := of_decide_eq_true ev
    rw [← ev]
    exact hy
theorem ok_Atlas_log (T : Top w K mg) : FnOk P w K mg base (L2.CX P w) 6 T.a_Atlas_log T.fd_Atlas_log ["self", "name"] (spLogX K T.a_Atlas T.a_NoWalker) := by
  have G_init_NoWalker := ok_init_NoWalker (P := P) (w := w) (base := base) T
  refine T.F_Atlas_log.okX sc_Atlas_log (fun vs H Q E h => ?_) (fun cdv A outer s H vs Q E hr h => ?_)
  · obtain ⟨x, box, rs, z, rfl, _⟩ := h
    rfl
  · obtain ⟨x, box, rs, z, rfl, hA, hnd, hlen, q, bad⟩ := h
    obtain ⟨dx, b, n, l, ls, on, po, h1, h2, hn, h4, h5⟩ := hA
    have h3 : SqT K H n (namV rs) := .inl (.inr ⟨on, hn⟩)
    refine ⟨_, (pss_cons (ps_if (pt_cmpR op_notIn_seq (pv 1) (pe_fld (pv 0) rfl) (by rfl)) (pss_one (ps_raise rfl (takes_of rfl rfl rfl rfl) (pmk_oex T.oex_NoWalker T.iC_NoWalker T.tI_NoWalker G_init_NoWalker (hr.mono (by decide)) T.b_init_NoWalker .nil pass0 (by rfl) T.g_NoWalker (pa_cons (pv 1) pa_nil)))) pss_nil)
      (pss_one (ps_ret (pe_ix ix_tup (pe_fld (pv 0) rfl) (OwnI.pe_bmF PySem.F.plainAttrs_tuple PySem.F.slot_tuple_index PySem.F.type_tuple_index mt_tup_index (pe_fld (pv 0) rfl) (pa_cons (pv 1) pa_nil)) (fun _ _ => rfl))))), ?_⟩
    have hfl : (namV rs).all flatV = true := List.all_eq_true.mpr fun v hv => by
      obtain ⟨z, _, rfl⟩ := List.mem_map.mp hv
      rfl
    refine ⟨.str z, rfl, .ref x, rfl, x, T.a_Atlas, dx, _, _, rfl, h1, T.cl_Atlas, T.nf_Atlas_names, fl_names b n l, n, _, rfl, .inr h3, rfl, hfl, _, rfl, ?_⟩
    rw [in_nms]
    by_cases hz : z ∈ nms rs
    · rw [decide_eq_true hz]
      refine iteF ?_
      obtain ⟨m, hj⟩ := List.mem_iff_getElem?.mp hz
      have hj0 := hj
      unfold nms at hj0
      rw [List.getElem?_map] at hj0
      cases em : rs[m]? with
      | none => rw [em] at hj0; cases hj0
      | some r =>
      rw [em] at hj0
      have ez : z = r.1 := (Option.some.inj hj0).symm
      refine ⟨.ref x, rfl, x, T.a_Atlas, dx, _, _, rfl, h1, T.cl_Atlas, T.nf_Atlas_logs, fl_logs b n l, ?_⟩
      refine ⟨.ref x, rfl, x, T.a_Atlas, dx, _, _, rfl, h1, T.cl_Atlas, T.nf_Atlas_names, fl_names b n l, ⟨n, on, _, rfl, hn, po⟩, .str z, rfl, n, nms rs, z, m, rfl, rfl, h3, hj, ?_, ?_⟩
      · intro k hk e
        have hlt := (List.getElem?_eq_some_iff.mp hj).1
        have hkl : k < (nms rs).length := by omega
        have e1 := List.getElem?_eq_getElem hkl
        have e2 := List.getElem?_eq_getElem hlt
        have e3 : (nms rs)[k] = (nms rs)[m] := Option.some.inj ((e1.symm.trans e).trans (hj.symm.trans e2))
        exact (List.pairwise_iff_getElem.mp hnd) k m hkl hlt hk e3
      · have hls : ls.length = rs.length := by
          have := dpa_len _ _ h5
          rw [List.length_map] at this
          exact this
        have hml : m < ls.length := by rw [hls]; exact (List.getElem?_eq_some_iff.mp em).1
        obtain ⟨d, fd, gd⟩ := dpa_at _ ls h5 m ls[m] (List.getElem?_eq_getElem hml)
        rw [List.getElem?_map, em] at fd
        cases fd
        exact ⟨l, ls, m, _, rfl, rfl, h4, atI_nat (List.getElem?_eq_getElem hml), q m r em ez _ gd⟩
    · rw [decide_eq_false hz]
      exact iteT ⟨.str z, rfl, by show 1 ≤ 1000; decide, fun a na => raise1 ⟨_, rfl⟩ (bad hz) a na⟩
/-! ### the first that is not dealt -/
def firstNo (box : List Nat) (ds : List PyData) : Option Nat := (List.range ds.length).find? fun i => !(moreI box (ds.take i) (ds.getD i .none))
theorem firstNo_none {box : List Nat} {ds : List PyData} (h : ∀ i d, ds[i]? = some d → moreI box (ds.take i) d = true) : firstNo box ds = none := by
  unfold firstNo
  rw [List.find?_range_eq_none]
  intro i hi
  have := h i ds[i] (List.getElem?_eq_getElem hi)
  rw [List.getD_eq_getElem?_getD, List.getElem?_eq_getElem hi]
  show (!(!moreI box (ds.take i) ds[i])) = true
  rw [this]; rfl
theorem firstNo_some {box : List Nat} {ds : List PyData} {i : Nat} {d : PyData} (hi : ds[i]? = some d) (hm : ∀ j e, j < i → ds[j]? = some e → moreI box (ds.take j) e = true) (hno : moreI box (ds.take i) d = false) : firstNo box ds = some i := by
  unfold firstNo
  rw [List.find?_range_eq_some]
  have hil := (List.getElem?_eq_some_iff.mp hi).1
  refine ⟨?_, List.mem_range.mpr hil, fun j hj => ?_⟩
  · rw [List.getD_eq_getElem?_getD, hi]
    show (!moreI box (ds.take i) d) = true
    rw [hno]; rfl
  · have hjl : j < ds.length := by omega
    have := hm j ds[j] hj (List.getElem?_eq_getElem hjl)
    rw [List.getD_eq_getElem?_getD, List.getElem?_eq_getElem hjl]
    show (!(!moreI box (ds.take j) ds[j])) = true
    rw [this]; rfl
def dueX (box : List Nat) (m : Nat) (ds : List PyData) : Option Nat := if ds.length = m then firstNo box ds else some m
theorem dueX_none {box : List Nat} {m : Nat} {ds : List PyData} (hm : ds.length = m) (h : ∀ i d, ds[i]? = some d → moreI box (ds.take i) d = true) : dueX box m ds = none := by
  unfold dueX
  rw [if_pos hm]
  exact firstNo_none h
theorem dueX_some {box : List Nat} {m : Nat} {ds : List PyData} {i : Nat} {d : PyData} (hl : ds.length = m) (hi : ds[i]? = some d) (hm : ∀ j e, j < i → ds[j]? = some e → moreI box (ds.take j) e = true) (hno : moreI box (ds.take i) d = false) : dueX box m ds = some i := by
  unfold dueX
  rw [if_pos hl]
  exact firstNo_some hi hm hno
theorem dueX_len {box : List Nat} {m : Nat} {ds : List PyData} (hl : ¬ ds.length = m) : dueX box m ds = some m := if_neg hl
theorem dueX_all {box : List Nat} {m : Nat} {ds : List PyData} (h : dueX box m ds = none) : ds.length = m ∧ ∀ i d, ds[i]? = some d → moreI box (ds.take i) d = true := by
  unfold dueX at h
  by_cases hm : ds.length = m
  · rw [if_pos hm] at h
    refine ⟨hm, fun i d hi => ?_⟩
    unfold firstNo at h
    rw [List.find?_range_eq_none] at h
    have hil := (List.getElem?_eq_some_iff.mp hi).1
    have := h i hil
    rw [List.getD_eq_getElem?_getD, hi] at this
    have this : (!(!moreI box (ds.take i) d)) = true := this
    rw [Bool.not_not] at this
    exact this
  · rw [if_neg hm] at h
    cases h
def spRefDX (K : PySem.W.Frag) (C D : Addr) : Sp := fun vs H Q E => ∃ (x l : Addr) (box : List Nat) (rs : List Row) (us : List V) (ds : List PyData), vs = [.ref x, .ref l] ∧ AtlasAt K C H x box rs ∧ box.length = 8 ∧ (∀ r ∈ rs, RowOk r) ∧ rs.length ≤ 60 ∧ SqA K H l us ∧ DpAll K H us ds ∧ (dueX box (legL rs).length ds = none → ∀ H', Same H H' → Q .non H') ∧ (∀ i, dueX box (legL rs).length ds = some i → RaV D H [("at", .int (i : Nat))] E)
theorem ok_refuse_unless_dealt (T : Top w K mg) : FnOk P w K mg base (L2.CX P w) 6 T.a_refuse_unless_dealt T.fd_refuse_unless_dealt ["atlas", "dealing"] (spRefDX K T.a_Atlas T.a_NoDealing) := by
  have G_first_not_dealt := ok_first_not_dealt (P := P) (w := w) (base := base) T
  have G_Atlas_len := ok_Atlas_len (P := P) (w := w) (base := base) T
  have G_init := ok_init (P := P) (w := w) (base := base) T
  refine T.F_refuse_unless_dealt.okX sc_refuse_unless_dealt (fun vs H Q E h => ?_) (fun cdv A outer s H vs Q E hr h => ?_)
  · obtain ⟨x, l, box, rs, us, ds, rfl, _⟩ := h
    rfl
  · obtain ⟨x, l, box, rs, us, ds, rfl, hA, h8, hok, hlen, hl, hd, q, bad⟩ := h
    have lu := dpa_len _ _ hd
    refine ⟨_, (pss_cons (ps_if (pt_cmpR op_ne (pe_callB call_len_seq (by rfl) T.m_len (by decide +kernel) (pa_cons (pv 1) pa_nil)) (pe_callB (OwnI.call_lenO T.cl_Atlas T.me_Atlas_len G_Atlas_len (hr.mono (by decide)) T.b_Atlas_len) (by rfl) T.m_len (by decide +kernel) (pa_cons (pv 0) pa_nil)) (nomark _)) (pss_one (ps_raise rfl (takes_of rfl rfl rfl rfl) (pmk_oex T.oex T.iC T.tI G_init (hr.mono (by decide)) T.b_init .nil pass0 (by rfl) T.g_NoDealing (pa_cons (pe_callB (OwnI.call_lenO T.cl_Atlas T.me_Atlas_len G_Atlas_len (hr.mono (by decide)) T.b_Atlas_len) (by rfl) T.m_len (by decide +kernel) (pa_cons (pv 0) pa_nil)) pa_nil)))) pss_nil)
      (pss_cons (ps_set (i := 2) sc_refuse_unless_dealt.nd rfl (.inl rfl) (pe_call G_first_not_dealt (hr.mono (by decide)) (by rfl) T.g_first_not_dealt T.F_first_not_dealt.kp T.b_first_not_dealt .nil pass0 (pa_cons (pe_fld (pv 0) rfl) (pa_cons (pv 1) pa_nil))))
      (pss_one (ps_if (pt_cmpR op_notN (pv 2) pe_non (nomark _)) (pss_one (ps_raise rfl (takes_of rfl rfl rfl rfl) (pmk_oex T.oex T.iC T.tI G_init (hr.mono (by decide)) T.b_init .nil pass0 (by rfl) T.g_NoDealing (pa_cons (pv 2) pa_nil)))) pss_nil)))), ?_⟩
    have hA' := hA
    obtain ⟨dx, b, n, l5, ls, on, po, h1, hbx, _⟩ := hA'
    have ll := legL_len hok
    have lb : (legL rs).length ≤ 100000 := by omega
    refine ⟨.ref l, rfl, l, _, rfl, hl, .ref x, rfl, x, dx, _, rfl, h1, x, box, rs, rfl, hA, hok, hlen, fun H2 s2 => ⟨_, rfl, Nat.le_trans lb (by decide), rfl, _, rfl, ?_⟩⟩
    by_cases hm : ds.length = (legL rs).length
    · refine iteN (by rw [lu, hm]) ?_
      refine ⟨.ref x, rfl, x, T.a_Atlas, dx, _, _, rfl, s2 _ _ h1, T.cl_Atlas, T.nf_Atlas_box, fl_box b n l5, .ref l, rfl, b, l, box, _, _, rfl, sqt_same s2 hbx, h8, hl.same s2, dpa_same s2 _ _ hd, fun H3 s3 h => ?_, fun H3 i d3 s3 hi hmm hno => ?_⟩
      · exact ⟨_, rfl, rfl, _, rfl, iteF (q (dueX_none hm h) _ (s2.trans s3))⟩
      · exact ⟨_, rfl, rfl, _, rfl, iteT ⟨_, rfl, by show 1 ≤ 1000; decide, fun a na => raise1 ⟨_, rfl⟩ ((bad i (dueX_some hm hi hmm hno)).same (s2.trans s3)) a na⟩⟩
    · have ne : ¬ V.int (us.length : Nat) = .int ((legL rs).length : Nat) := fun z => hm (by
        have := V.int.inj z
        omega)
      refine iteDY (by rw [decide_eq_false ne]; rfl) ⟨.ref x, rfl, x, dx, _, rfl, s2 _ _ h1, x, box, rs, rfl, hA.same s2, hok, hlen, fun H3 s3 => ⟨_, rfl, Nat.le_trans lb (by decide), by show 1 ≤ 1000; decide, fun a na => raise1 ⟨_, rfl⟩ ((bad _ (dueX_len hm)).same (s2.trans s3)) a na⟩⟩
--@@SPLIT
/-! ### the lots of one walker's legs -/
def nmD : PyData → Str
  | .tuple (.str n :: _) => n
  | _ => ⟨#[]⟩
def lotDt (a : Fin 8) : PyData := .int (a.val : Nat)
def pk (z : Str) (ps : List (PyData × Fin 8)) : List (Fin 8) := (ps.filter fun p => decide (nmD p.1 = z)).map (·.2)
theorem pk_succ {z : Str} {ps : List (PyData × Fin 8)} {i : Nat} {p : PyData × Fin 8} (h : ps[i]? = some p) : pk z (ps.take (i + 1)) = pk z (ps.take i) ++ (if decide (nmD p.1 = z) = true then [p.2] else []) := by
  unfold pk
  rw [List.take_add_one, h, List.filter_append, List.map_append]
  congr 1
  show List.map _ (List.filter _ [p]) = _
  cases e : decide (nmD p.1 = z) with
  | true => rw [List.filter_cons, if_pos e]; rfl
  | false => rw [List.filter_cons, if_neg (by rw [e]; exact Bool.false_ne_true)]; rfl
theorem pk_le (z : Str) (ps : List (PyData × Fin 8)) (i : Nat) : (pk z (ps.take i)).length ≤ i := by
  unfold pk
  rw [List.length_map]
  have h1 := List.length_filter_le (fun p : PyData × Fin 8 => decide (nmD p.1 = z)) (ps.take i)
  rw [List.length_take] at h1
  omega
theorem leg_shape (rs : List Row) : ∀ d ∈ legL rs, ∃ (n : Str) (k : Nat), d = .tuple [.str n, .int (k : Nat)] := fun d hd => by
  obtain ⟨r, _, hr⟩ := List.mem_flatMap.mp hd
  obtain ⟨k, _, rfl⟩ := List.mem_map.mp hr
  exact ⟨_, _, rfl⟩
theorem cnt_leg1 (r : Row) (z : Str) : ((List.range (1 + swaps r.2)).map fun (k : Nat) => PyData.tuple [.str r.1, .int (k : Nat)]).countP (fun d => decide (nmD d = z)) = if r.1 = z then 1 + swaps r.2 else 0 := by
  rw [List.countP_map]
  by_cases h : r.1 = z
  · rw [if_pos h]
    have : List.countP ((fun d => decide (nmD d = z)) ∘ fun (k : Nat) => PyData.tuple [.str r.1, .int (k : Nat)]) (List.range (1 + swaps r.2)) = (List.range (1 + swaps r.2)).length := List.countP_eq_length.mpr fun k _ => decide_eq_true h
    rw [this, List.length_range]
  · rw [if_neg h]
    exact List.countP_eq_zero.mpr fun k _ y => h (of_decide_eq_true y)
theorem cnt_none : ∀ (rs : List Row) (z : Str), z ∉ nms rs → (legL rs).countP (fun d => decide (nmD d = z)) = 0
  | [], _, _ => rfl
  | r :: rs, z, h => by
    show (((List.range (1 + swaps r.2)).map fun (k : Nat) => PyData.tuple [.str r.1, .int (k : Nat)]) ++ legL rs).countP _ = 0
    rw [List.countP_append, cnt_leg1, if_neg (fun e => h (List.mem_cons.mpr (.inl e.symm))), cnt_none rs z (fun m => h (List.mem_cons_of_mem _ m))]
theorem cnt_legs : ∀ (rs : List Row) (m : Nat) (r : Row), (nms rs).Nodup → rs[m]? = some r → (legL rs).countP (fun d => decide (nmD d = r.1)) = 1 + swaps r.2
  | [], _, _, _, h => by cases h
  | q :: rs, 0, r, nd, h => by
    cases h
    have nd2 := List.nodup_cons.mp (show (q.1 :: nms rs).Nodup from nd)
    show (((List.range (1 + swaps q.2)).map fun (k : Nat) => PyData.tuple [.str q.1, .int (k : Nat)]) ++ legL rs).countP _ = _
    rw [List.countP_append, cnt_leg1, if_pos rfl, cnt_none rs _ nd2.1, Nat.add_zero]
  | q :: rs, m + 1, r, nd, h => by
    have nd2 := List.nodup_cons.mp (show (q.1 :: nms rs).Nodup from nd)
    have hr : r.1 ∈ nms rs := List.mem_map.mpr ⟨r, List.mem_of_getElem? (show rs[m]? = some r from h), rfl⟩
    show (((List.range (1 + swaps q.2)).map fun (k : Nat) => PyData.tuple [.str q.1, .int (k : Nat)]) ++ legL rs).countP _ = _
    rw [List.countP_append, cnt_leg1, if_neg (fun e => nd2.1 (by rw [e]; exact hr)), cnt_legs rs m r nd2.2 h, Nat.zero_add]
theorem pk_len {rs : List Row} {lots : List (Fin 8)} {m : Nat} {r : Row} (nd : (nms rs).Nodup) (hm : rs[m]? = some r) (hl : lots.length = (legL rs).length) : (pk r.1 ((legL rs).zip lots)).length = 1 + swaps r.2 := by
  unfold pk
  rw [List.length_map, ← List.countP_eq_length_filter, ← cnt_legs rs m r nd hm]
  have e : ((legL rs).zip lots).map Prod.fst = legL rs := List.map_fst_zip (by omega)
  have h2 := List.countP_map (p := fun d => decide (nmD d = r.1)) (f := (Prod.fst : PyData × Fin 8 → PyData)) (l := (legL rs).zip lots)
  rw [e] at h2
  exact h2.symm
theorem zip_at {rs : List Row} {lots : List (Fin 8)} {i : Nat} {d : PyData} {a : Fin 8} (h1 : (legL rs)[i]? = some d) (h2 : lots[i]? = some a) : ((legL rs).zip lots)[i]? = some (d, a) := by
  rw [List.getElem?_zip_eq_some]
  exact ⟨h1, h2⟩
theorem leg_parts {K : PySem.W.Frag} {H : Hp} {v : V} {d : PyData} {rs : List Row} (h : Dp K H v d) (hd : d ∈ legL rs) : ∃ t k, v = .ref t ∧ SqT K H t [.str (nmD d), .int (k : Nat)] := by
  obtain ⟨n, k, rfl⟩ := leg_shape rs d hd
  cases h with
  | tup hs ha =>
    cases ha with
    | cons h1 h2 =>
      cases h1
      cases h2 with
      | cons h3 h4 =>
        cases h3
        cases h4
        exact ⟨_, k, rfl, hs⟩
theorem lots_dpa {K : PySem.W.Frag} {H : Hp} : ∀ lots : List (Fin 8), DpAll K H (lots.map lotV) (lots.map lotDt)
  | [] => .nil
  | a :: l => .cons (.int _) (lots_dpa l)
theorem lots_of {K : PySem.W.Frag} {H : Hp} : ∀ {ds : List PyData} {us : List V}, DpAll K H us ds → (∀ d ∈ ds, lotD d = true) → ∃ lots : List (Fin 8), us = lots.map lotV ∧ ds = lots.map lotDt
  | [], _, h, _ => by cases h; exact ⟨[], rfl, rfl⟩
  | d :: ds, _, h, hl => by
    cases h with
    | cons h1 h2 =>
      obtain ⟨lots, e1, e2⟩ := lots_of h2 (fun x hx => hl x (List.mem_cons_of_mem _ hx))
      obtain ⟨k, rfl, hk⟩ := lot_of (hl _ List.mem_cons_self)
      cases h1
      exact ⟨⟨k, hk⟩ :: lots, by rw [e1]; rfl, by rw [e2]; rfl⟩
def spToldX (K : PySem.W.Frag) (C D N : Addr) : Sp := fun vs H Q E => ∃ (x l : Addr) (box : List Nat) (rs : List Row) (us : List V) (ds : List PyData) (z : Str), vs = [.ref x, .ref l, .str z] ∧ AtlasAt K C H x box rs ∧ box.length = 8 ∧ (∀ r ∈ rs, RowOk r) ∧ (nms rs).Nodup ∧ rs.length ≤ 60 ∧ SqA K H l us ∧ DpAll K H us ds ∧ (dueX box (legL rs).length ds = none → z ∈ nms rs → ∀ H' t, Same H H' → Q (.ref t) H') ∧ (∀ i, dueX box (legL rs).length ds = some i → RaV D H [("at", .int (i : Nat))] E) ∧ (dueX box (legL rs).length ds = none → z ∉ nms rs → RaV N H [("name", .str z)] E)
theorem ok_told (T : Top w K mg) : FnOk P w K mg base (L2.CX P w) 8 T.a_told T.fd_told ["atlas", "dealing", "name"] (spToldX K T.a_Atlas T.a_NoDealing T.a_NoWalker) := by
  have G_refuse_unless_dealt := ok_refuse_unless_dealt (P := P) (w := w) (base := base) T
  have G_Atlas_log := ok_Atlas_log (P := P) (w := w) (base := base) T
  have G_Atlas_legs := ok_Atlas_legs (P := P) (w := w) (base := base) T
  have G_facts := ok_facts (P := P) (w := w) (base := base) T
  refine T.F_told.okX sc_told (fun vs H Q E h => ?_) (fun cdv A outer s H vs Q E hr h => ?_)
  · obtain ⟨x, l, box, rs, us, ds, z, rfl, _⟩ := h
    rfl
  · obtain ⟨x, l, box, rs, us, ds, z, rfl, hA, h8, hok, hnd, hlen, hl, hd, q, bad, badn⟩ := h
    refine ⟨_, (pss_cons (ps_expr (pe_call G_refuse_unless_dealt (hr.mono (by decide)) (by rfl) T.g_refuse_unless_dealt T.F_refuse_unless_dealt.kp T.b_refuse_unless_dealt .nil (passes_call (takes_of rfl rfl rfl rfl) (fun _ _ _ _ h => h)) (pa_cons (pv 0) (pa_cons (pv 1) pa_nil))))
      (pss_cons (ps_set (i := 3) sc_told.nd rfl (.inl rfl) (pe_meth (pv 0) T.cl_Atlas T.me_Atlas_log G_Atlas_log (hr.mono (by decide)) T.b_Atlas_log .nil (passes_call (takes_of rfl rfl rfl rfl) (fun _ _ _ _ h => h)) (pa_cons (pv 2) pa_nil)))
      (pss_one (ps_ret (pe_call G_facts hr (by rfl) T.g_facts T.F_facts.kp T.b_facts .nil pass0 (pa_cons (pv 3) (pa_cons (pe_lc (own := [("leg", 4), ("lot", 5)]) (g := gTup K 2 (gCons (gName 4) (gCons (gName 5) gNil))) (by rfl) sc_told.nd (ZipG.pi_zipG (by rfl) T.m_zip (pa_cons (pe_meth0 (pv 0) T.cl_Atlas T.me_Atlas_legs G_Atlas_legs (hr.mono (by decide)) T.b_Atlas_legs .nil pass0) (pa_cons (pv 1) pa_nil))) (blkOk_by (own := [("leg", 4), ("lot", 5)]) (N := ["atlas", "dealing", "name", "log", "leg", "lot"]) (sc := defScope s_told) (by decide +kernel)) (fun _ _ _ _ _ => (pg_tup rfl (pgs_cons (pg_name (i := 4) sc_told.nd rfl (Or.inl rfl)) (pgs_cons (pg_name (i := 5) sc_told.nd rfl (Or.inl rfl)) pgs_nil)))) (fun _ _ _ _ _ => (pts_one (pt_cmpR op_eq (pe_ix (r := rIx K) (SeqW.ix_seqK rfl) (pv 4) pe_int (fun _ _ => rfl)) (pv 2) (nomark _)))) (fun _ _ _ _ _ => (pv 5))) pa_nil))))))), ?_⟩
    refine ⟨.ref x, rfl, .ref l, rfl, x, l, box, rs, us, ds, rfl, hA, h8, hok, hlen, hl, hd, fun hb H1 s1 => ?_, bad⟩
    have hA1 := hA.same s1
    have hA1' := hA1
    obtain ⟨dx, b, n, l5, ls, on, po, h1, _⟩ := hA1'
    have ll := legL_len hok
    obtain ⟨hn, hall⟩ := dueX_all hb
    obtain ⟨lots, rfl, rfl⟩ := lots_of hd (fun d hd => by
      obtain ⟨i, hi⟩ := List.mem_iff_getElem?.mp hd
      exact more_is _ _ (hall i d hi))
    rw [List.length_map] at hn
    refine ⟨.ref x, rfl, x, dx, _, rfl, h1, fl_no b n l5 (by decide +kernel) (by decide +kernel) (by decide +kernel), .str z, rfl, x, box, rs, z, rfl, hA1, hnd, hlen, fun m r hm ez v hv => ?_, fun hz => (badn hb hz).same s1⟩
    subst ez
    have ro := hok r (List.mem_of_getElem? hm)
    have q := q hb (List.mem_map.mpr ⟨r, List.mem_of_getElem? hm, rfl⟩)
    obtain ⟨lg, xs, rfl, hsx, hrw⟩ := log_rows hv
    refine ⟨_, rfl, .ref x, rfl, x, dx, _, rfl, h1, fl_no b n l5 (by decide +kernel) (by decide +kernel) (by decide +kernel), x, box, rs, rfl, hA1, hok, hlen, fun H2 g s2 hg => ?_⟩
    cases hg with
    | @tup _ gs _ hgs hga =>
    have lgs := dpa_len _ _ hga
    have s12 := s1.trans s2
    obtain ⟨t2, hv2⟩ : ∃ t2, ∀ H', Same H2 H' → ZipG.SqV t2 K H' l (lots.map lotV) := by
      rcases hl.same s12 with h | h
      · exact ⟨false, fun H' s => s.seq h⟩
      · exact ⟨true, fun H' s => sqt_same s h⟩
    refine ⟨.ref l, rfl, g, l, gs, _, rfl, true, t2, hgs, hv2 _ (Same.refl _), fun D hD => lc_it (ZipG.walk_zipG (xs := gs) (ys := lots.map lotV) (n := lots.length) (by rw [List.length_map]; omega)) (fun i H' => Same H2 H' ∧ H' D = some (.lst ((pk r.1 (((legL rs).zip lots).take i)).map lotV))) ⟨same_upd hD, upd_same⟩ (fun i H' _ h => ⟨sqt_same h.1 hgs, hv2 _ h.1⟩) ?_ ?_⟩
    · rintro i v H3 H4 hi ⟨sm, eD⟩ ⟨t, u1, u2, rfl, nt, rfl, e1, e2⟩
      have e1 : gs[i]? = some u1 := e1
      obtain ⟨d, fd, gd⟩ := dpa_at _ gs hga i u1 e1
      obtain ⟨a, fa, rfl⟩ := lot_at e2
      have st := same_upd (o := .tup [u1, lotV a]) nt
      obtain ⟨tl, k, rfl, hsl⟩ := leg_parts (dp_same (sm.trans st) _ _ gd) (List.mem_of_getElem? fd)
      have eDt := st _ _ eD
      have pl := pk_le r.1 ((legL rs).zip lots) i
      have ps := pk_succ (z := r.1) (zip_at (rs := rs) fd fa)
      refine ⟨t, _, rfl, .inl (.inl upd_same), rfl, _, _, rfl, _, _, rfl, rfl, rfl, .ref tl, rfl, ixA (j := 0) (.inr hsl) rfl ⟨_, rfl, rfl, _, rfl, ?_⟩⟩
      rw [ps]
      refine ite2 (fun e => ?_) (fun e => ?_)
      · have e : nmD d = r.1 := V.str.inj (of_decide_eq_true e)
        rw [if_pos (decide_eq_true e)]
        refine ⟨_, rfl, _, eDt, ?_, fun c o h => ?_, ?_⟩
        · rw [List.length_map]
          exact Nat.lt_of_le_of_lt pl (Nat.lt_of_lt_of_le (show i < 100000 by omega) (by decide))
        · rw [upd_ne (ne_of_none h hD)]
          exact st _ _ (sm _ _ h)
        · rw [upd_same, List.map_append]
          rfl
      · have e : ¬ nmD d = r.1 := fun z => e (decide_eq_true (by rw [z]))
        rw [if_neg (fun z => e (of_decide_eq_true z)), List.append_nil]
        exact ⟨sm.trans st, eDt⟩
    · rintro H3 ⟨sm, eD⟩
      have lz : ((legL rs).zip lots).length = lots.length := by rw [List.length_zip]; omega
      rw [← lz, List.take_length] at eD
      have s23 := s2.trans sm
      exact ⟨lg, D, xs, r.2, pk r.1 ((legL rs).zip lots), rfl, .inr (sqt_same s23 hsx), hrw.same s23, .inl (.inl (.inl eD)), pk_len hnd hm hn, ro.len, ro.right, fun H4 t s4 hd => q _ t ((s1.trans s23).trans s4)⟩
/-! ### asked, and what is due -/
def ansD : Option Nat → Bool → Str → PyData
  | some i, _, _ => .tuple [.str "NoDealing", .int (i : Nat)]
  | none, true, _ => .tuple [.str "told"]
  | none, false, z => .tuple [.str "NoWalker", .str z]
def spAsked (K : PySem.W.Frag) (C : Addr) : Sp := fun vs H Q _ => ∃ (x l : Addr) (box : List Nat) (rs : List Row) (us : List V) (ds : List PyData) (z : Str), vs = [.ref x, .ref l, .str z] ∧ AtlasAt K C H x box rs ∧ box.length = 8 ∧ (∀ r ∈ rs, RowOk r) ∧ (nms rs).Nodup ∧ rs.length ≤ 60 ∧ SqA K H l us ∧ DpAll K H us ds ∧ ∀ H' v, Same H H' → Dp K H' v (ansD (dueX box (legL rs).length ds) (decide (z ∈ nms rs)) z) → Q v H'
theorem ok_Lasked (T : Top w K mg) : FnOk P w K mg base CX0 9 T.a_Lasked T.fd_Lasked ["_law_atlas", "_law_dealing", "_law_name_here"] (spAsked K T.a_Atlas) := by
  have G_told := ok_told (P := P) (w := w) (base := base) T
  refine T.F_Lasked.ok sc_Lasked (fun vs H Q E h => ?_) (fun cdv A outer s H vs Q E hr h => ?_)
  · obtain ⟨x, l, box, rs, us, ds, z, rfl, _⟩ := h
    rfl
  · obtain ⟨x, l, box, rs, us, ds, z, rfl, hA, h8, hok, hnd, hlen, hl, hd, q⟩ := h
    refine ⟨_, (pss_cons (TryAs.ps_try_all (i := 3) rfl rfl sc_Lasked.nd rfl rfl takes0 (fun W pn xe tk _ => (pss_one (ps_expr (pe_callS G_told hr (by rfl) T.g_told T.F_told.kp T.b_told (fun σ => passAt tk σ) (pa_cons (pv 0) (pa_cons (pv 1) (pa_cons (pv 2) pa_nil))))))) (.cons ⟨rfl, by decide, .inl T.g_NoDealing⟩ (fun a oe cls d pn hz hf => (pss_one (ps_ret (pe_ifExp (pt_val (ExcM.pe_callP (ok_Lown (P := P) (w := w) (base := base) T hz hf) ⟨(L2H.roomH_of (hr.mono (by decide : 1 ≤ 8))).dp, (L2H.roomH_of (hr.mono (by decide : 1 ≤ 8))).un⟩ List.mem_cons_self (by rfl) T.g_Lown T.F_Lown.kp T.b_Lown (pa_cons (pv 3) pa_nil))) (pe_tup (pa_cons pe_str (pa_cons (pe_xf T.xf T.no_at hz hf (pv 3)) pa_nil))) (pe_tup (pa_cons pe_str pa_nil)))))) (.cons ⟨rfl, by decide, .inl T.g_NoWalker⟩ (fun a oe cls d pn hz hf => (pss_one (ps_ret (pe_ifExp (pt_val (ExcM.pe_callP (ok_Lown_NoWalker (P := P) (w := w) (base := base) T hz hf) ⟨(L2H.roomH_of (hr.mono (by decide : 1 ≤ 8))).dp, (L2H.roomH_of (hr.mono (by decide : 1 ≤ 8))).un⟩ List.mem_cons_self (by rfl) T.g_Lown T.F_Lown.kp T.b_Lown (pa_cons (pv 3) pa_nil))) (pe_tup (pa_cons pe_str (pa_cons (pe_xf T.xf_NoWalker T.no_NoWalker_name hz hf (pv 3)) pa_nil))) (pe_tup (pa_cons pe_str pa_nil)))))) .nil)))
      (pss_one (ps_ret (pe_tup (pa_cons pe_str pa_nil))))), ?_⟩
    refine ⟨.ref x, rfl, .ref l, rfl, .str z, rfl, x, l, box, rs, us, ds, z, rfl, hA, h8, hok, hnd, hlen, hl, hd, fun hb hz H1 t s1 => ?_, fun i hi H1 dd s1 ndd edd => ?_, fun hb hz H1 dd s1 ndd edd => ?_⟩
    · refine ⟨by show 1 ≤ sizeLine; decide, fun r nr => ?_⟩
      have sr := same_upd (o := .tup [.str "told"]) nr
      refine q _ _ (s1.trans sr) ?_
      rw [hb, decide_eq_true hz]
      exact .tup (.inl (.inl upd_same)) (.cons (.str _) .nil)
    · refine ⟨true, T.exm, (fun _ a0 _ => ⟨.ref a0, rfl, rfl, rfl, dd, _, rfl, edd, fun H2 s2 => ⟨_, rfl, iteT ⟨.ref a0, rfl, rfl, rfl, dd, _, .int (i : Nat), rfl, s2 _ _ edd, by simp [List.lookup], by show 2 ≤ sizeLine; decide, fun r nr => ?_⟩⟩⟩), fun z => Bool.noConfusion z⟩
      have sr := same_upd (o := .tup [.str "NoDealing", .int (i : Nat)]) nr
      refine q _ _ ((s1.trans s2).trans sr) ?_
      rw [hi]
      exact .tup (.inl (.inl upd_same)) (.cons (.str _) (.cons (.int _) .nil))
    · refine ⟨false, T.exn_NoWalker_NoDealing, fun z => Bool.noConfusion z, fun _ => ⟨true, T.exm_NoWalker, (fun _ a0 _ => ⟨.ref a0, rfl, rfl, rfl, dd, _, rfl, edd, fun H2 s2 => ⟨_, rfl, iteT ⟨.ref a0, rfl, rfl, rfl, dd, _, .str z, rfl, s2 _ _ edd, by simp [List.lookup], by show 2 ≤ sizeLine; decide, fun r nr => ?_⟩⟩⟩), fun z => Bool.noConfusion z⟩⟩
      have sr := same_upd (o := .tup [.str "NoWalker", .str z]) nr
      refine q _ _ ((s1.trans s2).trans sr) ?_
      rw [hb, decide_eq_false hz]
      exact .tup (.inl (.inl upd_same)) (.cons (.str _) (.cons (.str _) .nil))
def dueNV : Option Nat → V
  | some i => .int (i : Nat)
  | none => .non
def spDue21 (K : PySem.W.Frag) : Sp := fun vs H Q _ => ∃ (b l : Addr) (box : List Nat) (m : Nat) (us : List V) (ds : List PyData), vs = [.ref b, .int (m : Nat), .ref l] ∧ SqT K H b (boxV box) ∧ box.length = 8 ∧ SqL K H l us ∧ DpAll K H us ds ∧ ds.length ≤ 500 ∧ ∀ H', Same H H' → Q (dueNV (dueX box m ds)) H'
theorem lot_here (K : PySem.W.Frag) {H : Hp} {box : List Nat} {us : List V} {ds : List PyData} {i k : Nat} (hk : k < 8) (hd : DpAll K H us ds) (fd : ds[i]? = some (.int (k : Nat))) (hm : ∀ j e, j < i → ds[j]? = some e → moreI box (ds.take j) e = true) : (us.take (i + 1)).all flatV = true ∧ moreI box (ds.take i) (.int (k : Nat)) = !decide (((box.getD k 0 : Nat) : Int) < (((us.take (i + 1)).countP (fun z => eqV z (.int (k : Nat))) : Nat) : Int)) := by
  have hl : ∀ e ∈ ds.take (i + 1), lotD e = true := fun e he => by
    obtain ⟨j, hj⟩ := List.mem_iff_getElem?.mp he
    have hjl := (List.getElem?_eq_some_iff.mp hj).1
    rw [List.length_take] at hjl
    rw [List.getElem?_take, if_pos (by omega)] at hj
    by_cases e1 : j = i
    · rw [e1, fd] at hj
      cases hj
      show (decide (0 ≤ ((k : Nat) : Int)) && decide (((k : Nat) : Int) ≤ 7)) = true
      rw [decide_eq_true (by omega), decide_eq_true (by omega)]
      rfl
    · exact more_is _ _ (hm j e (by omega) hj)
  obtain ⟨c1, c2⟩ := cnt_vals (dpa_take (i + 1) hd) hl
  refine ⟨c1, ?_⟩
  rw [more_lot _ _ _ hk, c2 k, List.take_add_one, fd]
  show _ = !decide (_ < ((cntI k (ds.take i ++ [.int (k : Nat)]) : Nat) : Int))
  rw [cnt_snoc, if_pos (show isI k (.int (k : Nat)) = true from beq_self_eq_true _)]
  by_cases h : cntI k (ds.take i) < box.getD k 0
  · rw [decide_eq_true h, decide_eq_false (by omega)]
    rfl
  · rw [decide_eq_false h, decide_eq_true (by omega)]
    rfl
theorem ok_Ldue21 (T : Top w K mg) : FnOk P w K mg base CX0 2 T.a_Ldue T.fd_Ldue ["_law_box", "_law_many", "_law_dealing"] (spDue21 K) := by
  have G_Lwhole := ok_LwholeD (P := P) (w := w) (base := base) T
  refine T.F_Ldue.ok sc_Ldue (fun vs H Q E h => ?_) (fun cdv A outer s H vs Q E hr h => ?_)
  · obtain ⟨b, l, box, m, us, ds, rfl, _⟩ := h
    rfl
  · obtain ⟨b, l, box, m, us, ds, rfl, hb, h8, hl, hd, h500, q⟩ := h
    have lu := dpa_len _ _ hd
    refine ⟨_, (pss_cons (ps_if (pt_cmpR op_ne (pe_callB call_len_seq (by rfl) T.m_len (by decide +kernel) (pa_cons (pv 2) pa_nil)) (pv 1) (nomark _)) (pss_one (ps_ret (pv 1))) pss_nil)
      (pss_cons (ps_for PassesOwn.never rfl (pi_enum (by rfl) T.m_enumerate (pa_cons (pv 2) pa_nil)) (pg_tup rfl (pgs_cons (pg_name (i := 3) sc_Ldue.nd rfl (.inl rfl)) (pgs_cons (pg_name (i := 4) sc_Ldue.nd rfl (.inl rfl)) pgs_nil))) (pss_one (ps_if (PW.pt (pw_or (pt_not (pt_val (pe_call G_Lwhole hr (by rfl) T.g_Lwhole T.F_Lwhole.kp T.b_Lwhole .nil pass0 (pa_cons (pv 4) pa_nil)))) (pw_or (pt_not (pt_chain op_le op_lt pe_int (pv 4) pe_int)) (pw_or1 (pt_cmpR op_gt (OwnI.pe_cnt (K := K) rfl (pe_callTy call_list_of (by rfl) T.m_list (by decide +kernel) (pa_cons (pe_slice sl_list (pv 2) po_none (po_some (pe_op op_add (pv 3) pe_int))) pa_nil)) (pa_cons (pv 4) pa_nil)) (pe_ix (r := rIx K) (SeqW.ix_seqK rfl) (pv 0) (pv 4) (fun _ _ => rfl)) (nomark _)))))) (pss_one (ps_ret (pv 3))) pss_nil)))
      (pss_one (ps_ret pe_non)))), ?_⟩
    refine ⟨.ref l, rfl, l, us, rfl, .inl hl, _, rfl, rfl, _, rfl, ?_⟩
    by_cases hm : ds.length = m
    · refine iteN (by rw [lu, hm]) ?_
      refine ⟨.ref l, rfl, l, us, rfl, hl, for_it (walk_enum (xs := us)) (fun i σ H' => Same H H' ∧ (∀ j e, j < i → ds[j]? = some e → moreI box (ds.take j) e = true) ∧ ∃ y3 y4, σ = [some (.ref b), some (.int (m : Nat)), some (.ref l), y3, y4]) ⟨Same.refl _, (fun j e h => absurd h (Nat.not_lt_zero _)), _, _, rfl⟩ (fun i σ H' _ h => h.1.seq hl) ?_ ?_⟩
      · rintro i v σ H1 H2 hi ⟨sm, hmm, y3, y4, rfl⟩ ⟨t, u1, u2, rfl, nt, rfl, e1, e2⟩
        cases e1
        have e2 : us[i]? = some u2 := e2
        have st := same_upd (o := .tup [.int (i : Nat), u2]) nt
        have sm2 := sm.trans st
        obtain ⟨d, fd, gd⟩ := dpa_at _ us hd i u2 e2
        have gd2 := dp_same sm2 _ _ gd
        have no : ∀ H', Same H H' → moreI box (ds.take i) d = false → Q (.int (i : Nat)) H' := fun H' s' h => by
          have := q _ s'
          rw [dueX_some hm fd hmm h] at this
          exact this
        refine ⟨t, _, rfl, .inl (.inl upd_same), rfl, _, _, rfl, _, _, rfl, rfl, ?_⟩
        refine ⟨_, rfl, u2, d, rfl, gd2, _, rfl, ?_⟩
        cases gd2 with
        | int j =>
          refine iteF ⟨_, rfl, _, _, rfl, rfl, _, rfl, ite2 (fun e0 => ?_) (fun e0 => ?_)⟩
          · have g0 : 0 ≤ j := of_decide_eq_true e0
            refine ⟨_, _, rfl, rfl, _, rfl, ite2 (fun e8 => ?_) (fun e8 => ?_)⟩
            · have g8 : ¬ j < 8 := fun z => by
                rw [decide_eq_true z] at e8
                cases e8
              exact ⟨_, rfl, no _ sm2 (more_no _ _ (by rw [lot8, decide_eq_false g8, Bool.and_false]))⟩
            · have g8 : j < 8 := by
                by_cases z : j < 8
                · exact z
                · rw [decide_eq_false z] at e8
                  exact absurd rfl e8
              obtain ⟨k, rfl⟩ : ∃ k : Nat, j = k := ⟨j.toNat, by omega⟩
              obtain ⟨c1, c2⟩ := lot_here K (by omega) hd fd hmm
              have cut := cut_to us (i + 1) (by omega)
              have cut : cutV us none (some ((i : Int) + 1)) = us.take (i + 1) := cut
              refine ⟨.ref l, rfl, _, rfl, _, _, rfl, rfl, (i : Int) + 1, rfl, l, us, rfl, sm2.seq hl, fun p np => ?_⟩
              rw [cut]
              have sp := same_upd (o := .lst (us.take (i + 1))) np
              refine ⟨p, _, rfl, .inl (.inl (.inl upd_same)), fun r nr => ?_⟩
              have sr := same_upd (o := .lst (us.take (i + 1))) nr
              have s5 := sm2.trans (sp.trans sr)
              refine ⟨r, _, rfl, .inl ⟨.inl (.inl upd_same), _, rfl, _, rfl, .inl (.inl upd_same), rfl, c1, .ref b, rfl, _, rfl, ixA (.inr (sqt_same s5 hb)) (box_at (by omega)) ⟨_, _, rfl, rfl, _, rfl, ite2 (fun e => ?_) (fun e => ?_)⟩⟩⟩
              · exact ⟨_, rfl, no _ s5 (by rw [c2, e]; rfl)⟩
              · refine ⟨s5, fun j e3 hj hje => ?_, _, _, rfl⟩
                by_cases eji : j = i
                · rw [eji] at hje ⊢
                  rw [fd] at hje
                  cases hje
                  rw [c2, Bool.eq_false_iff.mpr e]
                  rfl
                · exact hmm j e3 (by omega) hje
          · have g0 : ¬ 0 ≤ j := fun z => e0 (decide_eq_true z)
            exact ⟨_, rfl, iteT ⟨_, rfl, no _ sm2 (more_no _ _ (by rw [lot8, decide_eq_false g0, Bool.false_and]))⟩⟩
        | non => exact iteT ⟨_, rfl, no _ sm2 (more_no _ _ rfl)⟩
        | bl b => exact iteT ⟨_, rfl, no _ sm2 (more_no _ _ rfl)⟩
        | str z => exact iteT ⟨_, rfl, no _ sm2 (more_no _ _ rfl)⟩
        | lst h _ => exact iteT ⟨_, rfl, no _ sm2 (more_no _ _ rfl)⟩
        | tup h _ => exact iteT ⟨_, rfl, no _ sm2 (more_no _ _ rfl)⟩
      · rintro σ H2 ⟨sm, hmm, y3, y4, rfl⟩
        have := q _ sm
        rw [dueX_none hm (fun i d h => hmm i d (by rw [lu]; exact (List.getElem?_eq_some_iff.mp h).1) h)] at this
        exact this
    · have ne : ¬ V.int (us.length : Nat) = .int (m : Nat) := fun z => hm (by
        have := V.int.inj z
        omega)
      have := q _ (Same.refl _)
      rw [dueX_len hm] at this
      exact iteDY (by rw [decide_eq_false ne]; rfl) ⟨_, rfl, this⟩
--@@SPLIT
/-! ### a thing drawn -/
def AllD (K : PySem.W.Frag) (W : Hp) (us : List V) : Prop := ∀ v ∈ us, ∃ d, Dp K W v d
theorem alld_dpa {K : PySem.W.Frag} {W : Hp} : ∀ {us : List V}, AllD K W us → ∃ ds, DpAll K W us ds
  | [], _ => ⟨[], .nil⟩
  | u :: us, h => by
    obtain ⟨d, hd⟩ := h u List.mem_cons_self
    obtain ⟨ds, hds⟩ := alld_dpa (us := us) (fun v hv => h v (List.mem_cons_of_mem _ hv))
    exact ⟨d :: ds, .cons hd hds⟩
theorem AllD.same {K : PySem.W.Frag} {W W' : Hp} {us : List V} (h : AllD K W us) (s : Same W W') : AllD K W' us := fun v hv => by
  obtain ⟨d, hd⟩ := h v hv
  exact ⟨d, dp_same s _ _ hd⟩
theorem cutv_mem {xs : List V} {lo hi : Option Int} {v : V} (h : v ∈ cutV xs lo hi) : v ∈ xs := List.mem_of_mem_drop (List.mem_of_mem_take h)
def IsInt (v : V) : Prop := ∃ i : Int, v = .int i
theorem ints_all {K : PySem.W.Frag} {W : Hp} {us : List V} (h : ∀ v ∈ us, IsInt v) : AllD K W us := fun v hv => by
  obtain ⟨i, rfl⟩ := h v hv
  exact ⟨.int i, .int i⟩
theorem sum_take (box : List Nat) (i : Nat) (h : i < box.length) : (box.take (i + 1)).sum = (box.take i).sum + box.getD i 0 := by
  rw [List.take_add_one, List.getElem?_eq_getElem h, List.sum_append, List.getD_eq_getElem?_getD, List.getElem?_eq_getElem h]
  rfl
theorem sum_take_le : ∀ (box : List Nat) (i : Nat), (box.take i).sum ≤ box.sum
  | _, 0 => Nat.zero_le _
  | [], _ + 1 => Nat.le_refl _
  | x :: l, i + 1 => Nat.add_le_add_left (sum_take_le l i) x
/-! ### a box drawn, and how many lots it holds -/
def spSmallBoxS (K : PySem.W.Frag) : Sp := fun vs H Q _ => ∃ (p : Addr) (n : Int), vs = [.ref p, .int n] ∧ Pool H p ∧ ∀ H' t (box : List Nat), But p H H' → Pool H' p → H t = none → H' t = some (.tup (boxV box)) → box.length = 8 → box.sum ≤ 100 → Q (.ref t) H'
theorem sum_set : ∀ (l : List Nat) (j n : Nat), l[j]? = some n → (l.set j (n + 1)).sum = l.sum + 1
  | [], _, _, h => by cases h
  | x :: l, 0, n, h => by
    cases h
    show (x + 1) + l.sum = x + l.sum + 1
    omega
  | x :: l, j + 1, n, h => by
    show x + (l.set j (n + 1)).sum = x + l.sum + 1
    rw [sum_set l j n h]
    omega
theorem ok_Lsmall_boxS (T : Top w K mg) : FnOk P w K mg base CX0 2 T.a_Lsmall_box T.fd_Lsmall_box ["_law_pool_here", "_law_legs_here"] (spSmallBoxS K) := by
  have G_Ltake := ok_Ltake (P := P) (w := w) (base := base) T
  refine T.F_Lsmall_box.ok sc_Lsmall_box (fun vs H Q E h => ?_) (fun cdv A outer s H vs Q E hr h => ?_)
  · obtain ⟨p, n, rfl, _⟩ := h
    rfl
  · obtain ⟨p, n, rfl, hp, q⟩ := h
    refine ⟨_, (pss_cons (ps_set (i := 2) sc_Lsmall_box.nd rfl (.inl rfl) (pe_op op_rep (pe_lst (pa_cons pe_int pa_nil)) pe_int))
      (pss_cons (ps_set (i := 3) sc_Lsmall_box.nd rfl (.inl rfl) (pe_op op_add pe_int (pe_call G_Ltake hr (by rfl) T.g_Ltake T.F_Ltake.kp T.b_Ltake .nil pass0 (pa_cons (pv 0) (pa_cons pe_int pa_nil)))))
      (pss_cons (ps_for PassesOwn.never rfl (pi_range1 (by rfl) T.m_range (pa_cons (pe_call G_Ltake hr (by rfl) T.g_Ltake T.F_Ltake.kp T.b_Ltake .nil pass0 (pa_cons (pv 0) (pa_cons (pe_op op_sub pe_int (pe_op op_mul pe_int (pe_callTy call_int1 (by rfl) T.m_int (by decide +kernel) (pa_cons (pe_cmpR op_gt (pv 1) pe_int (nomark _)) pa_nil)))) pa_nil))) pa_nil)) (pg_name (i := 4) sc_Lsmall_box.nd rfl (.inl rfl)) (pss_one (ps_augS (pv 2) (pe_call G_Ltake hr (by rfl) T.g_Ltake T.F_Ltake.kp T.b_Ltake .nil pass0 (pa_cons (pv 0) (pa_cons (pv 3) pa_nil))) SeqW.get_list pe_int ip_add set_list)))
      (pss_one (ps_ret (pe_callTy call_tuple_of (by rfl) T.m_tuple (by decide +kernel) (pa_cons (pv 2) pa_nil))))))), ?_⟩
    refine ⟨by show 1 ≤ sizeLine; decide, fun l nl => ⟨l, 8, _, rfl, rfl, upd_same, by decide, by decide, by show 1 * 8 ≤ sizeLine; decide, fun L nL => ?_⟩⟩
    have sl := same_upd (o := .lst [.int 0]) nl
    have sL := same_upd (o := .lst (boxV [0, 0, 0, 0, 0, 0, 0, 0])) nL
    have hp2 := (hp.same sl).same sL
    have nLp : L ≠ p := (hp.same sl).ne_new nL
    have nL0 : H L = none := sl.free nL
    have b2 : But p H (upd (upd H l (.lst [.int 0])) L (.lst (boxV [0, 0, 0, 0, 0, 0, 0, 0]))) := But.of (sl.trans sL)
    refine ⟨.ref p, rfl, p, 8, rfl, by decide, by decide, hp2, fun H3 k b3 hp3 k0 k1 => ⟨_, _, rfl, rfl, ?_⟩⟩
    have eL3 := b3 _ _ nLp (upd_same (a := L) (o := .lst (boxV [0, 0, 0, 0, 0, 0, 0, 0])))
    have hm : ∀ b : Bool, 0 < (9 : Int) - 2 * (if b then 1 else 0) ∧ (9 : Int) - 2 * (if b then 1 else 0) < 100 := by decide
    refine ⟨.ref p, rfl, .int n, rfl, _, _, rfl, rfl, .inr ⟨_, rfl, _, _, rfl, rfl, .inl ⟨by decide, by decide⟩, _, _, rfl, rfl, p, _, rfl, (hm _).1, Int.lt_trans (hm _).2 (by decide), hp3, fun H4 r b4 hp4 r0 r1 => ?_⟩⟩
    have r100 := Int.lt_trans r1 (hm _).2
    refine ⟨r, rfl, by omega, by omega, for_range (n := r.toNat) (fun i σ H' => But p H H' ∧ Pool H' p ∧ ∃ y4 box, σ = [some (.ref p), some (.int n), some (.ref L), some (.int (1 + k)), y4] ∧ H' L = some (.lst (boxV box)) ∧ box.length = 8 ∧ box.sum = i) ⟨(b2.trans b3).trans b4, hp4, _, _, rfl, b4 _ _ nLp eL3, rfl, rfl⟩ ?_ ?_⟩
    · rintro i σ H5 hi ⟨b5, hp5, y4, box, rfl, eL, lb, sb⟩
      refine ⟨.ref L, rfl, .ref p, rfl, .int (1 + k), rfl, p, 1 + k, rfl, by omega, by omega, hp5, fun H6 j b6 hp6 j0 j1 => ?_⟩
      obtain ⟨j, rfl⟩ : ∃ jj : Nat, j = jj := ⟨j.toNat, by omega⟩
      have hj : j < box.length := by omega
      have eb : box[j]? = some box[j] := List.getElem?_eq_getElem hj
      have eL6 := b6 _ _ nLp eL
      have lbv : (boxV box).length = box.length := List.length_map _
      refine ⟨L, boxV box, j, .int (box[j] : Nat), rfl, rfl, .inl (.inl eL6), by unfold boxV; rw [List.getElem?_map, eb]; rfl, _, _, rfl, rfl, L, boxV box, j, j, rfl, rfl, eL6, Evl.ixN_nat (by omega), ?_⟩
      refine ⟨(b5.trans b6).mut nL0, hp6.upd nLp, _, box.set j (box[j] + 1), rfl, ?_, by rw [List.length_set]; exact lb, by rw [sum_set box j _ eb, sb]⟩
      rw [upd_same, box_set eb]
    · rintro σ H5 ⟨b5, hp5, y4, box, rfl, eL, lb, sb⟩
      refine ⟨.ref L, rfl, L, _, rfl, .inl ⟨.inl (.inl eL), fun t nt => ?_⟩⟩
      have st := same_upd (o := .tup (boxV box)) nt
      exact q _ t box (b5.trans (But.of st)) (hp5.same st) (b5.free (hp5.ne_new nt) nt) upd_same lb (by omega)
theorem legL_len9 {rs : List Row} (h : ∀ r ∈ rs, r.2.length ≤ 8) : (legL rs).length ≤ 9 * rs.length := by
  induction rs with
  | nil => exact Nat.le_refl 0
  | cons r rs ih =>
    have h1 := ih (fun x hx => h x (List.mem_cons_of_mem _ hx))
    have h2 := swaps_le r.2
    have h3 := h r List.mem_cons_self
    show ((List.range (1 + swaps r.2)).map (fun (k : Nat) => PyData.tuple [.str r.1, .int (k : Nat)]) ++ legL rs).length ≤ 9 * (rs.length + 1)
    rw [List.length_append, List.length_map, List.length_range]
    omega
/-! ### lots drawn, whose tuple is known; a list mixed -/
def spLotsF (K : PySem.W.Frag) : Sp := fun vs H Q _ => ∃ (p : Addr) (m : Nat), vs = [.ref p, .int m] ∧ m ≤ 200 ∧ Pool H p ∧ ∀ H' t o (lots : List (Fin 8)), But p H H' → Pool H' p → H t = none → H' t = some (.frz o (.tup (lots.map lotV))) → OwnI.PlainT o → lots.length = m → Q (.ref t) H'
theorem eight {r : Int} (h0 : 0 ≤ r) (h1 : r < 8) : ∃ a : Fin 8, V.int r = lotV a := ⟨⟨r.toNat, by omega⟩, by show V.int r = .int ((r.toNat : Nat) : Int); rw [Int.toNat_of_nonneg h0]⟩
theorem ok_Llots (T : Top w K mg) : FnOk P w K mg base CX0 2 T.a_Llots T.fd_Llots ["_law_pool_here", "_law_many"] (spLotsF K) := by
  have G_Ltake := ok_Ltake (P := P) (w := w) (base := base) T
  refine T.F_Llots.ok sc_Llots (fun vs H Q E h => ?_) (fun cdv A outer s H vs Q E hr h => ?_)
  · obtain ⟨p, m, rfl, _⟩ := h
    rfl
  · obtain ⟨p, m, rfl, hm, hp, q⟩ := h
    refine ⟨_, (pss_one (ps_ret (pe_callTy OwnI.call_tuple_frz (by rfl) T.m_tuple (by decide +kernel) (pa_cons (pe_lc (own := [("_law_k", 2)]) (g := gName 2) (by rfl) sc_Llots.nd (pi_range1 (by rfl) T.m_range (pa_cons (pv 1) pa_nil)) (blkOk_by (own := [("_law_k", 2)]) (N := ["_law_pool_here", "_law_many", "_law_k"]) (sc := defScope s_Llots) (by decide +kernel)) (fun _ _ _ _ _ => (pg_name (i := 2) sc_Llots.nd rfl (Or.inl rfl))) (fun _ _ _ _ _ => pts_nil) (fun _ _ _ _ _ => (pe_call G_Ltake hr (by rfl) T.g_Ltake T.F_Ltake.kp T.b_Ltake .nil pass0 (pa_cons (pv 0) (pa_cons pe_int pa_nil))))) pa_nil)))), ?_⟩
    refine ⟨.int m, rfl, m, rfl, by omega, by omega, fun D hD => lc_it (walk_range (n := m)) (fun i H' => But p H H' ∧ Pool H' p ∧ ∃ lots : List (Fin 8), lots.length = i ∧ H' D = some (.lst (lots.map lotV))) ⟨But.of (same_upd hD), hp.same (same_upd hD), [], rfl, upd_same⟩ (fun i H' _ h => trivial) ?_ ?_⟩
    · rintro i v H1 H2 hi ⟨b1, hp1, lots, hl, eD⟩ ⟨rfl, rfl⟩
      have nD : D ≠ p := hp.ne_new hD
      refine ⟨rfl, .ref p, rfl, p, 8, rfl, by decide, by decide, hp1, fun H3 r b3 hp3 r0 r1 => ?_⟩
      obtain ⟨a, ea⟩ := eight r0 r1
      rw [ea]
      refine ⟨_, b3 _ _ nD eD, small1000 (by rw [List.length_map]; omega), (b1.trans b3).mut hD, hp3.upd nD, lots ++ [a], by rw [List.length_append, hl]; rfl, ?_⟩
      rw [upd_same, List.map_append]
      rfl
    · rintro H1 ⟨b1, hp1, lots, hl, eD⟩
      refine ⟨D, _, rfl, .inl (.inl eD), fun r o po nr => ?_⟩
      have sr := same_upd (o := .frz o (.tup (lots.map lotV))) nr
      exact q _ r o lots (b1.trans (But.of sr)) (hp1.same sr) (b1.free (hp1.ne_new nr) nr) upd_same po hl
def spMixP (K : PySem.W.Frag) : Sp := fun vs H Q _ => ∃ (p t : Addr) (xs : List V), vs = [.ref p, .ref t] ∧ Pool H p ∧ t ≠ p ∧ SqL K H t xs ∧ xs.length ≤ 900 ∧
  ∀ H' f ys, But p H H' → H f = none → H' f = some (.lst ys) → ys.Perm xs → Pool H' p → Q (.ref f) H'
theorem ok_LmixP (T : Top w K mg) : FnOk P w K mg base CX0 2 T.a_Lmix T.fd_Lmix ["_law_pool_here", "_law_things"] (spMixP K) := by
  have G_Ltake := ok_Ltake (P := P) (w := w) (base := base) T
  refine T.F_Lmix.ok sc_Lmix (fun vs H Q E h => ?_) (fun cdv A outer s H vs Q E hr h => ?_)
  · obtain ⟨p, t, xs, rfl, _⟩ := h
    rfl
  · obtain ⟨p, t, xs, rfl, hp, ht, hS, hl, q⟩ := h
    refine ⟨_, (pss_cons (ps_set (i := 2) sc_Lmix.nd rfl (.inl rfl) (pe_lst pa_nil))
      (pss_cons (ps_for PassesOwn.never rfl (pi_list (pv 1)) (pg_name (i := 3) sc_Lmix.nd rfl (.inl rfl)) (pss_one (ps_expr (pe_bm PySem.F.plainAttrs_list PySem.F.slot_list_insert PySem.F.type_list_insert mt_insert (pv 2) (pa_cons (pe_call G_Ltake hr (by rfl) T.g_Ltake T.F_Ltake.kp T.b_Ltake .nil pass0 (pa_cons (pv 0) (pa_cons (pe_op op_add (pe_callB call_len_seq (by rfl) T.m_len (by decide +kernel) (pa_cons (pv 2) pa_nil)) pe_int) pa_nil))) (pa_cons (pv 3) pa_nil))))))
      (pss_one (ps_ret (pv 2))))), ?_⟩
    refine ⟨Nat.zero_le _, fun f nf => ?_⟩
    have nfp : f ≠ p := hp.ne_new nf
    have b0 : But p H (upd H f (.lst [])) := But.of (same_upd nf)
    refine ⟨.ref t, rfl, t, rfl, ⟨xs, seq_but b0 ht hS⟩, for_it (walk_list (xs := xs)) (fun i σ H' => ∃ y ys, σ = [some (.ref p), some (.ref t), some (.ref f), y] ∧ ys.Perm (xs.take i) ∧ H' f = some (.lst ys) ∧ Pool H' p ∧ But p H H')
      ⟨none, [], rfl, .nil, upd_same, hp.upd nfp, b0⟩ (fun i σ H' _ h => ?_) ?_ ?_⟩
    · obtain ⟨y, ys, _, _, _, _, bt⟩ := h
      exact seq_but bt ht hS
    · rintro i x σ H1 H2 hi ⟨y, ys, rfl, hpm, ef, hp1, bt⟩ ⟨rfl, hx⟩
      have hy : ys.length = i := by
        rw [hpm.length_eq, List.length_take]
        omega
      refine ⟨.ref f, rfl, .inl ⟨rfl, _, .inl (.inl ef)⟩, .ref p, rfl, .ref f, rfl, f, ys, rfl, .inl (.inl (.inl ef)), _, _, rfl, rfl, p, _, rfl, by omega, by omega, hp1, fun H3 r b3 hp3 h0 h1 => ?_⟩
      have ef3 : H3 f = some (.lst ys) := b3 _ _ nfp ef
      refine ⟨x, rfl, f, ys, r, x, rfl, rfl, ef3, small1000 (by omega), h0, by omega, ?_⟩
      refine ⟨_, _, rfl, ?_, upd_same, hp3.upd nfp, fun b o hb h => ?_⟩
      · rw [List.take_add_one, hx, List.append_assoc]
        have h1 : (ys.take r.toNat ++ ([x] ++ ys.drop r.toNat)).Perm (x :: (ys.take r.toNat ++ ys.drop r.toNat)) := List.perm_middle
        rw [List.take_append_drop] at h1
        exact h1.trans ((hpm.cons x).trans (List.perm_append_singleton x (xs.take i)).symm)
      · rw [upd_ne (ne_of_none h nf)]
        exact b3 _ _ hb (bt _ _ hb h)
    · rintro σ H1 ⟨y, ys, rfl, hpm, ef, hp1, bt⟩
      rw [List.take_length] at hpm
      exact ⟨.ref f, rfl, q H1 f ys bt nf ef hpm hp1⟩
/-- the dealing as it stands -/
def DS (K : PySem.W.Frag) (p F : Addr) (Hs : Hp) (lo hi : Nat) (H' : Hp) : Prop := But p Hs H' ∧ Pool H' p ∧ ∃ zs, H' F = some (.lst zs) ∧ AllD K (M.wo H' (fun b => b = p ∨ b = F)) zs ∧ lo ≤ zs.length ∧ zs.length ≤ hi
theorem DS.put {K : PySem.W.Frag} {p F : Addr} {Hs H2 : Hp} {lo hi : Nat} {zs : List V} (pF : F ≠ p) (nF : Hs F = none) (b : But p Hs H2) (hp : Pool H2 p) (hd : AllD K (M.wo H2 (fun b => b = p ∨ b = F)) zs) (l1 : lo ≤ zs.length) (l2 : zs.length ≤ hi) : DS K p F Hs lo hi (L2.upd H2 F (.lst zs)) :=
  ⟨b.mut nF, hp.upd pF, zs, upd_same, hd.same (wo_mut (X := fun b => b = p ∨ b = F) (.inr rfl)), l1, l2⟩
theorem DS.more {K : PySem.W.Frag} {p F : Addr} {Hs H' : Hp} {lo hi lo' hi' : Nat} (h : DS K p F Hs lo hi H') (h1 : lo' ≤ lo) (h2 : hi ≤ hi') : DS K p F Hs lo' hi' H' := by
  obtain ⟨b, hp, zs, e, hd, l1, l2⟩ := h
  exact ⟨b, hp, zs, e, hd, by omega, by omega⟩
theorem AllD.but {K : PySem.W.Frag} {p F : Addr} {H H' : Hp} {zs : List V} (h : AllD K (M.wo H (fun b => b = p ∨ b = F)) zs) (b : But p H H') : AllD K (M.wo H' (fun b => b = p ∨ b = F)) zs := h.same (b.wo (X := fun b => b = p ∨ b = F) (.inl rfl))
theorem lt200 {n : Nat} (h : n ≤ 1000) : ((n : Nat) : Int) < 2 ^ 200 := by
  have : (1000 : Int) < 2 ^ 200 := by decide
  omega
def nmsV (rs : List Row) (i : Nat) : List V := ((nms rs).take i).map V.str
theorem nmsV_succ {rs : List Row} {i : Nat} {r : Row} (h : rs[i]? = some r) : nmsV rs (i + 1) = nmsV rs i ++ [.str r.1] := by
  unfold nmsV nms
  rw [List.take_add_one, List.getElem?_map, h, List.map_append]
  rfl
theorem nmsV_len (rs : List Row) (i : Nat) : (nmsV rs i).length ≤ i := by
  unfold nmsV
  rw [List.length_map, List.length_take]
  omega
theorem nmsV_all (rs : List Row) {i : Nat} (h : rs.length ≤ i) : nmsV rs i = namV rs := by
  unfold nmsV namV
  rw [List.take_of_length_le (by unfold nms; rw [List.length_map]; exact h)]
def spLaw (K : PySem.W.Frag) : Sp := fun vs H Q _ => ∃ (a : Addr) (ns : List Int), vs = [.ref a] ∧ SqL K H a (ns.map V.int) ∧ ns.length ≤ 63 ∧ ∀ H', Q (.bl true) H'
set_option maxHeartbeats 0 in
theorem ok_law (T : Top w K mg) : FnOk P w K mg base CX0 10 T.a_law T.fd_law ["_law_script"] (spLaw K) := by
  have G_Lpool := ok_Lpool (P := P) (w := w) (base := base) T
  have G_Ltake := ok_Ltake (P := P) (w := w) (base := base) T
  have G_Lsmall_rows := ok_Lsmall_rows (P := P) (w := w) (base := base) T
  have G_Lsmall_box := ok_Lsmall_boxS (P := P) (w := w) (base := base) T
  have G_Llegs_of := ok_Llegs_of (P := P) (w := w) (base := base) T
  have G_Llots := ok_Llots (P := P) (w := w) (base := base) T
  have G_Lmix := ok_LmixP (P := P) (w := w) (base := base) T
  have G_Lanything := ok_Lanything (P := P) (w := w) (base := base) T
  have G_Ldue := ok_Ldue21 (P := P) (w := w) (base := base) T
  have G_Lasked := ok_Lasked (P := P) (w := w) (base := base) T
  have G_Lsame := ok_Lsame (P := P) (w := w) (base := base) T 1
  have G_Atlas_init := ok_Atlas_init (P := P) (w := w) (base := base) T
  refine T.F_law.ok sc_law (fun vs H Q E h => ?_) (fun cdv A outer s H vs Q E hr h => ?_)
  · obtain ⟨a, ns, rfl, _⟩ := h
    rfl
  · obtain ⟨a, ns, rfl, hS, hlen, q⟩ := h
    refine ⟨_, (pss_cons (ps_set (i := 1) sc_law.nd rfl (.inl rfl) (pe_call G_Lpool (hr.mono (by decide)) (by rfl) T.g_Lpool T.F_Lpool.kp T.b_Lpool .nil pass0 (pa_cons (pv 0) (pa_cons pe_int pa_nil))))
      (pss_cons (ps_set (i := 2) sc_law.nd rfl (.inl rfl) (pe_callB cr_sortedSP (by rfl) T.m_sorted (by decide +kernel) (pa_cons (pe_call G_Lsmall_rows (hr.mono (by decide)) (by rfl) T.g_Lsmall_rows T.F_Lsmall_rows.kp T.b_Lsmall_rows .nil pass0 (pa_cons (pv 1) (pa_cons (pe_op op_add pe_int (pe_call G_Ltake (hr.mono (by decide)) (by rfl) T.g_Ltake T.F_Ltake.kp T.b_Ltake .nil pass0 (pa_cons (pv 1) (pa_cons pe_int pa_nil)))) pa_nil))) pa_nil)))
      (pss_cons (ps_set (i := 3) sc_law.nd rfl (.inl rfl) (pe_callB call_len_seq (by rfl) T.m_len (by decide +kernel) (pa_cons (pe_call G_Llegs_of (hr.mono (by decide)) (by rfl) T.g_Llegs_of T.F_Llegs_of.kp T.b_Llegs_of .nil pass0 (pa_cons (pv 2) pa_nil)) pa_nil)))
      (pss_cons (ps_set (i := 4) sc_law.nd rfl (.inl rfl) (pe_call G_Lsmall_box (hr.mono (by decide)) (by rfl) T.g_Lsmall_box T.F_Lsmall_box.kp T.b_Lsmall_box .nil pass0 (pa_cons (pv 1) (pa_cons pe_int pa_nil))))
      (pss_cons (ps_set (i := 5) sc_law.nd rfl (.inl rfl) (pe_make T.mk_Atlas G_Atlas_init hr (by rfl) T.g_Atlas T.b_Atlas_init .nil pass0 (pa_cons (pv 4) (pa_cons (pv 2) pa_nil))))
      (pss_cons (ps_set (i := 6) sc_law.nd rfl (.inl rfl) (pe_lst pa_nil))
      (pss_cons (ps_for PassesOwn.never rfl (pi_range1 (by rfl) T.m_range (pa_cons pe_int pa_nil)) (pg_name (i := 7) sc_law.nd rfl (.inl rfl)) (pss_one (ps_expr (pe_bm PySem.F.plainAttrs_list PySem.F.slot_list_extend PySem.F.type_list_extend mt_extend (pv 6) (pa_cons (pe_op op_rep (pe_lst (pa_cons (pv 7) pa_nil)) (pe_ix ix_tup (pv 4) (pv 7) (fun _ _ => rfl))) pa_nil)))))
      (pss_cons (ps_for PassesOwn.never rfl (pi_range1 (by rfl) T.m_range (pa_cons pe_int pa_nil)) (pg_name (i := 8) sc_law.nd rfl (.inl rfl)) (pss_cons (ps_set (i := 9) sc_law.nd rfl (.inl rfl) (pe_slice sl_list (pe_op op_cat (pe_call G_Lmix (hr.mono (by decide)) (by rfl) T.g_Lmix T.F_Lmix.kp T.b_Lmix .nil pass0 (pa_cons (pv 1) (pa_cons (pv 6) pa_nil))) (pe_callTy call_list_of (by rfl) T.m_list (by decide +kernel) (pa_cons (pe_call G_Llots (hr.mono (by decide)) (by rfl) T.g_Llots T.F_Llots.kp T.b_Llots .nil pass0 (pa_cons (pv 1) (pa_cons (pv 3) pa_nil))) pa_nil))) po_none (po_some (pv 3))))
      (pss_cons (ps_set (i := 10) sc_law.nd rfl (.inl rfl) (pe_call G_Ltake (hr.mono (by decide)) (by rfl) T.g_Ltake T.F_Ltake.kp T.b_Ltake .nil pass0 (pa_cons (pv 1) (pa_cons pe_int pa_nil))))
      (Evl.pss_cut (ps_if (pt_cmpR op_eq (pv 10) pe_int (nomark _)) (pss_one (ps_expr (pe_bm PySem.F.plainAttrs_list PySem.F.slot_list_insert PySem.F.type_list_insert mt_insert (pv 9) (pa_cons (pe_call G_Ltake (hr.mono (by decide)) (by rfl) T.g_Ltake T.F_Ltake.kp T.b_Ltake .nil pass0 (pa_cons (pv 1) (pa_cons (pe_op op_add (pv 3) pe_int) pa_nil))) (pa_cons (pe_call G_Ltake (hr.mono (by decide)) (by rfl) T.g_Ltake T.F_Ltake.kp T.b_Ltake .nil pass0 (pa_cons (pv 1) (pa_cons pe_int pa_nil))) pa_nil))))) pss_nil)
      (Evl.pss_cut (ps_if (pt_cmpR op_eq (pv 10) pe_int (nomark _)) (pss_one (ps_asg (pe_ix ix_tup (pe_tup (pa_cons (pe_call G_Lanything (hr.mono (by decide)) (by rfl) T.g_Lanything T.F_Lanything.kp T.b_Lanything .nil pass0 (pa_cons (pv 1) pa_nil)) (pa_cons (pe_call G_Ltake (hr.mono (by decide)) (by rfl) T.g_Ltake T.F_Ltake.kp T.b_Ltake .nil pass0 (pa_cons (pv 1) (pa_cons pe_int pa_nil))) pa_nil))) (pe_call G_Ltake (hr.mono (by decide)) (by rfl) T.g_Ltake T.F_Ltake.kp T.b_Ltake .nil pass0 (pa_cons (pv 1) (pa_cons pe_int pa_nil))) (fun _ _ => rfl)) (pg_sub (pv 9) (pe_call G_Ltake (hr.mono (by decide)) (by rfl) T.g_Ltake T.F_Ltake.kp T.b_Ltake .nil pass0 (pa_cons (pv 1) (pa_cons (pv 3) pa_nil))) set_list))) pss_nil)
      (Evl.pss_cut (ps_if (PW.pt (pw_and (pt_cmpR op_eq (pv 10) pe_int (nomark _)) (pw_and1 (pt_cmpR op_eq (pe_call G_Ltake (hr.mono (by decide)) (by rfl) T.g_Ltake T.F_Ltake.kp T.b_Ltake .nil pass0 (pa_cons (pv 1) (pa_cons pe_int pa_nil))) pe_int (nomark _))))) (pss_one (ps_expr (pe_bm0 PySem.F.plainAttrs_list PySem.F.slot_list_pop PySem.F.type_list_pop mt_pop (pv 9)))) pss_nil)
      (pss_cons (ps_set (i := 11) sc_law.nd rfl (.inl rfl) (pe_ix ix_list (pe_op op_cat (pe_lc (own := [("_law_name_here", 11), ("_law_log", 15)]) (g := gTup K 2 (gCons (gName 11) (gCons (gName 15) gNil))) (by rfl) sc_law.nd (pi_list (pv 2)) (blkOk_by (own := [("_law_name_here", 11), ("_law_log", 15)]) (N := ["_law_script", "_law_pool_here", "_law_rows", "_law_many", "_law_box", "_law_atlas", "_law_rest", "_law_lot", "_law_k", "_law_dealing", "_law_pick", "_law_name_here", "_law_due_here", "_law_at", "_law_known", "_law_log"]) (sc := defScope s_law) (by decide +kernel)) (fun _ _ _ _ _ => (pg_tup rfl (pgs_cons (pg_name (i := 11) sc_law.nd rfl (Or.inl rfl)) (pgs_cons (pg_name (i := 15) sc_law.nd rfl (Or.inl rfl)) pgs_nil)))) (fun _ _ _ _ _ => pts_nil) (fun _ _ _ _ _ => (pv 11))) (pe_lst (pa_cons pe_str pa_nil))) (pe_call G_Ltake (hr.mono (by decide)) (by rfl) T.g_Ltake T.F_Ltake.kp T.b_Ltake .nil pass0 (pa_cons (pv 1) (pa_cons (pe_op op_add (pe_callB call_len_seq (by rfl) T.m_len (by decide +kernel) (pa_cons (pv 2) pa_nil)) pe_int) pa_nil))) (fun _ _ => rfl)))
      (pss_cons (ps_set (i := 12) sc_law.nd rfl (.inl rfl) (pe_tup (pa_cons pe_str pa_nil)))
      (Evl.pss_cut (ps_if (pt_cmpR op_notIn_seq (pv 11) (pe_lc (own := [("_law_known", 14), ("_law_log", 15)]) (g := gTup K 2 (gCons (gName 14) (gCons (gName 15) gNil))) (by rfl) sc_law.nd (pi_list (pv 2)) (blkOk_by (own := [("_law_known", 14), ("_law_log", 15)]) (N := ["_law_script", "_law_pool_here", "_law_rows", "_law_many", "_law_box", "_law_atlas", "_law_rest", "_law_lot", "_law_k", "_law_dealing", "_law_pick", "_law_name_here", "_law_due_here", "_law_at", "_law_known", "_law_log"]) (sc := defScope s_law) (by decide +kernel)) (fun _ _ _ _ _ => (pg_tup rfl (pgs_cons (pg_name (i := 14) sc_law.nd rfl (Or.inl rfl)) (pgs_cons (pg_name (i := 15) sc_law.nd rfl (Or.inl rfl)) pgs_nil)))) (fun _ _ _ _ _ => pts_nil) (fun _ _ _ _ _ => (pv 14))) (by rfl)) (pss_one (ps_set (i := 12) sc_law.nd rfl (.inl rfl) (pe_tup (pa_cons pe_str (pa_cons (pv 11) pa_nil))))) pss_nil)
      (pss_cons (ps_set (i := 13) sc_law.nd rfl (.inl rfl) (pe_call G_Ldue (hr.mono (by decide)) (by rfl) T.g_Ldue T.F_Ldue.kp T.b_Ldue .nil pass0 (pa_cons (pv 4) (pa_cons (pv 3) (pa_cons (pv 9) pa_nil)))))
      (Evl.pss_cut (ps_if (pt_cmpR op_notN (pv 13) pe_non (nomark _)) (pss_one (ps_set (i := 12) sc_law.nd rfl (.inl rfl) (pe_tup (pa_cons pe_str (pa_cons (pv 13) pa_nil))))) pss_nil)
      (pss_one (ps_if (pt_not (pt_val (pe_call G_Lsame (hr.mono (by decide)) (by rfl) T.g_Lsame T.F_Lsame.kp T.b_Lsame .nil pass0 (pa_cons (pe_call G_Lasked hr (by rfl) T.g_Lasked T.F_Lasked.kp T.b_Lasked .nil pass0 (pa_cons (pv 5) (pa_cons (pe_ix ix_tup (pe_tup (pa_cons (pv 9) (pa_cons (pe_callTy call_tuple_of (by rfl) T.m_tuple (by decide +kernel) (pa_cons (pv 9) pa_nil)) pa_nil))) (pe_call G_Ltake (hr.mono (by decide)) (by rfl) T.g_Ltake T.F_Ltake.kp T.b_Ltake .nil pass0 (pa_cons (pv 1) (pa_cons pe_int pa_nil))) (fun _ _ => rfl)) (pa_cons (pv 11) pa_nil)))) (pa_cons (pv 12) pa_nil))))) (pss_one (ps_ret pe_bl)) pss_nil)))))))))))))
      (pss_one (ps_ret pe_bl)))))))))), ?_⟩
    refine ⟨.ref a, rfl, a, ns, 0, rfl, hS, hlen, by decide, fun H1 p sm np hp => ?_⟩
    refine ⟨.ref p, rfl, .ref p, rfl, p, 4, rfl, by decide, by decide, hp, fun H2 k b2 hp2 k0 k1 => ?_⟩
    obtain ⟨m, rfl⟩ : ∃ m : Nat, k = m := ⟨k.toNat, by omega⟩
    refine ⟨_, _, rfl, rfl, p, 1 + m, by rw [Int.natCast_add]; rfl, by omega, hp2, fun H3 L xs rs b3 hp3 nL eL hrs lrs nd rok r8 _ => ?_⟩
    refine ⟨L, xs, nmAt H3, lgAt H3, rfl, .inl (.inl eL), hrs.keyed, hrs.apart nd, fun ys L2 srt prm nL2 => ?_⟩
    obtain ⟨rs2, hrs2, prm2, srt2⟩ := hrs.sorted nd srt prm
    have sL2 := same_upd (o := .lst ys) nL2
    have rok2 : ∀ r ∈ rs2, RowOk r := fun r hr => rok r (prm2.mem_iff.mp hr)
    have r82 : ∀ r ∈ rs2, r.2.length ≤ 8 := fun r hr => r8 r (prm2.mem_iff.mp hr)
    have r1000 : ∀ r ∈ rs2, r.2.length ≤ 1000 := fun r hr => by have := r82 r hr; omega
    have len2 : rs2.length ≤ 4 := by rw [prm2.length_eq]; omega
    have len1 : 1 ≤ rs2.length := by rw [prm2.length_eq]; omega
    have l9 := legL_len9 r82
    have nL2p : L2 ≠ p := hp3.ne_new nL2
    have lys := hrs2.len
    have nd2 := srt2.nodup
    clear hrs nd rok r8
    have hrs3 := hrs2.same sL2
    have hp3' := hp3.same sL2
    refine ⟨.ref L2, rfl, L2, ys, rs2, rfl, .inl (.inl upd_same), hrs3, rok2, by omega, fun H4 g s4 hg => ?_⟩
    cases hg with
    | @tup _ gs _ hgs hga =>
    have lgs2 := dpa_len _ _ hga
    refine ⟨g, gs, rfl, .inr hgs, ?_⟩
    rw [lgs2]
    have hp4 := hp3'.same s4
    have eL4 := s4 _ _ (upd_same (a := L2) (o := .lst ys))
    have hrs4 := hrs3.same s4
    clear hga hgs lgs2
    have M1 : 1 ≤ (legL rs2).length := by
      match rs2, len1 with
      | r :: rest, _ =>
        show 1 ≤ ((List.range (1 + swaps r.2)).map (fun (k : Nat) => PyData.tuple [.str r.1, .int (k : Nat)]) ++ legL rest).length
        rw [List.length_append, List.length_map, List.length_range]
        omega
    generalize eM : (legL rs2).length = M at M1 l9
    refine ⟨.ref p, rfl, p, _, rfl, hp4, fun H5 bx box b5 hp5 nbx ebx lbx sbx => ?_⟩
    have eL5 := b5 _ _ nL2p eL4
    have hrs5 := hrs4.tp r1000 (Tp.but hp4 b5)
    refine ⟨.ref bx, rfl, .ref L2, rfl, fun x dx nx ndx nedx => ?_⟩
    have s8 : Same H5 (upd (upd H5 dx (.own x)) x (.ins T.a_Atlas dx [])) := fun b o h => by
      rw [upd_ne (ne_of_none h nx), upd_ne (ne_of_none h ndx)]
      exact h
    refine ⟨x, dx, bx, L2, box, ys, rs2, rfl, upd_same, .inr (.inl (.inl (s8 _ _ ebx))), lbx, .inl (.inl (.inl (s8 _ _ eL5))), (hrs5.same s8).pairs, rok2, nd2, by omega, fun H9 rs' b9 prm' hsrt hA => ⟨rfl, ?_⟩⟩
    have er : rs' = rs2 := srt_uniq prm' hsrt srt2
    subst er
    have s59 : Same H5 H9 := fun b o h => b9 _ _ (ne_of_none h nx) (s8 _ _ h)
    have hp9 := hp5.same s59
    have ebx9 := s59 _ _ ebx
    have eL9 := s59 _ _ eL5
    have hrs9 := hrs5.same s59
    clear hrs5 hrs4 hrs3 hrs2
    refine ⟨Nat.zero_le _, fun R nR => ?_⟩
    have sR := same_upd (o := .lst []) nR
    have nRp : R ≠ p := hp9.ne_new nR
    refine ⟨_, rfl, by decide, by decide, for_range (n := 8) (fun i σ H' => Same H9 H' ∧ ∃ y7 us, σ = [some (.ref a), some (.ref p), some (.ref L2), some (.int (M : Nat)), some (.ref bx), some (.ref x), some (.ref R), y7, none, none, none, none, none, none, none, none] ∧ H' R = some (.lst us) ∧ (∀ v ∈ us, IsInt v) ∧ us.length = (box.take i).sum) ⟨sR, _, [], rfl, upd_same, (fun _ h => nomatch h), rfl⟩ ?_ ?_⟩
    · rintro i σ H1 hi ⟨sm, y4, us, rfl, eR, hus, lus⟩
      have hib : i < box.length := by omega
      have e0 : (0 : Int) + (i : Int) = ((i : Nat) : Int) := by omega
      simp only [e0]
      have hst := sum_take box i hib
      have hsl := sum_take_le box (i + 1)
      refine ⟨.ref R, rfl, .inl ⟨rfl, _, .inl (.inl eR)⟩, _, rfl, by show 1 ≤ sizeLine; decide, fun l nl => ?_⟩
      have sl := same_upd (o := .lst [.int (i : Nat)]) nl
      refine ⟨.ref bx, rfl, _, rfl, bx, _, _, _, rfl, rfl, .inl (.inl ((sm.trans sl) _ _ ebx9)), atI_nat (box_at hib), l, ((box.getD i 0 : Nat) : Int), [.int (i : Nat)], rfl, rfl, upd_same, by omega, by omega, ?_, fun l2 nl2 => ?_⟩
      · show 1 * (((box.getD i 0 : Nat) : Int)).toNat ≤ sizeLine
        rw [Int.toNat_natCast, Nat.one_mul]
        exact Nat.le_trans (show box.getD i 0 ≤ 100 by omega) (by decide)
      rw [Int.toNat_natCast, List.flatten_replicate_singleton]
      have sl2 := same_upd (o := .lst (List.replicate (box.getD i 0) (V.int (i : Nat)))) nl2
      refine ⟨R, l2, us, _, rfl, rfl, sl2 _ _ (sl _ _ eR), upd_same, ?_, fun c o h => ?_, _, _, rfl, upd_same, fun v hv => ?_, ?_⟩
      · rw [List.length_replicate]
        exact Nat.le_trans (show us.length + box.getD i 0 ≤ 200 by omega) (by decide)
      · rw [upd_ne (ne_of_none h nR)]
        exact sl2 _ _ (sl _ _ (sm _ _ h))
      · rcases List.mem_append.mp hv with h | h
        · exact hus v h
        · rw [List.eq_of_mem_replicate h]
          exact ⟨_, rfl⟩
      · rw [List.length_append, List.length_replicate, lus, hst]
    · rintro σ H10 ⟨s10, y7, us, rfl, eR, hus, lus⟩
      have hsl := sum_take_le box 8
      have hp10 := hp9.same s10
      have ebx10 := s10 _ _ ebx9
      have eL10 := s10 _ _ eL9
      have hrs10 := hrs9.same s10
      have hA10 := hA.same s10
      refine ⟨_, rfl, by decide, by decide, for_range (n := 5) (fun i σ H' => But p H10 H' ∧ Pool H' p ∧ ∃ y7 y8 y9 y10 y11 y12 y13 y14 y15, σ = [some (.ref a), some (.ref p), some (.ref L2), some (.int (M : Nat)), some (.ref bx), some (.ref x), some (.ref R), y7, y8, y9, y10, y11, y12, y13, y14, y15]) ⟨fun b o _ h => h, hp10, _, _, _, _, _, _, _, _, _, rfl⟩ ?_ (fun σ H' _ => q H')⟩
      rintro i0 σ Hs hi0 ⟨bs, hps, y7, y8, y9, y10, y11, y12, y13, y14, y15, rfl⟩
      have ks := Kp.but hp10 bs
      have eRs := bs _ _ nRp eR
      have eLs := bs _ _ nL2p eL10
      have hrss := hrs10.tp r1000 ks.tp
      have hAs := hA10.kp r1000 ks
      have ebxs := ks.tp _ _ rfl ebx10
      clear hrs10 hrs9 hA10
      refine ⟨.ref p, rfl, .ref R, rfl, p, R, us, rfl, hps, nRp, .inl (.inl eRs), by omega, fun G2 f fs c2 nf ef pmf gp2 => ?_⟩
      have hfs : ∀ v ∈ fs, IsInt v := fun v hv => hus v (pmf.mem_iff.mp hv)
      have lfs : fs.length ≤ 100 := by rw [pmf.length_eq]; omega
      have nfp : f ≠ p := hps.ne_new nf
      refine ⟨.ref p, rfl, _, rfl, p, M, rfl, by omega, gp2, fun G3 dl o lots c3 gp3 ndl edl po llots => ?_⟩
      refine ⟨dl, _, rfl, .inr (.inl (.inr ⟨o, edl⟩)), fun l2 nl2 => ?_⟩
      have sl2 := same_upd (o := .lst (lots.map lotV)) nl2
      have llv : (lots.map lotV).length = M := by rw [List.length_map]; exact llots
      refine ⟨f, l2, _, _, rfl, rfl, sl2 _ _ (c3 _ _ nfp ef), upd_same, Nat.le_of_lt (small1000 (by omega)), fun l3 nl3 => ?_⟩
      have sl3 := same_upd (o := .lst (fs ++ lots.map lotV)) nl3
      refine ⟨_, rfl, _, rfl, l3, _, rfl, .inl (.inl upd_same), fun F nF => ?_⟩
      rw [cut_to (fs ++ lots.map lotV) M (by rw [List.length_append]; omega)]
      have hz : ∀ v ∈ (fs ++ lots.map lotV).take M, IsInt v := fun v hv => by
        rcases List.mem_append.mp (List.mem_of_mem_take hv) with h | h
        · exact hfs v h
        · obtain ⟨a, _, rfl⟩ := List.mem_map.mp h
          exact ⟨_, rfl⟩
      have lz : ((fs ++ lots.map lotV).take M).length = M := by
        rw [List.length_take, List.length_append]
        omega
      generalize (fs ++ lots.map lotV).take M = zs0 at hz lz
      have sF := same_upd (o := .lst zs0) nF
      have cF : But p Hs (upd (upd (upd G3 l2 (.lst (lots.map lotV))) l3 (.lst (fs ++ lots.map lotV))) F (.lst zs0)) := (c2.trans c3).trans (But.of ((sl2.trans sl3).trans sF))
      have gp4 := ((gp3.same sl2).same sl3).same sF
      have pF : F ≠ p := ((gp3.same sl2).same sl3).ne_new nF
      have nFs : Hs F = none := ((c2.trans c3).trans (But.of (sl2.trans sl3))).free pF nF
      have eF : upd (upd (upd G3 l2 (.lst (lots.map lotV))) l3 (.lst (fs ++ lots.map lotV))) F (.lst zs0) F = some (.lst zs0) := upd_same
      generalize upd (upd (upd G3 l2 (.lst (lots.map lotV))) l3 (.lst (fs ++ lots.map lotV))) F (.lst zs0) = G4 at cF gp4 eF
      refine ⟨.ref p, rfl, p, 4, rfl, by decide, by decide, gp4, fun G5 pk c5 gp5 pk0 pk1 => ?_⟩
      have D0 : DS K p F Hs M M G5 := ⟨cF.trans c5, gp5, zs0, c5 _ _ pF eF, ints_all hz, by omega, by omega⟩
      clear c2 c3 c5 gp2 gp3 gp4 cF eF sF sl3 sl2 gp5 nF nl3 nl2 edl ef
      refine ⟨fun σ' H' => DS K p F Hs M (M + 1) H' ∧ σ' = [some (.ref a), some (.ref p), some (.ref L2), some (.int (M : Nat)), some (.ref bx), some (.ref x), some (.ref R), y7, some (.int (0 + (i0 : Int))), some (.ref F), some (.int pk), y11, y12, y13, y14, y15], ?_, ?_⟩
      · refine ⟨_, rfl, rfl, _, rfl, ite2 (fun e => ?_) (fun e => ⟨D0.more (by omega) (by omega), rfl⟩)⟩
        obtain ⟨bb, hpb, zs, eF, hd, l1, l2⟩ := D0
        refine ⟨.ref F, rfl, .inl ⟨rfl, _, .inl (.inl eF)⟩, .ref p, rfl, _, rfl, _, _, rfl, rfl, p, _, rfl, by omega, by have := lt200 (show M + 1 ≤ 1000 by omega); omega, hpb, fun G6 r c6 gp6 r0 r1 => ?_⟩
        refine ⟨.ref p, rfl, p, 8, rfl, by decide, by decide, gp6, fun G7 r2 c7 gp7 _ _ => ?_⟩
        have c67 := c6.trans c7
        refine ⟨F, zs, r, .int r2, rfl, rfl, c67 _ _ pF eF, small1000 (by omega), r0, by omega, DS.put pF nFs (bb.trans c67) gp7 (fun v hv => ?_) ?_ ?_, rfl⟩
        · rcases List.mem_append.mp hv with h | h
          · rcases List.mem_append.mp h with h | h
            · exact (hd.but c67) v (List.mem_of_mem_take h)
            · rw [List.mem_singleton.mp h]
              exact ⟨.int r2, .int r2⟩
          · exact (hd.but c67) v (List.mem_of_mem_drop h)
        · rw [List.length_append, List.length_append, List.length_take, List.length_drop, List.length_singleton]
          omega
        · rw [List.length_append, List.length_append, List.length_take, List.length_drop, List.length_singleton]
          omega
      clear D0 hz lz
      rintro σ' G5 ⟨D1, rfl⟩
      refine ⟨fun σ' H' => DS K p F Hs M (M + 1) H' ∧ σ' = [some (.ref a), some (.ref p), some (.ref L2), some (.int (M : Nat)), some (.ref bx), some (.ref x), some (.ref R), y7, some (.int (0 + (i0 : Int))), some (.ref F), some (.int pk), y11, y12, y13, y14, y15], ?_, ?_⟩
      · refine ⟨_, rfl, rfl, _, rfl, ite2 (fun e => ?_) (fun e => ⟨D1, rfl⟩)⟩
        obtain ⟨bb, hpb, zs, eF, hd, l1, l2⟩ := D1
        have xF : HX p (fun b => b = p ∨ b = F) G5 := ⟨.inl rfl, fun b h => h.elim (fun z => by rw [z]; exact hpb.known) (fun z => by rw [z, eF]; exact fun y => nomatch y)⟩
        refine ⟨.ref p, rfl, p, (fun b => b = p ∨ b = F), rfl, hpb, xF, fun G6 v d c6 gp6 hda hv => ?_⟩
        refine ⟨.ref p, rfl, p, 8, rfl, by decide, by decide, gp6, fun G7 r2 c7 gp7 _ _ => ⟨by show 2 ≤ sizeLine; decide, fun t0 nt0 => ?_⟩⟩
        have st := same_upd (o := .tup [v, .int r2]) nt0
        refine ⟨.ref p, rfl, p, 2, rfl, by decide, by decide, gp7.same st, fun G8 j c8 gp8 j0 j1 => ?_⟩
        have c68 : But p G6 G8 := (c7.trans (But.of st)).trans c8
        obtain ⟨w1, hw, hdw⟩ : ∃ w1, atI [v, .int r2] j = some w1 ∧ ∃ d, Dp K (wo G8 (fun b => b = p ∨ b = F)) w1 d := by
          rcases (show j = 0 ∨ j = 1 by omega) with rfl | rfl
          · exact ⟨v, rfl, d, dp_same (c68.wo (X := fun b => b = p ∨ b = F) (.inl rfl)) _ _ hv⟩
          · exact ⟨.int r2, rfl, .int r2, .int r2⟩
        refine ⟨t0, _, j, w1, rfl, rfl, .inl (.inl (c8 _ _ (gp7.ne_new nt0) upd_same)), hw, .ref F, rfl, .ref p, rfl, _, rfl, p, _, rfl, by omega, lt200 (by omega), gp8, fun G9 n c9 gp9 n0 n1 => ?_⟩
        obtain ⟨n, rfl⟩ : ∃ nn : Nat, n = nn := ⟨n.toNat, by omega⟩
        have c59 : But p G5 G9 := (c6.trans c68).trans c9
        refine ⟨F, zs, n, n, rfl, rfl, c59 _ _ pF eF, Evl.ixN_nat (by omega), DS.put pF nFs (bb.trans c59) gp9 (fun z hz => ?_) (by rw [List.length_set]; exact l1) (by rw [List.length_set]; exact l2), rfl⟩
        rcases List.mem_or_eq_of_mem_set hz with h | h
        · exact (hd.but c59) z h
        · rw [h]
          obtain ⟨dd, hdd⟩ := hdw
          exact ⟨dd, dp_same (c9.wo (X := fun b => b = p ∨ b = F) (.inl rfl)) _ _ hdd⟩
      clear D1
      rintro σ' G5 ⟨D1, rfl⟩
      refine ⟨fun σ' H' => DS K p F Hs 0 (M + 1) H' ∧ σ' = [some (.ref a), some (.ref p), some (.ref L2), some (.int (M : Nat)), some (.ref bx), some (.ref x), some (.ref R), y7, some (.int (0 + (i0 : Int))), some (.ref F), some (.int pk), y11, y12, y13, y14, y15], ?_, ?_⟩
      · refine ⟨_, rfl, rfl, _, rfl, ite2 (fun e => ?_) (fun e => iteF ⟨D1.more (by omega) (by omega), rfl⟩)⟩
        obtain ⟨bb, hpb, zs, eF, hd, l1, l2⟩ := D1
        refine ⟨.ref p, rfl, p, 2, rfl, by decide, by decide, hpb, fun G6 j c6 gp6 _ _ => ⟨rfl, _, rfl, ite2 (fun e2 => ?_) (fun e2 => ⟨⟨bb.trans c6, gp6, zs, c6 _ _ pF eF, hd.but c6, by omega, l2⟩, rfl⟩)⟩⟩
        have eF6 := c6 _ _ pF eF
        refine ⟨.ref F, rfl, .inl ⟨rfl, _, .inl (.inl eF6)⟩, F, zs, zs[zs.length - 1], rfl, rfl, eF6, List.getElem?_eq_getElem (by omega), DS.put pF nFs (bb.trans c6) gp6 (fun v hv => (hd.but c6) v ((List.dropLast_sublist zs).subset hv)) (Nat.zero_le _) (by rw [List.length_dropLast]; omega), rfl⟩
      clear D1
      rintro σ' G5 ⟨D1, rfl⟩
      obtain ⟨b5', gp5, zs, eF5, hd5, _, lz5⟩ := D1
      have k5 := Kp.but hps b5'
      have hrs5 := hrss.tp r1000 k5.tp
      have eL5' := b5' _ _ nL2p eLs
      -- the name
      refine ⟨.ref L2, rfl, L2, rfl, ⟨ys, .inl (.inl eL5')⟩, fun D hD => lc_it (walk_list (xs := ys)) (fun i H' => Same G5 H' ∧ H' D = some (.lst (nmsV rs' i))) ⟨same_upd hD, upd_same⟩ (fun i H' _ h => .inl (.inl (h.1 _ _ eL5'))) ?_ ?_⟩
      · rintro i v H3 H4 hi ⟨sm, eD⟩ ⟨rfl, hx⟩
        obtain ⟨r, fr, hra⟩ := hrs5.at_ hx
        obtain ⟨tt, lg, rfl, htt, hlg⟩ := hra.same sm
        have ln := nmsV_len rs' i
        refine ⟨tt, _, rfl, .inl (.inl htt), rfl, _, _, rfl, _, _, rfl, rfl, rfl, _, rfl, _, eD, small1000 (by omega), fun c o h => ?_, ?_⟩
        · rw [upd_ne (ne_of_none h hD)]
          exact sm _ _ h
        · rw [upd_same, nmsV_succ fr]
      rintro G6 ⟨s6, eD⟩
      rw [nmsV_all rs' (by omega)] at eD
      refine ⟨by show 1 ≤ sizeLine; decide, fun l6 nl6 => ?_⟩
      have sl6 := same_upd (o := .lst [.str "zzzzz"]) nl6
      have lnv : (namV rs').length = rs'.length := by unfold namV nms; rw [List.length_map, List.length_map]
      refine ⟨D, l6, _, _, rfl, rfl, sl6 _ _ eD, upd_same, Nat.le_of_lt (small1000 (by rw [lnv]; show rs'.length + 1 ≤ 1000; omega)), fun l7 nl7 => ?_⟩
      have sl7 := same_upd (o := .lst (namV rs' ++ [.str "zzzzz"])) nl7
      have s57 := (s6.trans sl6).trans sl7
      have gp7 := gp5.same s57
      refine ⟨.ref p, rfl, .ref L2, rfl, L2, ys, rfl, .inl (.inl (.inl (s57 _ _ eL5'))), _, _, rfl, rfl, p, _, rfl, by omega, by have := lt200 (show ys.length + 1 ≤ 1000 by omega); omega, gp7, fun G8 r c8 gp8 r0 r1 => ?_⟩
      have c58 : But p G5 G8 := (But.of s57).trans c8
      obtain ⟨z, hz⟩ : ∃ z : Str, atI (namV rs' ++ [.str "zzzzz"]) r = some (.str z) := by
        obtain ⟨j, rfl⟩ : ∃ j : Nat, r = j := ⟨r.toNat, by omega⟩
        by_cases hj : j < (nms rs').length
        · refine ⟨(nms rs')[j], atI_nat ?_⟩
          rw [List.getElem?_append_left (by unfold namV; rw [List.length_map]; exact hj)]
          unfold namV
          rw [List.getElem?_map, List.getElem?_eq_getElem hj]
          rfl
        · have : j = (namV rs').length := by
            rw [lnv]
            unfold nms at hj
            rw [List.length_map] at hj
            omega
          refine ⟨"zzzzz", atI_nat ?_⟩
          rw [this, List.getElem?_append_right (Nat.le_refl _), Nat.sub_self]
          rfl
      refine ⟨l7, _, r, _, rfl, rfl, .inl (.inl (c8 _ _ ((gp5.same (s6.trans sl6)).ne_new nl7) upd_same)), hz, ?_⟩
      refine ⟨by show 1 ≤ sizeLine; decide, fun t8 nt8 => ?_⟩
      have st8 := same_upd (o := .tup [.str "told"]) nt8
      have c59 : But p G5 (upd G8 t8 (.tup [.str "told"])) := c58.trans (But.of st8)
      have gp9 := gp8.same st8
      have e9 : upd G8 t8 (.tup [.str "told"]) t8 = some (.tup [.str "told"]) := upd_same
      generalize upd G8 t8 (.tup [.str "told"]) = G9 at c59 gp9 e9
      have b9' := b5'.trans c59
      have eL9' := b9' _ _ nL2p eLs
      have hrs9 := hrss.tp r1000 (Kp.but hps b9').tp
      clear s57 sl7 sl6 eD s6 hz c58 st8 hrs5
      refine ⟨fun σ' H' => ∃ t, Same G9 H' ∧ Dp K H' (.ref t) (ansD none (decide (z ∈ nms rs')) z) ∧ σ' = [some (.ref a), some (.ref p), some (.ref L2), some (.int (M : Nat)), some (.ref bx), some (.ref x), some (.ref R), y7, some (.int (0 + (i0 : Int))), some (.ref F), some (.int pk), some (.str z), some (.ref t), y13, y14, y15], ?_, ?_⟩
      · refine ⟨.str z, rfl, .ref L2, rfl, L2, rfl, ⟨ys, .inl (.inl eL9')⟩, fun D hD => lc_it (walk_list (xs := ys)) (fun i H' => Same G9 H' ∧ H' D = some (.lst (nmsV rs' i))) ⟨same_upd hD, upd_same⟩ (fun i H' _ h => .inl (.inl (h.1 _ _ eL9'))) ?_ ?_⟩
        · rintro i v H3 H4 hi ⟨sm, eD⟩ ⟨rfl, hx⟩
          obtain ⟨r, fr, hra⟩ := hrs9.at_ hx
          obtain ⟨tt, lg, rfl, htt, hlg⟩ := hra.same sm
          have ln := nmsV_len rs' i
          refine ⟨tt, _, rfl, .inl (.inl htt), rfl, _, _, rfl, _, _, rfl, rfl, rfl, _, rfl, _, eD, small1000 (by omega), fun c o h => ?_, ?_⟩
          · rw [upd_ne (ne_of_none h hD)]
            exact sm _ _ h
          · rw [upd_same, nmsV_succ fr]
        rintro G10 ⟨s10', eD⟩
        rw [nmsV_all rs' (by omega)] at eD
        have hfl : (namV rs').all flatV = true := List.all_eq_true.mpr fun v hv => by
          obtain ⟨z, _, rfl⟩ := List.mem_map.mp hv
          rfl
        refine ⟨D, _, rfl, .inl (.inl (.inl eD)), rfl, hfl, _, rfl, ?_⟩
        rw [in_nms]
        by_cases hzm : z ∈ nms rs'
        · rw [decide_eq_true hzm]
          exact iteF ⟨t8, s10', .tup (.inl (.inl (s10' _ _ e9))) (.cons (.str _) .nil), rfl⟩
        · rw [decide_eq_false hzm]
          refine iteT ⟨_, rfl, by show 2 ≤ sizeLine; decide, fun t nt => ?_⟩
          exact ⟨t, s10'.trans (same_upd nt), .tup (.inl (.inl upd_same)) (.cons (.str _) (.cons (.str _) .nil)), rfl⟩
      rintro σ' G10 ⟨t, s10', ht, rfl⟩
      have c5t := c59.trans (But.of s10')
      have b10' := b5'.trans c5t
      have gp10 := gp9.same s10'
      have k10 := Kp.but hps b10'
      have eF10 := c5t _ _ pF eF5
      obtain ⟨ds, hds5⟩ := alld_dpa hd5
      have lds := dpa_len _ _ hds5
      have hdsAt : ∀ H', But p G5 H' → DpAll K H' zs ds := fun H' b => dpa_same ((b.wo (X := fun b => b = p ∨ b = F) (.inl rfl)).trans wo_same) _ _ hds5
      have hds := hdsAt _ c5t
      refine ⟨.ref bx, rfl, _, rfl, .ref F, rfl, bx, F, box, M, zs, ds, rfl, .inl (.inl (k10.tp _ _ rfl ebxs)), lbx, .inl (.inl eF10), hds, by omega, fun G11 s11 => ?_⟩
      refine ⟨fun σ' H' => ∃ t y13, Same G11 H' ∧ Dp K H' (.ref t) (ansD (dueX box M ds) (decide (z ∈ nms rs')) z) ∧ σ' = [some (.ref a), some (.ref p), some (.ref L2), some (.int (M : Nat)), some (.ref bx), some (.ref x), some (.ref R), y7, some (.int (0 + (i0 : Int))), some (.ref F), some (.int pk), some (.str z), some (.ref t), y13, y14, y15], ?_, ?_⟩
      · cases dueX box M ds with
        | none => exact ⟨_, rfl, rfl, _, rfl, iteF ⟨t, _, Same.refl _, dp_same s11 _ _ ht, rfl⟩⟩
        | some i => exact ⟨_, rfl, rfl, _, rfl, iteT ⟨_, rfl, by show 2 ≤ sizeLine; decide, fun t nt => ⟨t, _, same_upd nt, .tup (.inl (.inl upd_same)) (.cons (.str _) (.cons (.int _) .nil)), rfl⟩⟩⟩
      rintro σ' G12 ⟨t12, y13', s12, ht12, rfl⟩
      have s1012 := s11.trans s12
      have eF12 := s1012 _ _ eF10
      have gp12 := gp10.same s1012
      refine ⟨.ref x, rfl, .ref F, rfl, .ref F, rfl, F, zs, rfl, .inl ⟨.inl (.inl eF12), fun c nc => ?_⟩⟩
      have sc := same_upd (o := .tup zs) nc
      refine ⟨by show 2 ≤ sizeLine; decide, fun t2 nt2 => ?_⟩
      have st2 := same_upd (o := .tup [.ref F, .ref c]) nt2
      have gp13 := (gp12.same sc).same st2
      have sc2 := sc.trans st2
      refine ⟨.ref p, rfl, p, 2, rfl, by decide, by decide, gp13, fun G14 r c14 gp14 r0 r1 => ?_⟩
      have c1214 : But p G12 G14 := (But.of sc2).trans c14
      have c1014 : But p G10 G14 := (But.of s1012).trans c1214
      have bst := b10'.trans c1014
      have kst := Kp.but hps bst
      have eF14 := c1214 _ _ pF eF12
      have et2 := c14 _ _ ((gp12.same sc).ne_new nt2) upd_same
      have ec14 := c14 _ _ (gp12.ne_new nc) (st2 _ _ upd_same)
      obtain ⟨ad, hat, had⟩ : ∃ ad, atI [V.ref F, V.ref c] r = some (.ref ad) ∧ SqA K G14 ad zs := by
        obtain rfl | rfl : r = 0 ∨ r = 1 := by omega
        · exact ⟨F, rfl, .inl (.inl (.inl eF14))⟩
        · exact ⟨c, rfl, .inr (.inl (.inl ec14))⟩
      have c5x := c5t.trans c1014
      have okA : okD 1 (ansD (dueX box M ds) (decide (z ∈ nms rs')) z) = true := by
        cases dueX box M ds with
        | some i => rfl
        | none => cases decide (z ∈ nms rs') <;> rfl
      have ht14 := dp_kp ((Tp.of sc2).trans (Tp.but gp13 c14)) 1 _ _ okA ht12
      refine ⟨t2, _, r, .ref ad, rfl, rfl, .inl (.inl et2), hat, .str z, rfl, x, ad, box, rs', zs, ds, z, rfl, hAs.kp r1000 kst, lbx, rok2, nd2, by omega, had, hdsAt _ c5x, fun G15 v s15 hv => ?_⟩
      rw [eM] at hv
      refine ⟨_, rfl, v, .ref t12, _, rfl, hv, dp_same s15 _ _ ht14, okA, fun G16 s16 => ⟨_, rfl, iteF ?_⟩⟩
      have s1416 := s15.trans s16
      exact ⟨(bs.trans bst).trans (But.of s1416), gp14.same s1416, _, _, _, _, _, _, _, _, _, rfl⟩
--@@SPLIT
end
theorem all_mk {l : PySem.W.OpenLaw} {w : World} {K : PySem.W.Frag} {h : Heap} {mg : Str → Option Value} {fa : Addr} (X : K.In h) (G : h.Ns mainGlobals mg) (hfa : mg "law" = some (.ref fa))
    {f_Atlas : Addr}
    {f_is_whole : Addr} {od_is_whole an_is_whole : Option Addr} {sl_is_whole : Array (Option Value)} {oc_is_whole kV_is_whole dc_is_whole pm_is_whole cd_is_whole ct_is_whole : Value}
    {f_is_row : Addr} {od_is_row an_is_row : Option Addr} {sl_is_row : Array (Option Value)} {oc_is_row kV_is_row dc_is_row pm_is_row cd_is_row ct_is_row : Value}
    {f_laid_out : Addr} {od_laid_out an_laid_out : Option Addr} {sl_laid_out : Array (Option Value)} {oc_laid_out kV_laid_out dc_laid_out pm_laid_out cd_laid_out ct_laid_out : Value}
    {f_kept : Addr} {od_kept an_kept : Option Addr} {sl_kept : Array (Option Value)} {oc_kept kV_kept dc_kept pm_kept cd_kept ct_kept : Value}
    {f_is_letter : Addr} {od_is_letter an_is_letter : Option Addr} {sl_is_letter : Array (Option Value)} {oc_is_letter kV_is_letter dc_is_letter pm_is_letter cd_is_letter ct_is_letter : Value}
    {f_step : Addr} {od_step an_step : Option Addr} {sl_step : Array (Option Value)} {oc_step kV_step dc_step pm_step cd_step ct_step : Value}
    {f_way_of : Addr} {od_way_of an_way_of : Option Addr} {sl_way_of : Array (Option Value)} {oc_way_of kV_way_of dc_way_of pm_way_of cd_way_of ct_way_of : Value}
    {f_is_lot : Addr} {od_is_lot an_is_lot : Option Addr} {sl_is_lot : Array (Option Value)} {oc_is_lot kV_is_lot dc_is_lot pm_is_lot cd_is_lot ct_is_lot : Value}
    {f_refuse_unless_lot : Addr} {od_refuse_unless_lot an_refuse_unless_lot : Option Addr} {sl_refuse_unless_lot : Array (Option Value)} {oc_refuse_unless_lot kV_refuse_unless_lot dc_refuse_unless_lot pm_refuse_unless_lot cd_refuse_unless_lot ct_refuse_unless_lot : Value}
    {f_mirrors : Addr} {od_mirrors an_mirrors : Option Addr} {sl_mirrors : Array (Option Value)} {oc_mirrors kV_mirrors dc_mirrors pm_mirrors cd_mirrors ct_mirrors : Value}
    {f_true : Addr} {od_true an_true : Option Addr} {sl_true : Array (Option Value)} {oc_true kV_true dc_true pm_true cd_true ct_true : Value}
    {f_is_short_text : Addr} {od_is_short_text an_is_short_text : Option Addr} {sl_is_short_text : Array (Option Value)} {oc_is_short_text kV_is_short_text dc_is_short_text pm_is_short_text cd_is_short_text ct_is_short_text : Value}
    {f_are_small : Addr} {od_are_small an_are_small : Option Addr} {sl_are_small : Array (Option Value)} {oc_are_small kV_are_small dc_are_small pm_are_small cd_are_small ct_are_small : Value}
    {f_is_name : Addr} {od_is_name an_is_name : Option Addr} {sl_is_name : Array (Option Value)} {oc_is_name kV_is_name dc_is_name pm_is_name cd_is_name ct_is_name : Value}
    {f_is_lone : Addr} {od_is_lone an_is_lone : Option Addr} {sl_is_lone : Array (Option Value)} {oc_is_lone kV_is_lone dc_is_lone pm_is_lone cd_is_lone ct_is_lone : Value}
    {f_is_sign : Addr} {od_is_sign an_is_sign : Option Addr} {sl_is_sign : Array (Option Value)} {oc_is_sign kV_is_sign dc_is_sign pm_is_sign cd_is_sign ct_is_sign : Value}
    {f_is_many : Addr} {od_is_many an_is_many : Option Addr} {sl_is_many : Array (Option Value)} {oc_is_many kV_is_many dc_is_many pm_is_many cd_is_many ct_is_many : Value}
    {f_is_pair_entry : Addr} {od_is_pair_entry an_is_pair_entry : Option Addr} {sl_is_pair_entry : Array (Option Value)} {oc_is_pair_entry kV_is_pair_entry dc_is_pair_entry pm_is_pair_entry cd_is_pair_entry ct_is_pair_entry : Value}
    {f_is_entry : Addr} {od_is_entry an_is_entry : Option Addr} {sl_is_entry : Array (Option Value)} {oc_is_entry kV_is_entry dc_is_entry pm_is_entry cd_is_entry ct_is_entry : Value}
    {f_held_log : Addr} {od_held_log an_held_log : Option Addr} {sl_held_log : Array (Option Value)} {oc_held_log kV_held_log dc_held_log pm_held_log cd_held_log ct_held_log : Value}
    {f_legs_in : Addr} {od_legs_in an_legs_in : Option Addr} {sl_legs_in : Array (Option Value)} {oc_legs_in kV_legs_in dc_legs_in pm_legs_in cd_legs_in ct_legs_in : Value}
    {f_refuse_unless_lots : Addr} {od_refuse_unless_lots an_refuse_unless_lots : Option Addr} {sl_refuse_unless_lots : Array (Option Value)} {oc_refuse_unless_lots kV_refuse_unless_lots dc_refuse_unless_lots pm_refuse_unless_lots cd_refuse_unless_lots ct_refuse_unless_lots : Value}
    {f_gone : Addr} {od_gone an_gone : Option Addr} {sl_gone : Array (Option Value)} {oc_gone kV_gone dc_gone pm_gone cd_gone ct_gone : Value}
    {f_look_behind : Addr} {od_look_behind an_look_behind : Option Addr} {sl_look_behind : Array (Option Value)} {oc_look_behind kV_look_behind dc_look_behind pm_look_behind cd_look_behind ct_look_behind : Value}
    {f_track : Addr} {od_track an_track : Option Addr} {sl_track : Array (Option Value)} {oc_track kV_track dc_track pm_track cd_track ct_track : Value}
    {f_way_fact : Addr} {od_way_fact an_way_fact : Option Addr} {sl_way_fact : Array (Option Value)} {oc_way_fact kV_way_fact dc_way_fact pm_way_fact cd_way_fact ct_way_fact : Value}
    {f_facts_of_entry : Addr} {od_facts_of_entry an_facts_of_entry : Option Addr} {sl_facts_of_entry : Array (Option Value)} {oc_facts_of_entry kV_facts_of_entry dc_facts_of_entry pm_facts_of_entry cd_facts_of_entry ct_facts_of_entry : Value}
    {f_facts : Addr} {od_facts an_facts : Option Addr} {sl_facts : Array (Option Value)} {oc_facts kV_facts dc_facts pm_facts cd_facts ct_facts : Value}
    {f_held_box : Addr} {od_held_box an_held_box : Option Addr} {sl_held_box : Array (Option Value)} {oc_held_box kV_held_box dc_held_box pm_held_box cd_held_box ct_held_box : Value}
    {f_held_log_of : Addr} {od_held_log_of an_held_log_of : Option Addr} {sl_held_log_of : Array (Option Value)} {oc_held_log_of kV_held_log_of dc_held_log_of pm_held_log_of cd_held_log_of ct_held_log_of : Value}
    {f_lots_left_in : Addr} {od_lots_left_in an_lots_left_in : Option Addr} {sl_lots_left_in : Array (Option Value)} {oc_lots_left_in kV_lots_left_in dc_lots_left_in pm_lots_left_in cd_lots_left_in ct_lots_left_in : Value}
    {f_first_not_dealt : Addr} {od_first_not_dealt an_first_not_dealt : Option Addr} {sl_first_not_dealt : Array (Option Value)} {oc_first_not_dealt kV_first_not_dealt dc_first_not_dealt pm_first_not_dealt cd_first_not_dealt ct_first_not_dealt : Value}
    {f_refuse_unless_dealt : Addr} {od_refuse_unless_dealt an_refuse_unless_dealt : Option Addr} {sl_refuse_unless_dealt : Array (Option Value)} {oc_refuse_unless_dealt kV_refuse_unless_dealt dc_refuse_unless_dealt pm_refuse_unless_dealt cd_refuse_unless_dealt ct_refuse_unless_dealt : Value}
    {f_told : Addr} {od_told an_told : Option Addr} {sl_told : Array (Option Value)} {oc_told kV_told dc_told pm_told cd_told ct_told : Value}
    {f_Lany_entry : Addr} {od_Lany_entry an_Lany_entry : Option Addr} {sl_Lany_entry : Array (Option Value)} {oc_Lany_entry kV_Lany_entry dc_Lany_entry pm_Lany_entry cd_Lany_entry ct_Lany_entry : Value}
    {f_Lany_log : Addr} {od_Lany_log an_Lany_log : Option Addr} {sl_Lany_log : Array (Option Value)} {oc_Lany_log kV_Lany_log dc_Lany_log pm_Lany_log cd_Lany_log ct_Lany_log : Value}
    {f_Llots : Addr} {od_Llots an_Llots : Option Addr} {sl_Llots : Array (Option Value)} {oc_Llots kV_Llots dc_Llots pm_Llots cd_Llots ct_Llots : Value}
    {f_Lown : Addr} {od_Lown an_Lown : Option Addr} {sl_Lown : Array (Option Value)} {oc_Lown kV_Lown dc_Lown pm_Lown cd_Lown ct_Lown : Value}
    {f_Lsmall_log : Addr} {od_Lsmall_log an_Lsmall_log : Option Addr} {sl_Lsmall_log : Array (Option Value)} {oc_Lsmall_log kV_Lsmall_log dc_Lsmall_log pm_Lsmall_log cd_Lsmall_log ct_Lsmall_log : Value}
    {f_Lsmall_rows : Addr} {od_Lsmall_rows an_Lsmall_rows : Option Addr} {sl_Lsmall_rows : Array (Option Value)} {oc_Lsmall_rows kV_Lsmall_rows dc_Lsmall_rows pm_Lsmall_rows cd_Lsmall_rows ct_Lsmall_rows : Value}
    {f_Lsmall_box : Addr} {od_Lsmall_box an_Lsmall_box : Option Addr} {sl_Lsmall_box : Array (Option Value)} {oc_Lsmall_box kV_Lsmall_box dc_Lsmall_box pm_Lsmall_box cd_Lsmall_box ct_Lsmall_box : Value}
    {f_Lpool : Addr} {od_Lpool an_Lpool : Option Addr} {sl_Lpool : Array (Option Value)} {oc_Lpool kV_Lpool dc_Lpool pm_Lpool cd_Lpool ct_Lpool : Value}
    {f_Ltake : Addr} {od_Ltake an_Ltake : Option Addr} {sl_Ltake : Array (Option Value)} {oc_Ltake kV_Ltake dc_Ltake pm_Ltake cd_Ltake ct_Ltake : Value}
    {f_Lmix : Addr} {od_Lmix an_Lmix : Option Addr} {sl_Lmix : Array (Option Value)} {oc_Lmix kV_Lmix dc_Lmix pm_Lmix cd_Lmix ct_Lmix : Value}
    {f_Lwhole : Addr} {od_Lwhole an_Lwhole : Option Addr} {sl_Lwhole : Array (Option Value)} {oc_Lwhole kV_Lwhole dc_Lwhole pm_Lwhole cd_Lwhole ct_Lwhole : Value}
    {f_Lsame : Addr} {od_Lsame an_Lsame : Option Addr} {sl_Lsame : Array (Option Value)} {oc_Lsame kV_Lsame dc_Lsame pm_Lsame cd_Lsame ct_Lsame : Value}
    {f_Lanything : Addr} {od_Lanything an_Lanything : Option Addr} {sl_Lanything : Array (Option Value)} {oc_Lanything kV_Lanything dc_Lanything pm_Lanything cd_Lanything ct_Lanything : Value}
    {f_Lname : Addr} {od_Lname an_Lname : Option Addr} {sl_Lname : Array (Option Value)} {oc_Lname kV_Lname dc_Lname pm_Lname cd_Lname ct_Lname : Value}
    {f_Lnames : Addr} {od_Lnames an_Lnames : Option Addr} {sl_Lnames : Array (Option Value)} {oc_Lnames kV_Lnames dc_Lnames pm_Lnames cd_Lnames ct_Lnames : Value}
    {f_Lsign : Addr} {od_Lsign an_Lsign : Option Addr} {sl_Lsign : Array (Option Value)} {oc_Lsign kV_Lsign dc_Lsign pm_Lsign cd_Lsign ct_Lsign : Value}
    {f_Llegs : Addr} {od_Llegs an_Llegs : Option Addr} {sl_Llegs : Array (Option Value)} {oc_Llegs kV_Llegs dc_Llegs pm_Llegs cd_Llegs ct_Llegs : Value}
    {f_Llegs_of : Addr} {od_Llegs_of an_Llegs_of : Option Addr} {sl_Llegs_of : Array (Option Value)} {oc_Llegs_of kV_Llegs_of dc_Llegs_of pm_Llegs_of cd_Llegs_of ct_Llegs_of : Value}
    {f_Lasked : Addr} {od_Lasked an_Lasked : Option Addr} {sl_Lasked : Array (Option Value)} {oc_Lasked kV_Lasked dc_Lasked pm_Lasked cd_Lasked ct_Lasked : Value}
    {f_Ldue : Addr} {od_Ldue an_Ldue : Option Addr} {sl_Ldue : Array (Option Value)} {oc_Ldue kV_Ldue dc_Ldue pm_Ldue cd_Ldue ct_Ldue : Value}
    {f_law : Addr} {od_law an_law : Option Addr} {sl_law : Array (Option Value)} {oc_law kV_law dc_law pm_law cd_law ct_law : Value}
    {f_Atlas_init : Addr} {od_Atlas_init an_Atlas_init : Option Addr} {sl_Atlas_init : Array (Option Value)} {oc_Atlas_init kV_Atlas_init dc_Atlas_init pm_Atlas_init cd_Atlas_init ct_Atlas_init : Value}
    {q_Atlas_init e_Atlas_init : Addr} {dd_Atlas_init de_Atlas_init : Option Addr} {sq_Atlas_init se_Atlas_init : Array (Option Value)} {nq_Atlas_init ne_Atlas_init : Nat}
    {f_Atlas_log : Addr} {od_Atlas_log an_Atlas_log : Option Addr} {sl_Atlas_log : Array (Option Value)} {oc_Atlas_log kV_Atlas_log dc_Atlas_log pm_Atlas_log cd_Atlas_log ct_Atlas_log : Value}
    {f_Atlas_legs : Addr} {od_Atlas_legs an_Atlas_legs : Option Addr} {sl_Atlas_legs : Array (Option Value)} {oc_Atlas_legs kV_Atlas_legs dc_Atlas_legs pm_Atlas_legs cd_Atlas_legs ct_Atlas_legs : Value}
    {f_Atlas_len : Addr} {od_Atlas_len an_Atlas_len : Option Addr} {sl_Atlas_len : Array (Option Value)} {oc_Atlas_len kV_Atlas_len dc_Atlas_len pm_Atlas_len cd_Atlas_len ct_Atlas_len : Value}
    {t_LETTERS : Tok}
    {f_STEPS : Addr}
    {es_STEPS : Array DictEntry} {n_STEPS : Nat}
    
    
    
    {q_STEPS_0 : Addr}
    {dd_STEPS_0 : Option Addr} {sl_STEPS_0 : Array (Option Value)} {nn_STEPS_0 : Nat} {tk_STEPS_0_0 : Tok} {tk_STEPS_0_1 : Tok}
    {q_STEPS_1 : Addr}
    {dd_STEPS_1 : Option Addr} {sl_STEPS_1 : Array (Option Value)} {nn_STEPS_1 : Nat} {tk_STEPS_1_0 : Tok} {tk_STEPS_1_1 : Tok}
    {q_STEPS_2 : Addr}
    {dd_STEPS_2 : Option Addr} {sl_STEPS_2 : Array (Option Value)} {nn_STEPS_2 : Nat} {tk_STEPS_2_0 : Tok} {tk_STEPS_2_1 : Tok}
    {q_STEPS_3 : Addr}
    {dd_STEPS_3 : Option Addr} {sl_STEPS_3 : Array (Option Value)} {nn_STEPS_3 : Nat} {tk_STEPS_3_0 : Tok} {tk_STEPS_3_1 : Tok}
    {t_SMALL : Tok}
    {t_GREAT : Tok}
    {t_LONGEST : Tok}
    {f_WORDS_ALONE : Addr}
    {dd_WORDS_ALONE : Option Addr} {sl_WORDS_ALONE : Array (Option Value)} {nn_WORDS_ALONE : Nat} {tk_WORDS_ALONE_0 : Tok} {tk_WORDS_ALONE_1 : Tok} {tk_WORDS_ALONE_2 : Tok} {tk_WORDS_ALONE_3 : Tok} {tk_WORDS_ALONE_4 : Tok} {tk_WORDS_ALONE_5 : Tok}
    {f_WORDS_BEHIND_A_FACE : Addr}
    {dd_WORDS_BEHIND_A_FACE : Option Addr} {sl_WORDS_BEHIND_A_FACE : Array (Option Value)} {nn_WORDS_BEHIND_A_FACE : Nat} {tk_WORDS_BEHIND_A_FACE_0 : Tok} {tk_WORDS_BEHIND_A_FACE_1 : Tok} {tk_WORDS_BEHIND_A_FACE_2 : Tok} {tk_WORDS_BEHIND_A_FACE_3 : Tok} {tk_WORDS_BEHIND_A_FACE_4 : Tok} {tk_WORDS_BEHIND_A_FACE_5 : Tok}
    {f_QUARTERS : Addr}
    {es_QUARTERS : Array DictEntry} {n_QUARTERS : Nat}
    
    
    
    {tk_QUARTERS_0 : Tok}
    {tk_QUARTERS_1 : Tok}
    {tk_QUARTERS_2 : Tok}
    {f_START : Addr}
    {tk_START_1 : Tok}
    {dd_START : Option Addr} {sl_START : Array (Option Value)} {nn_START : Nat}
    {q_START_0 : Addr} {dd_START_0 : Option Addr} {sl_START_0 : Array (Option Value)} {nn_START_0 : Nat} {tk_START_0_0 : Tok} {tk_START_0_1 : Tok}
    {t_HOW_MANY_LOTS : Tok}
    {f_NoLot : Addr}
    {f_BadLog : Addr}
    {f_NoDealing : Addr}
    {f_BadBox : Addr}
    {f_NoName : Addr}
    {f_Twice : Addr}
    {f_NoWalker : Addr}
    {f_NeedleError : Addr}
    {nm_D qn_D : Str} {ns_D : Addr} {bs_D bm_D : List Value} {sn_D : List Str} {sub_D : List Value} {ab_D : Bool} {col_D : Option Bool} {dd_D : Option Addr} {m0_D m1_D m2_D m3_D m5_D : Option Value}
    {f_init : Addr} {od_init an_init : Option Addr} {sl_init : Array (Option Value)} {oc_init kV_init dc_init pm_init cd_init ct_init : Value}
    {nm_D_NoWalker qn_D_NoWalker : Str} {ns_D_NoWalker : Addr} {bs_D_NoWalker bm_D_NoWalker : List Value} {sn_D_NoWalker : List Str} {sub_D_NoWalker : List Value} {ab_D_NoWalker : Bool} {col_D_NoWalker : Option Bool} {dd_D_NoWalker : Option Addr} {m0_D_NoWalker m1_D_NoWalker m2_D_NoWalker m3_D_NoWalker m5_D_NoWalker : Option Value}
    {f_init_NoWalker : Addr} {od_init_NoWalker an_init_NoWalker : Option Addr} {sl_init_NoWalker : Array (Option Value)} {oc_init_NoWalker kV_init_NoWalker dc_init_NoWalker pm_init_NoWalker cd_init_NoWalker ct_init_NoWalker : Value}
    (A_Atlas : PySem.W.nsIn K mainGlobals "Atlas" = some (some (.ref f_Atlas))) (pg_Atlas : PySem.W.plainGet K f_Atlas Str.empty = true) (hd_Atlas : PySem.W.hasDictIn K f_Atlas = true) (po_Atlas : PySem.W.plainOver K f_Atlas = true) (sa_Atlas : PySem.W.findIn K (.ref f_Atlas) "__setattr__" = some (some (.builtin "object.__setattr__"))) (mk_Atlas : PySem.W.makesIn K f_Atlas = true) (kc_Atlas : PySem.W.keepIn K (.ref f_Atlas) = true)
    (nf_Atlas_box : PySem.W.findIn K (.ref f_Atlas) "box" = some none)
    (nf_Atlas_names : PySem.W.findIn K (.ref f_Atlas) "names" = some none)
    (nf_Atlas_logs : PySem.W.findIn K (.ref f_Atlas) "logs" = some none)
    (A_is_whole : PySem.W.nsIn K mainGlobals "is_whole" = some (some (.ref f_is_whole))) (L_is_whole : K.lookup f_is_whole = some ⟨oc_is_whole, od_is_whole, .func (PySem.W.fnOf "is_whole" "is_whole" (defArgs s_is_whole) (defBody s_is_whole) (defScope s_is_whole) .none kV_is_whole dc_is_whole pm_is_whole an_is_whole cd_is_whole ct_is_whole), sl_is_whole⟩) (C_is_whole : PySem.W.codeIn K cd_is_whole "is_whole" = true) (K_is_whole : PySem.W.keepIn K (.ref f_is_whole) = true)
    (A_is_row : PySem.W.nsIn K mainGlobals "is_row" = some (some (.ref f_is_row))) (L_is_row : K.lookup f_is_row = some ⟨oc_is_row, od_is_row, .func (PySem.W.fnOf "is_row" "is_row" (defArgs s_is_row) (defBody s_is_row) (defScope s_is_row) .none kV_is_row dc_is_row pm_is_row an_is_row cd_is_row ct_is_row), sl_is_row⟩) (C_is_row : PySem.W.codeIn K cd_is_row "is_row" = true) (K_is_row : PySem.W.keepIn K (.ref f_is_row) = true)
    (A_laid_out : PySem.W.nsIn K mainGlobals "laid_out" = some (some (.ref f_laid_out))) (L_laid_out : K.lookup f_laid_out = some ⟨oc_laid_out, od_laid_out, .func (PySem.W.fnOf "laid_out" "laid_out" (defArgs s_laid_out) (defBody s_laid_out) (defScope s_laid_out) .none kV_laid_out dc_laid_out pm_laid_out an_laid_out cd_laid_out ct_laid_out), sl_laid_out⟩) (C_laid_out : PySem.W.codeIn K cd_laid_out "laid_out" = true) (K_laid_out : PySem.W.keepIn K (.ref f_laid_out) = true)
    (A_kept : PySem.W.nsIn K mainGlobals "kept" = some (some (.ref f_kept))) (L_kept : K.lookup f_kept = some ⟨oc_kept, od_kept, .func (PySem.W.fnOf "kept" "kept" (defArgs s_kept) (defBody s_kept) (defScope s_kept) .none kV_kept dc_kept pm_kept an_kept cd_kept ct_kept), sl_kept⟩) (C_kept : PySem.W.codeIn K cd_kept "kept" = true) (K_kept : PySem.W.keepIn K (.ref f_kept) = true)
    (A_is_letter : PySem.W.nsIn K mainGlobals "is_letter" = some (some (.ref f_is_letter))) (L_is_letter : K.lookup f_is_letter = some ⟨oc_is_letter, od_is_letter, .func (PySem.W.fnOf "is_letter" "is_letter" (defArgs s_is_letter) (defBody s_is_letter) (defScope s_is_letter) .none kV_is_letter dc_is_letter pm_is_letter an_is_letter cd_is_letter ct_is_letter), sl_is_letter⟩) (C_is_letter : PySem.W.codeIn K cd_is_letter "is_letter" = true) (K_is_letter : PySem.W.keepIn K (.ref f_is_letter) = true)
    (A_step : PySem.W.nsIn K mainGlobals "step" = some (some (.ref f_step))) (L_step : K.lookup f_step = some ⟨oc_step, od_step, .func (PySem.W.fnOf "step" "step" (defArgs s_step) (defBody s_step) (defScope s_step) .none kV_step dc_step pm_step an_step cd_step ct_step), sl_step⟩) (C_step : PySem.W.codeIn K cd_step "step" = true) (K_step : PySem.W.keepIn K (.ref f_step) = true)
    (A_way_of : PySem.W.nsIn K mainGlobals "way_of" = some (some (.ref f_way_of))) (L_way_of : K.lookup f_way_of = some ⟨oc_way_of, od_way_of, .func (PySem.W.fnOf "way_of" "way_of" (defArgs s_way_of) (defBody s_way_of) (defScope s_way_of) .none kV_way_of dc_way_of pm_way_of an_way_of cd_way_of ct_way_of), sl_way_of⟩) (C_way_of : PySem.W.codeIn K cd_way_of "way_of" = true) (K_way_of : PySem.W.keepIn K (.ref f_way_of) = true)
    (A_is_lot : PySem.W.nsIn K mainGlobals "is_lot" = some (some (.ref f_is_lot))) (L_is_lot : K.lookup f_is_lot = some ⟨oc_is_lot, od_is_lot, .func (PySem.W.fnOf "is_lot" "is_lot" (defArgs s_is_lot) (defBody s_is_lot) (defScope s_is_lot) .none kV_is_lot dc_is_lot pm_is_lot an_is_lot cd_is_lot ct_is_lot), sl_is_lot⟩) (C_is_lot : PySem.W.codeIn K cd_is_lot "is_lot" = true) (K_is_lot : PySem.W.keepIn K (.ref f_is_lot) = true)
    (A_refuse_unless_lot : PySem.W.nsIn K mainGlobals "refuse_unless_lot" = some (some (.ref f_refuse_unless_lot))) (L_refuse_unless_lot : K.lookup f_refuse_unless_lot = some ⟨oc_refuse_unless_lot, od_refuse_unless_lot, .func (PySem.W.fnOf "refuse_unless_lot" "refuse_unless_lot" (defArgs s_refuse_unless_lot) (defBody s_refuse_unless_lot) (defScope s_refuse_unless_lot) .none kV_refuse_unless_lot dc_refuse_unless_lot pm_refuse_unless_lot an_refuse_unless_lot cd_refuse_unless_lot ct_refuse_unless_lot), sl_refuse_unless_lot⟩) (C_refuse_unless_lot : PySem.W.codeIn K cd_refuse_unless_lot "refuse_unless_lot" = true) (K_refuse_unless_lot : PySem.W.keepIn K (.ref f_refuse_unless_lot) = true)
    (A_mirrors : PySem.W.nsIn K mainGlobals "mirrors" = some (some (.ref f_mirrors))) (L_mirrors : K.lookup f_mirrors = some ⟨oc_mirrors, od_mirrors, .func (PySem.W.fnOf "mirrors" "mirrors" (defArgs s_mirrors) (defBody s_mirrors) (defScope s_mirrors) .none kV_mirrors dc_mirrors pm_mirrors an_mirrors cd_mirrors ct_mirrors), sl_mirrors⟩) (C_mirrors : PySem.W.codeIn K cd_mirrors "mirrors" = true) (K_mirrors : PySem.W.keepIn K (.ref f_mirrors) = true)
    (A_true : PySem.W.nsIn K mainGlobals "true" = some (some (.ref f_true))) (L_true : K.lookup f_true = some ⟨oc_true, od_true, .func (PySem.W.fnOf "true" "true" (defArgs s_true) (defBody s_true) (defScope s_true) .none kV_true dc_true pm_true an_true cd_true ct_true), sl_true⟩) (C_true : PySem.W.codeIn K cd_true "true" = true) (K_true : PySem.W.keepIn K (.ref f_true) = true)
    (A_is_short_text : PySem.W.nsIn K mainGlobals "is_short_text" = some (some (.ref f_is_short_text))) (L_is_short_text : K.lookup f_is_short_text = some ⟨oc_is_short_text, od_is_short_text, .func (PySem.W.fnOf "is_short_text" "is_short_text" (defArgs s_is_short_text) (defBody s_is_short_text) (defScope s_is_short_text) .none kV_is_short_text dc_is_short_text pm_is_short_text an_is_short_text cd_is_short_text ct_is_short_text), sl_is_short_text⟩) (C_is_short_text : PySem.W.codeIn K cd_is_short_text "is_short_text" = true) (K_is_short_text : PySem.W.keepIn K (.ref f_is_short_text) = true)
    (A_are_small : PySem.W.nsIn K mainGlobals "are_small" = some (some (.ref f_are_small))) (L_are_small : K.lookup f_are_small = some ⟨oc_are_small, od_are_small, .func (PySem.W.fnOf "are_small" "are_small" (defArgs s_are_small) (defBody s_are_small) (defScope s_are_small) .none kV_are_small dc_are_small pm_are_small an_are_small cd_are_small ct_are_small), sl_are_small⟩) (C_are_small : PySem.W.codeIn K cd_are_small "are_small" = true) (K_are_small : PySem.W.keepIn K (.ref f_are_small) = true)
    (A_is_name : PySem.W.nsIn K mainGlobals "is_name" = some (some (.ref f_is_name))) (L_is_name : K.lookup f_is_name = some ⟨oc_is_name, od_is_name, .func (PySem.W.fnOf "is_name" "is_name" (defArgs s_is_name) (defBody s_is_name) (defScope s_is_name) .none kV_is_name dc_is_name pm_is_name an_is_name cd_is_name ct_is_name), sl_is_name⟩) (C_is_name : PySem.W.codeIn K cd_is_name "is_name" = true) (K_is_name : PySem.W.keepIn K (.ref f_is_name) = true)
    (A_is_lone : PySem.W.nsIn K mainGlobals "is_lone" = some (some (.ref f_is_lone))) (L_is_lone : K.lookup f_is_lone = some ⟨oc_is_lone, od_is_lone, .func (PySem.W.fnOf "is_lone" "is_lone" (defArgs s_is_lone) (defBody s_is_lone) (defScope s_is_lone) .none kV_is_lone dc_is_lone pm_is_lone an_is_lone cd_is_lone ct_is_lone), sl_is_lone⟩) (C_is_lone : PySem.W.codeIn K cd_is_lone "is_lone" = true) (K_is_lone : PySem.W.keepIn K (.ref f_is_lone) = true)
    (A_is_sign : PySem.W.nsIn K mainGlobals "is_sign" = some (some (.ref f_is_sign))) (L_is_sign : K.lookup f_is_sign = some ⟨oc_is_sign, od_is_sign, .func (PySem.W.fnOf "is_sign" "is_sign" (defArgs s_is_sign) (defBody s_is_sign) (defScope s_is_sign) .none kV_is_sign dc_is_sign pm_is_sign an_is_sign cd_is_sign ct_is_sign), sl_is_sign⟩) (C_is_sign : PySem.W.codeIn K cd_is_sign "is_sign" = true) (K_is_sign : PySem.W.keepIn K (.ref f_is_sign) = true)
    (A_is_many : PySem.W.nsIn K mainGlobals "is_many" = some (some (.ref f_is_many))) (L_is_many : K.lookup f_is_many = some ⟨oc_is_many, od_is_many, .func (PySem.W.fnOf "is_many" "is_many" (defArgs s_is_many) (defBody s_is_many) (defScope s_is_many) .none kV_is_many dc_is_many pm_is_many an_is_many cd_is_many ct_is_many), sl_is_many⟩) (C_is_many : PySem.W.codeIn K cd_is_many "is_many" = true) (K_is_many : PySem.W.keepIn K (.ref f_is_many) = true)
    (A_is_pair_entry : PySem.W.nsIn K mainGlobals "is_pair_entry" = some (some (.ref f_is_pair_entry))) (L_is_pair_entry : K.lookup f_is_pair_entry = some ⟨oc_is_pair_entry, od_is_pair_entry, .func (PySem.W.fnOf "is_pair_entry" "is_pair_entry" (defArgs s_is_pair_entry) (defBody s_is_pair_entry) (defScope s_is_pair_entry) .none kV_is_pair_entry dc_is_pair_entry pm_is_pair_entry an_is_pair_entry cd_is_pair_entry ct_is_pair_entry), sl_is_pair_entry⟩) (C_is_pair_entry : PySem.W.codeIn K cd_is_pair_entry "is_pair_entry" = true) (K_is_pair_entry : PySem.W.keepIn K (.ref f_is_pair_entry) = true)
    (A_is_entry : PySem.W.nsIn K mainGlobals "is_entry" = some (some (.ref f_is_entry))) (L_is_entry : K.lookup f_is_entry = some ⟨oc_is_entry, od_is_entry, .func (PySem.W.fnOf "is_entry" "is_entry" (defArgs s_is_entry) (defBody s_is_entry) (defScope s_is_entry) .none kV_is_entry dc_is_entry pm_is_entry an_is_entry cd_is_entry ct_is_entry), sl_is_entry⟩) (C_is_entry : PySem.W.codeIn K cd_is_entry "is_entry" = true) (K_is_entry : PySem.W.keepIn K (.ref f_is_entry) = true)
    (A_held_log : PySem.W.nsIn K mainGlobals "held_log" = some (some (.ref f_held_log))) (L_held_log : K.lookup f_held_log = some ⟨oc_held_log, od_held_log, .func (PySem.W.fnOf "held_log" "held_log" (defArgs s_held_log) (defBody s_held_log) (defScope s_held_log) .none kV_held_log dc_held_log pm_held_log an_held_log cd_held_log ct_held_log), sl_held_log⟩) (C_held_log : PySem.W.codeIn K cd_held_log "held_log" = true) (K_held_log : PySem.W.keepIn K (.ref f_held_log) = true)
    (A_legs_in : PySem.W.nsIn K mainGlobals "legs_in" = some (some (.ref f_legs_in))) (L_legs_in : K.lookup f_legs_in = some ⟨oc_legs_in, od_legs_in, .func (PySem.W.fnOf "legs_in" "legs_in" (defArgs s_legs_in) (defBody s_legs_in) (defScope s_legs_in) .none kV_legs_in dc_legs_in pm_legs_in an_legs_in cd_legs_in ct_legs_in), sl_legs_in⟩) (C_legs_in : PySem.W.codeIn K cd_legs_in "legs_in" = true) (K_legs_in : PySem.W.keepIn K (.ref f_legs_in) = true)
    (A_refuse_unless_lots : PySem.W.nsIn K mainGlobals "refuse_unless_lots" = some (some (.ref f_refuse_unless_lots))) (L_refuse_unless_lots : K.lookup f_refuse_unless_lots = some ⟨oc_refuse_unless_lots, od_refuse_unless_lots, .func (PySem.W.fnOf "refuse_unless_lots" "refuse_unless_lots" (defArgs s_refuse_unless_lots) (defBody s_refuse_unless_lots) (defScope s_refuse_unless_lots) .none kV_refuse_unless_lots dc_refuse_unless_lots pm_refuse_unless_lots an_refuse_unless_lots cd_refuse_unless_lots ct_refuse_unless_lots), sl_refuse_unless_lots⟩) (C_refuse_unless_lots : PySem.W.codeIn K cd_refuse_unless_lots "refuse_unless_lots" = true) (K_refuse_unless_lots : PySem.W.keepIn K (.ref f_refuse_unless_lots) = true)
    (A_gone : PySem.W.nsIn K mainGlobals "gone" = some (some (.ref f_gone))) (L_gone : K.lookup f_gone = some ⟨oc_gone, od_gone, .func (PySem.W.fnOf "gone" "gone" (defArgs s_gone) (defBody s_gone) (defScope s_gone) .none kV_gone dc_gone pm_gone an_gone cd_gone ct_gone), sl_gone⟩) (C_gone : PySem.W.codeIn K cd_gone "gone" = true) (K_gone : PySem.W.keepIn K (.ref f_gone) = true)
    (A_look_behind : PySem.W.nsIn K mainGlobals "look_behind" = some (some (.ref f_look_behind))) (L_look_behind : K.lookup f_look_behind = some ⟨oc_look_behind, od_look_behind, .func (PySem.W.fnOf "look_behind" "look_behind" (defArgs s_look_behind) (defBody s_look_behind) (defScope s_look_behind) .none kV_look_behind dc_look_behind pm_look_behind an_look_behind cd_look_behind ct_look_behind), sl_look_behind⟩) (C_look_behind : PySem.W.codeIn K cd_look_behind "look_behind" = true) (K_look_behind : PySem.W.keepIn K (.ref f_look_behind) = true)
    (A_track : PySem.W.nsIn K mainGlobals "track" = some (some (.ref f_track))) (L_track : K.lookup f_track = some ⟨oc_track, od_track, .func (PySem.W.fnOf "track" "track" (defArgs s_track) (defBody s_track) (defScope s_track) .none kV_track dc_track pm_track an_track cd_track ct_track), sl_track⟩) (C_track : PySem.W.codeIn K cd_track "track" = true) (K_track : PySem.W.keepIn K (.ref f_track) = true)
    (A_way_fact : PySem.W.nsIn K mainGlobals "way_fact" = some (some (.ref f_way_fact))) (L_way_fact : K.lookup f_way_fact = some ⟨oc_way_fact, od_way_fact, .func (PySem.W.fnOf "way_fact" "way_fact" (defArgs s_way_fact) (defBody s_way_fact) (defScope s_way_fact) .none kV_way_fact dc_way_fact pm_way_fact an_way_fact cd_way_fact ct_way_fact), sl_way_fact⟩) (C_way_fact : PySem.W.codeIn K cd_way_fact "way_fact" = true) (K_way_fact : PySem.W.keepIn K (.ref f_way_fact) = true)
    (A_facts_of_entry : PySem.W.nsIn K mainGlobals "facts_of_entry" = some (some (.ref f_facts_of_entry))) (L_facts_of_entry : K.lookup f_facts_of_entry = some ⟨oc_facts_of_entry, od_facts_of_entry, .func (PySem.W.fnOf "facts_of_entry" "facts_of_entry" (defArgs s_facts_of_entry) (defBody s_facts_of_entry) (defScope s_facts_of_entry) .none kV_facts_of_entry dc_facts_of_entry pm_facts_of_entry an_facts_of_entry cd_facts_of_entry ct_facts_of_entry), sl_facts_of_entry⟩) (C_facts_of_entry : PySem.W.codeIn K cd_facts_of_entry "facts_of_entry" = true) (K_facts_of_entry : PySem.W.keepIn K (.ref f_facts_of_entry) = true)
    (A_facts : PySem.W.nsIn K mainGlobals "facts" = some (some (.ref f_facts))) (L_facts : K.lookup f_facts = some ⟨oc_facts, od_facts, .func (PySem.W.fnOf "facts" "facts" (defArgs s_facts) (defBody s_facts) (defScope s_facts) .none kV_facts dc_facts pm_facts an_facts cd_facts ct_facts), sl_facts⟩) (C_facts : PySem.W.codeIn K cd_facts "facts" = true) (K_facts : PySem.W.keepIn K (.ref f_facts) = true)
    (A_held_box : PySem.W.nsIn K mainGlobals "held_box" = some (some (.ref f_held_box))) (L_held_box : K.lookup f_held_box = some ⟨oc_held_box, od_held_box, .func (PySem.W.fnOf "held_box" "held_box" (defArgs s_held_box) (defBody s_held_box) (defScope s_held_box) .none kV_held_box dc_held_box pm_held_box an_held_box cd_held_box ct_held_box), sl_held_box⟩) (C_held_box : PySem.W.codeIn K cd_held_box "held_box" = true) (K_held_box : PySem.W.keepIn K (.ref f_held_box) = true)
    (A_held_log_of : PySem.W.nsIn K mainGlobals "held_log_of" = some (some (.ref f_held_log_of))) (L_held_log_of : K.lookup f_held_log_of = some ⟨oc_held_log_of, od_held_log_of, .func (PySem.W.fnOf "held_log_of" "held_log_of" (defArgs s_held_log_of) (defBody s_held_log_of) (defScope s_held_log_of) .none kV_held_log_of dc_held_log_of pm_held_log_of an_held_log_of cd_held_log_of ct_held_log_of), sl_held_log_of⟩) (C_held_log_of : PySem.W.codeIn K cd_held_log_of "held_log_of" = true) (K_held_log_of : PySem.W.keepIn K (.ref f_held_log_of) = true)
    (A_lots_left_in : PySem.W.nsIn K mainGlobals "lots_left_in" = some (some (.ref f_lots_left_in))) (L_lots_left_in : K.lookup f_lots_left_in = some ⟨oc_lots_left_in, od_lots_left_in, .func (PySem.W.fnOf "lots_left_in" "lots_left_in" (defArgs s_lots_left_in) (defBody s_lots_left_in) (defScope s_lots_left_in) .none kV_lots_left_in dc_lots_left_in pm_lots_left_in an_lots_left_in cd_lots_left_in ct_lots_left_in), sl_lots_left_in⟩) (C_lots_left_in : PySem.W.codeIn K cd_lots_left_in "lots_left_in" = true) (K_lots_left_in : PySem.W.keepIn K (.ref f_lots_left_in) = true)
    (A_first_not_dealt : PySem.W.nsIn K mainGlobals "first_not_dealt" = some (some (.ref f_first_not_dealt))) (L_first_not_dealt : K.lookup f_first_not_dealt = some ⟨oc_first_not_dealt, od_first_not_dealt, .func (PySem.W.fnOf "first_not_dealt" "first_not_dealt" (defArgs s_first_not_dealt) (defBody s_first_not_dealt) (defScope s_first_not_dealt) .none kV_first_not_dealt dc_first_not_dealt pm_first_not_dealt an_first_not_dealt cd_first_not_dealt ct_first_not_dealt), sl_first_not_dealt⟩) (C_first_not_dealt : PySem.W.codeIn K cd_first_not_dealt "first_not_dealt" = true) (K_first_not_dealt : PySem.W.keepIn K (.ref f_first_not_dealt) = true)
    (A_refuse_unless_dealt : PySem.W.nsIn K mainGlobals "refuse_unless_dealt" = some (some (.ref f_refuse_unless_dealt))) (L_refuse_unless_dealt : K.lookup f_refuse_unless_dealt = some ⟨oc_refuse_unless_dealt, od_refuse_unless_dealt, .func (PySem.W.fnOf "refuse_unless_dealt" "refuse_unless_dealt" (defArgs s_refuse_unless_dealt) (defBody s_refuse_unless_dealt) (defScope s_refuse_unless_dealt) .none kV_refuse_unless_dealt dc_refuse_unless_dealt pm_refuse_unless_dealt an_refuse_unless_dealt cd_refuse_unless_dealt ct_refuse_unless_dealt), sl_refuse_unless_dealt⟩) (C_refuse_unless_dealt : PySem.W.codeIn K cd_refuse_unless_dealt "refuse_unless_dealt" = true) (K_refuse_unless_dealt : PySem.W.keepIn K (.ref f_refuse_unless_dealt) = true)
    (A_told : PySem.W.nsIn K mainGlobals "told" = some (some (.ref f_told))) (L_told : K.lookup f_told = some ⟨oc_told, od_told, .func (PySem.W.fnOf "told" "told" (defArgs s_told) (defBody s_told) (defScope s_told) .none kV_told dc_told pm_told an_told cd_told ct_told), sl_told⟩) (C_told : PySem.W.codeIn K cd_told "told" = true) (K_told : PySem.W.keepIn K (.ref f_told) = true)
    (A_Lany_entry : PySem.W.nsIn K mainGlobals "_law_any_entry" = some (some (.ref f_Lany_entry))) (L_Lany_entry : K.lookup f_Lany_entry = some ⟨oc_Lany_entry, od_Lany_entry, .func (PySem.W.fnOf "_law_any_entry" "_law_any_entry" (defArgs s_Lany_entry) (defBody s_Lany_entry) (defScope s_Lany_entry) .none kV_Lany_entry dc_Lany_entry pm_Lany_entry an_Lany_entry cd_Lany_entry ct_Lany_entry), sl_Lany_entry⟩) (C_Lany_entry : PySem.W.codeIn K cd_Lany_entry "_law_any_entry" = true) (K_Lany_entry : PySem.W.keepIn K (.ref f_Lany_entry) = true)
    (A_Lany_log : PySem.W.nsIn K mainGlobals "_law_any_log" = some (some (.ref f_Lany_log))) (L_Lany_log : K.lookup f_Lany_log = some ⟨oc_Lany_log, od_Lany_log, .func (PySem.W.fnOf "_law_any_log" "_law_any_log" (defArgs s_Lany_log) (defBody s_Lany_log) (defScope s_Lany_log) .none kV_Lany_log dc_Lany_log pm_Lany_log an_Lany_log cd_Lany_log ct_Lany_log), sl_Lany_log⟩) (C_Lany_log : PySem.W.codeIn K cd_Lany_log "_law_any_log" = true) (K_Lany_log : PySem.W.keepIn K (.ref f_Lany_log) = true)
    (A_Llots : PySem.W.nsIn K mainGlobals "_law_lots" = some (some (.ref f_Llots))) (L_Llots : K.lookup f_Llots = some ⟨oc_Llots, od_Llots, .func (PySem.W.fnOf "_law_lots" "_law_lots" (defArgs s_Llots) (defBody s_Llots) (defScope s_Llots) .none kV_Llots dc_Llots pm_Llots an_Llots cd_Llots ct_Llots), sl_Llots⟩) (C_Llots : PySem.W.codeIn K cd_Llots "_law_lots" = true) (K_Llots : PySem.W.keepIn K (.ref f_Llots) = true)
    (A_Lown : PySem.W.nsIn K mainGlobals "_law_own" = some (some (.ref f_Lown))) (L_Lown : K.lookup f_Lown = some ⟨oc_Lown, od_Lown, .func (PySem.W.fnOf "_law_own" "_law_own" (defArgs s_Lown) (defBody s_Lown) (defScope s_Lown) .none kV_Lown dc_Lown pm_Lown an_Lown cd_Lown ct_Lown), sl_Lown⟩) (C_Lown : PySem.W.codeIn K cd_Lown "_law_own" = true) (K_Lown : PySem.W.keepIn K (.ref f_Lown) = true)
    (A_Lsmall_log : PySem.W.nsIn K mainGlobals "_law_small_log" = some (some (.ref f_Lsmall_log))) (L_Lsmall_log : K.lookup f_Lsmall_log = some ⟨oc_Lsmall_log, od_Lsmall_log, .func (PySem.W.fnOf "_law_small_log" "_law_small_log" (defArgs s_Lsmall_log) (defBody s_Lsmall_log) (defScope s_Lsmall_log) .none kV_Lsmall_log dc_Lsmall_log pm_Lsmall_log an_Lsmall_log cd_Lsmall_log ct_Lsmall_log), sl_Lsmall_log⟩) (C_Lsmall_log : PySem.W.codeIn K cd_Lsmall_log "_law_small_log" = true) (K_Lsmall_log : PySem.W.keepIn K (.ref f_Lsmall_log) = true)
    (A_Lsmall_rows : PySem.W.nsIn K mainGlobals "_law_small_rows" = some (some (.ref f_Lsmall_rows))) (L_Lsmall_rows : K.lookup f_Lsmall_rows = some ⟨oc_Lsmall_rows, od_Lsmall_rows, .func (PySem.W.fnOf "_law_small_rows" "_law_small_rows" (defArgs s_Lsmall_rows) (defBody s_Lsmall_rows) (defScope s_Lsmall_rows) .none kV_Lsmall_rows dc_Lsmall_rows pm_Lsmall_rows an_Lsmall_rows cd_Lsmall_rows ct_Lsmall_rows), sl_Lsmall_rows⟩) (C_Lsmall_rows : PySem.W.codeIn K cd_Lsmall_rows "_law_small_rows" = true) (K_Lsmall_rows : PySem.W.keepIn K (.ref f_Lsmall_rows) = true)
    (A_Lsmall_box : PySem.W.nsIn K mainGlobals "_law_small_box" = some (some (.ref f_Lsmall_box))) (L_Lsmall_box : K.lookup f_Lsmall_box = some ⟨oc_Lsmall_box, od_Lsmall_box, .func (PySem.W.fnOf "_law_small_box" "_law_small_box" (defArgs s_Lsmall_box) (defBody s_Lsmall_box) (defScope s_Lsmall_box) .none kV_Lsmall_box dc_Lsmall_box pm_Lsmall_box an_Lsmall_box cd_Lsmall_box ct_Lsmall_box), sl_Lsmall_box⟩) (C_Lsmall_box : PySem.W.codeIn K cd_Lsmall_box "_law_small_box" = true) (K_Lsmall_box : PySem.W.keepIn K (.ref f_Lsmall_box) = true)
    (A_Lpool : PySem.W.nsIn K mainGlobals "_law_pool" = some (some (.ref f_Lpool))) (L_Lpool : K.lookup f_Lpool = some ⟨oc_Lpool, od_Lpool, .func (PySem.W.fnOf "_law_pool" "_law_pool" (defArgs s_Lpool) (defBody s_Lpool) (defScope s_Lpool) .none kV_Lpool dc_Lpool pm_Lpool an_Lpool cd_Lpool ct_Lpool), sl_Lpool⟩) (C_Lpool : PySem.W.codeIn K cd_Lpool "_law_pool" = true) (K_Lpool : PySem.W.keepIn K (.ref f_Lpool) = true)
    (A_Ltake : PySem.W.nsIn K mainGlobals "_law_take" = some (some (.ref f_Ltake))) (L_Ltake : K.lookup f_Ltake = some ⟨oc_Ltake, od_Ltake, .func (PySem.W.fnOf "_law_take" "_law_take" (defArgs s_Ltake) (defBody s_Ltake) (defScope s_Ltake) .none kV_Ltake dc_Ltake pm_Ltake an_Ltake cd_Ltake ct_Ltake), sl_Ltake⟩) (C_Ltake : PySem.W.codeIn K cd_Ltake "_law_take" = true) (K_Ltake : PySem.W.keepIn K (.ref f_Ltake) = true)
    (A_Lmix : PySem.W.nsIn K mainGlobals "_law_mix" = some (some (.ref f_Lmix))) (L_Lmix : K.lookup f_Lmix = some ⟨oc_Lmix, od_Lmix, .func (PySem.W.fnOf "_law_mix" "_law_mix" (defArgs s_Lmix) (defBody s_Lmix) (defScope s_Lmix) .none kV_Lmix dc_Lmix pm_Lmix an_Lmix cd_Lmix ct_Lmix), sl_Lmix⟩) (C_Lmix : PySem.W.codeIn K cd_Lmix "_law_mix" = true) (K_Lmix : PySem.W.keepIn K (.ref f_Lmix) = true)
    (A_Lwhole : PySem.W.nsIn K mainGlobals "_law_whole" = some (some (.ref f_Lwhole))) (L_Lwhole : K.lookup f_Lwhole = some ⟨oc_Lwhole, od_Lwhole, .func (PySem.W.fnOf "_law_whole" "_law_whole" (defArgs s_Lwhole) (defBody s_Lwhole) (defScope s_Lwhole) .none kV_Lwhole dc_Lwhole pm_Lwhole an_Lwhole cd_Lwhole ct_Lwhole), sl_Lwhole⟩) (C_Lwhole : PySem.W.codeIn K cd_Lwhole "_law_whole" = true) (K_Lwhole : PySem.W.keepIn K (.ref f_Lwhole) = true)
    (A_Lsame : PySem.W.nsIn K mainGlobals "_law_same" = some (some (.ref f_Lsame))) (L_Lsame : K.lookup f_Lsame = some ⟨oc_Lsame, od_Lsame, .func (PySem.W.fnOf "_law_same" "_law_same" (defArgs s_Lsame) (defBody s_Lsame) (defScope s_Lsame) .none kV_Lsame dc_Lsame pm_Lsame an_Lsame cd_Lsame ct_Lsame), sl_Lsame⟩) (C_Lsame : PySem.W.codeIn K cd_Lsame "_law_same" = true) (K_Lsame : PySem.W.keepIn K (.ref f_Lsame) = true)
    (A_Lanything : PySem.W.nsIn K mainGlobals "_law_anything" = some (some (.ref f_Lanything))) (L_Lanything : K.lookup f_Lanything = some ⟨oc_Lanything, od_Lanything, .func (PySem.W.fnOf "_law_anything" "_law_anything" (defArgs s_Lanything) (defBody s_Lanything) (defScope s_Lanything) .none kV_Lanything dc_Lanything pm_Lanything an_Lanything cd_Lanything ct_Lanything), sl_Lanything⟩) (C_Lanything : PySem.W.codeIn K cd_Lanything "_law_anything" = true) (K_Lanything : PySem.W.keepIn K (.ref f_Lanything) = true)
    (A_Lname : PySem.W.nsIn K mainGlobals "_law_name" = some (some (.ref f_Lname))) (L_Lname : K.lookup f_Lname = some ⟨oc_Lname, od_Lname, .func (PySem.W.fnOf "_law_name" "_law_name" (defArgs s_Lname) (defBody s_Lname) (defScope s_Lname) .none kV_Lname dc_Lname pm_Lname an_Lname cd_Lname ct_Lname), sl_Lname⟩) (C_Lname : PySem.W.codeIn K cd_Lname "_law_name" = true) (K_Lname : PySem.W.keepIn K (.ref f_Lname) = true)
    (A_Lnames : PySem.W.nsIn K mainGlobals "_law_names" = some (some (.ref f_Lnames))) (L_Lnames : K.lookup f_Lnames = some ⟨oc_Lnames, od_Lnames, .func (PySem.W.fnOf "_law_names" "_law_names" (defArgs s_Lnames) (defBody s_Lnames) (defScope s_Lnames) .none kV_Lnames dc_Lnames pm_Lnames an_Lnames cd_Lnames ct_Lnames), sl_Lnames⟩) (C_Lnames : PySem.W.codeIn K cd_Lnames "_law_names" = true) (K_Lnames : PySem.W.keepIn K (.ref f_Lnames) = true)
    (A_Lsign : PySem.W.nsIn K mainGlobals "_law_sign" = some (some (.ref f_Lsign))) (L_Lsign : K.lookup f_Lsign = some ⟨oc_Lsign, od_Lsign, .func (PySem.W.fnOf "_law_sign" "_law_sign" (defArgs s_Lsign) (defBody s_Lsign) (defScope s_Lsign) .none kV_Lsign dc_Lsign pm_Lsign an_Lsign cd_Lsign ct_Lsign), sl_Lsign⟩) (C_Lsign : PySem.W.codeIn K cd_Lsign "_law_sign" = true) (K_Lsign : PySem.W.keepIn K (.ref f_Lsign) = true)
    (A_Llegs : PySem.W.nsIn K mainGlobals "_law_legs" = some (some (.ref f_Llegs))) (L_Llegs : K.lookup f_Llegs = some ⟨oc_Llegs, od_Llegs, .func (PySem.W.fnOf "_law_legs" "_law_legs" (defArgs s_Llegs) (defBody s_Llegs) (defScope s_Llegs) .none kV_Llegs dc_Llegs pm_Llegs an_Llegs cd_Llegs ct_Llegs), sl_Llegs⟩) (C_Llegs : PySem.W.codeIn K cd_Llegs "_law_legs" = true) (K_Llegs : PySem.W.keepIn K (.ref f_Llegs) = true)
    (A_Llegs_of : PySem.W.nsIn K mainGlobals "_law_legs_of" = some (some (.ref f_Llegs_of))) (L_Llegs_of : K.lookup f_Llegs_of = some ⟨oc_Llegs_of, od_Llegs_of, .func (PySem.W.fnOf "_law_legs_of" "_law_legs_of" (defArgs s_Llegs_of) (defBody s_Llegs_of) (defScope s_Llegs_of) .none kV_Llegs_of dc_Llegs_of pm_Llegs_of an_Llegs_of cd_Llegs_of ct_Llegs_of), sl_Llegs_of⟩) (C_Llegs_of : PySem.W.codeIn K cd_Llegs_of "_law_legs_of" = true) (K_Llegs_of : PySem.W.keepIn K (.ref f_Llegs_of) = true)
    (A_Lasked : PySem.W.nsIn K mainGlobals "_law_asked" = some (some (.ref f_Lasked))) (L_Lasked : K.lookup f_Lasked = some ⟨oc_Lasked, od_Lasked, .func (PySem.W.fnOf "_law_asked" "_law_asked" (defArgs s_Lasked) (defBody s_Lasked) (defScope s_Lasked) .none kV_Lasked dc_Lasked pm_Lasked an_Lasked cd_Lasked ct_Lasked), sl_Lasked⟩) (C_Lasked : PySem.W.codeIn K cd_Lasked "_law_asked" = true) (K_Lasked : PySem.W.keepIn K (.ref f_Lasked) = true)
    (A_Ldue : PySem.W.nsIn K mainGlobals "_law_due" = some (some (.ref f_Ldue))) (L_Ldue : K.lookup f_Ldue = some ⟨oc_Ldue, od_Ldue, .func (PySem.W.fnOf "_law_due" "_law_due" (defArgs s_Ldue) (defBody s_Ldue) (defScope s_Ldue) .none kV_Ldue dc_Ldue pm_Ldue an_Ldue cd_Ldue ct_Ldue), sl_Ldue⟩) (C_Ldue : PySem.W.codeIn K cd_Ldue "_law_due" = true) (K_Ldue : PySem.W.keepIn K (.ref f_Ldue) = true)
    (A_law : PySem.W.nsIn K mainGlobals "law" = some (some (.ref f_law))) (L_law : K.lookup f_law = some ⟨oc_law, od_law, .func (PySem.W.fnOf "law" "law" (defArgs s_law) (defBody s_law) (defScope s_law) .none kV_law dc_law pm_law an_law cd_law ct_law), sl_law⟩) (C_law : PySem.W.codeIn K cd_law "law" = true) (K_law : PySem.W.keepIn K (.ref f_law) = true)
    (A_Atlas_init : PySem.W.findIn K (.ref f_Atlas) "__init__" = some (some (.ref f_Atlas_init))) (i_Atlas_init : PySem.W.isFn K (.ref f_Atlas_init) = true) (L_Atlas_init : K.lookup f_Atlas_init = some ⟨oc_Atlas_init, od_Atlas_init, .func (PySem.W.fnOf "__init__" "Atlas.__init__" (defArgs s_Atlas_init) (defBody s_Atlas_init) (defScope s_Atlas_init) (.ref q_Atlas_init) kV_Atlas_init dc_Atlas_init pm_Atlas_init an_Atlas_init cd_Atlas_init ct_Atlas_init), sl_Atlas_init⟩) (C_Atlas_init : PySem.W.codeIn K cd_Atlas_init "Atlas.__init__" = true) (K_Atlas_init : PySem.W.keepIn K (.ref f_Atlas_init) = true)
    (V_Atlas_init : K.lookup q_Atlas_init = some ⟨.type "tuple", dd_Atlas_init, .seq #[.ref e_Atlas_init] nq_Atlas_init, sq_Atlas_init⟩) (W_Atlas_init : K.lookup e_Atlas_init = some ⟨.type "tuple", de_Atlas_init, .seq #[] ne_Atlas_init, se_Atlas_init⟩)
    (A_Atlas_log : PySem.W.findIn K (.ref f_Atlas) "log" = some (some (.ref f_Atlas_log))) (i_Atlas_log : PySem.W.isFn K (.ref f_Atlas_log) = true) (L_Atlas_log : K.lookup f_Atlas_log = some ⟨oc_Atlas_log, od_Atlas_log, .func (PySem.W.fnOf "log" "Atlas.log" (defArgs s_Atlas_log) (defBody s_Atlas_log) (defScope s_Atlas_log) .none kV_Atlas_log dc_Atlas_log pm_Atlas_log an_Atlas_log cd_Atlas_log ct_Atlas_log), sl_Atlas_log⟩) (C_Atlas_log : PySem.W.codeIn K cd_Atlas_log "Atlas.log" = true) (K_Atlas_log : PySem.W.keepIn K (.ref f_Atlas_log) = true)
    (A_Atlas_legs : PySem.W.findIn K (.ref f_Atlas) "legs" = some (some (.ref f_Atlas_legs))) (i_Atlas_legs : PySem.W.isFn K (.ref f_Atlas_legs) = true) (L_Atlas_legs : K.lookup f_Atlas_legs = some ⟨oc_Atlas_legs, od_Atlas_legs, .func (PySem.W.fnOf "legs" "Atlas.legs" (defArgs s_Atlas_legs) (defBody s_Atlas_legs) (defScope s_Atlas_legs) .none kV_Atlas_legs dc_Atlas_legs pm_Atlas_legs an_Atlas_legs cd_Atlas_legs ct_Atlas_legs), sl_Atlas_legs⟩) (C_Atlas_legs : PySem.W.codeIn K cd_Atlas_legs "Atlas.legs" = true) (K_Atlas_legs : PySem.W.keepIn K (.ref f_Atlas_legs) = true)
    (A_Atlas_len : PySem.W.findIn K (.ref f_Atlas) "__len__" = some (some (.ref f_Atlas_len))) (i_Atlas_len : PySem.W.isFn K (.ref f_Atlas_len) = true) (L_Atlas_len : K.lookup f_Atlas_len = some ⟨oc_Atlas_len, od_Atlas_len, .func (PySem.W.fnOf "__len__" "Atlas.__len__" (defArgs s_Atlas_len) (defBody s_Atlas_len) (defScope s_Atlas_len) .none kV_Atlas_len dc_Atlas_len pm_Atlas_len an_Atlas_len cd_Atlas_len ct_Atlas_len), sl_Atlas_len⟩) (C_Atlas_len : PySem.W.codeIn K cd_Atlas_len "Atlas.__len__" = true) (K_Atlas_len : PySem.W.keepIn K (.ref f_Atlas_len) = true)
    (A_LETTERS : PySem.W.nsIn K mainGlobals "LETTERS" = some (some (.str "nesw" t_LETTERS)))
    (A_STEPS : PySem.W.nsIn K mainGlobals "STEPS" = some (some (.ref f_STEPS)))
    (D_STEPS : K.lookup f_STEPS = some ⟨.type "dict", none, .dict es_STEPS n_STEPS, #[]⟩)
    (Y_STEPS : PySem.W.KeysLit w.params es_STEPS.toList)
    (lo_STEPS : (f_STEPS == sysModules) = false)
    (ke_STEPS : Keys es_STEPS.toList ["n", "e", "s", "w"])
    (N_STEPS_0 : PySem.W.nsIn K f_STEPS "n" = some (some (.ref q_STEPS_0)))
    (V_STEPS_0 : K.lookup q_STEPS_0 = some ⟨.type "tuple", dd_STEPS_0, .seq #[.int (0) tk_STEPS_0_0, .int (1) tk_STEPS_0_1] nn_STEPS_0, sl_STEPS_0⟩)
    (N_STEPS_1 : PySem.W.nsIn K f_STEPS "e" = some (some (.ref q_STEPS_1)))
    (V_STEPS_1 : K.lookup q_STEPS_1 = some ⟨.type "tuple", dd_STEPS_1, .seq #[.int (1) tk_STEPS_1_0, .int (0) tk_STEPS_1_1] nn_STEPS_1, sl_STEPS_1⟩)
    (N_STEPS_2 : PySem.W.nsIn K f_STEPS "s" = some (some (.ref q_STEPS_2)))
    (V_STEPS_2 : K.lookup q_STEPS_2 = some ⟨.type "tuple", dd_STEPS_2, .seq #[.int (0) tk_STEPS_2_0, .int (-1) tk_STEPS_2_1] nn_STEPS_2, sl_STEPS_2⟩)
    (N_STEPS_3 : PySem.W.nsIn K f_STEPS "w" = some (some (.ref q_STEPS_3)))
    (V_STEPS_3 : K.lookup q_STEPS_3 = some ⟨.type "tuple", dd_STEPS_3, .seq #[.int (-1) tk_STEPS_3_0, .int (0) tk_STEPS_3_1] nn_STEPS_3, sl_STEPS_3⟩)
    (A_SMALL : PySem.W.nsIn K mainGlobals "SMALL" = some (some (.str "abcdefghijklmnopqrstuvwxyz" t_SMALL)))
    (A_GREAT : PySem.W.nsIn K mainGlobals "GREAT" = some (some (.str "ABCDEFGHIJKLMNOPQRSTUVWXYZ" t_GREAT)))
    (A_LONGEST : PySem.W.nsIn K mainGlobals "LONGEST" = some (some (.int 8 t_LONGEST)))
    (A_WORDS_ALONE : PySem.W.nsIn K mainGlobals "WORDS_ALONE" = some (some (.ref f_WORDS_ALONE)))
    (V_WORDS_ALONE : K.lookup f_WORDS_ALONE = some ⟨.type "tuple", dd_WORDS_ALONE, .seq #[.str "left" tk_WORDS_ALONE_0, .str "right" tk_WORDS_ALONE_1, .str "back" tk_WORDS_ALONE_2, .str "bump" tk_WORDS_ALONE_3, .str "bare" tk_WORDS_ALONE_4, .str "swap" tk_WORDS_ALONE_5] nn_WORDS_ALONE, sl_WORDS_ALONE⟩)
    (A_WORDS_BEHIND_A_FACE : PySem.W.nsIn K mainGlobals "WORDS_BEHIND_A_FACE" = some (some (.ref f_WORDS_BEHIND_A_FACE)))
    (V_WORDS_BEHIND_A_FACE : K.lookup f_WORDS_BEHIND_A_FACE = some ⟨.type "tuple", dd_WORDS_BEHIND_A_FACE, .seq #[.str "left" tk_WORDS_BEHIND_A_FACE_0, .str "right" tk_WORDS_BEHIND_A_FACE_1, .str "back" tk_WORDS_BEHIND_A_FACE_2, .str "go" tk_WORDS_BEHIND_A_FACE_3, .str "bump" tk_WORDS_BEHIND_A_FACE_4, .str "spy" tk_WORDS_BEHIND_A_FACE_5] nn_WORDS_BEHIND_A_FACE, sl_WORDS_BEHIND_A_FACE⟩)
    (A_QUARTERS : PySem.W.nsIn K mainGlobals "QUARTERS" = some (some (.ref f_QUARTERS)))
    (D_QUARTERS : K.lookup f_QUARTERS = some ⟨.type "dict", none, .dict es_QUARTERS n_QUARTERS, #[]⟩)
    (Y_QUARTERS : PySem.W.KeysLit w.params es_QUARTERS.toList)
    (lo_QUARTERS : (f_QUARTERS == sysModules) = false)
    (ke_QUARTERS : Keys es_QUARTERS.toList ["right", "back", "left"])
    (N_QUARTERS_0 : PySem.W.nsIn K f_QUARTERS "right" = some (some (.int 1 tk_QUARTERS_0)))
    (N_QUARTERS_1 : PySem.W.nsIn K f_QUARTERS "back" = some (some (.int 2 tk_QUARTERS_1)))
    (N_QUARTERS_2 : PySem.W.nsIn K f_QUARTERS "left" = some (some (.int 3 tk_QUARTERS_2)))
    (A_START : PySem.W.nsIn K mainGlobals "START" = some (some (.ref f_START)))
    (V_START : K.lookup f_START = some ⟨.type "tuple", dd_START, .seq #[.ref q_START_0, .str "" tk_START_1] nn_START, sl_START⟩)
    (V_START_0 : K.lookup q_START_0 = some ⟨.type "tuple", dd_START_0, .seq #[.int (0) tk_START_0_0, .int (0) tk_START_0_1] nn_START_0, sl_START_0⟩)
    (A_HOW_MANY_LOTS : PySem.W.nsIn K mainGlobals "HOW_MANY_LOTS" = some (some (.int 8 t_HOW_MANY_LOTS)))
    (Z_abs : PySem.W.nsIn K mainGlobals "abs" = some none)
    (Z_all : PySem.W.nsIn K mainGlobals "all" = some none)
    (Z_any : PySem.W.nsIn K mainGlobals "any" = some none)
    (Z_bool : PySem.W.nsIn K mainGlobals "bool" = some none)
    (Z_enumerate : PySem.W.nsIn K mainGlobals "enumerate" = some none)
    (Z_int : PySem.W.nsIn K mainGlobals "int" = some none)
    (Z_isinstance : PySem.W.nsIn K mainGlobals "isinstance" = some none)
    (Z_len : PySem.W.nsIn K mainGlobals "len" = some none)
    (Z_list : PySem.W.nsIn K mainGlobals "list" = some none)
    (Z_range : PySem.W.nsIn K mainGlobals "range" = some none)
    (Z_sorted : PySem.W.nsIn K mainGlobals "sorted" = some none)
    (Z_str : PySem.W.nsIn K mainGlobals "str" = some none)
    (Z_tuple : PySem.W.nsIn K mainGlobals "tuple" = some none)
    (Z_zip : PySem.W.nsIn K mainGlobals "zip" = some none)
    (A_NoLot : PySem.W.nsIn K mainGlobals "NoLot" = some (some (.ref f_NoLot)))
    (A_BadLog : PySem.W.nsIn K mainGlobals "BadLog" = some (some (.ref f_BadLog)))
    (A_NoDealing : PySem.W.nsIn K mainGlobals "NoDealing" = some (some (.ref f_NoDealing)))
    (A_BadBox : PySem.W.nsIn K mainGlobals "BadBox" = some (some (.ref f_BadBox)))
    (A_NoName : PySem.W.nsIn K mainGlobals "NoName" = some (some (.ref f_NoName)))
    (A_Twice : PySem.W.nsIn K mainGlobals "Twice" = some (some (.ref f_Twice)))
    (A_NoWalker : PySem.W.nsIn K mainGlobals "NoWalker" = some (some (.ref f_NoWalker)))
    (A_NeedleError : PySem.W.nsIn K mainGlobals "NeedleError" = some (some (.ref f_NeedleError)))
    (ic_NoLot : PySem.W.isClsIn K f_NoLot = true) (ty_NoLot : PySem.W.typeIn K (.ref f_NoLot) = some (.type "type")) (su_NoLot : PySem.W.subIn K (.ref f_NoDealing) (.ref f_NoLot) = some false)
    (ne_NoLot : (Value.ref f_NoDealing == Value.ref f_NoLot) = false)
    (ic_BadLog : PySem.W.isClsIn K f_BadLog = true) (ty_BadLog : PySem.W.typeIn K (.ref f_BadLog) = some (.type "type")) (su_BadLog : PySem.W.subIn K (.ref f_NoDealing) (.ref f_BadLog) = some false)
    (ne_BadLog : (Value.ref f_NoDealing == Value.ref f_BadLog) = false)
    (ic_NoDealing : PySem.W.isClsIn K f_NoDealing = true) (ty_NoDealing : PySem.W.typeIn K (.ref f_NoDealing) = some (.type "type")) (su_NoDealing : PySem.W.subIn K (.ref f_NoDealing) (.ref f_NoDealing) = some true)
    (ic_BadBox : PySem.W.isClsIn K f_BadBox = true) (ty_BadBox : PySem.W.typeIn K (.ref f_BadBox) = some (.type "type")) (su_BadBox : PySem.W.subIn K (.ref f_NoDealing) (.ref f_BadBox) = some false)
    (ne_BadBox : (Value.ref f_NoDealing == Value.ref f_BadBox) = false)
    (ic_NoName : PySem.W.isClsIn K f_NoName = true) (ty_NoName : PySem.W.typeIn K (.ref f_NoName) = some (.type "type")) (su_NoName : PySem.W.subIn K (.ref f_NoDealing) (.ref f_NoName) = some false)
    (ne_NoName : (Value.ref f_NoDealing == Value.ref f_NoName) = false)
    (ic_Twice : PySem.W.isClsIn K f_Twice = true) (ty_Twice : PySem.W.typeIn K (.ref f_Twice) = some (.type "type")) (su_Twice : PySem.W.subIn K (.ref f_NoDealing) (.ref f_Twice) = some false)
    (ne_Twice : (Value.ref f_NoDealing == Value.ref f_Twice) = false)
    (ic_NoWalker : PySem.W.isClsIn K f_NoWalker = true) (ty_NoWalker : PySem.W.typeIn K (.ref f_NoWalker) = some (.type "type")) (su_NoWalker : PySem.W.subIn K (.ref f_NoDealing) (.ref f_NoWalker) = some false)
    (ne_NoWalker : (Value.ref f_NoDealing == Value.ref f_NoWalker) = false)
    (ic_NeedleError : PySem.W.isClsIn K f_NeedleError = true) (ty_NeedleError : PySem.W.typeIn K (.ref f_NeedleError) = some (.type "type")) (su_NeedleError : PySem.W.subIn K (.ref f_NoDealing) (.ref f_NeedleError) = some true)
    (ne_NeedleError : (Value.ref f_NoDealing == Value.ref f_NeedleError) = false)
    (su_NoWalker_NoLot : PySem.W.subIn K (.ref f_NoWalker) (.ref f_NoLot) = some false)
    (ne_NoWalker_NoLot : (Value.ref f_NoWalker == Value.ref f_NoLot) = false)
    (su_NoWalker_BadLog : PySem.W.subIn K (.ref f_NoWalker) (.ref f_BadLog) = some false)
    (ne_NoWalker_BadLog : (Value.ref f_NoWalker == Value.ref f_BadLog) = false)
    (su_NoWalker_NoDealing : PySem.W.subIn K (.ref f_NoWalker) (.ref f_NoDealing) = some false)
    (ne_NoWalker_NoDealing : (Value.ref f_NoWalker == Value.ref f_NoDealing) = false)
    (su_NoWalker_BadBox : PySem.W.subIn K (.ref f_NoWalker) (.ref f_BadBox) = some false)
    (ne_NoWalker_BadBox : (Value.ref f_NoWalker == Value.ref f_BadBox) = false)
    (su_NoWalker_NoName : PySem.W.subIn K (.ref f_NoWalker) (.ref f_NoName) = some false)
    (ne_NoWalker_NoName : (Value.ref f_NoWalker == Value.ref f_NoName) = false)
    (su_NoWalker_Twice : PySem.W.subIn K (.ref f_NoWalker) (.ref f_Twice) = some false)
    (ne_NoWalker_Twice : (Value.ref f_NoWalker == Value.ref f_Twice) = false)
    (su_NoWalker_NoWalker : PySem.W.subIn K (.ref f_NoWalker) (.ref f_NoWalker) = some true)
    (su_NoWalker_NeedleError : PySem.W.subIn K (.ref f_NoWalker) (.ref f_NeedleError) = some true)
    (ne_NoWalker_NeedleError : (Value.ref f_NoWalker == Value.ref f_NeedleError) = false)
    (Z_ValueError : PySem.W.nsIn K mainGlobals "ValueError" = some none)
    (su_VE : PySem.W.subIn K (.ref f_NoDealing) (.type "ValueError") = some true)
    (X_D : K.lookup f_NoDealing = some (excClassObj nm_D qn_D f_NoDealing ns_D bs_D bm_D true sn_D sub_D ab_D col_D dd_D m0_D m1_D m2_D m3_D m5_D "ValueError.__new__")) (bm_ok : PySem.HandSPX.refsVE bm_D = true)
    (sa_D : PySem.W.findIn K (.ref f_NoDealing) "__setattr__" = some (some (.builtin "object.__setattr__"))) (ga_D : PySem.W.findIn K (.ref f_NoDealing) "__getattribute__" = some (some (.builtin "BaseException.__getattribute__"))) (gg_D : PySem.W.findIn K (.ref f_NoDealing) "__getattr__" = some none)
    (no_at : PySem.W.findIn K (.ref f_NoDealing) "at" = some none)
    (I_D : PySem.W.findIn K (.ref f_NoDealing) "__init__" = some (some (.ref f_init))) (t_init : PySem.W.typeIn K (.ref f_init) = some (.type "function"))
    (L_init : K.lookup f_init = some ⟨oc_init, od_init, .func (PySem.W.fnOf "__init__" "NoDealing.__init__" (defArgs s_init) (defBody s_init) (defScope s_init) .none kV_init dc_init pm_init an_init cd_init ct_init), sl_init⟩) (C_init : PySem.W.codeIn K cd_init "NoDealing.__init__" = true) (K_init : PySem.W.keepIn K (.ref f_init) = true)
    (k_D : PySem.W.keepIn K (.ref f_NoDealing) = true) (e_D : PySem.W.subIn K (.ref f_NoDealing) (.type "BaseException") = some true) (h_D : PySem.W.hasDictIn K f_NoDealing = true)
    (ca_D : PySem.W.findIn K (.ref f_NoDealing) "__class__" = some (some (.builtin "object.__class__"))) (cn_D : PySem.W.specialIn K (.builtin "object.__class__") "__get__" = some (some (.builtin "getset_descriptor.__get__"))) (ct_D : PySem.W.takesIn K (.builtin "object.__class__") = some true) (cm_D : PySem.W.mroIn K f_NoDealing (.type "object") = some true)
    (su_VE_NoWalker : PySem.W.subIn K (.ref f_NoWalker) (.type "ValueError") = some true)
    (X_D_NoWalker : K.lookup f_NoWalker = some (excClassObj nm_D_NoWalker qn_D_NoWalker f_NoWalker ns_D_NoWalker bs_D_NoWalker bm_D_NoWalker true sn_D_NoWalker sub_D_NoWalker ab_D_NoWalker col_D_NoWalker dd_D_NoWalker m0_D_NoWalker m1_D_NoWalker m2_D_NoWalker m3_D_NoWalker m5_D_NoWalker "ValueError.__new__")) (bm_ok_NoWalker : PySem.HandSPX.refsVE bm_D_NoWalker = true)
    (sa_D_NoWalker : PySem.W.findIn K (.ref f_NoWalker) "__setattr__" = some (some (.builtin "object.__setattr__"))) (ga_D_NoWalker : PySem.W.findIn K (.ref f_NoWalker) "__getattribute__" = some (some (.builtin "BaseException.__getattribute__"))) (gg_D_NoWalker : PySem.W.findIn K (.ref f_NoWalker) "__getattr__" = some none)
    (no_NoWalker_name : PySem.W.findIn K (.ref f_NoWalker) "name" = some none)
    (I_D_NoWalker : PySem.W.findIn K (.ref f_NoWalker) "__init__" = some (some (.ref f_init_NoWalker))) (t_init_NoWalker : PySem.W.typeIn K (.ref f_init_NoWalker) = some (.type "function"))
    (L_init_NoWalker : K.lookup f_init_NoWalker = some ⟨oc_init_NoWalker, od_init_NoWalker, .func (PySem.W.fnOf "__init__" "NoWalker.__init__" (defArgs s_init_NoWalker) (defBody s_init_NoWalker) (defScope s_init_NoWalker) .none kV_init_NoWalker dc_init_NoWalker pm_init_NoWalker an_init_NoWalker cd_init_NoWalker ct_init_NoWalker), sl_init_NoWalker⟩) (C_init_NoWalker : PySem.W.codeIn K cd_init_NoWalker "NoWalker.__init__" = true) (K_init_NoWalker : PySem.W.keepIn K (.ref f_init_NoWalker) = true)
    (k_D_NoWalker : PySem.W.keepIn K (.ref f_NoWalker) = true) (e_D_NoWalker : PySem.W.subIn K (.ref f_NoWalker) (.type "BaseException") = some true) (h_D_NoWalker : PySem.W.hasDictIn K f_NoWalker = true)
    (ca_D_NoWalker : PySem.W.findIn K (.ref f_NoWalker) "__class__" = some (some (.builtin "object.__class__"))) (cn_D_NoWalker : PySem.W.specialIn K (.builtin "object.__class__") "__get__" = some (some (.builtin "getset_descriptor.__get__"))) (ct_D_NoWalker : PySem.W.takesIn K (.builtin "object.__class__") = some true) (cm_D_NoWalker : PySem.W.mroIn K f_NoWalker (.type "object") = some true) :
    ∃ fd : FuncData, (∀ (s : Shared) (v : Value), BindsTo s fd ⟨[v], []⟩ [("_law_script", v)]) ∧ ∀ base : Heap, K.In base → base.Ns mainGlobals mg → FnOk l.prog w K mg base CX0 10 fa fd ["_law_script"] (spLaw K) := by
  have e := hfa.symm.trans (PySem.W.mg_of X G A_law)
  cases e
  let T : Top w K mg := {
    a_Atlas := f_Atlas, g_Atlas := PySem.W.mg_of X G A_Atlas, cl_Atlas := ⟨pg_Atlas, hd_Atlas, po_Atlas, sa_Atlas⟩,
    nf_Atlas_box := nf_Atlas_box,
    nf_Atlas_names := nf_Atlas_names,
    nf_Atlas_logs := nf_Atlas_logs,
    a_is_whole := f_is_whole, fd_is_whole := _, F_is_whole := fun_mk (st := s_is_whole) L_is_whole C_is_whole K_is_whole,
    b_is_whole := (fun_mk (st := s_is_whole) L_is_whole C_is_whole K_is_whole).binds (ps := ["thing"]) fun _ _ _ _ _ _ us hl => match us, hl with | [_], _ => rfl,
    g_is_whole := PySem.W.mg_of X G A_is_whole,
    a_is_row := f_is_row, fd_is_row := _, F_is_row := fun_mk (st := s_is_row) L_is_row C_is_row K_is_row,
    b_is_row := (fun_mk (st := s_is_row) L_is_row C_is_row K_is_row).binds (ps := ["thing"]) fun _ _ _ _ _ _ us hl => match us, hl with | [_], _ => rfl,
    g_is_row := PySem.W.mg_of X G A_is_row,
    a_laid_out := f_laid_out, fd_laid_out := _, F_laid_out := fun_mk (st := s_laid_out) L_laid_out C_laid_out K_laid_out,
    b_laid_out := (fun_mk (st := s_laid_out) L_laid_out C_laid_out K_laid_out).binds (ps := ["thing"]) fun _ _ _ _ _ _ us hl => match us, hl with | [_], _ => rfl,
    g_laid_out := PySem.W.mg_of X G A_laid_out,
    a_kept := f_kept, fd_kept := _, F_kept := fun_mk (st := s_kept) L_kept C_kept K_kept,
    b_kept := (fun_mk (st := s_kept) L_kept C_kept K_kept).binds (ps := ["thing"]) fun _ _ _ _ _ _ us hl => match us, hl with | [_], _ => rfl,
    g_kept := PySem.W.mg_of X G A_kept,
    a_is_letter := f_is_letter, fd_is_letter := _, F_is_letter := fun_mk (st := s_is_letter) L_is_letter C_is_letter K_is_letter,
    b_is_letter := (fun_mk (st := s_is_letter) L_is_letter C_is_letter K_is_letter).binds (ps := ["thing"]) fun _ _ _ _ _ _ us hl => match us, hl with | [_], _ => rfl,
    g_is_letter := PySem.W.mg_of X G A_is_letter,
    a_step := f_step, fd_step := _, F_step := fun_mk (st := s_step) L_step C_step K_step,
    b_step := (fun_mk (st := s_step) L_step C_step K_step).binds (ps := ["letter"]) fun _ _ _ _ _ _ us hl => match us, hl with | [_], _ => rfl,
    g_step := PySem.W.mg_of X G A_step,
    a_way_of := f_way_of, fd_way_of := _, F_way_of := fun_mk (st := s_way_of) L_way_of C_way_of K_way_of,
    b_way_of := (fun_mk (st := s_way_of) L_way_of C_way_of K_way_of).binds (ps := ["place", "letter"]) fun _ _ _ _ _ _ us hl => match us, hl with | [_, _], _ => rfl,
    g_way_of := PySem.W.mg_of X G A_way_of,
    a_is_lot := f_is_lot, fd_is_lot := _, F_is_lot := fun_mk (st := s_is_lot) L_is_lot C_is_lot K_is_lot,
    b_is_lot := (fun_mk (st := s_is_lot) L_is_lot C_is_lot K_is_lot).binds (ps := ["thing"]) fun _ _ _ _ _ _ us hl => match us, hl with | [_], _ => rfl,
    g_is_lot := PySem.W.mg_of X G A_is_lot,
    a_refuse_unless_lot := f_refuse_unless_lot, fd_refuse_unless_lot := _, F_refuse_unless_lot := fun_mk (st := s_refuse_unless_lot) L_refuse_unless_lot C_refuse_unless_lot K_refuse_unless_lot,
    b_refuse_unless_lot := (fun_mk (st := s_refuse_unless_lot) L_refuse_unless_lot C_refuse_unless_lot K_refuse_unless_lot).binds (ps := ["thing"]) fun _ _ _ _ _ _ us hl => match us, hl with | [_], _ => rfl,
    g_refuse_unless_lot := PySem.W.mg_of X G A_refuse_unless_lot,
    a_mirrors := f_mirrors, fd_mirrors := _, F_mirrors := fun_mk (st := s_mirrors) L_mirrors C_mirrors K_mirrors,
    b_mirrors := (fun_mk (st := s_mirrors) L_mirrors C_mirrors K_mirrors).binds (ps := ["lot"]) fun _ _ _ _ _ _ us hl => match us, hl with | [_], _ => rfl,
    g_mirrors := PySem.W.mg_of X G A_mirrors,
    a_true := f_true, fd_true := _, F_true := fun_mk (st := s_true) L_true C_true K_true,
    b_true := (fun_mk (st := s_true) L_true C_true K_true).binds (ps := ["lot", "letter"]) fun _ _ _ _ _ _ us hl => match us, hl with | [_, _], _ => rfl,
    g_true := PySem.W.mg_of X G A_true,
    a_is_short_text := f_is_short_text, fd_is_short_text := _, F_is_short_text := fun_mk (st := s_is_short_text) L_is_short_text C_is_short_text K_is_short_text,
    b_is_short_text := (fun_mk (st := s_is_short_text) L_is_short_text C_is_short_text K_is_short_text).binds (ps := ["thing"]) fun _ _ _ _ _ _ us hl => match us, hl with | [_], _ => rfl,
    g_is_short_text := PySem.W.mg_of X G A_is_short_text,
    a_are_small := f_are_small, fd_are_small := _, F_are_small := fun_mk (st := s_are_small) L_are_small C_are_small K_are_small,
    b_are_small := (fun_mk (st := s_are_small) L_are_small C_are_small K_are_small).binds (ps := ["text"]) fun _ _ _ _ _ _ us hl => match us, hl with | [_], _ => rfl,
    g_are_small := PySem.W.mg_of X G A_are_small,
    a_is_name := f_is_name, fd_is_name := _, F_is_name := fun_mk (st := s_is_name) L_is_name C_is_name K_is_name,
    b_is_name := (fun_mk (st := s_is_name) L_is_name C_is_name K_is_name).binds (ps := ["thing"]) fun _ _ _ _ _ _ us hl => match us, hl with | [_], _ => rfl,
    g_is_name := PySem.W.mg_of X G A_is_name,
    a_is_lone := f_is_lone, fd_is_lone := _, F_is_lone := fun_mk (st := s_is_lone) L_is_lone C_is_lone K_is_lone,
    b_is_lone := (fun_mk (st := s_is_lone) L_is_lone C_is_lone K_is_lone).binds (ps := ["thing"]) fun _ _ _ _ _ _ us hl => match us, hl with | [_], _ => rfl,
    g_is_lone := PySem.W.mg_of X G A_is_lone,
    a_is_sign := f_is_sign, fd_is_sign := _, F_is_sign := fun_mk (st := s_is_sign) L_is_sign C_is_sign K_is_sign,
    b_is_sign := (fun_mk (st := s_is_sign) L_is_sign C_is_sign K_is_sign).binds (ps := ["thing"]) fun _ _ _ _ _ _ us hl => match us, hl with | [_], _ => rfl,
    g_is_sign := PySem.W.mg_of X G A_is_sign,
    a_is_many := f_is_many, fd_is_many := _, F_is_many := fun_mk (st := s_is_many) L_is_many C_is_many K_is_many,
    b_is_many := (fun_mk (st := s_is_many) L_is_many C_is_many K_is_many).binds (ps := ["thing"]) fun _ _ _ _ _ _ us hl => match us, hl with | [_], _ => rfl,
    g_is_many := PySem.W.mg_of X G A_is_many,
    a_is_pair_entry := f_is_pair_entry, fd_is_pair_entry := _, F_is_pair_entry := fun_mk (st := s_is_pair_entry) L_is_pair_entry C_is_pair_entry K_is_pair_entry,
    b_is_pair_entry := (fun_mk (st := s_is_pair_entry) L_is_pair_entry C_is_pair_entry K_is_pair_entry).binds (ps := ["word", "part"]) fun _ _ _ _ _ _ us hl => match us, hl with | [_, _], _ => rfl,
    g_is_pair_entry := PySem.W.mg_of X G A_is_pair_entry,
    a_is_entry := f_is_entry, fd_is_entry := _, F_is_entry := fun_mk (st := s_is_entry) L_is_entry C_is_entry K_is_entry,
    b_is_entry := (fun_mk (st := s_is_entry) L_is_entry C_is_entry K_is_entry).binds (ps := ["thing"]) fun _ _ _ _ _ _ us hl => match us, hl with | [_], _ => rfl,
    g_is_entry := PySem.W.mg_of X G A_is_entry,
    a_held_log := f_held_log, fd_held_log := _, F_held_log := fun_mk (st := s_held_log) L_held_log C_held_log K_held_log,
    b_held_log := (fun_mk (st := s_held_log) L_held_log C_held_log K_held_log).binds (ps := ["entries"]) fun _ _ _ _ _ _ us hl => match us, hl with | [_], _ => rfl,
    g_held_log := PySem.W.mg_of X G A_held_log,
    a_legs_in := f_legs_in, fd_legs_in := _, F_legs_in := fun_mk (st := s_legs_in) L_legs_in C_legs_in K_legs_in,
    b_legs_in := (fun_mk (st := s_legs_in) L_legs_in C_legs_in K_legs_in).binds (ps := ["log"]) fun _ _ _ _ _ _ us hl => match us, hl with | [_], _ => rfl,
    g_legs_in := PySem.W.mg_of X G A_legs_in,
    a_refuse_unless_lots := f_refuse_unless_lots, fd_refuse_unless_lots := _, F_refuse_unless_lots := fun_mk (st := s_refuse_unless_lots) L_refuse_unless_lots C_refuse_unless_lots K_refuse_unless_lots,
    b_refuse_unless_lots := (fun_mk (st := s_refuse_unless_lots) L_refuse_unless_lots C_refuse_unless_lots K_refuse_unless_lots).binds (ps := ["log", "lots"]) fun _ _ _ _ _ _ us hl => match us, hl with | [_, _], _ => rfl,
    g_refuse_unless_lots := PySem.W.mg_of X G A_refuse_unless_lots,
    a_gone := f_gone, fd_gone := _, F_gone := fun_mk (st := s_gone) L_gone C_gone K_gone,
    b_gone := (fun_mk (st := s_gone) L_gone C_gone K_gone).binds (ps := ["place", "letter", "many"]) fun _ _ _ _ _ _ us hl => match us, hl with | [_, _, _], _ => rfl,
    g_gone := PySem.W.mg_of X G A_gone,
    a_look_behind := f_look_behind, fd_look_behind := _, F_look_behind := fun_mk (st := s_look_behind) L_look_behind C_look_behind K_look_behind,
    b_look_behind := (fun_mk (st := s_look_behind) L_look_behind C_look_behind K_look_behind).binds (ps := ["entry", "lot", "look"]) fun _ _ _ _ _ _ us hl => match us, hl with | [_, _, _], _ => rfl,
    g_look_behind := PySem.W.mg_of X G A_look_behind,
    a_track := f_track, fd_track := _, F_track := fun_mk (st := s_track) L_track C_track K_track,
    b_track := (fun_mk (st := s_track) L_track C_track K_track).binds (ps := ["log", "lots"]) fun _ _ _ _ _ _ us hl => match us, hl with | [_, _], _ => rfl,
    g_track := PySem.W.mg_of X G A_track,
    a_way_fact := f_way_fact, fd_way_fact := _, F_way_fact := fun_mk (st := s_way_fact) L_way_fact C_way_fact K_way_fact,
    b_way_fact := (fun_mk (st := s_way_fact) L_way_fact C_way_fact K_way_fact).binds (ps := ["at", "word", "place", "look"]) fun _ _ _ _ _ _ us hl => match us, hl with | [_, _, _, _], _ => rfl,
    g_way_fact := PySem.W.mg_of X G A_way_fact,
    a_facts_of_entry := f_facts_of_entry, fd_facts_of_entry := _, F_facts_of_entry := fun_mk (st := s_facts_of_entry) L_facts_of_entry C_facts_of_entry K_facts_of_entry,
    b_facts_of_entry := (fun_mk (st := s_facts_of_entry) L_facts_of_entry C_facts_of_entry K_facts_of_entry).binds (ps := ["at", "entry", "place", "look"]) fun _ _ _ _ _ _ us hl => match us, hl with | [_, _, _, _], _ => rfl,
    g_facts_of_entry := PySem.W.mg_of X G A_facts_of_entry,
    a_facts := f_facts, fd_facts := _, F_facts := fun_mk (st := s_facts) L_facts C_facts K_facts,
    b_facts := (fun_mk (st := s_facts) L_facts C_facts K_facts).binds (ps := ["log", "lots"]) fun _ _ _ _ _ _ us hl => match us, hl with | [_, _], _ => rfl,
    g_facts := PySem.W.mg_of X G A_facts,
    a_held_box := f_held_box, fd_held_box := _, F_held_box := fun_mk (st := s_held_box) L_held_box C_held_box K_held_box,
    b_held_box := (fun_mk (st := s_held_box) L_held_box C_held_box K_held_box).binds (ps := ["box"]) fun _ _ _ _ _ _ us hl => match us, hl with | [_], _ => rfl,
    g_held_box := PySem.W.mg_of X G A_held_box,
    a_held_log_of := f_held_log_of, fd_held_log_of := _, F_held_log_of := fun_mk (st := s_held_log_of) L_held_log_of C_held_log_of K_held_log_of,
    b_held_log_of := (fun_mk (st := s_held_log_of) L_held_log_of C_held_log_of K_held_log_of).binds (ps := ["name", "log"]) fun _ _ _ _ _ _ us hl => match us, hl with | [_, _], _ => rfl,
    g_held_log_of := PySem.W.mg_of X G A_held_log_of,
    a_lots_left_in := f_lots_left_in, fd_lots_left_in := _, F_lots_left_in := fun_mk (st := s_lots_left_in) L_lots_left_in C_lots_left_in K_lots_left_in,
    b_lots_left_in := (fun_mk (st := s_lots_left_in) L_lots_left_in C_lots_left_in K_lots_left_in).binds (ps := ["box", "lots"]) fun _ _ _ _ _ _ us hl => match us, hl with | [_, _], _ => rfl,
    g_lots_left_in := PySem.W.mg_of X G A_lots_left_in,
    a_first_not_dealt := f_first_not_dealt, fd_first_not_dealt := _, F_first_not_dealt := fun_mk (st := s_first_not_dealt) L_first_not_dealt C_first_not_dealt K_first_not_dealt,
    b_first_not_dealt := (fun_mk (st := s_first_not_dealt) L_first_not_dealt C_first_not_dealt K_first_not_dealt).binds (ps := ["box", "lots"]) fun _ _ _ _ _ _ us hl => match us, hl with | [_, _], _ => rfl,
    g_first_not_dealt := PySem.W.mg_of X G A_first_not_dealt,
    a_refuse_unless_dealt := f_refuse_unless_dealt, fd_refuse_unless_dealt := _, F_refuse_unless_dealt := fun_mk (st := s_refuse_unless_dealt) L_refuse_unless_dealt C_refuse_unless_dealt K_refuse_unless_dealt,
    b_refuse_unless_dealt := (fun_mk (st := s_refuse_unless_dealt) L_refuse_unless_dealt C_refuse_unless_dealt K_refuse_unless_dealt).binds (ps := ["atlas", "dealing"]) fun _ _ _ _ _ _ us hl => match us, hl with | [_, _], _ => rfl,
    g_refuse_unless_dealt := PySem.W.mg_of X G A_refuse_unless_dealt,
    a_told := f_told, fd_told := _, F_told := fun_mk (st := s_told) L_told C_told K_told,
    b_told := (fun_mk (st := s_told) L_told C_told K_told).binds (ps := ["atlas", "dealing", "name"]) fun _ _ _ _ _ _ us hl => match us, hl with | [_, _, _], _ => rfl,
    g_told := PySem.W.mg_of X G A_told,
    a_Lany_entry := f_Lany_entry, fd_Lany_entry := _, F_Lany_entry := fun_mk (st := s_Lany_entry) L_Lany_entry C_Lany_entry K_Lany_entry,
    b_Lany_entry := (fun_mk (st := s_Lany_entry) L_Lany_entry C_Lany_entry K_Lany_entry).binds (ps := ["_law_pool_here", "_law_looks"]) fun _ _ _ _ _ _ us hl => match us, hl with | [_, _], _ => rfl,
    g_Lany_entry := PySem.W.mg_of X G A_Lany_entry,
    a_Lany_log := f_Lany_log, fd_Lany_log := _, F_Lany_log := fun_mk (st := s_Lany_log) L_Lany_log C_Lany_log K_Lany_log,
    b_Lany_log := (fun_mk (st := s_Lany_log) L_Lany_log C_Lany_log K_Lany_log).binds (ps := ["_law_pool_here", "_law_many", "_law_swaps"]) fun _ _ _ _ _ _ us hl => match us, hl with | [_, _, _], _ => rfl,
    g_Lany_log := PySem.W.mg_of X G A_Lany_log,
    a_Llots := f_Llots, fd_Llots := _, F_Llots := fun_mk (st := s_Llots) L_Llots C_Llots K_Llots,
    b_Llots := (fun_mk (st := s_Llots) L_Llots C_Llots K_Llots).binds (ps := ["_law_pool_here", "_law_many"]) fun _ _ _ _ _ _ us hl => match us, hl with | [_, _], _ => rfl,
    g_Llots := PySem.W.mg_of X G A_Llots,
    a_Lown := f_Lown, fd_Lown := _, F_Lown := fun_mk (st := s_Lown) L_Lown C_Lown K_Lown,
    b_Lown := (fun_mk (st := s_Lown) L_Lown C_Lown K_Lown).binds (ps := ["_law_e"]) fun _ _ _ _ _ _ us hl => match us, hl with | [_], _ => rfl,
    g_Lown := PySem.W.mg_of X G A_Lown,
    a_Lsmall_log := f_Lsmall_log, fd_Lsmall_log := _, F_Lsmall_log := fun_mk (st := s_Lsmall_log) L_Lsmall_log C_Lsmall_log K_Lsmall_log,
    b_Lsmall_log := (fun_mk (st := s_Lsmall_log) L_Lsmall_log C_Lsmall_log K_Lsmall_log).binds (ps := ["_law_pool_here", "_law_many", "_law_swaps"]) fun _ _ _ _ _ _ us hl => match us, hl with | [_, _, _], _ => rfl,
    g_Lsmall_log := PySem.W.mg_of X G A_Lsmall_log,
    a_Lsmall_rows := f_Lsmall_rows, fd_Lsmall_rows := _, F_Lsmall_rows := fun_mk (st := s_Lsmall_rows) L_Lsmall_rows C_Lsmall_rows K_Lsmall_rows,
    b_Lsmall_rows := (fun_mk (st := s_Lsmall_rows) L_Lsmall_rows C_Lsmall_rows K_Lsmall_rows).binds (ps := ["_law_pool_here", "_law_walkers"]) fun _ _ _ _ _ _ us hl => match us, hl with | [_, _], _ => rfl,
    g_Lsmall_rows := PySem.W.mg_of X G A_Lsmall_rows,
    a_Lsmall_box := f_Lsmall_box, fd_Lsmall_box := _, F_Lsmall_box := fun_mk (st := s_Lsmall_box) L_Lsmall_box C_Lsmall_box K_Lsmall_box,
    b_Lsmall_box := (fun_mk (st := s_Lsmall_box) L_Lsmall_box C_Lsmall_box K_Lsmall_box).binds (ps := ["_law_pool_here", "_law_legs_here"]) fun _ _ _ _ _ _ us hl => match us, hl with | [_, _], _ => rfl,
    g_Lsmall_box := PySem.W.mg_of X G A_Lsmall_box,
    a_Lpool := f_Lpool, fd_Lpool := _, F_Lpool := fun_mk (st := s_Lpool) L_Lpool C_Lpool K_Lpool,
    b_Lpool := (fun_mk (st := s_Lpool) L_Lpool C_Lpool K_Lpool).binds (ps := ["_law_script", "_law_k"]) fun _ _ _ _ _ _ us hl => match us, hl with | [_, _], _ => rfl,
    g_Lpool := PySem.W.mg_of X G A_Lpool,
    a_Ltake := f_Ltake, fd_Ltake := _, F_Ltake := fun_mk (st := s_Ltake) L_Ltake C_Ltake K_Ltake,
    b_Ltake := (fun_mk (st := s_Ltake) L_Ltake C_Ltake K_Ltake).binds (ps := ["_law_pool_here", "_law_wide"]) fun _ _ _ _ _ _ us hl => match us, hl with | [_, _], _ => rfl,
    g_Ltake := PySem.W.mg_of X G A_Ltake,
    a_Lmix := f_Lmix, fd_Lmix := _, F_Lmix := fun_mk (st := s_Lmix) L_Lmix C_Lmix K_Lmix,
    b_Lmix := (fun_mk (st := s_Lmix) L_Lmix C_Lmix K_Lmix).binds (ps := ["_law_pool_here", "_law_things"]) fun _ _ _ _ _ _ us hl => match us, hl with | [_, _], _ => rfl,
    g_Lmix := PySem.W.mg_of X G A_Lmix,
    a_Lwhole := f_Lwhole, fd_Lwhole := _, F_Lwhole := fun_mk (st := s_Lwhole) L_Lwhole C_Lwhole K_Lwhole,
    b_Lwhole := (fun_mk (st := s_Lwhole) L_Lwhole C_Lwhole K_Lwhole).binds (ps := ["_law_thing"]) fun _ _ _ _ _ _ us hl => match us, hl with | [_], _ => rfl,
    g_Lwhole := PySem.W.mg_of X G A_Lwhole,
    a_Lsame := f_Lsame, fd_Lsame := _, F_Lsame := fun_mk (st := s_Lsame) L_Lsame C_Lsame K_Lsame,
    b_Lsame := (fun_mk (st := s_Lsame) L_Lsame C_Lsame K_Lsame).binds (ps := ["_law_found", "_law_due_here"]) fun _ _ _ _ _ _ us hl => match us, hl with | [_, _], _ => rfl,
    g_Lsame := PySem.W.mg_of X G A_Lsame,
    a_Lanything := f_Lanything, fd_Lanything := _, F_Lanything := fun_mk (st := s_Lanything) L_Lanything C_Lanything K_Lanything,
    b_Lanything := (fun_mk (st := s_Lanything) L_Lanything C_Lanything K_Lanything).binds (ps := ["_law_pool_here"]) fun _ _ _ _ _ _ us hl => match us, hl with | [_], _ => rfl,
    g_Lanything := PySem.W.mg_of X G A_Lanything,
    a_Lname := f_Lname, fd_Lname := _, F_Lname := fun_mk (st := s_Lname) L_Lname C_Lname K_Lname,
    b_Lname := (fun_mk (st := s_Lname) L_Lname C_Lname K_Lname).binds (ps := ["_law_pool_here"]) fun _ _ _ _ _ _ us hl => match us, hl with | [_], _ => rfl,
    g_Lname := PySem.W.mg_of X G A_Lname,
    a_Lnames := f_Lnames, fd_Lnames := _, F_Lnames := fun_mk (st := s_Lnames) L_Lnames C_Lnames K_Lnames,
    b_Lnames := (fun_mk (st := s_Lnames) L_Lnames C_Lnames K_Lnames).binds (ps := ["_law_pool_here", "_law_many"]) fun _ _ _ _ _ _ us hl => match us, hl with | [_, _], _ => rfl,
    g_Lnames := PySem.W.mg_of X G A_Lnames,
    a_Lsign := f_Lsign, fd_Lsign := _, F_Lsign := fun_mk (st := s_Lsign) L_Lsign C_Lsign K_Lsign,
    b_Lsign := (fun_mk (st := s_Lsign) L_Lsign C_Lsign K_Lsign).binds (ps := ["_law_pool_here", "_law_lone"]) fun _ _ _ _ _ _ us hl => match us, hl with | [_, _], _ => rfl,
    g_Lsign := PySem.W.mg_of X G A_Lsign,
    a_Llegs := f_Llegs, fd_Llegs := _, F_Llegs := fun_mk (st := s_Llegs) L_Llegs C_Llegs K_Llegs,
    b_Llegs := (fun_mk (st := s_Llegs) L_Llegs C_Llegs K_Llegs).binds (ps := ["_law_log"]) fun _ _ _ _ _ _ us hl => match us, hl with | [_], _ => rfl,
    g_Llegs := PySem.W.mg_of X G A_Llegs,
    a_Llegs_of := f_Llegs_of, fd_Llegs_of := _, F_Llegs_of := fun_mk (st := s_Llegs_of) L_Llegs_of C_Llegs_of K_Llegs_of,
    b_Llegs_of := (fun_mk (st := s_Llegs_of) L_Llegs_of C_Llegs_of K_Llegs_of).binds (ps := ["_law_rows"]) fun _ _ _ _ _ _ us hl => match us, hl with | [_], _ => rfl,
    g_Llegs_of := PySem.W.mg_of X G A_Llegs_of,
    a_Lasked := f_Lasked, fd_Lasked := _, F_Lasked := fun_mk (st := s_Lasked) L_Lasked C_Lasked K_Lasked,
    b_Lasked := (fun_mk (st := s_Lasked) L_Lasked C_Lasked K_Lasked).binds (ps := ["_law_atlas", "_law_dealing", "_law_name_here"]) fun _ _ _ _ _ _ us hl => match us, hl with | [_, _, _], _ => rfl,
    g_Lasked := PySem.W.mg_of X G A_Lasked,
    a_Ldue := f_Ldue, fd_Ldue := _, F_Ldue := fun_mk (st := s_Ldue) L_Ldue C_Ldue K_Ldue,
    b_Ldue := (fun_mk (st := s_Ldue) L_Ldue C_Ldue K_Ldue).binds (ps := ["_law_box", "_law_many", "_law_dealing"]) fun _ _ _ _ _ _ us hl => match us, hl with | [_, _, _], _ => rfl,
    g_Ldue := PySem.W.mg_of X G A_Ldue,
    a_law := fa, fd_law := _, F_law := fun_mk (st := s_law) L_law C_law K_law,
    b_law := (fun_mk (st := s_law) L_law C_law K_law).binds (ps := ["_law_script"]) fun _ _ _ _ _ _ us hl => match us, hl with | [_], _ => rfl,
    g_law := PySem.W.mg_of X G A_law,
    a_Atlas_init := f_Atlas_init, fd_Atlas_init := _, e_Atlas_init := e_Atlas_init, ee_Atlas_init := fun H => .inr ⟨_, _, _, W_Atlas_init, rfl, rfl, Nat.zero_le _, .nil⟩, F_Atlas_init := (FunD.mk ⟨_, _, _, _, _, _, _, _, _, _, rfl, L_Atlas_init, C_Atlas_init, .inr ⟨(by intro z; cases z), _, _, _, _, rfl, V_Atlas_init, rfl, (.cons rfl .nil)⟩, .inl rfl⟩ K_Atlas_init : FunD K "__init__" "Atlas.__init__" (defArgs s_Atlas_init) (defBody s_Atlas_init) (defScope s_Atlas_init) [.ref e_Atlas_init] [] f_Atlas_init _),
    b1_Atlas_init := (FunD.mk ⟨_, _, _, _, _, _, _, _, _, _, rfl, L_Atlas_init, C_Atlas_init, .inr ⟨(by intro z; cases z), _, _, _, _, rfl, V_Atlas_init, rfl, (.cons rfl .nil)⟩, .inl rfl⟩ K_Atlas_init : FunD K "__init__" "Atlas.__init__" (defArgs s_Atlas_init) (defBody s_Atlas_init) (defScope s_Atlas_init) [.ref e_Atlas_init] [] f_Atlas_init _).binds1 (ps := ["self", "box", "logs"]) 2 0 (by intro z; cases z) rfl (fun _ _ _ _ _ _ _ us its hu hi => match us, its, hu, hi with | [_, _], [_], _, _ => ⟨_, rfl, rfl⟩),
    b_Atlas_init := by
      obtain ⟨ds, hv, hb⟩ := (FunD.mk ⟨_, _, _, _, _, _, _, _, _, _, rfl, L_Atlas_init, C_Atlas_init, .inr ⟨(by intro z; cases z), _, _, _, _, rfl, V_Atlas_init, rfl, (.cons rfl .nil)⟩, .inl rfl⟩ K_Atlas_init : FunD K "__init__" "Atlas.__init__" (defArgs s_Atlas_init) (defBody s_Atlas_init) (defScope s_Atlas_init) [.ref e_Atlas_init] [] f_Atlas_init _).binds1 (ps := ["self", "box", "logs"]) 3 1 (by intro z; cases z) rfl (fun _ _ _ _ _ _ _ us its hu hi => match us, its, hu, hi with | [_, _, _], [_], _, _ => ⟨_, rfl, rfl⟩)
      cases hv
      exact hb,
    mk_Atlas := ⟨mk_Atlas, A_Atlas_init, i_Atlas_init, kc_Atlas⟩,
    a_Atlas_log := f_Atlas_log, fd_Atlas_log := _, F_Atlas_log := fun_mk (st := s_Atlas_log) L_Atlas_log C_Atlas_log K_Atlas_log,
    b_Atlas_log := (fun_mk (st := s_Atlas_log) L_Atlas_log C_Atlas_log K_Atlas_log).binds (ps := ["self", "name"]) fun _ _ _ _ _ _ us hl => match us, hl with | [_, _], _ => rfl,
    me_Atlas_log := ⟨A_Atlas_log, i_Atlas_log, K_Atlas_log⟩,
    a_Atlas_legs := f_Atlas_legs, fd_Atlas_legs := _, F_Atlas_legs := fun_mk (st := s_Atlas_legs) L_Atlas_legs C_Atlas_legs K_Atlas_legs,
    b_Atlas_legs := (fun_mk (st := s_Atlas_legs) L_Atlas_legs C_Atlas_legs K_Atlas_legs).binds (ps := ["self"]) fun _ _ _ _ _ _ us hl => match us, hl with | [_], _ => rfl,
    me_Atlas_legs := ⟨A_Atlas_legs, i_Atlas_legs, K_Atlas_legs⟩,
    a_Atlas_len := f_Atlas_len, fd_Atlas_len := _, F_Atlas_len := fun_mk (st := s_Atlas_len) L_Atlas_len C_Atlas_len K_Atlas_len,
    b_Atlas_len := (fun_mk (st := s_Atlas_len) L_Atlas_len C_Atlas_len K_Atlas_len).binds (ps := ["self"]) fun _ _ _ _ _ _ us hl => match us, hl with | [_], _ => rfl,
    me_Atlas_len := ⟨A_Atlas_len, i_Atlas_len, K_Atlas_len⟩,
    g_LETTERS := ⟨_, PySem.W.mg_of X G A_LETTERS⟩,
    a_STEPS := f_STEPS, g_STEPS := PySem.W.mg_of X G A_STEPS,
    es_STEPS := _, n_STEPS := _, kd_STEPS := ⟨D_STEPS, Y_STEPS, lo_STEPS⟩,
    ns_STEPS := ns_keys D_STEPS ke_STEPS,
    v_STEPS_0 := ⟨_, ⟨_, _, _, D_STEPS, Y_STEPS, N_STEPS_0, rfl⟩, fun H => .inr ⟨_, _, _, V_STEPS_0, rfl, rfl, by show 2 ≤ sizeLine; decide, (.cons ⟨_, rfl⟩ (.cons ⟨_, rfl⟩ .nil))⟩⟩,
    v_STEPS_1 := ⟨_, ⟨_, _, _, D_STEPS, Y_STEPS, N_STEPS_1, rfl⟩, fun H => .inr ⟨_, _, _, V_STEPS_1, rfl, rfl, by show 2 ≤ sizeLine; decide, (.cons ⟨_, rfl⟩ (.cons ⟨_, rfl⟩ .nil))⟩⟩,
    v_STEPS_2 := ⟨_, ⟨_, _, _, D_STEPS, Y_STEPS, N_STEPS_2, rfl⟩, fun H => .inr ⟨_, _, _, V_STEPS_2, rfl, rfl, by show 2 ≤ sizeLine; decide, (.cons ⟨_, rfl⟩ (.cons ⟨_, rfl⟩ .nil))⟩⟩,
    v_STEPS_3 := ⟨_, ⟨_, _, _, D_STEPS, Y_STEPS, N_STEPS_3, rfl⟩, fun H => .inr ⟨_, _, _, V_STEPS_3, rfl, rfl, by show 2 ≤ sizeLine; decide, (.cons ⟨_, rfl⟩ (.cons ⟨_, rfl⟩ .nil))⟩⟩,
    g_SMALL := ⟨_, PySem.W.mg_of X G A_SMALL⟩,
    g_GREAT := ⟨_, PySem.W.mg_of X G A_GREAT⟩,
    g_LONGEST := ⟨_, PySem.W.mg_of X G A_LONGEST⟩,
    a_WORDS_ALONE := f_WORDS_ALONE, g_WORDS_ALONE := PySem.W.mg_of X G A_WORDS_ALONE,
    v_WORDS_ALONE := fun H => .inr ⟨_, _, _, V_WORDS_ALONE, rfl, rfl, by show 6 ≤ sizeLine; decide, (.cons ⟨_, rfl⟩ (.cons ⟨_, rfl⟩ (.cons ⟨_, rfl⟩ (.cons ⟨_, rfl⟩ (.cons ⟨_, rfl⟩ (.cons ⟨_, rfl⟩ .nil))))))⟩,
    a_WORDS_BEHIND_A_FACE := f_WORDS_BEHIND_A_FACE, g_WORDS_BEHIND_A_FACE := PySem.W.mg_of X G A_WORDS_BEHIND_A_FACE,
    v_WORDS_BEHIND_A_FACE := fun H => .inr ⟨_, _, _, V_WORDS_BEHIND_A_FACE, rfl, rfl, by show 6 ≤ sizeLine; decide, (.cons ⟨_, rfl⟩ (.cons ⟨_, rfl⟩ (.cons ⟨_, rfl⟩ (.cons ⟨_, rfl⟩ (.cons ⟨_, rfl⟩ (.cons ⟨_, rfl⟩ .nil))))))⟩,
    a_QUARTERS := f_QUARTERS, g_QUARTERS := PySem.W.mg_of X G A_QUARTERS,
    es_QUARTERS := _, n_QUARTERS := _, kd_QUARTERS := ⟨D_QUARTERS, Y_QUARTERS, lo_QUARTERS⟩,
    ns_QUARTERS := ns_keys D_QUARTERS ke_QUARTERS,
    v_QUARTERS_0 := ⟨_, _, _, D_QUARTERS, Y_QUARTERS, N_QUARTERS_0, ⟨_, rfl⟩⟩,
    v_QUARTERS_1 := ⟨_, _, _, D_QUARTERS, Y_QUARTERS, N_QUARTERS_1, ⟨_, rfl⟩⟩,
    v_QUARTERS_2 := ⟨_, _, _, D_QUARTERS, Y_QUARTERS, N_QUARTERS_2, ⟨_, rfl⟩⟩,
    a_START := f_START, g_START := PySem.W.mg_of X G A_START,
    v_START := ⟨_, fun H => .inr ⟨_, _, _, V_START, rfl, rfl, by show 2 ≤ sizeLine; decide, (.cons rfl (.cons ⟨_, rfl⟩ .nil))⟩, fun H => .inr ⟨_, _, _, V_START_0, rfl, rfl, by show 2 ≤ sizeLine; decide, (.cons ⟨_, rfl⟩ (.cons ⟨_, rfl⟩ .nil))⟩⟩,
    g_HOW_MANY_LOTS := ⟨_, PySem.W.mg_of X G A_HOW_MANY_LOTS⟩,
    a_NoLot := f_NoLot,
    g_NoLot := PySem.W.mg_of X G A_NoLot,
    a_BadLog := f_BadLog,
    g_BadLog := PySem.W.mg_of X G A_BadLog,
    a_NoDealing := f_NoDealing,
    g_NoDealing := PySem.W.mg_of X G A_NoDealing,
    a_BadBox := f_BadBox,
    g_BadBox := PySem.W.mg_of X G A_BadBox,
    a_NoName := f_NoName,
    g_NoName := PySem.W.mg_of X G A_NoName,
    a_Twice := f_Twice,
    g_Twice := PySem.W.mg_of X G A_Twice,
    a_NoWalker := f_NoWalker,
    g_NoWalker := PySem.W.mg_of X G A_NoWalker,
    a_NeedleError := f_NeedleError,
    g_NeedleError := PySem.W.mg_of X G A_NeedleError,
    kit_NoLot := kit_other ne_NoLot ic_NoLot ty_NoLot su_NoLot,
    kit_BadLog := kit_other ne_BadLog ic_BadLog ty_BadLog su_BadLog,
    kit_NoDealing := kit_same,
    kit_BadBox := kit_other ne_BadBox ic_BadBox ty_BadBox su_BadBox,
    kit_NoName := kit_other ne_NoName ic_NoName ty_NoName su_NoName,
    kit_Twice := kit_other ne_Twice ic_Twice ty_Twice su_Twice,
    kit_NoWalker := kit_other ne_NoWalker ic_NoWalker ty_NoWalker su_NoWalker,
    kit_NeedleError := kit_other ne_NeedleError ic_NeedleError ty_NeedleError su_NeedleError,
    kit_NoWalker_NoLot := kit_other ne_NoWalker_NoLot ic_NoLot ty_NoLot su_NoWalker_NoLot,
    kit_NoWalker_BadLog := kit_other ne_NoWalker_BadLog ic_BadLog ty_BadLog su_NoWalker_BadLog,
    kit_NoWalker_NoDealing := kit_other ne_NoWalker_NoDealing ic_NoDealing ty_NoDealing su_NoWalker_NoDealing,
    kit_NoWalker_BadBox := kit_other ne_NoWalker_BadBox ic_BadBox ty_BadBox su_NoWalker_BadBox,
    kit_NoWalker_NoName := kit_other ne_NoWalker_NoName ic_NoName ty_NoName su_NoWalker_NoName,
    kit_NoWalker_Twice := kit_other ne_NoWalker_Twice ic_Twice ty_Twice su_NoWalker_Twice,
    kit_NoWalker_NoWalker := kit_same,
    kit_NoWalker_NeedleError := kit_other ne_NoWalker_NeedleError ic_NeedleError ty_NeedleError su_NoWalker_NeedleError,
    m_ValueError := PySem.W.mg_none_of X G Z_ValueError,
    kit_VE := kit_ve su_VE,
    no_at := no_at,
    oex := ⟨⟨_, _, _, _, _, _, _, _, _, _, _, _, _, _, _, X_D, bm_ok⟩, sa_D, e_D, ty_NoDealing, k_D⟩,
    a_init := f_init,
    fd_init := _,
    F_init := fun_mk (st := s_init) L_init C_init K_init,
    b_init := (fun_mk (st := s_init) L_init C_init K_init).binds (ps := ["self", "at"]) fun _ _ _ _ _ _ us hl => match us, hl with | [_, _], _ => rfl,
    iC := I_D,
    tI := t_init,
    xf := ⟨ga_D, gg_D, e_D, h_D⟩,
    exc := ⟨ga_D, gg_D, e_D, h_D, ca_D, cn_D, ct_D, cm_D⟩,
    exm := PySem.W.exm_ref e_D h_D ty_NoDealing su_NoDealing,
    kit_VE_NoWalker := kit_ve su_VE_NoWalker,
    no_NoWalker_name := no_NoWalker_name,
    oex_NoWalker := ⟨⟨_, _, _, _, _, _, _, _, _, _, _, _, _, _, _, X_D_NoWalker, bm_ok_NoWalker⟩, sa_D_NoWalker, e_D_NoWalker, ty_NoWalker, k_D_NoWalker⟩,
    a_init_NoWalker := f_init_NoWalker,
    fd_init_NoWalker := _,
    F_init_NoWalker := fun_mk (st := s_init_NoWalker) L_init_NoWalker C_init_NoWalker K_init_NoWalker,
    b_init_NoWalker := (fun_mk (st := s_init_NoWalker) L_init_NoWalker C_init_NoWalker K_init_NoWalker).binds (ps := ["self", "name"]) fun _ _ _ _ _ _ us hl => match us, hl with | [_, _], _ => rfl,
    iC_NoWalker := I_D_NoWalker,
    tI_NoWalker := t_init_NoWalker,
    xf_NoWalker := ⟨ga_D_NoWalker, gg_D_NoWalker, e_D_NoWalker, h_D_NoWalker⟩,
    exc_NoWalker := ⟨ga_D_NoWalker, gg_D_NoWalker, e_D_NoWalker, h_D_NoWalker, ca_D_NoWalker, cn_D_NoWalker, ct_D_NoWalker, cm_D_NoWalker⟩,
    exm_NoWalker := PySem.W.exm_ref e_D_NoWalker h_D_NoWalker ty_NoWalker su_NoWalker_NoWalker,
    exn_NoDealing_NoWalker := PySem.W.exm_ref e_D_NoWalker h_D_NoWalker ty_NoWalker su_NoWalker,
    exn_NoWalker_NoDealing := PySem.W.exm_ref e_D h_D ty_NoDealing su_NoWalker_NoDealing,
    m_abs := PySem.W.mg_none_of X G Z_abs, m_all := PySem.W.mg_none_of X G Z_all, m_any := PySem.W.mg_none_of X G Z_any, m_bool := PySem.W.mg_none_of X G Z_bool, m_enumerate := PySem.W.mg_none_of X G Z_enumerate, m_int := PySem.W.mg_none_of X G Z_int, m_isinstance := PySem.W.mg_none_of X G Z_isinstance, m_len := PySem.W.mg_none_of X G Z_len, m_list := PySem.W.mg_none_of X G Z_list, m_range := PySem.W.mg_none_of X G Z_range, m_sorted := PySem.W.mg_none_of X G Z_sorted, m_str := PySem.W.mg_none_of X G Z_str, m_tuple := PySem.W.mg_none_of X G Z_tuple, m_zip := PySem.W.mg_none_of X G Z_zip }
  exact ⟨T.fd_law, fun s v => .of_eq rfl, fun base _ _ => ok_law T⟩
end M
open PySem PySem.W PyProof.Rows
set_option maxHeartbeats 0 in
theorem PySem.Challenge.cw_wayneedle_k21_dealings_refused_holds : PySem.Challenge.rw_wayneedle_k21_dealings_refused.Holds := by
  w_on; o_law; k_head; (case hw => w_witness2)
  k_fill
  refine L2.walk_of (l := PySem.Challenge.rw_wayneedle_k21_dealings_refused) (n := 63) (k := 10) (x := "_law_script") (CX := fun _ => L2.CX0) (sp := fun w => M.spLaw _) rfl (by decide) rfl ⟨rfl, by decide, by decide⟩ (fun w h Y => PySem.W.kIn_of Y) ?F (fun _ _ a ns hl _ hS => ⟨a, ns, rfl, hS, hl, fun _ => rfl⟩) (fun _ _ _ _ _ h => h)
  case F =>
    intro w mg fa h KX G hmg
    refine' M.all_mk KX G hmg ?A_Atlas ?pg_Atlas ?hd_Atlas ?po_Atlas ?sa_Atlas ?mk_Atlas ?kc_Atlas ?nf_Atlas_box ?nf_Atlas_names ?nf_Atlas_logs ?A_is_whole ?L_is_whole ?C_is_whole ?K_is_whole ?A_is_row ?L_is_row ?C_is_row ?K_is_row ?A_laid_out ?L_laid_out ?C_laid_out ?K_laid_out ?A_kept ?L_kept ?C_kept ?K_kept ?A_is_letter ?L_is_letter ?C_is_letter ?K_is_letter ?A_step ?L_step ?C_step ?K_step ?A_way_of ?L_way_of ?C_way_of ?K_way_of ?A_is_lot ?L_is_lot ?C_is_lot ?K_is_lot ?A_refuse_unless_lot ?L_refuse_unless_lot ?C_refuse_unless_lot ?K_refuse_unless_lot ?A_mirrors ?L_mirrors ?C_mirrors ?K_mirrors ?A_true ?L_true ?C_true ?K_true ?A_is_short_text ?L_is_short_text ?C_is_short_text ?K_is_short_text ?A_are_small ?L_are_small ?C_are_small ?K_are_small ?A_is_name ?L_is_name ?C_is_name ?K_is_name ?A_is_lone ?L_is_lone ?C_is_lone ?K_is_lone ?A_is_sign ?L_is_sign ?C_is_sign ?K_is_sign ?A_is_many ?L_is_many ?C_is_many ?K_is_many ?A_is_pair_entry ?L_is_pair_entry ?C_is_pair_entry ?K_is_pair_entry ?A_is_entry ?L_is_entry ?C_is_entry ?K_is_entry ?A_held_log ?L_held_log ?C_held_log ?K_held_log ?A_legs_in ?L_legs_in ?C_legs_in ?K_legs_in ?A_refuse_unless_lots ?L_refuse_unless_lots ?C_refuse_unless_lots ?K_refuse_unless_lots ?A_gone ?L_gone ?C_gone ?K_gone ?A_look_behind ?L_look_behind ?C_look_behind ?K_look_behind ?A_track ?L_track ?C_track ?K_track ?A_way_fact ?L_way_fact ?C_way_fact ?K_way_fact ?A_facts_of_entry ?L_facts_of_entry ?C_facts_of_entry ?K_facts_of_entry ?A_facts ?L_facts ?C_facts ?K_facts ?A_held_box ?L_held_box ?C_held_box ?K_held_box ?A_held_log_of ?L_held_log_of ?C_held_log_of ?K_held_log_of ?A_lots_left_in ?L_lots_left_in ?C_lots_left_in ?K_lots_left_in ?A_first_not_dealt ?L_first_not_dealt ?C_first_not_dealt ?K_first_not_dealt ?A_refuse_unless_dealt ?L_refuse_unless_dealt ?C_refuse_unless_dealt ?K_refuse_unless_dealt ?A_told ?L_told ?C_told ?K_told ?A_Lany_entry ?L_Lany_entry ?C_Lany_entry ?K_Lany_entry ?A_Lany_log ?L_Lany_log ?C_Lany_log ?K_Lany_log ?A_Llots ?L_Llots ?C_Llots ?K_Llots ?A_Lown ?L_Lown ?C_Lown ?K_Lown ?A_Lsmall_log ?L_Lsmall_log ?C_Lsmall_log ?K_Lsmall_log ?A_Lsmall_rows ?L_Lsmall_rows ?C_Lsmall_rows ?K_Lsmall_rows ?A_Lsmall_box ?L_Lsmall_box ?C_Lsmall_box ?K_Lsmall_box ?A_Lpool ?L_Lpool ?C_Lpool ?K_Lpool ?A_Ltake ?L_Ltake ?C_Ltake ?K_Ltake ?A_Lmix ?L_Lmix ?C_Lmix ?K_Lmix ?A_Lwhole ?L_Lwhole ?C_Lwhole ?K_Lwhole ?A_Lsame ?L_Lsame ?C_Lsame ?K_Lsame ?A_Lanything ?L_Lanything ?C_Lanything ?K_Lanything ?A_Lname ?L_Lname ?C_Lname ?K_Lname ?A_Lnames ?L_Lnames ?C_Lnames ?K_Lnames ?A_Lsign ?L_Lsign ?C_Lsign ?K_Lsign ?A_Llegs ?L_Llegs ?C_Llegs ?K_Llegs ?A_Llegs_of ?L_Llegs_of ?C_Llegs_of ?K_Llegs_of ?A_Lasked ?L_Lasked ?C_Lasked ?K_Lasked ?A_Ldue ?L_Ldue ?C_Ldue ?K_Ldue ?A_law ?L_law ?C_law ?K_law ?A_Atlas_init ?i_Atlas_init ?L_Atlas_init ?C_Atlas_init ?K_Atlas_init ?V_Atlas_init ?W_Atlas_init ?A_Atlas_log ?i_Atlas_log ?L_Atlas_log ?C_Atlas_log ?K_Atlas_log ?A_Atlas_legs ?i_Atlas_legs ?L_Atlas_legs ?C_Atlas_legs ?K_Atlas_legs ?A_Atlas_len ?i_Atlas_len ?L_Atlas_len ?C_Atlas_len ?K_Atlas_len ?A_LETTERS ?A_STEPS ?D_STEPS ?Y_STEPS ?lo_STEPS ?ke_STEPS ?N_STEPS_0 ?V_STEPS_0 ?N_STEPS_1 ?V_STEPS_1 ?N_STEPS_2 ?V_STEPS_2 ?N_STEPS_3 ?V_STEPS_3 ?A_SMALL ?A_GREAT ?A_LONGEST ?A_WORDS_ALONE ?V_WORDS_ALONE ?A_WORDS_BEHIND_A_FACE ?V_WORDS_BEHIND_A_FACE ?A_QUARTERS ?D_QUARTERS ?Y_QUARTERS ?lo_QUARTERS ?ke_QUARTERS ?N_QUARTERS_0 ?N_QUARTERS_1 ?N_QUARTERS_2 ?A_START ?V_START ?V_START_0 ?A_HOW_MANY_LOTS ?Z_abs ?Z_all ?Z_any ?Z_bool ?Z_enumerate ?Z_int ?Z_isinstance ?Z_len ?Z_list ?Z_range ?Z_sorted ?Z_str ?Z_tuple ?Z_zip ?A_NoLot ?A_BadLog ?A_NoDealing ?A_BadBox ?A_NoName ?A_Twice ?A_NoWalker ?A_NeedleError ?ic_NoLot ?ty_NoLot ?su_NoLot ?ne_NoLot ?ic_BadLog ?ty_BadLog ?su_BadLog ?ne_BadLog ?ic_NoDealing ?ty_NoDealing ?su_NoDealing ?ic_BadBox ?ty_BadBox ?su_BadBox ?ne_BadBox ?ic_NoName ?ty_NoName ?su_NoName ?ne_NoName ?ic_Twice ?ty_Twice ?su_Twice ?ne_Twice ?ic_NoWalker ?ty_NoWalker ?su_NoWalker ?ne_NoWalker ?ic_NeedleError ?ty_NeedleError ?su_NeedleError ?ne_NeedleError ?su_NoWalker_NoLot ?ne_NoWalker_NoLot ?su_NoWalker_BadLog ?ne_NoWalker_BadLog ?su_NoWalker_NoDealing ?ne_NoWalker_NoDealing ?su_NoWalker_BadBox ?ne_NoWalker_BadBox ?su_NoWalker_NoName ?ne_NoWalker_NoName ?su_NoWalker_Twice ?ne_NoWalker_Twice ?su_NoWalker_NoWalker ?su_NoWalker_NeedleError ?ne_NoWalker_NeedleError ?Z_ValueError ?su_VE ?X_D ?bm_ok ?sa_D ?ga_D ?gg_D ?no_at ?I_D ?t_init ?L_init ?C_init ?K_init ?k_D ?e_D ?h_D ?ca_D ?cn_D ?ct_D ?cm_D ?su_VE_NoWalker ?X_D_NoWalker ?bm_ok_NoWalker ?sa_D_NoWalker ?ga_D_NoWalker ?gg_D_NoWalker ?no_NoWalker_name ?I_D_NoWalker ?t_init_NoWalker ?L_init_NoWalker ?C_init_NoWalker ?K_init_NoWalker ?k_D_NoWalker ?e_D_NoWalker ?h_D_NoWalker ?ca_D_NoWalker ?cn_D_NoWalker ?ct_D_NoWalker ?cm_D_NoWalker
    (case A_Atlas => k_is); (case pg_Atlas => k_is); (case hd_Atlas => k_is); (case po_Atlas => k_is); (case sa_Atlas => k_is); (case mk_Atlas => k_is); (case kc_Atlas => k_is); (case nf_Atlas_box => k_is); (case nf_Atlas_names => k_is); (case nf_Atlas_logs => k_is); (case A_is_whole => k_is); (case L_is_whole => k_is); (case C_is_whole => k_is); (case K_is_whole => k_is); (case A_is_row => k_is); (case L_is_row => k_is); (case C_is_row => k_is); (case K_is_row => k_is); (case A_laid_out => k_is); (case L_laid_out => k_is); (case C_laid_out => k_is); (case K_laid_out => k_is); (case A_kept => k_is); (case L_kept => k_is); (case C_kept => k_is); (case K_kept => k_is); (case A_is_letter => k_is); (case L_is_letter => k_is); (case C_is_letter => k_is); (case K_is_letter => k_is); (case A_step => k_is); (case L_step => k_is); (case C_step => k_is); (case K_step => k_is); (case A_way_of => k_is); (case L_way_of => k_is); (case C_way_of => k_is); (case K_way_of => k_is); (case A_is_lot => k_is); (case L_is_lot => k_is); (case C_is_lot => k_is); (case K_is_lot => k_is); (case A_refuse_unless_lot => k_is); (case L_refuse_unless_lot => k_is); (case C_refuse_unless_lot => k_is); (case K_refuse_unless_lot => k_is); (case A_mirrors => k_is); (case L_mirrors => k_is); (case C_mirrors => k_is); (case K_mirrors => k_is); (case A_true => k_is); (case L_true => k_is); (case C_true => k_is); (case K_true => k_is); (case A_is_short_text => k_is); (case L_is_short_text => k_is); (case C_is_short_text => k_is); (case K_is_short_text => k_is); (case A_are_small => k_is); (case L_are_small => k_is); (case C_are_small => k_is); (case K_are_small => k_is); (case A_is_name => k_is); (case L_is_name => k_is); (case C_is_name => k_is); (case K_is_name => k_is); (case A_is_lone => k_is); (case L_is_lone => k_is); (case C_is_lone => k_is); (case K_is_lone => k_is); (case A_is_sign => k_is); (case L_is_sign => k_is); (case C_is_sign => k_is); (case K_is_sign => k_is); (case A_is_many => k_is); (case L_is_many => k_is); (case C_is_many => k_is); (case K_is_many => k_is); (case A_is_pair_entry => k_is); (case L_is_pair_entry => k_is); (case C_is_pair_entry => k_is); (case K_is_pair_entry => k_is); (case A_is_entry => k_is); (case L_is_entry => k_is); (case C_is_entry => k_is); (case K_is_entry => k_is); (case A_held_log => k_is); (case L_held_log => k_is); (case C_held_log => k_is); (case K_held_log => k_is); (case A_legs_in => k_is); (case L_legs_in => k_is); (case C_legs_in => k_is); (case K_legs_in => k_is); (case A_refuse_unless_lots => k_is); (case L_refuse_unless_lots => k_is); (case C_refuse_unless_lots => k_is); (case K_refuse_unless_lots => k_is); (case A_gone => k_is); (case L_gone => k_is); (case C_gone => k_is); (case K_gone => k_is); (case A_look_behind => k_is); (case L_look_behind => k_is); (case C_look_behind => k_is); (case K_look_behind => k_is); (case A_track => k_is); (case L_track => k_is); (case C_track => k_is); (case K_track => k_is); (case A_way_fact => k_is); (case L_way_fact => k_is); (case C_way_fact => k_is); (case K_way_fact => k_is); (case A_facts_of_entry => k_is); (case L_facts_of_entry => k_is); (case C_facts_of_entry => k_is); (case K_facts_of_entry => k_is); (case A_facts => k_is); (case L_facts => k_is); (case C_facts => k_is); (case K_facts => k_is); (case A_held_box => k_is); (case L_held_box => k_is); (case C_held_box => k_is); (case K_held_box => k_is); (case A_held_log_of => k_is); (case L_held_log_of => k_is); (case C_held_log_of => k_is); (case K_held_log_of => k_is); (case A_lots_left_in => k_is); (case L_lots_left_in => k_is); (case C_lots_left_in => k_is); (case K_lots_left_in => k_is); (case A_first_not_dealt => k_is); (case L_first_not_dealt => k_is); (case C_first_not_dealt => k_is); (case K_first_not_dealt => k_is); (case A_refuse_unless_dealt => k_is); (case L_refuse_unless_dealt => k_is); (case C_refuse_unless_dealt => k_is); (case K_refuse_unless_dealt => k_is); (case A_told => k_is); (case L_told => k_is); (case C_told => k_is); (case K_told => k_is); (case A_Lany_entry => k_is); (case L_Lany_entry => k_is); (case C_Lany_entry => k_is); (case K_Lany_entry => k_is); (case A_Lany_log => k_is); (case L_Lany_log => k_is); (case C_Lany_log => k_is); (case K_Lany_log => k_is); (case A_Llots => k_is); (case L_Llots => k_is); (case C_Llots => k_is); (case K_Llots => k_is); (case A_Lown => k_is); (case L_Lown => k_is); (case C_Lown => k_is); (case K_Lown => k_is); (case A_Lsmall_log => k_is); (case L_Lsmall_log => k_is); (case C_Lsmall_log => k_is); (case K_Lsmall_log => k_is); (case A_Lsmall_rows => k_is); (case L_Lsmall_rows => k_is); (case C_Lsmall_rows => k_is); (case K_Lsmall_rows => k_is); (case A_Lsmall_box => k_is); (case L_Lsmall_box => k_is); (case C_Lsmall_box => k_is); (case K_Lsmall_box => k_is); (case A_Lpool => k_is); (case L_Lpool => k_is); (case C_Lpool => k_is); (case K_Lpool => k_is); (case A_Ltake => k_is); (case L_Ltake => k_is); (case C_Ltake => k_is); (case K_Ltake => k_is); (case A_Lmix => k_is); (case L_Lmix => k_is); (case C_Lmix => k_is); (case K_Lmix => k_is); (case A_Lwhole => k_is); (case L_Lwhole => k_is); (case C_Lwhole => k_is); (case K_Lwhole => k_is); (case A_Lsame => k_is); (case L_Lsame => k_is); (case C_Lsame => k_is); (case K_Lsame => k_is); (case A_Lanything => k_is); (case L_Lanything => k_is); (case C_Lanything => k_is); (case K_Lanything => k_is); (case A_Lname => k_is); (case L_Lname => k_is); (case C_Lname => k_is); (case K_Lname => k_is); (case A_Lnames => k_is); (case L_Lnames => k_is); (case C_Lnames => k_is); (case K_Lnames => k_is); (case A_Lsign => k_is); (case L_Lsign => k_is); (case C_Lsign => k_is); (case K_Lsign => k_is); (case A_Llegs => k_is); (case L_Llegs => k_is); (case C_Llegs => k_is); (case K_Llegs => k_is); (case A_Llegs_of => k_is); (case L_Llegs_of => k_is); (case C_Llegs_of => k_is); (case K_Llegs_of => k_is); (case A_Lasked => k_is); (case L_Lasked => k_is); (case C_Lasked => k_is); (case K_Lasked => k_is); (case A_Ldue => k_is); (case L_Ldue => k_is); (case C_Ldue => k_is); (case K_Ldue => k_is); (case A_law => k_is); (case L_law => k_is); (case C_law => k_is); (case K_law => k_is); (case A_Atlas_init => k_is); (case i_Atlas_init => k_is); (case L_Atlas_init => k_is); (case C_Atlas_init => k_is); (case K_Atlas_init => k_is); (case V_Atlas_init => k_is); (case W_Atlas_init => k_is); (case A_Atlas_log => k_is); (case i_Atlas_log => k_is); (case L_Atlas_log => k_is); (case C_Atlas_log => k_is); (case K_Atlas_log => k_is); (case A_Atlas_legs => k_is); (case i_Atlas_legs => k_is); (case L_Atlas_legs => k_is); (case C_Atlas_legs => k_is); (case K_Atlas_legs => k_is); (case A_Atlas_len => k_is); (case i_Atlas_len => k_is); (case L_Atlas_len => k_is); (case C_Atlas_len => k_is); (case K_Atlas_len => k_is); (case A_LETTERS => k_is); (case A_STEPS => k_is); (case D_STEPS => k_is); (case Y_STEPS => k_keys); (case lo_STEPS => first | rfl | decide +kernel); (case ke_STEPS => exact ⟨⟨_, rfl⟩, ⟨_, rfl⟩, ⟨_, rfl⟩, ⟨_, rfl⟩, True.intro⟩); (case N_STEPS_0 => k_is); (case V_STEPS_0 => k_is); (case N_STEPS_1 => k_is); (case V_STEPS_1 => k_is); (case N_STEPS_2 => k_is); (case V_STEPS_2 => k_is); (case N_STEPS_3 => k_is); (case V_STEPS_3 => k_is); (case A_SMALL => k_is); (case A_GREAT => k_is); (case A_LONGEST => k_is); (case A_WORDS_ALONE => k_is); (case V_WORDS_ALONE => k_is); (case A_WORDS_BEHIND_A_FACE => k_is); (case V_WORDS_BEHIND_A_FACE => k_is); (case A_QUARTERS => k_is); (case D_QUARTERS => k_is); (case Y_QUARTERS => k_keys); (case lo_QUARTERS => first | rfl | decide +kernel); (case ke_QUARTERS => exact ⟨⟨_, rfl⟩, ⟨_, rfl⟩, ⟨_, rfl⟩, True.intro⟩); (case N_QUARTERS_0 => k_is); (case N_QUARTERS_1 => k_is); (case N_QUARTERS_2 => k_is); (case A_START => k_is); (case V_START => k_is); (case V_START_0 => k_is); (case A_HOW_MANY_LOTS => k_is); (case Z_abs => k_is); (case Z_all => k_is); (case Z_any => k_is); (case Z_bool => k_is); (case Z_enumerate => k_is); (case Z_int => k_is); (case Z_isinstance => k_is); (case Z_len => k_is); (case Z_list => k_is); (case Z_range => k_is); (case Z_sorted => k_is); (case Z_str => k_is); (case Z_tuple => k_is); (case Z_zip => k_is); (case A_NoLot => k_is); (case A_BadLog => k_is); (case A_NoDealing => k_is); (case A_BadBox => k_is); (case A_NoName => k_is); (case A_Twice => k_is); (case A_NoWalker => k_is); (case A_NeedleError => k_is); (case ic_NoLot => k_is); (case ty_NoLot => k_is); (case su_NoLot => first | rfl | k_is); (case ne_NoLot => first | rfl | decide +kernel); (case ic_BadLog => k_is); (case ty_BadLog => k_is); (case su_BadLog => first | rfl | k_is); (case ne_BadLog => first | rfl | decide +kernel); (case ic_NoDealing => k_is); (case ty_NoDealing => k_is); (case su_NoDealing => first | rfl | k_is); (case ic_BadBox => k_is); (case ty_BadBox => k_is); (case su_BadBox => first | rfl | k_is); (case ne_BadBox => first | rfl | decide +kernel); (case ic_NoName => k_is); (case ty_NoName => k_is); (case su_NoName => first | rfl | k_is); (case ne_NoName => first | rfl | decide +kernel); (case ic_Twice => k_is); (case ty_Twice => k_is); (case su_Twice => first | rfl | k_is); (case ne_Twice => first | rfl | decide +kernel); (case ic_NoWalker => k_is); (case ty_NoWalker => k_is); (case su_NoWalker => first | rfl | k_is); (case ne_NoWalker => first | rfl | decide +kernel); (case ic_NeedleError => k_is); (case ty_NeedleError => k_is); (case su_NeedleError => first | rfl | k_is); (case ne_NeedleError => first | rfl | decide +kernel); (case su_NoWalker_NoLot => first | rfl | k_is); (case ne_NoWalker_NoLot => first | rfl | decide +kernel); (case su_NoWalker_BadLog => first | rfl | k_is); (case ne_NoWalker_BadLog => first | rfl | decide +kernel); (case su_NoWalker_NoDealing => first | rfl | k_is); (case ne_NoWalker_NoDealing => first | rfl | decide +kernel); (case su_NoWalker_BadBox => first | rfl | k_is); (case ne_NoWalker_BadBox => first | rfl | decide +kernel); (case su_NoWalker_NoName => first | rfl | k_is); (case ne_NoWalker_NoName => first | rfl | decide +kernel); (case su_NoWalker_Twice => first | rfl | k_is); (case ne_NoWalker_Twice => first | rfl | decide +kernel); (case su_NoWalker_NoWalker => first | rfl | k_is); (case su_NoWalker_NeedleError => first | rfl | k_is); (case ne_NoWalker_NeedleError => first | rfl | decide +kernel); (case Z_ValueError => k_is); (case su_VE => k_is); (case X_D => k_is); (case bm_ok => decide +kernel); (case sa_D => k_is); (case ga_D => k_is); (case gg_D => k_is); (case no_at => k_is); (case I_D => k_is); (case t_init => k_is); (case L_init => k_is); (case C_init => k_is); (case K_init => k_is); (case k_D => k_is); (case e_D => k_is); (case h_D => k_is); (case ca_D => k_is); (case cn_D => k_is); (case ct_D => k_is); (case cm_D => k_is); (case su_VE_NoWalker => k_is); (case X_D_NoWalker => k_is); (case bm_ok_NoWalker => decide +kernel); (case sa_D_NoWalker => k_is); (case ga_D_NoWalker => k_is); (case gg_D_NoWalker => k_is); (case no_NoWalker_name => k_is); (case I_D_NoWalker => k_is); (case t_init_NoWalker => k_is); (case L_init_NoWalker => k_is); (case C_init_NoWalker => k_is); (case K_init_NoWalker => k_is); (case k_D_NoWalker => k_is); (case e_D_NoWalker => k_is); (case h_D_NoWalker => k_is); (case ca_D_NoWalker => k_is); (case cn_D_NoWalker => k_is); (case ct_D_NoWalker => k_is); (case cm_D_NoWalker => k_is)
