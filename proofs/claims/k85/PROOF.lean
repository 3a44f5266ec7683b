import PyProof.Rows.All
import Wide.All
import OpenK.AllK
import Wide.FinOn
import HandS.ForMost
import HandS.ForExc
import HandS.HotCalls
import HandS.ExcIs
import HandS.ExcInit
import HandS.ExcField
import HandS.Defaults
import HandS.CallSlots
import HandS.Deep
import KE.GoesEnum
import KE.GoesNew
import HandS.IsInst
import HandS.Replace
import HandS.Wide
import HandS.NoneIn
import HandS.Walk
import HandS.Evl
import HandS.More
import HandS.Zip
import HandS.Conv
import KE.KxIndex
import PySem.Challenge.RW_wayneedle_k85_atlases_nearly_right
import HandS.TupMul
import HandS.Star
import HandS.TupAny
import HandS.Flow
import HandS.RaiseMore
import HandS.ListItems
import HandS.SortRule
import HandS.Strs
import KE.GoesEnumKw
import HandS.Iter
import HandS.OwnEq
import HandS.FStr
import KE.DataCmp
import HandS.SuiteRaise
import HandS.RaiseFrom
import HandS.ExcInitHot
import PyProof.ListStr
set_option Elab.async false
set_option linter.all false
set_option maxRecDepth 100000
set_option maxHeartbeats 4000000















namespace ExcM
open PySem PySem.W PySem.Spec PySem.Calls PyProof.Rows L2
section
variable {prog : Program} {w : World} {A : Around} {E : Value → Shared → Prop} {s : Shared} {K : PySem.W.Frag} {x D : Addr} {ox od : Obj}
/-- the way of a test that fails -/
theorem not_so {α : Type} {b : Bool} {x y : Sem α} {Q : α → Shared → Prop} (hb : b = false) (q : wpAny (model prog w) A y Q E s) : wpAny (model prog w) A (if b = true then x else y) Q E s := by
  subst hb
  exact q
/-- the class of an own exception that has a dict, asked of its instance -/
theorem asked_class {Q : Option Value → Shared → Prop} (C : ExcC K D) (X : K.In s.heap) (I : PySem.W.InstAt s.heap x ox D (some od)) (h : Q (some (.ref D)) { s with toks := s.toks + 1 }) :
    wpAny (model prog w) A (getAttr? (.ref x) "__class__") Q E s := by
  have found := findObj_data (K := K) (C := D) (od := od) (name := "__class__") (by obtain ⟨q, hq, _⟩ := any_some C.hd; rw [hq]; rfl) C.ha C.hn C.ht
  obtain ⟨hp, g, d, t, os⟩ := s
  have lType := I.type (M := model prog w)
  have lGa := looks_findIn (M := model prog w) X C.hg
  have lGt := looks_findIn (M := model prog w) X C.hk
  have lFind := looks_find (M := model prog w) X I found
  have isB : Looks (model prog w) hp (isInstance (.ref x) (.type "BaseException")) true := lType.andThen (looks_subIn X C.hs)
  have n1 : (false && onTheHeap (Value.builtin "BaseException.__getattribute__")) = false := rfl
  have n2 : (onTheHeap (Value.ref D) && Value.builtin "BaseException.__getattribute__" == Value.builtin "object.__getattribute__") = false := by
    rw [show (Value.builtin "BaseException.__getattribute__" == Value.builtin "object.__getattribute__") = false by decide +kernel]; rfl
  unfold getAttr? getAttrBy?; unfold getAttrBy
  refine wpAny_bind (wpAny_mkText (wpAny_bind (wpAny_attempt (wpAny_holding (wpAny_bind (lType.at (wpAny_bind (lGa.at ?_))))))))
  refine not_so n2 ?_; unfold getAttrByItsOwn hookBefore
  refine wpAny_bind ?_; rw [if_pos (show onTheHeap (Value.ref D) = true from rfl)]
  refine lGt.at ?_; refine wpAny_bind (wpAny_attempt (wpAny_holding ?_))
  unfold callGetattribute; rw [n1, if_neg Bool.false_ne_true]; unfold boundAndCalled
  rw [PySem.F.excAttr_ValueError.ga.bind (.ref x)]; refine wpAny_bind (wpAny_pure ?_)
  refine show wpAny _ _ (call (.builtin "BaseException.__getattribute__") [.ref x, .str "__class__" t]) _ _ _ from wpAny_call (codeAny_call_builtin PySem.F.excAttr_ValueError.ga.plain PySem.F.entry_bexc_ga ?_)
  refine @check_slot (model prog w) _ _ ⟨hp, g, d, t + 1, os⟩ "BaseException.__getattribute__" "BaseException" "__getattribute__" (.ref x) [.str "__class__" t] [] _ (by decide +kernel) (by decide +kernel) isB (PySem.F.args_bexc_ga (.ref x) (.str "__class__" t)) ?_
  unfold Builtin.«object.__getattribute__»; refine wpAny_bind (wpAny_of_eq (a := ((Value.ref x : Value), [Value.str "__class__" t])) (by first | rfl | (simp only [slotArgs]; rfl)) ?_)
  refine wpAny_bind (wpAny_pure (wpAny_bind (lType.at (wpAny_bind (lFind.at ?_)))))
  refine show wpAny _ _ (holding [Value.builtin "object.__class__"] (call (.builtin "getset_descriptor.__get__") [.builtin "object.__class__", .ref x, .ref D]) >>= ret) _ _ _ from wpAny_bind (wpAny_holding (wpAny_call (class_get (s := ⟨hp, g, d, t + 1, os⟩) (ox := ox) (od := some od) X I C.hm ?_)))
  refine wpAny_pure ?_; show wpAny _ _ (handedOut (.ref D)) _ _ _; rw [handedOut_of (v := .ref D) rfl]
  first | exact wpAny_pure (wpAny_pure h) | exact wpAny_pure h | exact wpAny_pure (wpAny_bind (wpAny_pure (wpAny_pure h)))
theorem kit_exc (C : ExcC K D) : KitX K (.ref x) (.ref D) (fun h => PySem.W.InstAt h x ox D (some od)) where
  ty := fun _ _ _ I => I.type
  it := fun _ _ X _ => by
    obtain ⟨q, hq, _⟩ := any_some C.hd
    unfold clsIn at hq; split at hq
    · rename_i c1 d1 q1 l1 ho
      intro A1 Q1 E1 s1 k z; unfold isType loadHead
      exact wpAny_bind (wpAny_loadPart (k _ _ (X _ _ ho)) (wpAny_pure z))
    · cases hq
  ne := fun hh tp tdd tis tn tsl X htp => by
    obtain ⟨q, hq, _⟩ := any_some C.hd
    refine Bool.eq_false_iff.mpr fun z => ?_
    have e : D = tp := Value.ref.inj (beq_iff_eq.mp z)
    subst e; unfold clsIn at hq; split at hq
    · rename_i c1 d1 q1 l1 ho
      cases (X _ _ ho).symm.trans htp
    · cases hq
  ca := fun X I k => asked_class C X I k
end
section
variable {X : Cx}
/-- isinstance of a pinned exception of the class at D, its dict tracked -/
theorem call_isP {D a : Addr} {oe : Obj} {d : Addr} (C : ExcC X.K D) (hp : (a, oe) ∈ X.pn) (hz : Zc (.ref D) (some d) oe) (hf : ∃ vs, oe.data = .fields vs) :
    CallR X (.builtin "isinstance") (fun xs H Q => ∃ (c : V) (cv : Value) (b : Bool) (fs : List (Str × V)), xs = [.ref a, c] ∧ (∀ u, RelV c u → u = cv) ∧ H d = some (.xd fs) ∧ PySem.W.kitOne X.K (.ref D) cv = some b ∧ Q (.bl b) H) := by
  intro pins s σ H xs us Q I rel ask
  obtain ⟨c, cv, b, fs, rfl, hcv, hd, e, q1⟩ := ask
  obtain ⟨w1, w2, rfl, l1, l2⟩ := vals2 rel
  cases (l1 : w1 = Value.ref a)
  cases hcv _ l2
  have P1 := I.pin (a, oe) (List.mem_append_left _ hp)
  obtain ⟨vs, hv⟩ := hf
  obtain ⟨mA, hns, _⟩ := (show ObjOk X.prog X.w H s.heap d (.xd fs) from I.hok d _ hd)
  obtain ⟨od, ho, _⟩ := lookIn_ns hns
  have J : PySem.W.InstAt s.heap a oe D (some od) := ⟨P1.1, hz.1, by unfold PySem.W.notCls; rw [hv] <;> rfl, by rw [hz.2]; exact ho⟩
  exact PySem.W.kia_one (kit_exc C) I.kIn J e (fun z => nomatch z) fun tk => ⟨.bl b, H, I.tok tk, rfl, q1⟩
end
end ExcM
namespace ExcM
open PySem PySem.W PySem.Spec PySem.Calls PyProof.Rows L2
/-! ### a def that is told of the exception that is handled -/
/-- what a def promises where p's object is pinned, whatever is handled -/
structure FnP (P : Program) (w : World) (K : PySem.W.Frag) (mg : Str → Option Value) (base : Heap) (p : Addr × Obj) (k : Nat) (f : Addr) (fd : FuncData) (ps : List Str) (sp : Sp) : Prop where
  len : ∀ (vs : List V) (H : Hp) (Q : VK) (E : XK), sp vs H Q E → vs.length = ps.length
  run : ∀ (A : Around) (outer : List Env) (s : Shared) (H : Hp) (args : Args) (us : List Value) (vs : List V) (Q : VK) (E : XK), L2H.RoomH k A → L2H.PinOk outer H s p → Env0 P w K mg base A outer s H →
    BindsTo s fd args (ps.zip us) → Vals vs us → sp vs H Q E → codeAny (model P w) A (.call (.ref f) args) (CR CX0 outer P w H s Q E) s
section
variable {P : Program} {w : World} {K : PySem.W.Frag} {mg : Str → Option Value} {base : Heap} {p : Addr × Obj}
theorem fun_okP {x qual : Str} {st : Stmt} {f : Addr} {fd : FuncData} {N ps : List Str} {k : Nat} {sp : Sp} (F : Fun K x qual st f fd) (S : FnScope N ps (defScope st)) (len : ∀ vs H Q E, sp vs H Q E → vs.length = ps.length)
    (hbody : ∀ (cdv : Value) (A : Around) (outer : List Env) (s : Shared) (H : Hp) (vs : List V) (Q : VK) (E : XK), L2H.RoomH k (A.deeper (envOfC qual (defScope st) s.heap.objs.size f cdv)) → sp vs H Q E →
      ∃ t, PSs (L2H.cxH CX0 P w K mg base N qual (defScope st) f cdv A outer s H E p) (defBody st) t ∧ t { nx := fun _ H' => Q .non H', rt := Q } (start N vs) H) : FnP P w K mg base p (k + 1) f fd ps sp := by
  obtain ⟨_, _, _, _, _, _, cdv, _, _, rfl, lk, hcd⟩ := F.ex
  refine ⟨len, fun A outer s H args us vs Q E hr hpin e0 hb r hsp => ?_⟩
  have KX : K.In s.heap := e0.mod.kin.keeps (fun b o e => (e0.bs b o e).1)
  have hk2 : ∀ y ∈ ps.zip us, (defScope st).names.lookup y.1 = some .local ∨ ((defScope st).names.lookup y.1 = some .cell ∧ ((cellsFrom (s.heap.objs.size + 1) (defScope st).names []).lookup y.1).isSome = true) := fun ⟨n, v⟩ hy =>
    (S.par n (List.of_mem_zip hy).1).elim .inl (fun q => .inr ⟨q, PySem.W.cellsFrom_some _ _ _ (.inl q)⟩)
  refine codeAny_call_function hr.depth (KX _ _ lk) rfl S.co S.gen rfl (PySem.W.codeRec_of KX hcd) (hb _ _ _ _ (wpAny_newFunctionEnv_cells S.kind hk2 fun env he s1 x => ?_))
  subst he
  refine ⟨(e0.mod.nolimit.keeps fun b o e => (e0.bs b o e).1).keeps x.toInCall.keep, codeAny_func ?_⟩
  obtain ⟨t, ht, hq⟩ := hbody cdv A outer s H vs Q E (hr.deeper _) hsp
  have I := L2H.inv_startH (CX := CX0) (E := E) S hpin e0 (len _ _ _ _ hsp) r x
  refine wpAny_mono (ht.run [] s1 (start N vs) H _ I hq) (fun fl s' hs => ?_) (fun e s' hs => hs)
  match fl, hs with
  | .ret u, ⟨v, σ', H', J, rv, q⟩ => exact ⟨v, H', J.os, J.bare, J.base, J.hok, rv, q⟩
  | .next, ⟨σ', H', J, q⟩ => exact ⟨.non, H', J.os, J.bare, J.base, J.hok, rfl, q⟩
  | .brk, ⟨_, _, _, q⟩ => exact q.elim
  | .cont, ⟨_, _, _, q⟩ => exact q.elim
end
section
variable {X : Cx} {k : Nat} {f : Addr} {fd : FuncData} {ps : List Str} {sp : Sp} {x : Str} {q pos : Pos} {e : Expr} {es : List Expr} {t : TA} {p : Addr × Obj}
theorem pe_callP (F : FnP X.prog X.w X.K X.mg X.base p k f fd ps sp) (hr : L2H.RoomH k X.A) (hp : p ∈ X.pn) (hg : Gl X x) (hm : X.mg x = some (.ref f)) (hk : PySem.W.keepIn X.K (.ref f) = true) (hb : Binds X.K fd ps [])
    (ha : PA X (e :: es) t) (hdb : (x == ("__debug__" : Str)) = false := by decide) (he : starEach (e :: es) X.env = (false, eval e X.env) :: starEach es X.env := by rfl)
    (hpl : (backTo pos (starEach es X.env)).any (·.1) = false := by rfl) : PE X (.Call (.Name x q) (e :: es) [] pos) (tCall sp [] E0 t) := by
  refine ⟨fun pins s σ H Q I h => wpAny_Call_Name_kw (ld_glob I hg hm ?_ hdb)⟩
  refine PySem.W.callWith_K (h₀ := X.base) I.ok.mod.kin hk (thn (ha.run pos pins s σ H _ I h) fun us s1 hh => ?_) he hpl
  obtain ⟨vs, H1, I1, r, q1⟩ := hh
  rw [List.append_nil] at q1
  refine ⟨I1.kIn, ?_⟩
  have hl : us.length = ps.length := by
    rw [← r.length]
    exact F.len _ _ _ _ q1
  have b := hb s1 us I1.kIn (by rw [List.append_nil]; exact hl)
  rw [List.append_nil] at b
  have P1 := I1.pin p (List.mem_append_left _ hp)
  have pin : L2H.PinOk X.stack H1 s1 p := ⟨P1.1, P1.2.1, (fun hm => (List.mem_cons.mp (I1.stkSub p.1 hm)).elim P1.2.2.1 P1.2.2.2.1), P1.2.2.2.2⟩
  refine wpAny_call (codeAny_mono (F.run X.A X.stack s1 H1 ⟨us, []⟩ us vs Q E0 hr pin I1.env0 b r q1) fun r s' hq => ?_)
  match r, hq with
  | .error _, hq => exact hq.elim
  | .ok (.ret u), hq => exact I1.after hq
  | .ok .next, hq => exact hq.elim
  | .ok .brk, hq => exact hq.elim
  | .ok .cont, hq => exact hq.elim
end
end ExcM
/-! ### iterators that hand out pairs (enumerate, zip), over what is a list or a tuple: one turn for all of them, by GoesN -/
namespace PairW
open PySem PySem.Spec PyProof.Rows L2
/-- a sequence and an iterator over it: a tuple (true) or a list (false) -/
def SqB (t : Bool) (h : Heap) (l : Addr) (xs : Array Value) : Prop := match t with
  | true => h.IsTuple l xs
  | false => h.IsList l xs
def ItB (t : Bool) (h : Heap) (it l : Addr) (k : Nat) : Prop := match t with
  | true => h.IsTupleIter it l k
  | false => h.IsListIter it l k
def SqV (t : Bool) (K : PySem.W.Frag) (H : Hp) (a : Addr) (xs : List V) : Prop := match t with
  | true => SqT K H a xs
  | false => SqL K H a xs
def itO (t : Bool) (l : Addr) : Obj := match t with
  | true => { cls := .type "tuple_iterator", data := .fields #[.ref l, .int 0 0] }
  | false => { cls := .type "list_iterator", data := .fields #[.ref l, .int 0 0] }
theorem SqB.lt {t : Bool} {h : Heap} {a : Addr} {xs : Array Value} (q : SqB t h a xs) : a < h.objs.size := by
  cases t <;> (obtain ⟨o, e, _⟩ := q; exact Heap.lt_size e)
theorem ItB.at {t : Bool} {h h' : Heap} {a l : Addr} {k : Nat} (x : ItB t h a l k) (e : ∀ o, h.get? a = some o → h'.get? a = some o) : ItB t h' a l k := by
  cases t
  · exact Heap.IsListIter.at x e
  · exact Heap.IsTupleIter.at x e
theorem ItB.obj {t : Bool} {h : Heap} {a l : Addr} {k : Nat} (x : ItB t h a l k) : ∃ o, h.get? a = some o ∧ ∀ v, o.data ≠ .cell v := by
  cases t <;> (obtain ⟨o, e, _, d⟩ := x; exact ⟨o, e, fun v q => by rw [d] at q; cases q⟩)
theorem itO_is {t : Bool} {h : Heap} {a l : Addr} (e : h.get? a = some (itO t l)) : ItB t h a l 0 := by
  cases t <;> exact ⟨_, e, rfl, rfl⟩
theorem sqv_get {X : Cx} {pins : List (Addr × Obj)} {σ : L2.St} {H : Hp} {s : Shared} {t : Bool} {a : Addr} {xs : List V} (I : Inv X pins σ H s) (h : SqV t X.K H a xs) : ∃ its, Vals xs its ∧ SqB t s.heap a its.toArray := by
  cases t
  · obtain ⟨its, rv, there, _⟩ := I.list h
    exact ⟨its, rv, there.isList⟩
  · obtain ⟨its, rv, there, _⟩ := I.tuple h
    exact ⟨its, rv, there⟩
theorem sqv_inj {X : Cx} {pins : List (Addr × Obj)} {σ : L2.St} {H : Hp} {s : Shared} {t : Bool} {a : Addr} {xs ys : List V} (I : Inv X pins σ H s) (h : SqV t X.K H a xs) (h' : SqV t X.K H a ys) : xs = ys := by
  cases t
  · exact I.list_inj h h'
  · exact I.tuple_inj h h'
theorem draws {prog : Program} {w : World} {A : Around} (hh : A.handled = none) (t : Bool) {it l : Addr} (ne : l ≠ it) (items : Array Value) :
    Draws prog w A it [it, l] items.size (fun i v => items[i]? = some v) (fun i h => ItB t h it l i ∧ SqB t h l items) := by
  cases t
  · exact Draws.list hh it l ne items
  · exact Draws.tuple hh it l ne items
theorem begins (t : Bool) (l : Addr) (items : Array Value) : Begins (.ref l) (itO t l) (fun h => SqB t h l items) := by
  cases t
  · exact begins_list l items
  · exact begins_tuple l items
/-- an iterator stands, made of new cells alone -/
theorem begun {X : Cx} {pins : List (Addr × Obj)} {σ : L2.St} {H : Hp} {s : Shared} {tg : Expr} {J : It} {fp : List Addr} {it : Addr} {tn : Nat → Heap → Prop} {R : It → Hp → Prop} {h' : Heap} (I : Inv X pins σ H s)
    (old : ∀ b o, s.heap.get? b = some o → h'.get? b = some o) (T : Turn X.prog X.w X.K tg J fp it tn) (st : tn 0 h') (new : ∀ b ∈ fp, s.heap.objs.size ≤ b) (q : R J H) : PIE X pins σ tg R (.ref it) { s with heap := h' } :=
  ⟨it, fp, tn, J, H, rfl, I.kept (t' := s.toks) old, T, st, fun b m => I.fpOk (new b m) (I.hok.fresh (new b m)), q⟩
/-- pairs: when there is one, of what it is, when there is none any more -/
structure Prs where
  go : Nat → Hp → Prop
  are : Nat → Hp → V → V → Prop
  stop : Nat → Hp → Prop
def Prs.it (p : Prs) : It where
  go := p.go
  yld := fun i H v H' => ∃ T x y, v = .ref T ∧ H T = none ∧ H' = upd H T (.tup [x, y]) ∧ p.are i H x y
  stop := p.stop
/-- what the iterator that stands at i over the sequences as they are now does: the library's GoesN, with what its pairs are -/
def Does (P : Program) (w : World) (X : Cx) (tg : Expr) (p : Prs) (it : Addr) (wr : List Addr) (tn : Nat → Heap → Prop) (i : Nat) (H : Hp) (s : Shared) : Prop :=
  ∃ (n : Nat) (fp : List Addr) (Y : Nat → Heap → Value → Heap → Prop) (St : Nat → Heap → Prop), GoesN P w X.A tg it fp wr n Y St ∧ St i s.heap ∧ (∀ h, St (i + 1) h → tn (i + 1) h) ∧ (p.stop i H → i = n) ∧
    (p.go i H → i < n ∧ ∀ h0 v h, Y i h0 v h → ∃ T a b x y, v = .ref T ∧ h0.objs.size ≤ T ∧ h.IsTuple T #[a, b] ∧ RelV x a ∧ RelV y b ∧ p.are i H x y)
theorem turn_prs {P : Program} {w : World} {K : PySem.W.Frag} {tg : Expr} {it : Addr} {fp wr : List Addr} {tn : Nat → Heap → Prop} (p : Prs) (mine : it ∈ fp) (hwr : ∀ b ∈ wr, b ∈ fp)
    (obj : ∀ i h, tn i h → ∀ b ∈ fp, ∃ o, h.get? b = some o ∧ ∀ v, o.data ≠ .cell v) (keep : ∀ i h h', tn i h → (∀ b ∈ fp, ∀ o, h.get? b = some o → h'.get? b = some o) → tn i h')
    (self : ∀ (A : Around) (i : Nat) (s : Shared) (Q : Value → Shared → Prop) (E : Value → Shared → Prop), tn i s.heap → Q (.ref it) s → wpAny (model P w) A (pyIter (.ref it)) Q E s)
    (does : ∀ (X : Cx), X.prog = P → X.w = w → X.K = K → X.calm = true → ∀ i pins s σ H, Inv X pins σ H s → tn i s.heap → (p.go i H ∨ p.stop i H) → Does P w X tg p it wr tn i H s) : Turn P w K tg p.it fp it tn where
  mem := mine
  obj := obj
  keep := keep
  self := self
  item := fun X e1 e2 e3 calm i pins s σ H E I free st more => by
    obtain ⟨n, fp', Y, St, W, here, next, _, far⟩ := does X e1 e2 e3 calm i pins s σ H I st (.inl more)
    obtain ⟨lt, pair⟩ := far more
    refine W.goes i s (fun u s2 => ∃ x H', Inv X pins σ H' s2 ∧ RelV x u ∧ p.it.yld i H x H' ∧ tn (i + 1) s2.heap ∧ ∀ b ∈ fp, H' b = none) E lt here fun v h' tk told st' old _ => ?_
    obtain ⟨T, a, b, x, y, rfl, new, tup, ra, rb, are⟩ := pair _ _ _ told
    refine ⟨.ref T, upd H T (.tup [x, y]), I.turnedNew (ch := wr) old (fun c m => free c (hwr c m)) new ⟨by show 2 ≤ sizeLine; decide, [a, b], .cons ra (.cons rb .nil), tup⟩, rfl, ⟨T, x, y, rfl, I.hok.fresh new, rfl, are⟩, next _ st', fun c m => ?_⟩
    obtain ⟨o, ho, _⟩ := obj i _ st c m
    exact (upd_ne (Nat.ne_of_lt (Nat.lt_of_lt_of_le (Heap.lt_size ho) new))).trans (free c m).1
  done := fun X e1 e2 e3 calm i pins s σ H E I free st none => by
    obtain ⟨n, fp', Y, St, W, here, _, last, _⟩ := does X e1 e2 e3 calm i pins s σ H I st (.inr none)
    rw [last none] at here
    exact W.stops s (fun s1 => Inv X pins σ H s1) E here fun h' tk old _ => I.turnedL (ch := wr) old fun c m => free c (hwr c m)
/-! enumerate, from k0 on -/
def PrE (t : Bool) (k0 : Int) (K : PySem.W.Frag) (a : Addr) : Prs where
  go := fun i H => ∃ xs : List V, SqV t K H a xs ∧ i < xs.length
  are := fun i H x y => x = .int (k0 + (i : Nat)) ∧ ∀ xs, SqV t K H a xs → xs[i]? = some y
  stop := fun i H => ∃ xs : List V, SqV t K H a xs ∧ i = xs.length
def TnE (t : Bool) (k0 : Int) (a e it : Addr) (i : Nat) (h : Heap) : Prop := (∃ old, IsEnum h e it (k0 + (i : Int)) old) ∧ ItB t h it a i
theorem turn_e {P : Program} {w : World} {K : PySem.W.Frag} {elts : List Expr} {kk : Nat} {tpos : Pos} {t : Bool} {k0 : Int} {a e it : Addr} (hai : a ≠ it) (hae : a ≠ e) (hei : e ≠ it) :
    Turn P w K (.Tuple elts kk tpos) (PrE t k0 K a).it [e, it] e (TnE t k0 a e it) := by
  refine turn_prs (wr := [e, it]) _ (by simp) (fun _ m => m) (fun i h st b m => ?_) (fun i h h' st k => ?_) (fun A i s Q E st q => ?_) fun X e1 e2 e3 calm i pins s σ H I st told => ?_
  · obtain ⟨⟨_, he⟩, hi⟩ := st
    rcases List.mem_cons.mp m with z | m
    · exact z ▸ ⟨_, he, fun _ q => nomatch q⟩
    · exact List.mem_singleton.mp m ▸ hi.obj
  · obtain ⟨⟨old, he⟩, hi⟩ := st
    exact ⟨⟨old, k e (by simp) _ he⟩, hi.at fun o => k it (by simp) o⟩
  · exact wpAny_pyIter_enum st.1.choose_spec q
  · subst e1 e2 e3
    obtain ⟨xs, hq⟩ : ∃ xs : List V, SqV t X.K H a xs := told.elim (fun ⟨xs, q, _⟩ => ⟨xs, q⟩) fun ⟨xs, q, _⟩ => ⟨xs, q⟩
    obtain ⟨its, rv, there⟩ := sqv_get I hq
    have many : xs.length = its.toArray.size := by rw [List.size_toArray]; exact rv.length
    have D := draws (prog := X.prog) (w := X.w) (A := X.A.in1) (I.ok.hd calm) t hai its.toArray
    refine ⟨_, _, _, _, GoesN.enumFrom k0 D e hei (by simp; exact ⟨hei, Ne.symm hae⟩) (by simp), ⟨st.1, st.2, there⟩, fun h q => ⟨q.1, q.2.1⟩, fun ⟨ys, q, n⟩ => by rw [n, sqv_inj I q hq, many], fun ⟨ys, q, n⟩ => ⟨?_, ?_⟩⟩
    · rw [sqv_inj I q hq, many] at n; exact n
    · rintro h0 v h ⟨T, tk, u, rfl, new, hu, tup⟩
      have ix : i < xs.length := by rw [← sqv_inj I q hq]; exact n
      obtain ⟨u', hu', ru⟩ := rv.get (List.getElem?_eq_getElem ix)
      have same : u' = u := Option.some.inj (hu'.symm.trans (by simpa using hu))
      exact ⟨T, _, u, .int (k0 + (i : Nat)), xs[i], rfl, new, tup, ⟨tk, rfl⟩, same ▸ ru, rfl, fun zs hz => by rw [sqv_inj I hz hq]; exact List.getElem?_eq_getElem ix⟩
theorem walk_e {t : Bool} {k0 : Int} {K : PySem.W.Frag} {a : Addr} {xs : List V} : Walk (PrE t k0 K a).it xs.length (fun H => SqV t K H a xs) (YPair (fun i => some (.int (k0 + (i : Nat)))) (fun i => xs[i]?)) where
  goes := fun i H lt q => ⟨xs, q, lt⟩
  stops := fun H q => ⟨xs, q, rfl⟩
  yields := fun i H v H' _ q ⟨T, x, y, e1, e2, e3, e4, e5⟩ => ⟨T, x, y, e1, e2, e3, by rw [e4], e5 xs q⟩
/-- the two cells of an enumerate that was made just now -/
theorem pie_e {X : Cx} {pins : List (Addr × Obj)} {σ : L2.St} {H : Hp} {s : Shared} {elts : List Expr} {kk : Nat} {tpos : Pos} {t : Bool} {k0 : Int} {a : Addr} {xs : List V} {R : It → Hp → Prop} {h' : Heap} (I : Inv X pins σ H s) (hq : SqV t X.K H a xs)
    (he : IsEnum h' (s.heap.objs.size + 1) s.heap.objs.size k0 .none) (hi : h'.get? s.heap.objs.size = some (itO t a)) (old : ∀ b o, s.heap.get? b = some o → h'.get? b = some o) (q : R (PrE t k0 X.K a).it H) :
    wpAny (model X.prog X.w) X.A (pyIter (.ref (s.heap.objs.size + 1))) (PIE X pins σ (.Tuple elts kk tpos) R) X.xe { s with heap := h' } := by
  obtain ⟨its, _, there⟩ := sqv_get I hq
  have lt := there.lt
  refine wpAny_pyIter_enum he (begun I old (turn_e (t := t) (k0 := k0) (Nat.ne_of_lt lt) (Nat.ne_of_lt (Nat.lt_succ_of_lt lt)) (Nat.succ_ne_self _)) ⟨⟨.none, ?_⟩, itO_is hi⟩ (fun b m => ?_) q)
  · show IsEnum h' _ _ (k0 + 0) _
    rw [Int.add_zero]; exact he
  · rcases List.mem_cons.mp m with z | m
    · exact z ▸ Nat.le_succ _
    · exact Nat.le_of_eq (List.mem_singleton.mp m).symm
/-- enumerate of one thing, whatever its iterator is -/
theorem made_one {v : Value} {o : Obj} {G : Heap → Prop} (B : Begins v o G) : Meets (Builtin.«enumerate.__new__» ⟨[.type "enumerate", v], []⟩) (fun _ R s => G s.heap ∧
    R (.ok (.ret (.ref (s.heap.push o).objs.size))) { s with heap := (s.heap.push o).push { cls := .type "enumerate", data := .fields #[.none, .bool false, .ref s.heap.objs.size, rawInt 0, .none, .none] } }) := .of_wp fun prog w A R ⟨hp, g, dr, tk, os⟩ ⟨stands, ends⟩ => by
  have known := sub_enumerate
  have first : ∀ {A' : Around} {E Q : Value → Shared → Prop}, Q (.ref hp.objs.size) ⟨hp.push o, g, dr, tk, os⟩ → wpAny (model prog w) A' (pyIter v) Q E ⟨hp, g, dr, tk, os⟩ := fun q => B.iter prog w _ _ ⟨hp, g, dr, tk, os⟩ _ stands q
  wp_walk using first
  refine wpAny_stack_any (fun _ => wpAny_pure ?_)
  split
  next c _ _ _ _ _ => cases (c == Value.type "enumerate") <;> (wp_walk using first; exact ⟨_, rfl, ends⟩)
  next => wp_walk using first; exact ⟨_, rfl, ends⟩
theorem call_one {prog : Program} {w : World} {A : Around} {E : Value → Shared → Prop} {s : Shared} {v : Value} {o : Obj} {G : Heap → Prop} {Q : Value → Shared → Prop} (B : Begins v o G) (stands : G s.heap)
    (then_ : ∀ h', IsEnum h' (s.heap.objs.size + 1) s.heap.objs.size 0 .none → h'.get? s.heap.objs.size = some o → (∀ b o, s.heap.get? b = some o → h'.get? b = some o) → Q (.ref (s.heap.objs.size + 1)) { s with heap := h' }) :
    wpAny (model prog w) A (call (.type "enumerate") [v]) Q E s := by
  refine callType_new F.called_enumerate (by decide) (F.typeCall_enumerate_1 _) (F.newCall_enumerate_1 _) (fun obj => F.args_object_init_2 obj _) F.entry_enumerate_new (made_one B) ⟨stands, ?_⟩
  have n1 := Heap.size_push s.heap o
  have last : IsEnum ((s.heap.push o).push { cls := .type "enumerate", data := .fields #[.none, .bool false, .ref s.heap.objs.size, rawInt 0, .none, .none] }) (s.heap.objs.size + 1) s.heap.objs.size 0 .none := n1 ▸ Heap.get?_push_size (s.heap.push o) rfl
  refine n1.symm ▸ ⟨⟨_, last, rfl⟩, then_ _ last ?_ fun b u z => ?_⟩
  · exact Heap.get?_push_of_some _ (Heap.get?_push_size _ B.free)
  · exact Heap.get?_push_of_some _ (Heap.get?_push_of_some _ z)
end PairW
namespace EnumT
open PySem PySem.Spec PyProof.Rows L2 PairW
theorem walk_enumT {K : PySem.W.Frag} {a : Addr} {xs : List V} : Walk (PrE true 0 K a).it xs.length (fun H => SqT K H a xs) (YPair (fun i => some (.int (i : Nat))) (fun i => xs[i]?)) := by
  have w := walk_e (t := true) (k0 := 0) (K := K) (a := a) (xs := xs)
  simp only [Int.zero_add] at w
  exact w
def iEnumT (K : PySem.W.Frag) (ta : TA) : TI := fun σ H R => ta σ H fun vs H1 => ∃ a xs, vs = [.ref a] ∧ SqT K H1 a xs ∧ R (PrE true 0 K a).it H1
theorem pi_enumT {X : Cx} {e : Expr} {ta : TA} {p pos tpos : Pos} {elts : List Expr} {kk : Nat} (hg : Gl X "enumerate") (hm : X.mg "enumerate" = none) (ha : PA X [e] ta)
    (hs : starEach [e] X.env = [(false, eval e X.env)] := by rfl) : PI X (.Tuple elts kk tpos) (.Call (.Name "enumerate" p) [e] [] pos) (iEnumT X.K ta) where
  run := fun pins s σ H R I h => Call_ (ld_blt I hg hm boot_enumerate (PyProof.Rows.callWith_type1 (thn (ha.run pos pins s σ H _ I h) fun us s1 ⟨vs, H1, I1, rv, a, xs, e, hq, q⟩ => by
    subst e
    obtain ⟨_, rfl, rfl⟩ := vals1 rv
    obtain ⟨its, _, there⟩ := sqv_get (t := true) I1 hq
    exact call_one (begins true a its.toArray) there fun h' he hi old => pie_e (t := true) (xs := xs) I1 hq he hi old q) hs rfl))
end EnumT
/-! ### walks over what is a list or a tuple -/
namespace SeqW
open PySem PySem.Spec PySem.Calls PyProof.Rows L2
/-- what stands at a is as it was -/
def Keeps (a : Addr) (H H' : Hp) : Prop := ∀ o, H a = some o → H' a = some o
theorem keeps_v {t : Bool} {K : PySem.W.Frag} {H H' : Hp} {a : Addr} {xs : List V} (k : Keeps a H H') (h : PairW.SqV t K H a xs) : PairW.SqV t K H' a xs := by
  cases t <;> exact h.elim (fun h => .inl (h.elim (fun h => .inl (k _ h)) fun ⟨o, h⟩ => .inr ⟨o, k _ h⟩)) .inr
theorem keeps_l {K : PySem.W.Frag} {H H' : Hp} {a : Addr} {xs : List V} (k : Keeps a H H') (h : SqL K H a xs) : SqL K H' a xs := keeps_v (t := false) k h
theorem keeps_t {K : PySem.W.Frag} {H H' : Hp} {a : Addr} {xs : List V} (k : Keeps a H H') (h : SqT K H a xs) : SqT K H' a xs := keeps_v (t := true) k h
theorem keeps_same {a : Addr} {H H' : Hp} (s : Same H H') : Keeps a H H' := fun o h => s a o h
theorem ix_seqK {X : Cx} {K : PySem.W.Frag} (h : X.K = K) : IxR X (rIx K) := by
  subst h
  exact ix_seq
def iSeq (K : PySem.W.Frag) (tl : TE) : TI := fun σ H R => tl σ H fun x H1 => ∃ a xs, x = .ref a ∧ ∃ Kp : Hp → Prop, ((∀ H', Kp H' → SqL K H' a xs) ∨ (∀ H', Kp H' → SqT K H' a xs)) ∧ Kp H1 ∧ ∀ (J : It) (G : Hp → Prop), Walk J xs.length G (YAt xs) → (∀ H', Kp H' → G H') → R J H1
theorem pi_seq {X : Cx} {tg l : Expr} {tl : TE} (hl : PE X l tl) : PI X tg l (iSeq X.K tl) where
  run := fun pins s σ H R I h => thn (hl.run pins s σ H _ I h) fun v s1 ⟨x, H1, I1, rv, a, xs, e, Kp, side, kp, q⟩ => by
    subst e
    cases rv
    have new : ∀ b ∈ [s1.heap.objs.size], s1.heap.objs.size ≤ b := fun b m => Nat.le_of_eq (List.mem_singleton.mp m).symm
    rcases side with is | is
    · obtain ⟨its, _, there, _⟩ := I1.list (is _ kp)
      exact wpAny_pyIter_list there.isList (PairW.begun I1 (fun _ _ => Heap.get?_push_of_some _) (turn_list a _) ⟨_, Heap.get?_push_size _ rfl, rfl, rfl⟩ new (q _ _ walk_list is))
    · obtain ⟨its, _, there, _⟩ := I1.tuple (is _ kp)
      exact wpAny_pyIter_tuple (show s1.heap.IsTuple a its.toArray from there) (PairW.begun I1 (fun _ _ => Heap.get?_push_of_some _) (turn_tuple a _) ⟨_, Heap.get?_push_size _ rfl, rfl, rfl⟩ new (q _ _ walk_tup is))
def iEnumA (K : PySem.W.Frag) (ta : TA) : TI := fun σ H R => ta σ H fun vs H1 => ∃ a xs, vs = [.ref a] ∧ ∃ Kp : Hp → Prop, ((∀ H', Kp H' → SqL K H' a xs) ∨ (∀ H', Kp H' → SqT K H' a xs)) ∧ Kp H1 ∧ ∀ (J : It) (G : Hp → Prop), Walk J xs.length G (YPair (fun i => some (.int (i : Nat))) (fun i => xs[i]?)) → (∀ H', Kp H' → G H') → R J H1
theorem pi_enumA {X : Cx} {e : Expr} {ta : TA} {p pos tpos : Pos} {elts : List Expr} {kk : Nat} (hg : Gl X "enumerate") (hm : X.mg "enumerate" = none) (ha : PA X [e] ta)
    (hs : starEach [e] X.env = [(false, eval e X.env)] := by rfl) : PI X (.Tuple elts kk tpos) (.Call (.Name "enumerate" p) [e] [] pos) (iEnumA X.K ta) where
  run := fun pins s σ H R I h => Call_ (ld_blt I hg hm boot_enumerate (PyProof.Rows.callWith_type1 (thn (ha.run pos pins s σ H _ I h) fun us s1 ⟨vs, H1, I1, rv, a, xs, e, Kp, side, kp, q⟩ => by
    subst e
    obtain ⟨_, rfl, rfl⟩ := vals1 rv
    have go : ∀ t : Bool, (∀ H', Kp H' → PairW.SqV t X.K H' a xs) → wpAny (model X.prog X.w) X.A (call (.type "enumerate") [.ref a]) (fun v s2 => wpAny (model X.prog X.w) X.A (pyIter v) (PIE X pins σ (.Tuple elts kk tpos) R) X.xe s2) X.xe s1 := fun t is => by
      obtain ⟨its, _, there⟩ := PairW.sqv_get I1 (is _ kp)
      have w := PairW.walk_e (t := t) (k0 := 0) (K := X.K) (a := a) (xs := xs)
      simp only [Int.zero_add] at w
      exact PairW.call_one (PairW.begins t a its.toArray) there fun h' he hi old => PairW.pie_e (xs := xs) I1 (is _ kp) he hi old (q _ _ w is)
    exact side.elim (go false) (go true)) hs rfl))
end SeqW
/-! ### len and == of an instance by its class's own methods -/
namespace OwnI
open PySem PySem.Spec PySem.Calls PyProof.Rows L2
section
variable {X : Cx} {CX : CXT} {k : Nat} {C f : Addr} {fd : FuncData} {ps : List Str} {sp : Sp} {E : XK}
theorem call_lenO (_c : Cls X.K C) (hm : Meth X.K C "__len__" f) (F : FnOk X.prog X.w X.K X.mg X.base CX0 k f fd ps sp) (hr : Room (k + 1) X.A) (hb : Binds X.K fd ps []) :
    CallR X (.builtin "len") (fun xs H Q => ∃ a dx fs, xs = [.ref a] ∧ H a = some (.ins C dx fs) ∧ sp [.ref a] H (fun v H' => ∃ n : Nat, v = .int n ∧ n ≤ sizeLine ∧ Q (.int n) H') E0) := by
  intro pins s σ H xs us Q I r h
  obtain ⟨a, dx, fs, rfl, ha, hsp⟩ := h
  obtain ⟨u, rfl, ru⟩ := vals1 r
  cases (show u = Value.ref a from ru)
  obtain ⟨mA, J, _⟩ := ins_get I.hok ha
  obtain ⟨od, J, _⟩ := J.look
  obtain ⟨m, hF⟩ := I.fr
  refine PySem.W.len_K hF I.ok.mod.kin J hm.at_ hm.fn ?_
  have hl := F.len _ _ _ _ hsp
  have r2 : Vals [V.ref a] [Value.ref a] := .cons rfl .nil
  refine wpAny_call (codeAny_mono (F.run X.A.in1 X.stack s H ⟨[.ref a], []⟩ [.ref a] [.ref a] _ E0 hr.in1 I.env0.in1 (by
    have := hb s [.ref a] I.kIn (by simpa using hl)
    simpa using this) r2 hsp) fun r s' hq => ?_)
  cases r with
  | error e => exact hq.elim
  | ok fl =>
    cases fl with
    | ret w =>
      obtain ⟨z, H', I', rz, n, ez, hn, q⟩ := I.after hq
      subst ez
      obtain ⟨t, rfl⟩ := rz
      have h63 : (n : Int) < 2 ^ 63 := by
        have : sizeLine = 16777216 := sizeLine_eq
        omega
      exact ⟨⟨Int.natCast_nonneg n, h63⟩, .int n, H', I'.tok _, ⟨_, rfl⟩, q⟩
    | next => exact False.elim hq
    | brk => exact False.elim hq
    | cont => exact False.elim hq
end
end OwnI
namespace OwnI
open PySem PySem.Spec PySem.Calls PyProof.Rows L2
theorem funD_ok {P : Program} {w : World} {K : PySem.W.Frag} {mg : Str → Option Value} {base : Heap} {x qual : Str} {params : Arguments} {body : List Stmt} {scope : Scope} {dvs : List V} {kws : List (Str × V)} {f : Addr} {fd : FuncData} {N ps : List Str} {k : Nat} {sp : Sp} (F : FunD K x qual params body scope dvs kws f fd) (S : FnScope N ps scope) (len : ∀ vs H Q E, sp vs H Q E → vs.length = ps.length)
    (hbody : ∀ (cdv : Value) (A : Around) (outer : List Env) (s : Shared) (H : Hp) (vs : List V) (Q : VK) (E : XK), Room k (A.deeper (envOfC qual scope s.heap.objs.size f cdv)) → sp vs H Q E →
      ∃ t, PSs (cxOf CX0 P w K mg base N qual scope f cdv A outer s H E).nox body t ∧ t { nx := fun _ H' => Q .non H', rt := Q } (start N vs) H) : FnOk P w K mg base CX0 (k + 1) f fd ps sp :=
  FunD.ok F S len fun cdv A outer s H vs Q E hr hsp => by
    obtain ⟨t, h, q⟩ := hbody cdv A outer s H vs Q E hr hsp
    exact ⟨t, h.nox, q⟩
end OwnI
/-! ### tuples whose object is known: their methods may be called -/
namespace OwnI
open PySem PySem.Spec PySem.Calls PyProof.Rows L2
def PlainT (o : Obj) : Prop := o.cls = .type "tuple" ∧ o.dict = none
section
variable {X : Cx}
def rTupFrz (K : PySem.W.Frag) : List V → Hp → VK → Prop := fun xs H Q => ∃ p ys, xs = [.ref p] ∧ SqL K H p ys ∧ ∀ l o, PlainT o → H l = none → Q (.ref l) (upd H l (.frz o (.tup ys)))
theorem call_tuple_frz : CallR X (.type "tuple") (rTupFrz X.K) := by
  intro pins s σ H xs us Q I r h
  obtain ⟨p, ys, rfl, hq, q⟩ := h
  obtain ⟨u, rfl, rx⟩ := vals1 r
  cases rx
  obtain ⟨its, r', pl, hz⟩ := I.list hq
  have hlen := r'.length
  refine call_tuple_list pl.isList (fun h' kp => ?_) (by simp only [List.size_toArray] <;> omega)
  have I1 : Inv X pins σ H { s with heap := h' } := I.kept (t' := s.toks) kp
  have I2 : Inv X pins σ (upd H h'.objs.size (.frz { cls := .type "tuple", data := .seq its.toArray } (.tup ys))) { s with heap := h'.push { cls := .type "tuple", data := .seq its.toArray } } :=
    I1.laid (t' := s.toks) (fun b o e => Heap.get?_push_of_some _ e) (Nat.le_refl _) (show ObjOk X.prog X.w _ _ _ (.frz _ (.tup ys)) from ⟨Heap.get?_push_size _ rfl, hz, its, r', IsTup.new _ _⟩)
  exact ⟨.ref h'.objs.size, _, I2, rfl, q _ _ ⟨rfl, rfl⟩ (I1.hok.fresh (Nat.le_refl _))⟩
def tBMF (r : V → List V → Hp → VK → Prop) (to : TE) (t : TA) : TE := fun σ H Q => to σ H fun x H1 => (∃ p o u, x = .ref p ∧ H1 p = some (.frz o u) ∧ PlainT o) ∧ t σ H1 fun xs H2 => r x xs H2 Q
variable {o e : Expr} {es : List Expr} {to : TE} {t : TA} {name : Str} {apos cpos : Pos} {id : String} {r : V → List V → Hp → VK → Prop}
theorem pe_bmF (pa : PlainAttrs "tuple") (slot : Slot "tuple" name id) (hty : typeOf (.builtin id) = pure (.type "method_descriptor")) (hm : MtR X id r) (ho : PE X o to) (ha : PA X (e :: es) t)
    (hbase : attributeBase o name X.env (eval o X.env) = eval o X.env := by rfl)
    (hfew : ((backTo cpos (starEach (e :: es) X.env)).all (fun x => !x.1) && (backToKw cpos (keywordEach [] X.env)).all (fun x => x.1.isSome)
      && decide ((e :: es).length + ([] : List Keyword).length + (if ([] : List Keyword).isEmpty then 0 else 1) < 30)) = true := by rfl)
    (hline : (apos.endLine == cpos.line) = true := by rfl) (hs : starEach (e :: es) X.env = (false, eval e X.env) :: starEach es X.env := by rfl) (hplain : (backTo cpos (starEach es X.env)).any (·.1) = false := by rfl) :
    PE X (.Call (.Attribute o name apos) (e :: es) [] cpos) (tBMF r to t) := by
  refine ⟨fun pins s σ H Q I h => ?_⟩
  refine wpAny_Call_method_late hbase hfew hline rfl (thn (ho.run pins s σ H _ I h) fun v s1 ⟨x, H1, I1, r1, ty, q1⟩ => ?_)
  obtain ⟨p, ob, u, rfl, hp, hc, hd⟩ := ty
  have ev : v = .ref p := r1
  subst ev
  have hg := (I1.hok p _ hp).1
  refine ⟨"tuple", id, pa, slot, hty, ⟨_, hg, hc⟩, (fun a e => by cases e; exact ⟨ob, hg, hd⟩), ?_⟩
  have hA := ha.run cpos pins s1 σ H1 _ I1 q1
  rw [hs] at hA ⊢
  refine Calls.callWith_builtin (by show (false || (backTo cpos (starEach es X.env)).any (·.1)) = false; rw [hplain] <;> rfl) (Calls.evalArgs_plain ?_)
  exact thn hA fun us s2 ⟨vs, H2, I2, r2, q2⟩ => hm pins s2 σ H2 _ vs _ us Q I2 r1 r2 q2
end
end OwnI
/-! ### names unpacked from a list or a tuple; comprehensions with two fors -/
namespace SeqW
open PySem PySem.Spec PySem.Calls PyProof.Rows L2
def gAny (K : PySem.W.Frag) (n : Nat) (t : TGs) : TG := fun v σ H Q => ∃ a xs, v = .ref a ∧ (SqL K H a xs ∨ SqT K H a xs) ∧ xs.length = n ∧ t xs σ H Q
theorem pg_any {X : Cx} {pos : Pos} {es : List Expr} {k : Nat} {t : TGs} {n : Nat} (hc : X.calm = true) (h : PGs X es t)
    (hn : (assignEach es X.env).length = n := by rfl) (hst : (assignEach es X.env).findIdx? (·.1) = none := by rfl) : PG X (.Tuple es k pos) (gAny X.K n t) := by
  refine ⟨fun pins s σ H v u Q I r hw => ?_⟩
  obtain ⟨a, xs, e1, hq, hl, hw⟩ := hw
  rcases hq with hq | hq
  · exact (pg_unl hc h hn hst).run pins s σ H v u Q I r ⟨a, xs, e1, hq, hl, hw⟩
  · exact (pg_tup hc h hn hst).run pins s σ H v u Q I r ⟨a, xs, e1, hq, hl, hw⟩
section
variable {J J1 : It} {n n1 : Nat} {G G1 : Hp → Prop} {Y Y1 : Nat → Hp → V → Hp → Prop} {g g1 : TG} {tt tt1 : TT} {te : TE} {wi1 : TI} {vs vs1 : List Nat} {σ σ2 : L2.St} {H1 H4 : Hp} {D : Addr} {Qd : Hp → Prop}
theorem lc2_it (w : Walk J n G Y) (Pv : Nat → Hp → Prop) (h0 : Pv 0 (upd H1 D (.lst []))) (hG : ∀ i H, i ≤ n → Pv i H → G H)
    (hs : ∀ i x H H', i < n → Pv i H → Y i H x H' → g x (wipe σ vs) H' fun σ2 H2 => wipe σ2 vs = wipe σ vs ∧ tt σ2 H2 fun b H3 =>
      if b = true then wi1 σ2 H3 fun J1 H4 => ∃ W1 : Nat → Nat → Hp → Prop, (∃ m, W1 0 m H4) ∧ ∀ j k H, W1 j k H →
      (J1.stop j H ∧ Pv (i + 1) H) ∨ (J1.go j H ∧ ∃ Nx1 : Hp → Prop, (∀ H', Nx1 H' → ∃ k', k' < k ∧ W1 (j + 1) k' H') ∧ ∀ x H', J1.yld j H x H' → g1 x (wipe σ2 vs1) H' fun σ3 H5 => wipe σ3 vs1 = wipe σ2 vs1 ∧ tt1 σ3 H5 fun b H6 =>
        if b = true then te σ3 H6 fun y H7 => ∃ acc, H7 D = some (.lst acc) ∧ acc.length < sizeLine ∧ Nx1 (upd H7 D (.lst (acc ++ [y]))) else Nx1 H6)
      else Pv (i + 1) H3) (hd : ∀ H, Pv n H → Qd H) :
    ∃ W : Nat → Nat → Hp → Prop, (∃ m, W 0 m (upd H1 D (.lst []))) ∧ ∀ i m H, W i m H →
  (J.stop i H ∧ Qd H) ∨ (J.go i H ∧ ∃ Nx : Hp → Prop, (∀ H', Nx H' → ∃ m', m' < m ∧ W (i + 1) m' H') ∧ ∀ x H', J.yld i H x H' → g x (wipe σ vs) H' fun σ2 H2 => wipe σ2 vs = wipe σ vs ∧ tt σ2 H2 fun b H3 =>
    if b = true then wi1 σ2 H3 fun J1 H4 => ∃ W1 : Nat → Nat → Hp → Prop, (∃ m, W1 0 m H4) ∧ ∀ j k H, W1 j k H →
      (J1.stop j H ∧ Nx H) ∨ (J1.go j H ∧ ∃ Nx1 : Hp → Prop, (∀ H', Nx1 H' → ∃ k', k' < k ∧ W1 (j + 1) k' H') ∧ ∀ x H', J1.yld j H x H' → g1 x (wipe σ2 vs1) H' fun σ3 H5 => wipe σ3 vs1 = wipe σ2 vs1 ∧ tt1 σ3 H5 fun b H6 =>
        if b = true then te σ3 H6 fun y H7 => ∃ acc, H7 D = some (.lst acc) ∧ acc.length < sizeLine ∧ Nx1 (upd H7 D (.lst (acc ++ [y]))) else Nx1 H6)
    else Nx H3) := by
  refine ⟨fun i m H => m = n - i ∧ i ≤ n ∧ Pv i H, ⟨n, by simp, Nat.zero_le _, h0⟩, ?_⟩
  rintro i m H ⟨rfl, hi, p⟩
  have q := hG i H hi p
  by_cases hlt : i < n
  · exact .inr ⟨w.goes i H hlt q, Pv (i + 1), fun H' p' => ⟨n - (i + 1), by omega, rfl, hlt, p'⟩, fun x H' y => hs i x H H' hlt p (w.yields i H x H' hlt q y)⟩
  · have e : i = n := by omega
    subst e
    exact .inl ⟨w.stops H q, hd H p⟩
theorem lc2_in (w : Walk J1 n1 G1 Y1) (Pv : Nat → Hp → Prop) (h0 : Pv 0 H4) (hG : ∀ i H, i ≤ n1 → Pv i H → G1 H)
    (hs : ∀ j x H H', j < n1 → Pv j H → Y1 j H x H' → g1 x (wipe σ2 vs1) H' fun σ3 H5 => wipe σ3 vs1 = wipe σ2 vs1 ∧ tt1 σ3 H5 fun b H6 =>
        if b = true then te σ3 H6 fun y H7 => ∃ acc, H7 D = some (.lst acc) ∧ acc.length < sizeLine ∧ Pv (j + 1) (upd H7 D (.lst (acc ++ [y]))) else Pv (j + 1) H6) (hd : ∀ H, Pv n1 H → Qd H) :
    ∃ W1 : Nat → Nat → Hp → Prop, (∃ m, W1 0 m H4) ∧ ∀ j k H, W1 j k H →
      (J1.stop j H ∧ Qd H) ∨ (J1.go j H ∧ ∃ Nx1 : Hp → Prop, (∀ H', Nx1 H' → ∃ k', k' < k ∧ W1 (j + 1) k' H') ∧ ∀ x H', J1.yld j H x H' → g1 x (wipe σ2 vs1) H' fun σ3 H5 => wipe σ3 vs1 = wipe σ2 vs1 ∧ tt1 σ3 H5 fun b H6 =>
        if b = true then te σ3 H6 fun y H7 => ∃ acc, H7 D = some (.lst acc) ∧ acc.length < sizeLine ∧ Nx1 (upd H7 D (.lst (acc ++ [y]))) else Nx1 H6) := by
  refine ⟨fun i m H => m = n1 - i ∧ i ≤ n1 ∧ Pv i H, ⟨n1, by simp, Nat.zero_le _, h0⟩, ?_⟩
  rintro i m H ⟨rfl, hi, p⟩
  have q := hG i H hi p
  by_cases hlt : i < n1
  · exact .inr ⟨w.goes i H hlt q, Pv (i + 1), fun H' p' => ⟨n1 - (i + 1), by omega, rfl, hlt, p'⟩, fun x H' y => hs i x H H' hlt p (w.yields i H x H' hlt q y)⟩
  · have e : i = n1 := by omega
    subst e
    exact .inl ⟨w.stops H q, hd H p⟩
end
end SeqW
namespace SeqW
open PySem PySem.Spec PySem.Calls PyProof.Rows L2
/-- xs[i], as xs[i] += e reads it -/
theorem get_list {X : Cx} : PGet X (fun x y H Q => ∃ p xs i v, x = .ref p ∧ y = .int (i : Nat) ∧ SqL X.K H p xs ∧ xs[i]? = some v ∧ Q v H) := by
  intro pins s σ H x y v u Q I rx ry h
  obtain ⟨p, xs, i, z, rfl, rfl, hq, he, q⟩ := h
  cases rx
  obtain ⟨t, rfl⟩ := ry
  obtain ⟨its, r, pl, hz⟩ := I.list hq
  obtain ⟨w, ew, rw'⟩ := r.get he
  have hl := r.length
  have hn := line63
  have hi := (List.getElem?_eq_some_iff.mp he).1
  exact wpAny_getItem_list pl.isList (Int.natCast_nonneg i) (by omega) (by rw [Int.toNat_natCast]; simpa using ew) ⟨z, H, I, rw', q⟩
end SeqW
namespace SeqW
open PySem PySem.Spec PySem.Calls PyProof.Rows L2
theorem notIn_K {X : Cx} {K : PySem.W.Frag} (h : X.K = K) : OpR X (compareOp .NotIn) (rIn K true) := by
  subst h
  exact op_notIn_seq
theorem in_K {X : Cx} {K : PySem.W.Frag} (h : X.K = K) : OpR X (compareOp .In) (rIn K false) := by
  subst h
  exact op_in_seq
end SeqW
/-! ### rules for what stands in a comprehension within another one -/
namespace SeqK
open PySem PySem.Spec PyProof.Rows L2
theorem pi_seqK {X : Cx} {K : PySem.W.Frag} {tg l : Expr} {tl : TE} (h : X.K = K) (hl : PE X l tl) : PI X tg l (SeqW.iSeq K tl) := by
  subst h
  exact SeqW.pi_seq hl
def rJoin (K : PySem.W.Frag) : V → List V → Hp → VK → Prop := fun x xs H Q => ∃ a p, ∃ ys : List Str, x = .str a ∧ xs = [.ref p] ∧ (SqL K H p (ys.map V.str) ∨ SqT K H p (ys.map V.str)) ∧ (ys.map (·.length)).sum + ys.length * a.length ≤ 16777216 ∧ Q (.str (Txt.join a ys)) H
theorem joinK {X : Cx} {K : PySem.W.Frag} (h : X.K = K) : MtR X "str.join" (rJoin K) := by
  subst h
  exact mt_join
section
variable {X : Cx} {K : PySem.W.Frag} {T id : String} {name : Str} {o e : Expr} {es : List Expr} {apos cpos : Pos} {r : V → List V → Hp → VK → Prop} {to : TE} {t : TA}
theorem pe_bmK (h : X.K = K) (pa : PlainAttrs T) (slot : Slot T name id) (hty : typeOf (.builtin id) = pure (.type "method_descriptor")) (hm : MtR X id r) (ho : PE X o to) (ha : PA X [e] t) (hbase : attributeBase o name X.env (eval o X.env) = eval o X.env := by rfl)
    (few : ((backTo cpos (starEach [e] X.env)).all (fun x => !x.1) && (backToKw cpos (keywordEach [] X.env)).all (fun x => x.1.isSome) && decide (([e] : List Expr).length + ([] : List Keyword).length + (if ([] : List Keyword).isEmpty then 0 else 1) < 30)) = true := by rfl)
    (line : (apos.endLine == cpos.line) = true := by rfl) (stars : starEach [e] X.env = (false, eval e X.env) :: starEach [] X.env := by rfl) (plain : (backTo cpos (starEach [] X.env)).any (·.1) = false := by rfl) : PE X (.Call (.Attribute o name apos) [e] [] cpos) (tBM K T r to t) := by
  subst h
  exact pe_bm pa slot hty hm ho ha hbase few line stars plain
end
end SeqK
/-! ### sorted(rows): tuples that begin with a text, rows of one text alike behind it -/
namespace SrtSP
open PySem PyProof.Rows Srt SrtO
section
variable {prog : Program} {w : World} {A : Around} {E : Value → Shared → Prop} {s : Shared}
def ltS (x y : Str) : Bool := decide (x.cps.toList < y.cps.toList)
theorem swoS {α : Type} (k : α → Str) : Swo (fun x y => ltS (k x) (k y)) where
  asym := fun x y h => decide_eq_false (List.lt_asymm (of_decide_eq_true h))
  tr := fun x y z h1 h2 => decide_eq_false (List.not_lt.mpr (List.le_trans (List.not_lt.mp (of_decide_eq_false h1)) (List.not_lt.mp (of_decide_eq_false h2))))
theorem ltS_self (x : Str) : ltS x x = false := decide_eq_false (List.lt_irrefl _)
/-- texts and references: each of them is like itself -/
def Flat (u : Value) : Prop := (∃ z t, u = .str z t) ∨ ∃ a, u = .ref a
theorem flat_eq {u : Value} {Q : Bool → Shared → Prop} (f : Flat u) (h : Q true s) : wpAny (model prog w) A (eqBool u u) Q E s := by
  rcases f with ⟨z, t, rfl⟩ | ⟨a, rfl⟩
  · refine SeqAt.EqAt.str_str z t z t prog w _ _ ?_
    rw [beq_self_eq_true z]
    exact h
  · have e : (Value.ref a == Value.ref a) = true := beq_self_eq_true _
    unfold eqBool
    exact wpAny_holding (by rw [e]; exact wpAny_bind (wpAny_rule (wpAny_pure h)))
theorem flat_lex {Q : Bool → Shared → Prop} (hq : Q false s) : ∀ (us : List Value) (i : Nat), (∀ u ∈ us, Flat u) → PySem.W.KatLex prog w A true false Q (us.zip us) i s
  | [], _, _ => PySem.W.kat_nil hq
  | u :: us, i, f => PySem.W.kat_cons (flat_eq (f u List.mem_cons_self) (PySem.W.kat_yes (flat_lex hq us (i + 1) fun v m => f v (List.mem_cons_of_mem _ m))))
/-- the tuple of the text z and of us -/
def RowAt (h : Heap) (v : Value) (z : Str) (us : List Value) : Prop := ∃ a o t n, v = .ref a ∧ h.get? a = some o ∧ o.cls = .type "tuple" ∧ o.data = .seq (Value.str z t :: us).toArray n
structure Rws (h : Heap) (vs : List Value) (k : Value → Str) (r : Value → List Value) : Prop where
  row : ∀ v ∈ vs, RowAt h v (k v) (r v)
  flat : ∀ v ∈ vs, ∀ u ∈ r v, Flat u
  one : ∀ v ∈ vs, ∀ u ∈ vs, k v = k u → r v = r u
variable {vs : List Value} {k : Value → Str} {r : Value → List Value}
theorem Rws.keeps {h h' : Heap} (R : Rws h vs k r) (keep : ∀ b o, h.get? b = some o → o.cls = .type "tuple" → h'.get? b = some o) : Rws h' vs k r where
  row := fun v m => by
    obtain ⟨a, o, t, n, e, ho, hc, hd⟩ := R.row v m
    exact ⟨a, o, t, n, e, keep _ _ ho hc, hc, hd⟩
  flat := R.flat
  one := R.one
theorem row_less {v u : Value} {x y : Str} {us vs : List Value} (h1 : RowAt s.heap v x us) (h2 : RowAt s.heap u y vs) (f : ∀ c ∈ us, Flat c) (one : x = y → us = vs) : wpAny (model prog w) A (keyLt' (tuples' true) v u) (fun z s' => s' = s ∧ z = ltS x y) (fun _ _ => False) s := by
  obtain ⟨a, o, t, n, rfl, ho, -, hd⟩ := h1
  obtain ⟨a', o', t', n', rfl, ho', -, hd'⟩ := h2
  refine PySem.W.kat_lt ho hd ho' hd' (PySem.W.kat_cons (SeqAt.EqAt.str_str x t y t' prog w _ _ ?_))
  cases e : x == y
  · exact PySem.W.kat_no (oneLt_str ⟨rfl, rfl⟩)
  · have alike := eq_of_beq e
    cases alike
    cases one rfl
    refine PySem.W.kat_yes ?_
    simp only [List.size_toArray, List.length_cons, Nat.lt_irrefl, decide_false]
    exact flat_lex ⟨rfl, (ltS_self x).symm⟩ us 1 f
theorem rows_firsts {h : Heap} : ∀ {vs : List Value}, (∀ v ∈ vs, ∃ z us, RowAt h v z us) → ∃ fs : List Value, PySem.W.KatTups h vs fs ∧ fs.length = vs.length ∧ ∀ c ∈ fs, ∃ z t, c = Value.str z t
  | [], _ => ⟨_, .nil, rfl, by simp⟩
  | v :: vs, told => by
    obtain ⟨fs, tups, same, texts⟩ := rows_firsts fun u m => told u (List.mem_cons_of_mem v m)
    obtain ⟨z, us, a, o, t, n, rfl, ho, hc, hd⟩ := told v List.mem_cons_self
    exact ⟨_, .cons ho hc hd rfl tups, congrArg Nat.succ same, fun c m => (List.mem_cons.mp m).elim (fun e => ⟨z, t, e⟩) (texts c)⟩
theorem rows_sortable {a : Addr} (some_ : 0 < vs.length) (R : Rws s.heap vs k r) (ha : ∀ o, s.heap.get? a = some o → o.cls ≠ .type "tuple") : SortableO prog w A s a vs fun v u => ltS (k v) (k u) := fun h' keep => by
  have R' : Rws h' vs k r := R.keeps fun b o e c => keep b o (fun z => ha o (z ▸ e) c) e
  obtain ⟨fs, tups, same, texts⟩ := rows_firsts fun v m => ⟨_, _, R'.row v m⟩
  refine ⟨tuples' true, fun Q E hq => PySem.W.kat_kind (T := .type "str") tups (by omega) (fun c m => ?_) (by rfl) ?_, fun p q mp mq => row_less (R'.row _ mp) (R'.row _ mq) (R'.flat _ mp) (R'.one _ mp _ mq)⟩
  · obtain ⟨z, t, rfl⟩ := texts c m
    exact PySem.W.Looks.now
  · have e : (Value.type "str" != Value.type "tuple") = true := by first | decide +kernel | rfl | decide
    exact e ▸ hq
theorem sorted_rows {l : Addr} {Q : Value → Shared → Prop} (hl : s.heap.IsList l vs.toArray) (hz : vs.length ≤ sizeLine) (R : Rws s.heap vs k r)
    (done : ∀ (h' : Heap) (d : Addr) (out : List Value), Srtd (fun v u => ltS (k v) (k u)) out → Stb (fun v u => ltS (k v) (k u)) out vs → (∀ b o, s.heap.get? b = some o → h'.get? b = some o) → s.heap.objs.size ≤ d → (∃ n, h'.get? d = some (seqObj "list" out.toArray n)) → Q (.ref d) { s with heap := h' }) :
    wpAny (model prog w) A (call (.builtin "sorted") [.ref l]) Q E s := by
  refine sorted_ord (swoS k) hl hz (fun two h₁ a at_ keep => rows_sortable (r := r) (s := { s with heap := h₁ }) (by omega) (R.keeps fun b o e _ => (keep b o e).2) fun o e c => ?_) fun out hs hb => done _ _ out hs hb (fun _ _ => sortedAll_old) (Nat.le_succ _) (sortedAll_at s.heap vs out.toArray)
  cases (e.symm.trans at_ : some o = some (seqObj "list" vs.toArray 0))
  exact absurd (Value.type.inj c) (by decide)
end
/-- what stands behind the first thing of the tuple at v -/
def restOf (h : Heap) (v : Value) : List Value := match v with
  | .ref a => match h.get? a with
    | some o => match o.data with
      | .seq its _ => its.toList.tail
      | _ => []
    | none => []
  | _ => []
theorem restOf_at {h : Heap} {a : Addr} {o : Obj} {c : Value} {us : List Value} {n : Nat} (ho : h.get? a = some o) (hd : o.data = .seq (c :: us).toArray n) : restOf h (.ref a) = us := by simp [restOf, ho, hd]
end SrtSP
namespace L2
open PySem PySem.Spec PyProof.Rows
def FlatV (y : V) : Prop := (∃ z, y = V.str z) ∨ ∃ a, y = V.ref a
theorem vals_flat {ys : List V} {us : List Value} (r : Vals ys us) (f : ∀ y ∈ ys, FlatV y) : ∀ u ∈ us, SrtSP.Flat u := by
  induction r with
  | nil => simp
  | @cons y u ys us here _ ih =>
    intro c m
    rcases List.mem_cons.mp m with e | m
    · subst e
      rcases f y List.mem_cons_self with ⟨z, e⟩ | ⟨a, e⟩ <;> subst e
      · obtain ⟨t, e⟩ := here
        exact .inl ⟨z, t, e⟩
      · exact .inr ⟨a, here⟩
    · exact ih (fun y m => f y (List.mem_cons_of_mem _ m)) c m
/-- sorted of rows in our own heap: k tells the text that each begins with, g what stands behind it -/
theorem sorted_by {X : Cx} {pins : List (Addr × Obj)} {σ : St} {H : Hp} {s : Shared} {a : Addr} {xs : List V} {k : V → Str} {g : V → List V} {Q : VK} (I : Inv X pins σ H s) (hs : SqL X.K H a xs)
    (row : ∀ x ∈ xs, ∃ t, x = V.ref t ∧ H t = some (.tup (V.str (k x) :: g x))) (flat : ∀ x ∈ xs, ∀ y ∈ g x, FlatV y) (one : ∀ x ∈ xs, ∀ y ∈ xs, k x = k y → x = y ∨ ∃ b, g x = [.ref b] ∧ g y = [.ref b])
    (q : ∀ ys p, SrtO.Srtd (fun x y => SrtSP.ltS (k x) (k y)) ys → ys.Perm xs → H p = none → Q (.ref p) (upd H p (.lst ys))) : wpAny (model X.prog X.w) X.A (call (.builtin "sorted") [.ref a]) (EP X pins σ Q) X.xe s := by
  obtain ⟨its, rv, there, small⟩ := I.list hs
  obtain ⟨back, refs⟩ := refs_back rv fun x m => (row x m).imp fun _ p => p.1
  have mem : ∀ v ∈ its, backV v ∈ xs := fun v m => back ▸ List.mem_map_of_mem m
  have at_ : ∀ v ∈ its, ∃ c o t us n, v = Value.ref c ∧ backV v = V.ref c ∧ s.heap.get? c = some o ∧ o.cls = .type "tuple" ∧ o.data = .seq (Value.str (k (backV v)) t :: us).toArray n ∧ Vals (g (backV v)) us ∧ SrtSP.restOf s.heap v = us := fun v m => by
    obtain ⟨c, e⟩ := refs v m
    subst e
    obtain ⟨t, e, told⟩ := row _ (mem _ m)
    cases e
    obtain ⟨_, all, rr, o, ho, hc, n, hd⟩ := I.hok _ _ told
    cases (show Vals (V.str _ :: g _) all from rr) with
    | cons r1 rs =>
      obtain ⟨tk, e⟩ := r1
      subst e
      exact ⟨c, o, tk, _, n, rfl, rfl, ho, hc, hd, rs, SrtSP.restOf_at ho hd⟩
  refine SrtSP.sorted_rows (k := fun v => k (backV v)) (r := SrtSP.restOf s.heap) there.isList (rv.length ▸ small) ⟨fun v m => ?_, fun v m => ?_, fun v m u m' e => ?_⟩ fun h' d out srt stb old new made => ?_
  · obtain ⟨c, o, t, us, n, e, _, ho, hc, hd, _, er⟩ := at_ v m
    exact ⟨c, o, t, n, e, ho, hc, er ▸ hd⟩
  · obtain ⟨c, o, t, us, n, _, _, _, _, _, rs, er⟩ := at_ v m
    exact er ▸ vals_flat rs (flat _ (mem v m))
  · obtain ⟨c, _, _, us, _, e1, b1, _, _, _, r1, er1⟩ := at_ v m
    obtain ⟨c', _, _, us', _, e2, b2, _, _, _, r2, er2⟩ := at_ u m'
    rcases one _ (mem v m) _ (mem u m') e with z | ⟨b, z1, z2⟩
    · rw [b1, b2] at z
      cases z
      rw [e1, e2]
    · rw [z1] at r1
      rw [z2] at r2
      obtain ⟨_, w1, x1⟩ := vals1 r1
      obtain ⟨_, w2, x2⟩ := vals1 r2
      rw [er1, er2, w1, w2, x1, x2]
  · obtain ⟨n, hn⟩ := made
    have prm : (out.map backV).Perm xs := back ▸ stb.perm.map backV
    exact ⟨.ref d, upd H d (.lst (out.map backV)), I.laid (t' := s.toks) old new ⟨prm.length_eq ▸ small, out, n, vals_back fun u m => refs u (stb.perm.mem_iff.mp m), hn⟩, rfl, q _ d (List.pairwise_map.mpr srt) prm (I.hok.fresh new)⟩
/-- rows of a text and something else: g where it stands -/
def rSortedSP (K : PySem.W.Frag) : List V → Hp → VK → Prop := fun vs H Q => ∃ (a : Addr) (xs : List V) (k : V → Str) (g : V → Addr), vs = [V.ref a] ∧ SqL K H a xs ∧ (∀ x ∈ xs, ∃ t, x = V.ref t ∧ H t = some (.tup [.str (k x), .ref (g x)])) ∧ (∀ x ∈ xs, ∀ y ∈ xs, k x = k y → g x = g y) ∧
  ∀ ys p, SrtO.Srtd (fun x y => SrtSP.ltS (k x) (k y)) ys → ys.Perm xs → H p = none → Q (.ref p) (upd H p (.lst ys))
theorem cr_sortedSP {X : Cx} : CallR X (.builtin "sorted") (rSortedSP X.K) := fun _ _ _ _ _ _ _ I rv ⟨_, xs, k, g, e, hs, row, one, q⟩ => by
  subst e
  obtain ⟨_, rfl, rfl⟩ := vals1 rv
  exact sorted_by (g := fun x => [.ref (g x)]) I hs row (fun x _ y m => .inr ⟨_, List.mem_singleton.mp m⟩) (fun x m y m' e => .inr ⟨g x, rfl, by rw [one x m y m' e]⟩) q
end L2
/-! ### a clause 'except C as n' whose suite raises; a tuple unpacked while an exception is handled -/
namespace HotAs
open PySem PySem.Spec PyProof.Rows L2 HotX L2H
/-! #### unpacking: the iterator's end is raised while another exception is handled -/
section
variable {P : Program} {w : World} {A : Around} {px : Addr} {g : Shared}
theorem stop_raised {α : Type} {h0 : Heap} {Q : α → Shared → Prop} {E : Value → Shared → Prop} (hot : HotAt A px h0) (eh : g.heap = h0)
    (out : ∀ (hp : Heap) (e : Addr), (∀ b o, h0.get? b = some o → hp.get? b = some o) → Shared.TypeIs { g with heap := hp } (.ref e) "StopIteration" → E (.ref e) { g with heap := hp }) :
    wpAny (model P w) A (newExc (.type "StopIteration") [] >>= fun e => (raiseNew e : Sem α)) Q E g := by
  subst eh
  obtain ⟨hd, po, pf, pg, pd, pc⟩ := hot
  refine wpAny_bind ?_
  simp only [newExc, newTuple]
  refine wpAny_bind (wpAny_newObj_type (wpAny_bind (m := firstArgMember _ _) (wpAny_of_eq (a := Value.none) (by first | rfl | (simp only [firstArgMember]; rfl)) (wpAny_newObj_type ?_ (by size_fits)))) (by size_fits))
  have one : ∀ {b : Addr} {o : Obj}, g.heap.get? b = some o → (g.heap.push { cls := .type "tuple", data := .seq #[] }).get? b = some o := fun e => Heap.get?_push_of_some _ e
  refine raiseNew_hot ⟨hd, po, pf, Heap.get?_push_of_some _ (one pg), pd, pc⟩ (Nat.ne_of_lt (Heap.lt_size (one pg))) (Heap.get?_push_size _ rfl) rfl (by first | (simp; done) | (simp; omega) | (simp only [Array.size_append]; simp; omega)) ?_
  exact out _ _ (fun b o e => (Heap.get?_update_other _ _ (Nat.ne_of_gt (Heap.lt_size (one e)))).trans (Heap.get?_push_of_some _ (one e))) ⟨_, Heap.get?_update_self _ (Heap.get?_push_size _ rfl) rfl, rfl⟩
theorem next_ends {Q : Option Value → Shared → Prop} {E : Value → Shared → Prop} {ia ta : Addr} {j : Nat} {xs : Array Value} (hot : HotAt A px g.heap) (ii : IsTupIter g.heap ia ta j) (it : IsTup g.heap ta xs) (no : xs[j]? = none) (ne : px ≠ ia)
    (q : ∀ hp, Heap.ExtBut ia g.heap hp → Q none { g with heap := hp }) : wpAny (model P w) A (pyNext (.ref ia)) Q E g := by
  obtain ⟨io, ig, _, idt⟩ := id ii
  obtain ⟨tobj, tg, _, tn, td⟩ := it
  have pin : HotAt A px (g.heap.update ia (Obj.mapFields (·.setIfInBounds 0 Value.none))) := by
    obtain ⟨z1, z2, z3, z4, z5⟩ := hot
    exact ⟨z1, z2, z3, (Heap.get?_update_other _ _ (Ne.symm ne)).trans z4, z5⟩
  unfold pyNext
  refine wpAny_bind (wpAny_attempt (wpAny_callSpecial?_slot (name := Str.ofString "__next__") ii.typeIs slot_tupleiter_next (wpAny_call_entry slot_tupleiter_next ii.typeIs entry_tupleiter_next ?_ (args_tupleiter_next _))))
  show wpAny _ _ (field (.ref ia) 0 >>= _) _ _ g
  refine wpAny_bind (wpAny_field ig idt (x := .ref ta) rfl ?_)
  show wpAny _ _ (if (Value.ref ta == Value.none) = true then _ else _) _ _ g
  refine (if_neg (show ¬ (Value.ref ta == Value.none) = true from fun z => Bool.noConfusion z)).symm ▸ ?_
  show wpAny _ _ (field (.ref ia) 1 >>= _) _ _ g
  refine wpAny_bind (wpAny_field ig idt (x := .int j 0) rfl ?_)
  show wpAny _ _ (seqItems? (.ref ta) >>= _) _ _ g
  refine wpAny_bind (wpAny_seqItems tg td ?_)
  simp only [no, Int.toNat_natCast]
  refine wpAny_bind (wpAny_rule (wpAny_bind (wpAny_setField ig idt (by simp) ?_)))
  refine stop_raised (h0 := g.heap.update ia (Obj.mapFields (·.setIfInBounds 0 Value.none))) pin rfl fun hp e keep ty => ?_
  exact wpAny_bind (wpAny_isInstance (T := "StopIteration") (b := true) ty isSubtype_stop (wpAny_pure (q hp fun b o hb z => keep b o ((Heap.get?_update_other _ _ (Ne.symm hb)).trans z))))
theorem items_of {Q : List Value → Shared → Prop} {E : Value → Shared → Prop} {ta : Addr} {xs : Array Value} (hot : HotAt A px g.heap) (it : IsTup g.heap ta xs) (q : ∀ hp, Heap.ExtBut g.heap.objs.size g.heap hp → Q xs.toList { g with heap := hp }) :
    wpAny (model P w) A (unpackItems (.ref ta) xs.size none) Q E g := by
  obtain ⟨z1, z2, z3, z4, z5⟩ := hot
  have lp := Nat.ne_of_lt (Heap.lt_size z4)
  have lt : ta ≠ g.heap.objs.size := let ⟨_, e, _⟩ := it; Nat.ne_of_lt (Heap.lt_size e)
  unfold unpackItems notIterableAtAll
  refine wpAny_bind (wpAny_bind (wpAny_specialOf it.typeIs slot_tuple_iter.lookup (wpAny_pure ?_)))
  simp only [Bool.false_eq_true, ite_false]
  refine wpAny_bind (wpAny_holding (iter_tuple it (wpAny_bind (wpAny_holding (draw_tuple lt xs.size 0 _ _ ⟨_, Heap.get?_push_size _ rfl, rfl, rfl⟩ (it.push _) (Nat.le_of_eq (Nat.zero_add _)) fun h1 i1 s1 => ?_)))))
  have all : (xs.toList.drop 0).take xs.size = xs.toList := List.take_of_length_le (Nat.le_of_eq (by simp))
  rw [all, if_neg (by simp)]
  refine wpAny_bind (wpAny_holding (next_ends ⟨z1, z2, z3, s1.extBut px z2 lp (Heap.get?_push_of_some _ z4), z5⟩ i1 ((it.push _).extBut s1.extBut lt) (by simp) lp fun h2 k2 => ?_))
  simp only [Bool.false_eq_true, Option.isSome_none, ite_false]
  exact wpAny_pure (q h2 fun b o nb z => k2 b o nb (s1.extBut b o nb (Heap.get?_push_of_some _ z)))
end
theorem pg_tupH {X : Cx} {es : List Expr} {k n : Nat} {t : TGs} {pos : Pos} (hc : HotC X) (parts : PGs X es t) (many : (assignEach es X.env).length = n := by rfl) (plain : (assignEach es X.env).findIdx? (·.1) = none := by rfl) :
    PG X (.Tuple es k pos) (gTup X.K n t) := ⟨fun pins s σ H v u Q I rel ask => by
  obtain ⟨ta, xs, rfl, sq, len, ask⟩ := ask
  cases rel
  obtain ⟨us, vals, isT, _⟩ := I.tuple sq
  obtain ⟨px, hot⟩ := hc.at I
  have same : (assignEach es X.env).length = us.toArray.size := by simp [many, ← len, vals.length]
  rw [assign_Tuple]
  suffices go : wpAny (model X.prog X.w) X.A (unpack (.ref ta) (assignEach es X.env)) _ _ s from wpAny_bind (wpAny_standAt go)
  unfold unpack
  rw [same, plain]
  exact wpAny_bind (wpAny_holding (items_of hot isT fun hp k => parts.run pins _ σ H xs _ Q (I.kept (t' := s.toks) fun b o e => k b o (Nat.ne_of_lt (Heap.lt_size e)) e) (by simpa using vals) ask))⟩
/-! #### the suite's context -/
/-- within the suite of the exception at a; what leaves the suite is wished by xe -/
abbrev sx (X : Cx) (a : Addr) (pn : List (Addr × Obj)) (xe : Value → Shared → Prop) : Cx := { X with A := X.A.mark (some (.ref a)), calm := false, pn := pn, xe := xe }
theorem pe_sx {X : Cx} {a : Addr} {pn : List (Addr × Obj)} {xe : Value → Shared → Prop} {e : Expr} {t : TE} (h : PE (X.suite a pn) e t) : PE (sx X a pn xe) e t := PE.nox (X := sx X a pn xe) h
section
variable {X : Cx} {pins pr : List (Addr × Obj)} {σ : L2.St} {H : Hp} {g : Shared} {a : Addr}
theorem sx_of {pn : List (Addr × Obj)} {xe : Value → Shared → Prop} (I : Inv (X.suite a pn) pr σ H g) : Inv (sx X a pn xe) pr σ H g := Inv.unwish (X := sx X a pn xe) (E := fun _ _ => False) I
theorem sx_un {p : Addr × Obj} {xe : Value → Shared → Prop} (I : Inv (sx X a (p :: (X.pn ++ pins)) xe) pr σ H g) (ok : X.Ok) : Inv X pins σ H g :=
  Inv.unsuite (a := a) (q := p) (pn' := pr) (X := X) (I.wish fun _ _ => False : Inv (X.suite a (p :: (X.pn ++ pins))) pr σ H g) ok
/-- a local name's value goes: the invariant of what is left -/
theorem gone_inv {i tk : Nat} {n : Str} {hp : Heap} {m : Str → Option Value} {v : Option Value} (I : Inv X pins σ H g) (nd : X.N.Nodup) (at_ : X.N[i]? = some n) (old : g.heap.Ns X.env.locals m) (new : hp.Ns X.env.locals (fun x => if x = n then v else m x))
    (but : Heap.SameBut X.env.locals g.heap hp) : Inv X pins (σ.set i none) H { g with heap := hp, toks := tk } := by
  obtain ⟨m0, old0, look⟩ := id I.loc
  have eqm : m0 = m := funext fun y => by
    obtain ⟨o1, _, _, a1, b1, _, d1⟩ := old0
    obtain ⟨o2, _, _, a2, b2, _, d2⟩ := old
    cases a1.symm.trans a2
    cases b1.symm.trans b2
    exact (d1 y).symm.trans (d2 y)
  subst eqm
  have low : ∀ {b : Addr} {o u : Obj}, X.s_0.heap.get? b = some u → g.heap.get? b = some o → hp.get? b = some o := fun {b o u} z e => (but.2 b (Nat.ne_of_lt (Nat.lt_of_lt_of_le (Heap.lt_size z) I.ok.above))).trans e
  have B := I.base
  exact {
    ok := I.ok, os := I.os, bare := I.bare, free := I.free, freeC := I.freeC
    base := { keep := fun b o z n1 n2 n3 => low z (B.keep b o z n1 n2 n3), slot := fun b o z n1 n2 n3 => (B.slot b o z n1 n2 n3).imp fun _ e => low z e, free := B.free, there := fun b o z n1 => (B.there b o z n1).imp fun _ e => low z e, tups := B.tups, frzs := B.frzs, tbls := B.tbls }
    loc := ⟨_, new, fun j y x h1 h2 h3 => by
      have nj : j ≠ i := fun z => by
        subst z
        by_cases lj : j < σ.length
        · exact absurd (Option.some.inj ((List.getElem?_set_self lj).symm.trans h2)) (by intro q; cases q)
        · exact absurd ((List.getElem?_eq_none (by simpa using lj)).symm.trans h2) (by intro q; cases q)
      obtain ⟨u, ru, w⟩ := look j y x h1 ((List.getElem?_set_ne (Ne.symm nj)).symm.trans h2) h3
      refine ⟨u, ru, w.imp (fun w => ⟨w.1, ?_⟩) (fun ⟨k, c, e, z⟩ => ⟨k, c, e, z.sameBut but (I.cne y c e)⟩)⟩
      have ny : ¬ y = n := fun z => nj (nodup_ix nd h1 (z ▸ at_))
      show (if y = n then v else m0 y) = some u
      rw [if_neg ny]
      exact w.2⟩
    cell := fun y c e => (I.cell y c e).imp fun _ z => z.sameBut but (I.cne y c e)
    pin := fun p hm => let ⟨e, r⟩ := I.pin p hm; ⟨(but.2 p.1 r.2.1).trans e, r⟩
    hok := fun b u e => (I.hok b u e).stay (fun c o hc z => (but.2 c fun y => by
      have fr : H c = none := by rw [y]; exact I.free
      rcases hc with hc | hc
      · exact absurd (e.symm.trans (hc ▸ fr)) (by intro q; cases q)
      · exact absurd (hc.symm.trans fr) (by intro q; cases q)).trans z) (fun _ z => z) fun _ _ z => z
    len := (List.length_set ..).trans I.len }
end
theorem frames_but {h k B : Heap} {L : Addr} {m : Str → Option Value} (but : Heap.SameBut L h k) (ns : k.Ns L m) : ∀ {l : List Env}, h.FunFrames B l → k.FunFrames B l
  | [], _ => trivial
  | _ :: _, ⟨c1, ⟨F, o, e1, e2, e3, e4⟩, rest⟩ => ⟨c1, by
      by_cases z : F = L
      · obtain ⟨o2, _, _, g2, d2, _⟩ := ns
        exact ⟨F, o2, e1, e2, z ▸ g2, fun fs y => by cases d2.symm.trans y⟩
      · exact ⟨F, o, e1, e2, (but.2 F z).trans e3, e4⟩, frames_but but ns rest⟩
/-! #### the rule -/
section
variable {X : Cx} {pins : List (Addr × Obj)} {Wout : WX} {D : Ends}
/-- what flies is no frame -/
theorem no_frame {B h : Heap} {a : Addr} {o : Obj} {fs : Array Value} (ff : h.FunFrames B (X.env :: X.outer)) (e : h.get? a = some o) (d : o.data = .fields fs) (hf : X.env.frame = some X.env.locals) : a ≠ X.env.locals ∧ a ∉ X.fs := by
  have out : a ∉ frs (X.env :: X.outer) := fun mem => let ⟨_, _, e2, no⟩ := ff.mem mem; no fs (by cases e.symm.trans e2; exact d)
  refine ⟨fun z => out (List.mem_filterMap.mpr ⟨X.env, List.mem_cons_self, z ▸ hf⟩), fun mem => out ?_⟩
  obtain ⟨env, h1, h2⟩ := List.mem_filterMap.mp mem
  exact List.mem_filterMap.mpr ⟨env, List.mem_cons_of_mem _ h1, h2⟩
/-- the class that the clause names -/
theorem named {x : Str} {c : Value} {np : Pos} {a : Addr} {pn pr : List (Addr × Obj)} {σ : L2.St} {H : Hp} {g : Shared} {Q : Value → Shared → Prop} {E : Value → Shared → Prop} (hc : Names X x c) (S : Inv (X.suite a pn) pr σ H g) (q : Q c g) :
    wpAny (model X.prog X.w) (X.A.mark (some (.ref a))) (eval (.Name x np) X.env) Q E g := by
  obtain ⟨g1, g2, g3 | ⟨g4, g5, g6⟩⟩ := hc
  · exact ld_glob (X := X.suite a pn) S g1 g3 q g2
  · exact ld_blt (X := X.suite a pn) S g1 g4 g5 q g6 g2
/-- behind the frame's note the name goes, and the suite's exception goes on -/
theorem goes_on {A : Around} {n : Str} {i : Nat} {a : Addr} {B hp : Heap} {sI g : Shared} {σ : L2.St} {H : Hp} {cls : Value} {d : Option Addr} {pos : Pos} {what : String} {E1 E2 : Value → Shared → Prop} {Q : Flow → Shared → Prop}
    (hs : X.stack = X.env :: X.outer) (hf : X.env.frame = some X.env.locals) (nd : X.N.Nodup) (at_ : X.N[i]? = some n) (loc : X.env.kindOf n = some .local) (tk : L2.Takes X Wout) (hE : ∀ u, X.xe (.ref a) u → E1 (.ref a) u)
    (J : Inv X pins σ H sI) (nb : ∀ b o, sI.heap.get? b = some o → b ∉ frs X.stack → B.get? b = some o) (up : sI.heap.UpToSlots hp) (hl : HandSPX.HeldZ B (X.env :: X.outer) a (Zc cls d) X.env.locals hp) (na : H a = none) (os : g.os = sI.os) (ag : AllBare g.gens)
    (wish : Wout cls d (σ.set i none) H) :
    wpAny (model X.prog X.w) A (do bindName X.env n .none; unbindBehindTheSuite X.env n pos) (fun _ u => wpAny (model X.prog X.w) A (PySem.passOn what (.ref a) X.env : Sem Flow) Q E1 u) E2 { g with heap := hp } := by
  have mine : X.env.locals ∈ frs (X.env :: X.outer) := List.mem_filterMap.mpr ⟨X.env, List.mem_cons_self, hf⟩
  obtain ⟨m, ns, _⟩ := id J.loc
  obtain ⟨oL, es, ep, gL, dL, kL, mL⟩ := id ns
  obtain ⟨sl, gL2⟩ := up _ _ gL (fun fs z => by cases dL.symm.trans z)
  refine wpAny_nameGoes_keeps (s := { g with heap := hp }) loc ⟨_, es, ep, gL2, dL, kL, mL⟩ (by rw [J.ok.kind]; rfl) fun h2 v ns2 but => ?_
  obtain ⟨o2, es2, ep2, g2, d2, k2, m2⟩ := id ns2
  have put : (sI.heap.update X.env.locals (fun _ => o2)).get? X.env.locals = some o2 := Heap.get?_update_self (fun _ => o2) gL (Heap.get?_some_iff.mp g2).2
  have but0 : Heap.SameBut X.env.locals sI.heap (sI.heap.update X.env.locals (fun _ => o2)) := Heap.SameBut.update ..
  have J2 := gone_inv (tk := sI.toks) J nd at_ ns ⟨o2, es2, ep2, put, d2, k2, m2⟩ but0
  have rec_ : ∀ {b : Addr} {o : Obj} {fs : Array Value}, hp.get? b = some o → o.data = .fields fs → h2.get? b = some o := fun {b o fs} e y => (but.2 b fun z => by
    subst z
    cases e.symm.trans gL2
    cases dL.symm.trans (show oL.data = .fields fs from y)).trans e
  obtain ⟨st, nB, fr, oe, fs, T, oT, ts, e1, e2, e3, e4, e5, e6, e7, e8, e9⟩ := hl
  have tr : HandSPX.TracedZ h2 B a (Zc cls d) (rawInt X.env.locals) := ⟨oe, fs, T, oT, ts, rec_ e1 e3, e2, e3, e4, e5, e6, rec_ e7 e8, e8, e9⟩
  have st2 : B.StaysIn h2 := fun b o e => (but.2 b fun z => by cases ((fr.mem mine).1).symm.trans (z ▸ e)).trans (st b o e)
  unfold PySem.passOn
  refine wpAny_bind (wpAny_field (s := { g with heap := h2, toks := g.toks + 1 }) (rec_ e1 e3) e3 e4 ?_)
  refine (if_neg (show ¬ (Value.ref T == Value.none) = true from fun z => Bool.noConfusion z)).symm ▸ ?_
  have last : wpAny (model X.prog X.w) A (setFlight (.ref a) X.env.frame) (fun _ u => wpAny (model X.prog X.w) A (throw (.ref a) : Sem Flow) Q E1 u) E1 { g with heap := h2, toks := g.toks + 1 } := by
    rw [hf]
    refine HandSPX.setFlight_anyZ (s := { g with heap := h2, toks := g.toks + 1 }) st2 (frames_but but ns2 fr) tr fun h3 f1 f2 f3 f4 => wpAny_throw (hE _ (tk _ _ ⟨a, B, _, pins, σ.set i none, H, cls, d, rfl, J2, fun b o e no => ?_, fun b o e no => ?_, .inr (.inr (hs ▸ ⟨f1, nB, f2, f3⟩)), na, os, ag, wish⟩))
    · exact nb b o ((but0.2 b fun z => no (by rw [hs, z]; exact mine)).symm.trans e) no
    · by_cases z : b = X.env.locals
      · subst z
        cases put.symm.trans e
        exact f4 _ _ g2 no
      · obtain ⟨s1, y1⟩ := up b o ((but0.2 b z).symm.trans e) no
        have y2 : h2.get? b = some { o with slots := s1 } := (but.2 b z).trans y1
        obtain ⟨s2, y3⟩ := f4 b _ y2 no
        exact ⟨s2, y3⟩
  first
    | exact wpAny_bind (wpAny_pure (wpAny_bind last))
    | exact wpAny_bind last
/-- no clause names it: it goes on -/
theorem flies_on {a : Addr} {B hp : Heap} {sI g : Shared} {σ : L2.St} {H : Hp} {cls : Value} {d : Option Addr} (hs : X.stack = X.env :: X.outer) (hf : X.env.frame = some X.env.locals) (tk : L2.Takes X Wout)
    (J : Inv X pins σ H sI) (nb : ∀ b o, sI.heap.get? b = some o → b ∉ frs X.stack → B.get? b = some o) (up : sI.heap.UpToSlots hp) (fl : HandSPX.FlyingZ B (X.env :: X.outer) a (Zc cls d) hp) (na : H a = none) (os : g.os = sI.os) (ag : AllBare g.gens)
    (wish : Wout cls d σ H) : wpAny (model X.prog X.w) X.A (handleBy (.ref a) X.env []) (SP X pins D) X.xe { g with heap := hp } := by
  obtain ⟨f1, f2, f3, oe, fs, T, oT, ts, e1, e2, e3, e4, e5⟩ := id fl
  refine wpAny_handleBy_nil ?_
  unfold PySem.passOn
  refine wpAny_bind (wpAny_field e1 e3 e4 ?_)
  refine (if_neg (show ¬ (Value.ref T == Value.none) = true from fun z => Bool.noConfusion z)).symm ▸ ?_
  have last : wpAny (model X.prog X.w) X.A (setFlight (.ref a) X.env.frame) (fun _ u => wpAny (model X.prog X.w) X.A (throw (.ref a) : Sem Flow) (SP X pins D) X.xe u) X.xe { g with heap := hp } := by
    rw [hf]
    exact HandSPX.setFlight_upZ fl fun h2 hl up2 => wpAny_throw (tk _ _ ⟨a, B, sI, pins, σ, H, cls, d, rfl, J, nb, up.trans up2, .inr (.inr (hs ▸ hl)), na, os, ag, wish⟩)
  first
    | exact wpAny_bind (wpAny_pure (wpAny_bind last))
    | exact wpAny_bind last
theorem sp_back {pr : List (Addr × Obj)} {xe : Value → Shared → Prop} {f : Flow} {g : Shared} (ok : X.Ok) (h : SP (X.tr (X.pn ++ pins) xe) pr D f g) : SP X pins D f g := by
  cases f <;> (try (obtain ⟨u1, u2, J, q⟩ := h; exact ⟨u1, u2, J.ofTry ok, q⟩))
  obtain ⟨u0, u1, u2, J, q⟩ := h
  exact ⟨u0, u1, u2, J.ofTry ok, q⟩
variable {x n : Str} {c : Value} {i : Nat} {body suite : List Stmt} {b₀ : Stmt} {np pos pos2 : Pos} {tb : WX → TS} {ts : Addr → Value → Option Addr → TS}
theorem ps_try_asX (hs : X.stack = X.env :: X.outer) (hf : X.env.frame = some X.env.locals) (nd : X.N.Nodup) (at_ : X.N[i]? = some n) (loc : X.env.kindOf n = some .local) (hc : Names X x c)
    (hpa : ∀ hd : Option Value, PassesOwnAt (model X.prog X.w) (X.A.mark hd) X.A X.env X.xe) (tk : L2.Takes X Wout)
    (hb : ∀ (W : WX) (pn : List (Addr × Obj)) (xe : Value → Shared → Prop), L2N.Takes (X.tr pn xe) W → PassesOwn (model X.prog X.w) X.A X.env xe → PSs (X.tr pn xe) body (tb W))
    (hsu : ∀ (a : Addr) (oe : Obj) (cls : Value) (d : Option Addr) (pn : List (Addr × Obj)) (xe : Value → Shared → Prop), L2N.Zn cls d oe → (∃ fs, oe.data = .fields fs) → L2.Takes (sx X a ((a, oe) :: pn) xe) (fun cls d σ H => Wout cls d (σ.set i none) H) → HotC (sx X a ((a, oe) :: pn) xe) →
      PSs (sx X a ((a, oe) :: pn) xe) (b₀ :: suite) (ts a cls d)) :
    PS X (.Try body [.ExceptHandler (some (.Name x np)) (some n) (b₀ :: suite) pos2] [] [] pos) (fun D σ H => tb (wAs X.K c i ts Wout D) D σ H) := by
  refine ⟨fun pins s σ H D I ask => wpAny_Try_except ?_⟩
  have ok := I.ok
  have fra : X.A.frames = some (X.env :: X.outer) := ok.frames.trans (congrArg some hs)
  have tried : ∀ (E0 : Value → Shared → Prop), L2N.Takes (X.tr (X.pn ++ pins) E0) (wAs X.K c i ts Wout D) → PassesOwn (model X.prog X.w) X.A X.env E0 → _ := fun E0 t0 p0 => (hb _ (X.pn ++ pins) E0 t0 p0).run [] s σ H D (I.toTry _) ask
  refine wpAny_mono (tried _ ?land ?pass) (fun f g h => ?thru) (fun _ _ z => z)
  case pass => exact PassesOwn.looking
  case thru =>
    have h2 := sp_back ok h
    cases f <;> first | exact wpAny_execs_nil h2 | exact h2
  case land =>
    rintro u g xx
    obtain ⟨a, B, sI, pr, σ1, H1, cls, d, rfl, Jt, nb, up, sky, na, os, ag, b, isC, yes, no⟩ := xx
    have J : Inv X pins σ1 H1 sI := Jt.ofTry ok
    refine L2N.Sky.land (env := X.env) (outer := X.outer) L2N.Zn.steady fra hf (hs ▸ sky) fun h1 fl up1 => ?_
    have J1 : Inv X pins σ1 H1 { g with heap := h1 } := J.landed nb fl.1 (up.trans up1) os ag
    obtain ⟨oe, fs, e1, e2, e3⟩ := fl.there
    obtain ⟨nL, nF⟩ := no_frame fl.2.2.1 e1 e3 hf
    have ty : PySem.W.Looks (model X.prog X.w) h1 (typeOf (.ref a)) cls := fun _ _ _ _ keep q => wpAny_typeOf_ref (keep _ _ e1) (e2.1 ▸ q)
    refine wpAny_handleBy_cons (codeAny_handlers_test (named hc (J1.suite e1 e3 na nL nF) ((PySem.W.exm_one (M := model X.prog X.w) J1.kIn ty isC).here ?_))) (fun q => nomatch q)
    cases b with
    | false => exact flies_on hs hf tk J nb (up.trans up1) (flyingZ_imp (fun _ z => L2N.Zn.zc z) fl) na os ag (no rfl)
    | true =>
      refine codeAny_handlers_suite_as (HandSPX.lands_againZ fl fun h2 fl2 up2 => ?_)
      have J2 : Inv X pins σ1 H1 { g with heap := h2 } := J.landed nb fl2.1 ((up.trans up1).trans up2) os ag
      obtain ⟨oe2, fs2, y1, y2, y3⟩ := fl2.there
      refine store_ok (X := X.suite a ((a, oe2) :: (X.pn ++ pins))) (v := .ref a) (J2.suite y1 y3 na nL nF) nd at_ (.inl loc) rfl (fun g3 S3 => ?_) (.inr loc)
      have run : ∀ (E0 : Value → Shared → Prop), L2.Takes (sx X a ((a, oe2) :: (X.pn ++ pins)) E0) (fun cls d σ H => Wout cls d (σ.set i none) H) → _ := fun E0 tk0 =>
        (hsu a oe2 cls d (X.pn ++ pins) E0 y2 ⟨_, y3⟩ tk0 ⟨(a, oe2), ⟨rfl, fs2, y3, y2.2.2 fs2 y3⟩, List.mem_cons_self⟩).run [] g3 _ H1 _ (sx_of S3) (yes rfl a na)
      refine wpAny_mono (run _ ?tk) (fun f g4 h => ?q) (fun _ _ z => z)
      case q => cases f with
        | ret u => obtain ⟨v, σ4, H4, S4, r, q⟩ := h; exact gone_ok (sx_un S4 ok) nd at_ loc fun g5 J5 => ⟨v, _, H4, J5, r, q⟩
        | next => obtain ⟨σ4, H4, S4, q⟩ := h; exact gone_ok (sx_un S4 ok) nd at_ loc fun g5 J5 => ⟨_, H4, J5, q⟩
        | brk => obtain ⟨σ4, H4, S4, q⟩ := h; exact gone_ok (sx_un S4 ok) nd at_ loc fun g5 J5 => ⟨_, H4, J5, q⟩
        | cont => obtain ⟨σ4, H4, S4, q⟩ := h; exact gone_ok (sx_un S4 ok) nd at_ loc fun g5 J5 => ⟨_, H4, J5, q⟩
      case tk =>
        rintro u g4 ⟨a4, B4, s4, _, σ4, H4, c4, d4, rfl, I4, nb4, up4, sky4, na4, os4, ag4, w4⟩
        have J4 : Inv X pins σ4 H4 s4 := sx_un I4 ok
        have fin := fun (E2 : Value → Shared → Prop) (hp : Heap) (hl : HandSPX.HeldZ B4 (X.env :: X.outer) a4 (Zc c4 d4) X.env.locals hp) (up5 : g4.heap.UpToSlots hp) =>
          goes_on (E2 := E2) (A := X.A.mark (some (.ref a))) (pos := pos2) (what := "try.except-as") (Q := fun _ _ => False) hs hf nd at_ loc tk (fun u z => hpa (some (.ref a)) _ u z) J4 nb4 (up4.trans up5) hl na4 os4 ag4 w4
        have sky5 : Sky B4 (X.env :: X.outer) a4 (Zc c4 d4) X.env.locals g4.heap := hs ▸ sky4
        rcases sky5 with ⟨k1, k2, k3, o4, f4, k4, k5, k6, k7⟩ | fly | held
        · exact HandSPX.look_newZ Zc.steady fra k3 hf k4 k1 k2 k6 k7 k5 (fin _)
        · exact HandSPX.looks_onZ Zc.steady fra hf fly (fin _)
        · exact HandSPX.againZ hf held.2.2.2 (fin _ g4.heap held (Heap.UpToSlots.refl _))
end
/-! #### a def called while an exception is handled; a def whose exceptions have no context -/
section
variable {P : Program} {w : World} {K : PySem.W.Frag} {mg : Str → Option Value} {base : Heap} {x qual : Str} {st : Stmt} {f : Addr} {fd : FuncData} {N ps : List Str} {k : Nat} {sp : Sp}
theorem okH (F : Fun K x qual st f fd) (S : FnScope N ps (defScope st)) (len : ∀ vs H Q E, sp vs H Q E → vs.length = ps.length)
    (walk : ∀ (cd : Value) (A : Around) (outer : List Env) (s : Shared) (H : Hp) (vs : List V) (Q : VK) (E : XK) (p : Addr × Obj), RoomH k (A.deeper (envOfC qual (defScope st) s.heap.objs.size f cd)) → HotC (cxH CX0 P w K mg base N qual (defScope st) f cd A outer s H E p).nox → sp vs H Q E →
      ∃ t, PSs (cxH CX0 P w K mg base N qual (defScope st) f cd A outer s H E p).nox (defBody st) t ∧ t { nx := fun _ H2 => Q .non H2, rt := Q } (L2.start N vs) H) : FnH P w K mg base CX0 (k + 1) f fd ps sp := by
  obtain ⟨_, _, _, _, _, _, cd, _, _, rfl, here, code⟩ := F.ex
  exact fn_ofH here code S len fun A outer s H vs Q E p hot room ask => let ⟨t, body, q⟩ := walk cd A outer s H vs Q E p room ⟨p, hot, List.mem_singleton.mpr rfl⟩ ask; ⟨t, body.nox, q⟩
theorem okN (F : Fun K x qual st f fd) (S : FnScope N ps (defScope st)) (len : ∀ vs H Q E, sp vs H Q E → vs.length = ps.length)
    (walk : ∀ (cd : Value) (A : Around) (outer : List Env) (s : Shared) (H : Hp) (vs : List V) (Q : VK) (E : XK), Room k (A.deeper (envOfC qual (defScope st) s.heap.objs.size f cd)) → sp vs H Q E →
      ∃ t, PSs (cxOf (L2N.CX P w) P w K mg base N qual (defScope st) f cd A outer s H E) (defBody st) t ∧ t { nx := fun _ H2 => Q .non H2, rt := Q } (L2.start N vs) H) : FnOk P w K mg base (L2N.CX P w) (k + 1) f fd ps sp := by
  obtain ⟨_, _, _, _, _, _, cd, _, _, rfl, here, code⟩ := F.ex
  exact fn_of here code S len fun A outer s H vs Q E room ask => walk cd A outer s H vs Q E room ask
end
/-- C(e, ..): the exception that is made has no context -/
theorem pmk_oexN {X : Cx} {CX : CXT} {x : Str} {e : Expr} {es : List Expr} {ta : TA} {p pos : Pos} {C fI : Addr} {k : Nat} {fd : FuncData} {ps : List Str} {sp : Sp} (T : OexC X.K C) (iC : PySem.W.findIn X.K (.ref C) "__init__" = some (some (.ref fI)))
    (tI : PySem.W.typeIn X.K (.ref fI) = some (.type "function")) (G : FnOk X.prog X.w X.K X.mg X.base CX k fI fd ps sp) (room : Room (k + 1) X.A) (hb : Binds X.K fd ps []) (pass : Passes CX X (fun _ _ _ => False)) (hg : Gl X x) (hm : X.mg x = some (.ref C)) (ha : PA X (e :: es) ta) (hdb : (x == ("__debug__" : Str)) = false := by decide) (he : starEach (e :: es) X.env = (false, eval e X.env) :: starEach es X.env := by rfl) (hpl : (backTo pos (starEach es X.env)).any (·.1) = false := by rfl) :
    L2N.PMk X (.Call (.Name x p) (e :: es) [] pos) (tMkO C sp [] ta) := fun pins s σ H Q I ask => by
  obtain ⟨_, _, _, _, bm, _, _, _, _, _, _, _, _, _, _, cls, refs⟩ := T.cls
  refine wpAny_Call_Name_kw (ld_glob I hg hm (PySem.W.callWith_K (h₀ := X.base) I.ok.mod.kin T.kC (thn (ha.run pos pins s σ H _ I ask) fun us s1 ⟨vs, H1, I1, rel, few, q1⟩ => ⟨I1.kIn, ?_⟩) he hpl) hdb)
  obtain ⟨hp, gs, dr, tk, os⟩ := s1
  have above : hp.objs.size ≤ hp.objs.size + 1 := Nat.le_succ _
  have ask1 := q1 (hp.objs.size + 1) (I1.hok.fresh above)
  rw [List.append_nil] at ask1
  have keep : ∀ b o, hp.get? b = some o → ((hp.push (PySem.W.kdv_tup us)).push (PySem.HandSPX.excO C hp.objs.size)).get? b = some o := fun _ _ z => Heap.get?_push_of_some _ (Heap.get?_push_of_some _ z)
  have laid := I1.laid (t' := tk) (o := exo (hp.objs.size + 1) C none) (a := hp.objs.size + 1) keep above (exo_ok (t1 := hp.objs.size) (by heap_get))
  have rel2 : Vals (V.ref (hp.objs.size + 1) :: vs) (Value.ref (hp.objs.size + 1) :: us) := .cons rfl rel
  have bind := hb _ (Value.ref (hp.objs.size + 1) :: us) laid.kIn (by rw [List.append_nil]; exact rel2.length.symm.trans (G.len _ _ _ _ ask1))
  rw [List.append_nil] at bind
  refine show wpAny _ _ (call (.ref C) us) _ _ _ from wpAny_call (PySem.HandSPX.call_own F.excBase_ValueError (fun Y => PySem.HandSPX.refsVE_contains Y bm refs) (I1.kIn _ _ cls) (PySem.W.looks_findIn I1.kIn iC) (fun self => PySem.W.bind_fn I1.kIn self tI) (by rw [← Paired.length rel, sizeLine_eq]; omega)
    (codeAny_mono (G.run _ X.stack _ _ ⟨Value.ref (hp.objs.size + 1) :: us, []⟩ _ _ _ (fun _ _ _ => False) (room.make C us []) (laid.env0.make C us []) bind rel2 ask1) fun r s2 got => ?_))
  match r, got with
  | .error er, got => exact pass pins σ _ _ er s2 laid got
  | .ok (.ret u), got =>
    obtain ⟨v, H2, y1, y2, y3, y4, y5, rfl, d, fs, y6, y7, y8, y9⟩ := got
    obtain ⟨h2, g2, d2, t2, o2⟩ := s2
    obtain ⟨_, G0, J, kG, nG, hO, nA⟩ := mk_end0 (d2 := d2) (t2 := t2) I1 above keep y3 y4 y1 y2 y6 y7 y8
    exact ⟨y5, hp.objs.size + 1, _, _, ⟨G0, g2, d2, t2, o2⟩, _, .ref C, some d, rfl, J, kG, nG, hO, ⟨rfl, rfl, fun fs z => by cases z; rfl⟩, rfl, rfl, nA, rfl, y2, raises_own T.exC T.tyC, y9⟩
  | .ok .next, got => exact got.elim
  | .ok .brk, got => exact got.elim
  | .ok .cont, got => exact got.elim
end HotAs
/-! ### try with several clauses 'except C as n', all of one name -/
namespace TryAs
open PySem PySem.Spec PyProof.Rows L2
/-- how a suite ends: the name is gone -/
def ends (i : Nat) (D : Ends) : Ends := { nx := fun σ H => D.nx (σ.set i none) H, rt := D.rt, bk := fun σ H => D.bk (σ.set i none) H, ct := fun σ H => D.ct (σ.set i none) H }
abbrev Suites := List (Value × (Addr → Value → Option Addr → TS))
/-- what the clauses wish of an exception, one behind another -/
def wAll (K : PySem.W.Frag) (i : Nat) (Wout : WX) (D : Ends) : Suites → WX
  | [] => Wout
  | (c, ts) :: r => fun cls d σ H => ∃ b, PySem.W.exmOne K cls c = some b ∧ (b = true → ∀ a, H a = none → ts a cls d (ends i D) (σ.set i (some (.ref a))) H) ∧ (b = false → wAll K i Wout D r cls d σ H)
inductive Clauses (X : Cx) (n : Str) : List ExceptHandler → Suites → Prop
  | nil : Clauses X n [] []
  | cons {x : Str} {c : Value} {ts : Addr → Value → Option Addr → TS} {b₀ : Stmt} {suite : List Stmt} {np pos' : Pos} {hds : List ExceptHandler} {l : Suites} (hc : Names X x c)
      (hsu : ∀ (a : Addr) (oe : Obj) (cls : Value) (d : Option Addr) (pn : List (Addr × Obj)), Zc cls d oe → (∃ vs, oe.data = .fields vs) → PSs (X.suite a ((a, oe) :: pn)) (b₀ :: suite) (ts a cls d)) (r : Clauses X n hds l) :
      Clauses X n (.ExceptHandler (some (.Name x np)) (some n) (b₀ :: suite) pos' :: hds) ((c, ts) :: l)
section
variable {X : Cx} {n : Str} {i : Nat} {body : List Stmt} {h₀ : ExceptHandler} {hds : List ExceptHandler} {l : Suites} {pos : Pos} {tb : WX → TS} {Wout : WX}
/-- the clauses are asked one behind another of what flies -/
theorem asked {pins : List (Addr × Obj)} {D : Ends} {a : Addr} {B h1 : Heap} {sI g : Shared} {σ1 : L2.St} {H1 : Hp} {cls : Value} {d : Option Addr} (hs : X.stack = X.env :: X.outer) (hf : X.env.frame = some X.env.locals) (nd : X.N.Nodup) (at_ : X.N[i]? = some n) (loc : X.env.kindOf n = some .local)
    (tk : Takes X Wout) (J : Inv X pins σ1 H1 sI) (nb : ∀ b o, sI.heap.get? b = some o → b ∉ frs X.stack → B.get? b = some o) (up : sI.heap.UpToSlots h1) (fl : HandSPX.FlyingZ B (X.env :: X.outer) a (Zc cls d) h1) (na : H1 a = none) (os : g.os = sI.os) (ag : AllBare g.gens) {hs2 : List ExceptHandler} {l2 : Suites}
    (C : Clauses X n hs2 l2) (wish : wAll X.K i Wout D l2 cls d σ1 H1) : wpAny (model X.prog X.w) X.A (handleBy (.ref a) X.env hs2) (SP X pins D) X.xe { g with heap := h1 } := by
  have J1 : Inv X pins σ1 H1 { g with heap := h1 } := J.landed nb fl.1 up os ag
  obtain ⟨oe, fs, e1, e2, e3⟩ := fl.there
  obtain ⟨nL, nF⟩ := HotAs.no_frame fl.2.2.1 e1 e3 hf
  induction C with
  | nil => exact HotAs.flies_on hs hf tk J nb up fl na os ag wish
  | cons hc hsu _ ih =>
    obtain ⟨b, isC, yes, no⟩ := wish
    have ty : PySem.W.Looks (model X.prog X.w) h1 (typeOf (.ref a)) cls := fun _ _ _ _ keep q => wpAny_typeOf_ref (keep _ _ e1) (e2.1 ▸ q)
    refine wpAny_handleBy_cons (codeAny_handlers_test (HotAs.named hc (J1.suite e1 e3 na nL nF) ((PySem.W.exm_one (M := model X.prog X.w) J1.kIn ty isC).here ?_))) (fun q => nomatch q)
    cases b with
    | false => exact ih (no rfl)
    | true =>
      refine codeAny_handlers_suite_as (HandSPX.lands_againZ fl fun h2 fl2 up2 => ?_)
      have J2 : Inv X pins σ1 H1 { g with heap := h2 } := J.landed nb fl2.1 (up.trans up2) os ag
      obtain ⟨oe2, fs2, y1, y2, y3⟩ := fl2.there
      refine store_ok (X := X.suite a ((a, oe2) :: (X.pn ++ pins))) (v := .ref a) (J2.suite y1 y3 na nL nF) nd at_ (.inl loc) rfl (fun g3 S3 => ?_) (.inr loc)
      refine wpAny_mono ((hsu a oe2 cls d (X.pn ++ pins) y2 ⟨_, y3⟩).run [] g3 _ H1 _ S3 (yes rfl a na)) (fun f g4 h => ?_) (fun _ _ z => z.elim)
      cases f with
      | ret u => obtain ⟨v, σ4, H4, S4, r, q⟩ := h; exact gone_ok (S4.unsuite J.ok) nd at_ loc fun g5 J5 => ⟨v, _, H4, J5, r, q⟩
      | next => obtain ⟨σ4, H4, S4, q⟩ := h; exact gone_ok (S4.unsuite J.ok) nd at_ loc fun g5 J5 => ⟨_, H4, J5, q⟩
      | brk => obtain ⟨σ4, H4, S4, q⟩ := h; exact gone_ok (S4.unsuite J.ok) nd at_ loc fun g5 J5 => ⟨_, H4, J5, q⟩
      | cont => obtain ⟨σ4, H4, S4, q⟩ := h; exact gone_ok (S4.unsuite J.ok) nd at_ loc fun g5 J5 => ⟨_, H4, J5, q⟩
theorem ps_try_all (hs : X.stack = X.env :: X.outer) (hf : X.env.frame = some X.env.locals) (nd : X.N.Nodup) (at_ : X.N[i]? = some n) (loc : X.env.kindOf n = some .local) (tk : Takes X Wout)
    (hb : ∀ (W : WX) (pn : List (Addr × Obj)) (xe : Value → Shared → Prop), Takes (X.tr pn xe) W → PassesOwn (model X.prog X.w) X.A X.env xe → PSs (X.tr pn xe) body (tb W))
    (hh : Clauses X n (h₀ :: hds) l) : PS X (.Try body (h₀ :: hds) [] [] pos) (fun D σ H => tb (wAll X.K i Wout D l) D σ H) := by
  refine ⟨fun pins s σ H D I ask => wpAny_Try_except ?_⟩
  have tried : ∀ (E0 : Value → Shared → Prop), Takes (X.tr (X.pn ++ pins) E0) (wAll X.K i Wout D l) → PassesOwn (model X.prog X.w) X.A X.env E0 → _ := fun E0 t0 p0 => (hb _ (X.pn ++ pins) E0 t0 p0).run [] s σ H D (I.toTry _) ask
  refine wpAny_mono (tried _ ?land ?pass) (fun f g h => ?thru) (fun _ _ z => z)
  case pass => exact PassesOwn.looking
  case thru =>
    have h2 := HotAs.sp_back I.ok h
    cases f <;> first | exact wpAny_execs_nil h2 | exact h2
  case land =>
    rintro u g ⟨a, B, sI, _, σ1, H1, cls, d, rfl, Jt, nb, up, sky, na, os, ag, wish⟩
    exact Sky.land (env := X.env) (outer := X.outer) Zc.steady (I.ok.frames.trans (congrArg some hs)) hf (hs ▸ sky) fun h1 fl up1 => asked hs hf nd at_ loc tk (Jt.ofTry I.ok) nb (up.trans up1) fl na os ag hh wish
end
end TryAs
/-! ### list(text); isinstance of a caught exception, within its suite -/
namespace LsT
open PySem PySem.Spec PyProof.Rows L2
/-- the signs of a text, each a text -/
def sgs (cs : List Nat) : List V := cs.map fun c => V.str ⟨#[c]⟩
theorem vals_sgs : ∀ (cs : List Nat) (us : List Value), us.length = cs.length → (∀ (j : Nat) (c : Nat) (u : Value), cs[j]? = some c → us[j]? = some u → ∃ t, u = .str ⟨#[c]⟩ t) → Vals (sgs cs) us
  | [], [], _, _ => .nil
  | c :: cs, u :: us, l, h => .cons (h 0 c u rfl rfl) (vals_sgs cs us (Nat.succ.inj l) fun j c u h1 h2 => h (j + 1) c u h1 h2)
  | [], _ :: _, l, _ => nomatch l
  | _ :: _, [], l, _ => nomatch l
theorem call_listS {X : Cx} (calm : X.calm = true) : CallR X (.type "list") (fun xs H Q => ∃ z : Str, xs = [.str z] ∧ z.length ≤ sizeLine ∧ ∀ l, H l = none → Q (.ref l) (upd H l (.lst (sgs z.cps.toList)))) := fun pins s σ H xs us Q I rel ask => by
  obtain ⟨z, rfl, small, q⟩ := ask
  obtain ⟨u, rfl, t, rfl⟩ := vals1 rel
  refine PySem.call_list_str (I.ok.hd calm) z t (fun hp tk acc c keep new items => ?_) small
  have vs : Vals (sgs z.cps.toList) acc.toList := vals_sgs _ _ (by rw [Array.length_toList, Array.length_toList]; exact items.1) fun j c u h1 h2 => by
    obtain ⟨c2, t2, g1, g2⟩ := items.2 j u (by rw [← Array.getElem?_toList]; exact h2)
    rw [Array.getElem?_toList, g1] at h1
    cases h1
    exact ⟨t2, g2⟩
  have few : (sgs z.cps.toList).length ≤ sizeLine := by
    unfold sgs
    rw [List.length_map, Array.length_toList]
    exact small
  exact ⟨.ref s.heap.objs.size, _, I.laid (t' := tk) keep (Nat.le_refl _) (show ObjOk X.prog X.w _ hp _ (.lst (sgs z.cps.toList)) from ⟨few, acc.toList, c, vs, new⟩), rfl, q _ (I.hok.fresh (Nat.le_refl _))⟩
/-- the reading of isinstance(e, C) in e's suite: cls and d are e's -/
def rIsS (K : PySem.W.Frag) (a D : Addr) (cls : Value) (d : Option Addr) : List V → Hp → VK → Prop := fun xs H Q => ∃ (c : V) (cv : Value) (b : Bool) (dd : Addr) (fs : List (Str × V)), cls = .ref D ∧ d = some dd ∧ xs = [.ref a, c] ∧ (∀ u, RelV c u → u = cv) ∧ H dd = some (.xd fs) ∧ PySem.W.kitOne K (.ref D) cv = some b ∧ Q (.bl b) H
theorem call_isS {X : Cx} {K : PySem.W.Frag} {D a : Addr} {oe : Obj} {cls : Value} {d : Option Addr} (hK : X.K = K) (C : ExcC K D) (mem : (a, oe) ∈ X.pn) (hz : Zc cls d oe) (hf : ∃ fs, oe.data = .fields fs) : CallR X (.builtin "isinstance") (rIsS K a D cls d) := fun pins s σ H xs us Q I rel ask => by
  subst hK
  obtain ⟨c, cv, b, dd, fs, rfl, rfl, r1, r2, r3, r4, r5⟩ := ask
  exact ExcM.call_isP C mem hz hf pins s σ H xs us Q I rel ⟨c, cv, b, fs, r1, r2, r3, r4, r5⟩
/-- isinstance(e, (C, ..)) there -/
def rIsT (K : PySem.W.Frag) (a D : Addr) (cls : Value) (d : Option Addr) : List V → Hp → VK → Prop := fun xs H Q => ∃ (tp : Addr) (cs : List V) (ws : List Value) (b : Bool) (dd : Addr) (fs : List (Str × V)), cls = .ref D ∧ d = some dd ∧ xs = [.ref a, .ref tp] ∧ H tp = some (.tup cs) ∧ Paired ClsV cs ws ∧ H dd = some (.xd fs) ∧ PySem.W.kitAny K (.ref D) ws = some b ∧ Q (.bl b) H
theorem call_isT {X : Cx} {K : PySem.W.Frag} {D a : Addr} {oe : Obj} {cls : Value} {d : Option Addr} (hK : X.K = K) (C : ExcC K D) (mem : (a, oe) ∈ X.pn) (hz : Zc cls d oe) (hf : ∃ fs, oe.data = .fields fs) : CallR X (.builtin "isinstance") (rIsT K a D cls d) := fun pins s σ H xs us Q I rel ask => by
  subst hK
  obtain ⟨tp, cs, ws, b, dd, fs, rfl, rfl, rfl, at_, cl, own, kit, q⟩ := ask
  obtain ⟨u1, u2, rfl, e1, e2⟩ := vals2 rel
  cases (show u1 = Value.ref a from e1)
  cases (show u2 = Value.ref tp from e2)
  obtain ⟨fv, dat⟩ := hf
  obtain ⟨mA, ns, _⟩ := (I.hok dd _ own : ObjOk X.prog X.w H s.heap dd (.xd fs))
  obtain ⟨od, has, _⟩ := lookIn_ns ns
  have inst : PySem.W.InstAt s.heap a oe D (some od) := ⟨(I.pin (a, oe) (List.mem_append_left _ mem)).1, hz.1, by unfold PySem.W.notCls; rw [dat] <;> rfl, hz.2.symm ▸ has⟩
  obtain ⟨_, its, rv, ⟨oc, odd, odt, osl⟩, g1, g2, n, g3⟩ := (I.hok tp _ at_ : ObjOk X.prog X.w H s.heap tp (.tup cs))
  cases ClsV.all cl rv
  cases (show oc = Value.type "tuple" from g2)
  cases (show odt = Data.seq ws.toArray n from g3)
  exact PySem.W.kia_tup (ExcM.kit_exc C) I.kIn inst g1 kit (fun z => nomatch z) fun tk => ⟨.bl b, H, I.tok tk, rfl, q⟩
end LsT
/-! ### zip of what are lists or tuples, each for itself -/
namespace ZipG
open PySem PySem.Spec PyProof.Rows L2
abbrev SqV := @PairW.SqV
def PrZ (t1 t2 : Bool) (K : PySem.W.Frag) (a b : Addr) : PairW.Prs where
  go := fun i H => ∃ xs ys : List V, SqV t1 K H a xs ∧ SqV t2 K H b ys ∧ i < min xs.length ys.length
  are := fun i H x y => (∀ xs, SqV t1 K H a xs → xs[i]? = some x) ∧ ∀ ys, SqV t2 K H b ys → ys[i]? = some y
  stop := fun i H => ∃ xs ys : List V, SqV t1 K H a xs ∧ SqV t2 K H b ys ∧ i = min xs.length ys.length
def TnZ (t1 t2 : Bool) (a b z TI TO i1 i2 : Addr) (i : Nat) (h : Heap) : Prop :=
  IsZip h z TI TO .none ∧ IsTupOf2 h TI (.ref i1) (.ref i2) ∧ (∃ x y, IsTupOf2 h TO x y) ∧ PairW.ItB t1 h i1 a i ∧ PairW.ItB t2 h i2 b i
theorem turn_z {P : Program} {w : World} {K : PySem.W.Frag} {elts : List Expr} {kk : Nat} {tpos : Pos} {t1 t2 : Bool} {a b z TI TO i1 i2 : Addr} (S : ZipSep2 z TI TO i1 i2 [i1, a] [i2, b]) (ha : a ≠ i1) (hb : b ≠ i2) :
    Turn P w K (.Tuple elts kk tpos) (PrZ t1 t2 K a b).it [z, TI, TO, i1, i2] z (TnZ t1 t2 a b z TI TO i1 i2) := by
  refine PairW.turn_prs (wr := [z, TO, i1, i2]) _ (by simp) (fun c m => ?_) (fun i h st c m => ?_) (fun i h h' st k => ?_) (fun A i s Q E st q => wpAny_pyIter_zip st.1 q) fun X e1 e2 e3 calm i pins s σ H I st told => ?_
  · simp only [List.mem_cons, List.not_mem_nil, or_false] at m ⊢
    rcases m with q | q | q | q <;> simp [q]
  · obtain ⟨hz, hI, ⟨x, y, hO⟩, g1, g2⟩ := st
    simp only [List.mem_cons, List.not_mem_nil, or_false] at m
    rcases m with q | q | q | q | q <;> subst q
    · exact ⟨_, hz, fun _ q => nomatch q⟩
    · exact ⟨_, hI, fun _ q => nomatch q⟩
    · exact ⟨_, hO, fun _ q => nomatch q⟩
    · exact g1.obj
    · exact g2.obj
  · obtain ⟨hz, hI, ⟨x, y, hO⟩, g1, g2⟩ := st
    exact ⟨k _ (by simp) _ hz, k _ (by simp) _ hI, ⟨x, y, k _ (by simp) _ hO⟩, g1.at fun o => k _ (by simp) o, g2.at fun o => k _ (by simp) o⟩
  · subst e1 e2 e3
    obtain ⟨xs, ys, hx, hy⟩ : ∃ xs ys : List V, SqV t1 X.K H a xs ∧ SqV t2 X.K H b ys := told.elim (fun ⟨xs, ys, p, q, _⟩ => ⟨xs, ys, p, q⟩) fun ⟨xs, ys, p, q, _⟩ => ⟨xs, ys, p, q⟩
    obtain ⟨its1, r1, th1⟩ := PairW.sqv_get I hx
    obtain ⟨its2, r2, th2⟩ := PairW.sqv_get I hy
    have many : min xs.length ys.length = min its1.toArray.size its2.toArray.size := by simp only [List.size_toArray]; rw [r1.length, r2.length]
    obtain ⟨hz, hI, hO, g1, g2⟩ := st
    have D1 := PairW.draws (prog := X.prog) (w := X.w) (A := X.A.in1) (I.ok.hd calm) t1 ha its1.toArray
    have D2 := PairW.draws (prog := X.prog) (w := X.w) (A := X.A.in1) (I.ok.hd calm) t2 hb its2.toArray
    refine ⟨_, _, _, _, GoesN.zip2 S D1 D2, ⟨hz, hI, hO, ⟨g1, th1⟩, ⟨g2, th2⟩⟩, fun h ⟨n1, n2, n3, n4, n5⟩ => ⟨n1, n2, n3, n4.1, n5.1⟩, ?_, ?_⟩
    · rintro ⟨xs', ys', p, q, n⟩
      rw [n, PairW.sqv_inj I p hx, PairW.sqv_inj I q hy, many]
    · rintro ⟨xs', ys', p, q, n⟩
      rw [PairW.sqv_inj I p hx, PairW.sqv_inj I q hy] at n
      refine ⟨many ▸ n, ?_⟩
      rintro h0 v h ⟨T, u1, u2, rfl, new, hu1, hu2, tup⟩
      have l1 : i < xs.length := by omega
      have l2 : i < ys.length := by omega
      obtain ⟨w1, hw1, rr1⟩ := r1.get (List.getElem?_eq_getElem l1)
      obtain ⟨w2, hw2, rr2⟩ := r2.get (List.getElem?_eq_getElem l2)
      have s1 : w1 = u1 := Option.some.inj (hw1.symm.trans (by simpa using hu1))
      have s2 : w2 = u2 := Option.some.inj (hw2.symm.trans (by simpa using hu2))
      exact ⟨T, u1, u2, xs[i], ys[i], rfl, new, tup, s1 ▸ rr1, s2 ▸ rr2, fun zs hz => by rw [PairW.sqv_inj I hz hx]; exact List.getElem?_eq_getElem l1, fun zs hz => by rw [PairW.sqv_inj I hz hy]; exact List.getElem?_eq_getElem l2⟩
def iZipG (K : PySem.W.Frag) (ta : TA) : TI := fun σ H R => ta σ H fun vs H1 => ∃ a b xs ys, vs = [.ref a, .ref b] ∧ ∃ (t1 t2 : Bool), SqV t1 K H1 a xs ∧ SqV t2 K H1 b ys ∧ R (PrZ t1 t2 K a b).it H1
theorem pi_zipG {X : Cx} {e e2 : Expr} {ta : TA} {p pos tpos : Pos} {elts : List Expr} {kk : Nat} (hg : Gl X "zip") (hm : X.mg "zip" = none) (ha : PA X [e, e2] ta)
    (hs : (starEach [e, e2] X.env = (false, eval e X.env) :: starEach [e2] X.env) := by rfl) (hpl : (backTo pos (starEach [e2] X.env)).any (·.1) = false := by rfl) :
    PI X (.Tuple elts kk tpos) (.Call (.Name "zip" p) [e, e2] [] pos) (iZipG X.K ta) where
  run := fun pins s σ H R I h => Call_ (ld_blt I hg hm PyProof.Rows.boot_zip (PyProof.Rows.callWith_type1 (thn (ha.run pos pins s σ H _ I h) fun us s1 ⟨vs, H1, I1, rv, a, b, xs, ys, ev, t1, t2, hx, hy, q⟩ => by
    subst ev
    obtain ⟨_, _, rfl, ru1, ru2⟩ := vals2 rv
    cases ru1
    cases ru2
    obtain ⟨its1, _, th1⟩ := PairW.sqv_get I1 hx
    obtain ⟨its2, _, th2⟩ := PairW.sqv_get I1 hy
    have below : ∀ {c d : Addr}, c < s1.heap.objs.size → d ∈ [c] → d < s1.heap.objs.size := fun l m => List.mem_singleton.mp m ▸ l
    refine zip_begins2 (PairW.begins t1 a its1.toArray) (PairW.begins t2 b its2.toArray) th1 th2 fun h' hz hI hO h1 h2 _ old => wpAny_pyIter_zip hz ?_
    refine PairW.begun I1 old (turn_z (zip_sep2 (fp1 := [a]) (fp2 := [b]) (fun _ => below th1.lt) fun _ => below th2.lt) (Nat.ne_of_lt th1.lt) (Nat.ne_of_lt (Nat.lt_succ_of_lt th2.lt))) ⟨hz, hI, ⟨_, _, hO⟩, PairW.itO_is h1, PairW.itO_is h2⟩ (fun c m => ?_) q
    simp only [List.mem_cons, List.not_mem_nil, or_false] at m
    rcases m with z | z | z | z | z <;> subst z <;> omega) hs hpl))
theorem walk_zipG {t1 t2 : Bool} {K : PySem.W.Frag} {a b : Addr} {xs ys : List V} {n : Nat} (hn : n = min xs.length ys.length) : Walk (PrZ t1 t2 K a b).it n (fun H => SqV t1 K H a xs ∧ SqV t2 K H b ys) (YPair (fun i => xs[i]?) (fun i => ys[i]?)) where
  goes := fun i H lt ⟨p, q⟩ => ⟨xs, ys, p, q, hn ▸ lt⟩
  stops := fun H ⟨p, q⟩ => ⟨xs, ys, p, q, hn⟩
  yields := fun i H v H' _ ⟨p, q⟩ ⟨T, x, y, e1, e2, e3, e4, e5⟩ => ⟨T, x, y, e1, e2, e3, e4 xs p, e5 ys q⟩
end ZipG
/-! ### enumerate(xs, start=1) over a list -/
namespace Enum1
open PySem PySem.Spec PySem.Calls PyProof.Rows L2
section
variable {M : Model} {A : Around} {s : Shared} {env : Env} {E : Value → Shared → Prop}
theorem with_kw {pos : Pos} {T : String} {Q : Value → Shared → Prop} {e : Expr} {rest : List Expr} {kws : List Keyword} (hall : (backToKw pos (keywordEach kws env)).all (·.1.isSome) = true)
    (h : wpAny M A (spliced (backTo pos (starEach (e :: rest) env))) (fun vs s1 => wpAny M A (evalAll ((backToKw pos (keywordEach kws env)).map (·.2)))
      (fun ks s2 => True ∧ wpAny M A (call (.type T) ([] ++ vs) (((backToKw pos (keywordEach kws env)).filterMap (·.1)).zip ks)) Q E s2) E s1) E s)
    (hplain : ((backTo pos (starEach (e :: rest) env)).any (·.1) || (backToKw pos (keywordEach kws env)).any (·.1.isNone)) = false) (he : starEach (e :: rest) env = (false, eval e env) :: starEach rest env) :
    wpAny M A (callWith pos (.type T) [] (backTo pos (starEach (e :: rest) env)) (backToKw pos (keywordEach kws env))) Q E s :=
  PySem.W.callWith_of (P := fun _ => True) hplain (fun _ _ => ⟨_, .inr (.inl rfl), PySem.W.Looks.now⟩) (evalArgs_kw2 hall h he)
end
theorem walk_enumS {K : PySem.W.Frag} {a : Addr} {xs : List V} : Walk (PairW.PrE false 1 K a).it xs.length (fun H => SqL K H a xs) (YPair (fun i => some (.int ((i : Int) + 1))) (fun i => xs[i]?)) := by
  have w := PairW.walk_e (t := false) (k0 := 1) (K := K) (a := a) (xs := xs)
  simp only [Int.add_comm 1] at w
  exact w
def iEnumS (K : PySem.W.Frag) (ta : TA) : TI := fun σ H R => ta σ H fun vs H1 => ∃ a xs, vs = [.ref a] ∧ SqL K H1 a xs ∧ R (PairW.PrE false 1 K a).it H1
theorem pi_enumS {X : Cx} {e : Expr} {ta : TA} {p pos tpos kpos cpos : Pos} {j : Int} {jj : Nat} {elts : List Expr} {kk : Nat} (hg : Gl X "enumerate") (hm : X.mg "enumerate" = none) (ha : PA X [e] ta) (hj : j = 1 := by rfl)
    (hs : starEach [e] X.env = (false, eval e X.env) :: starEach [] X.env := by rfl) (hall : (backToKw pos (keywordEach [⟨some "start", .Constant (.int j) jj cpos, kpos⟩] X.env)).all (·.1.isSome) = true := by rfl)
    (hpl : ((backTo pos (starEach [e] X.env)).any (·.1) || (backToKw pos (keywordEach [⟨some "start", .Constant (.int j) jj cpos, kpos⟩] X.env)).any (·.1.isNone)) = false := by rfl)
    (hks : (backToKw pos (keywordEach [⟨some "start", .Constant (.int j) jj cpos, kpos⟩] X.env)).filterMap (·.1) = [Str.ofString "start"] := by rfl) :
    PI X (.Tuple elts kk tpos) (.Call (.Name "enumerate" p) [e] [⟨some "start", .Constant (.int j) jj cpos, kpos⟩] pos) (iEnumS X.K ta) := by
  subst hj
  have hk : PK X [⟨some "start", .Constant (.int 1) jj cpos, kpos⟩] (tCons (tC (.int 1)) tNil) := pk_cons pe_int pk_nil
  refine .mk fun pins s σ H R I h => ?_
  refine wpAny_Call_Name_kw (ld_blt I hg hm boot_enumerate (with_kw hall (thn (ha.run pos pins s σ H _ I h) fun us s1 ⟨vs, H1, I1, rv, a, xs, e, hq, q⟩ =>
    thn (hk.run pos pins s1 σ H1 (fun ws H2 => H2 = H1 ∧ ws = [.int 1]) I1 ⟨rfl, rfl⟩) fun ks s2 ⟨zs, H2, I2, rk, e2, ez⟩ => ⟨trivial, ?_⟩) hpl hs))
  subst e e2 ez
  obtain ⟨_, rfl, rfl⟩ := vals1 rv
  obtain ⟨_, rfl, tk, rfl⟩ := vals1 rk
  obtain ⟨its, _, there⟩ := PairW.sqv_get (t := false) I2 hq
  rw [hks]
  exact enum_begins_start (PairW.begins false a its.toArray) there (by decide) (by decide) fun h' he hi _ old => PairW.pie_e (t := false) (xs := xs) I2 hq he hi old q
end Enum1
/-! ### C(..) whose __init__ may raise, within a try -/
namespace MakeS
open PySem PySem.Spec PyProof.Rows L2
section
variable {X : Cx} {CX : CXT} {k : Nat} {C f : Addr} {fd : FuncData} {ps : List Str} {sp : Sp} {E : L2.St → XK} {x : Str} {p pos : Pos} {e : Expr} {es : List Expr} {t : TA}
def tMakeS (C : Addr) (sp : Sp) (E : L2.St → XK) (t : TA) : TE := fun σ H Q => t σ H fun vs H1 => ∀ x dx, H1 x = none → H1 dx = none → dx ≠ x → sp (.ref x :: vs) (upd (upd H1 dx (.own x)) x (.ins C dx [])) (fun v H2 => v = .non ∧ Q (.ref x) H2) (E σ)
theorem pe_makeS (M : Mk X.K C f) (G : FnOk X.prog X.w X.K X.mg X.base CX k f fd ps sp) (room : Room (k + 1) X.A) (hg : Gl X x) (hm : X.mg x = some (.ref C)) (hb : Binds X.K fd ps []) (pass : ∀ σ, PassesAt CX X σ (E σ))
    (ha : PA X (e :: es) t) (hdb : (x == ("__debug__" : Str)) = false := by decide) (he : starEach (e :: es) X.env = (false, eval e X.env) :: starEach es X.env := by rfl) (hpl : (backTo pos (starEach es X.env)).any (·.1) = false := by rfl) : PE X (.Call (.Name x p) (e :: es) [] pos) (tMakeS C sp E t) := ⟨fun pins s σ H Q I ask => by
  refine wpAny_Call_Name_kw (ld_glob I hg hm (PySem.W.callWith_K (h₀ := X.base) I.ok.mod.kin M.kp (thn (ha.run pos pins s σ H _ I ask) fun us g ⟨vs, H1, J, rel, wish⟩ => ⟨J.kIn, ?_⟩) he hpl) hdb)
  have wish1 := wish (g.heap.objs.size + 1) g.heap.objs.size (J.hok.fresh (Nat.le_succ _)) (J.hok.fresh (Nat.le_refl _)) (Nat.ne_of_lt (Nat.lt_succ_self _))
  have made := Inv.made (C := C) J
  have rel1 : Vals (V.ref (g.heap.objs.size + 1) :: vs) (Value.ref (g.heap.objs.size + 1) :: us) := .cons rfl rel
  have bind := hb _ (Value.ref (g.heap.objs.size + 1) :: us) made.kIn (by rw [List.append_nil]; exact rel1.length.symm.trans (G.len _ _ _ _ wish1))
  rw [List.append_nil] at bind
  refine wpAny_call (make_map (f := f) J.kIn M.makes M.init (beq_iff_eq.mp M.fn) (codeAny_mono (G.run _ X.stack _ _ ⟨Value.ref (g.heap.objs.size + 1) :: us, []⟩ _ _ _ (E σ) (room.make C us []) (made.env0.make C us []) bind rel1 wish1) fun r g2 got => ?_))
  match r, got with
  | .error er, got => exact pass σ pins _ _ er g2 made got
  | .ok (.ret u), got =>
    obtain ⟨v, H2, J2, rv, rfl, q⟩ := made.after got
    exact ⟨rv, V.ref (g.heap.objs.size + 1), H2, J2, rfl, q⟩
  | .ok .next, got => exact got.elim
  | .ok .brk, got => exact got.elim
  | .ok .cont, got => exact got.elim⟩
end
end MakeS
/-! ### a field read where the world is not known yet (within a try) -/
namespace FldK
open PySem PySem.Spec PyProof.Rows L2
theorem pe_fldK {X : Cx} {K : PySem.W.Frag} {e : Expr} {ta : TE} {f : Str} {pos : Pos} (h : X.K = K) (he : PE X e ta) (hb : attributeBase e f X.env (eval e X.env) = eval e X.env) : PE X (.Attribute e f pos) (tFld K ta f) := by
  subst h
  exact pe_fld he hb
end FldK
namespace M
open PySem PySem.Spec PyProof.Rows L2
def topS (i : Nat) : Stmt := PySem.Challenge.pw_wayneedle_k85_atlases_nearly_right.main.body.getD i (.Pass ⟨0, 0, 0, 0⟩)
abbrev s_is_whole : Stmt := topS 2
theorem sc_is_whole : FnScope ["thing"] ["thing"] (defScope s_is_whole) := ⟨rfl, rfl, rfl, by decide +kernel, rfl, by decide +kernel, by decide +kernel⟩
abbrev s_is_row : Stmt := topS 3
theorem sc_is_row : FnScope ["thing"] ["thing"] (defScope s_is_row) := ⟨rfl, rfl, rfl, by decide +kernel, rfl, by decide +kernel, by decide +kernel⟩
abbrev s_laid_out : Stmt := topS 4
theorem sc_laid_out : FnScope ["thing", "things", "begins", "whole"] ["thing"] (defScope s_laid_out) := ⟨rfl, rfl, rfl, by decide +kernel, rfl, by decide +kernel, by decide +kernel⟩
abbrev s_kept : Stmt := topS 5
theorem sc_kept : FnScope ["thing", "things", "begins", "at", "anew", "whole", "begin", "end"] ["thing"] (defScope s_kept) := ⟨rfl, rfl, rfl, by decide +kernel, rfl, by decide +kernel, by decide +kernel⟩
abbrev s_is_letter : Stmt := topS 16
theorem sc_is_letter : FnScope ["thing"] ["thing"] (defScope s_is_letter) := ⟨rfl, rfl, rfl, by decide +kernel, rfl, by decide +kernel, by decide +kernel⟩
abbrev s_is_short_text : Stmt := topS 23
theorem sc_is_short_text : FnScope ["thing"] ["thing"] (defScope s_is_short_text) := ⟨rfl, rfl, rfl, by decide +kernel, rfl, by decide +kernel, by decide +kernel⟩
abbrev s_are_small : Stmt := topS 24
theorem sc_are_small : FnScope ["text", "letter"] ["text"] (defScope s_are_small) := ⟨rfl, rfl, rfl, by decide +kernel, rfl, by decide +kernel, by decide +kernel⟩
abbrev s_is_name : Stmt := topS 25
theorem sc_is_name : FnScope ["thing"] ["thing"] (defScope s_is_name) := ⟨rfl, rfl, rfl, by decide +kernel, rfl, by decide +kernel, by decide +kernel⟩
abbrev s_is_lone : Stmt := topS 26
theorem sc_is_lone : FnScope ["thing"] ["thing"] (defScope s_is_lone) := ⟨rfl, rfl, rfl, by decide +kernel, rfl, by decide +kernel, by decide +kernel⟩
abbrev s_is_sign : Stmt := topS 27
theorem sc_is_sign : FnScope ["thing"] ["thing"] (defScope s_is_sign) := ⟨rfl, rfl, rfl, by decide +kernel, rfl, by decide +kernel, by decide +kernel⟩
abbrev s_is_many : Stmt := topS 28
theorem sc_is_many : FnScope ["thing"] ["thing"] (defScope s_is_many) := ⟨rfl, rfl, rfl, by decide +kernel, rfl, by decide +kernel, by decide +kernel⟩
abbrev s_is_pair_entry : Stmt := topS 29
theorem sc_is_pair_entry : FnScope ["word", "part"] ["word", "part"] (defScope s_is_pair_entry) := ⟨rfl, rfl, rfl, by decide +kernel, rfl, by decide +kernel, by decide +kernel⟩
abbrev s_is_entry : Stmt := topS 30
theorem sc_is_entry : FnScope ["thing"] ["thing"] (defScope s_is_entry) := ⟨rfl, rfl, rfl, by decide +kernel, rfl, by decide +kernel, by decide +kernel⟩
abbrev s_held_log : Stmt := topS 31
theorem sc_held_log : FnScope ["entries", "faced", "log", "at", "thing"] ["entries"] (defScope s_held_log) := ⟨rfl, rfl, rfl, by decide +kernel, rfl, by decide +kernel, by decide +kernel⟩
abbrev s_held_box : Stmt := topS 35
theorem sc_held_box : FnScope ["box", "at", "thing"] ["box"] (defScope s_held_box) := ⟨rfl, rfl, rfl, by decide +kernel, rfl, by decide +kernel, by decide +kernel⟩
abbrev s_held_log_of : Stmt := topS 36
theorem sc_held_log_of : FnScope ["name", "log", "why"] ["name", "log"] (defScope s_held_log_of) := ⟨rfl, rfl, rfl, by decide +kernel, rfl, by decide +kernel, by decide +kernel⟩
abbrev s_number_in : Stmt := topS 42
theorem sc_number_in : FnScope ["word", "figure"] ["word"] (defScope s_number_in) := ⟨rfl, rfl, rfl, by decide +kernel, rfl, by decide +kernel, by decide +kernel⟩
abbrev s_entry_in : Stmt := topS 43
theorem sc_entry_in : FnScope ["text", "words"] ["text"] (defScope s_entry_in) := ⟨rfl, rfl, rfl, by decide +kernel, rfl, by decide +kernel, by decide +kernel⟩
abbrev s_read_log : Stmt := topS 44
theorem sc_read_log : FnScope ["text", "why", "part"] ["text"] (defScope s_read_log) := ⟨rfl, rfl, rfl, by decide +kernel, rfl, by decide +kernel, by decide +kernel⟩
abbrev s_box_in : Stmt := topS 45
theorem sc_box_in : FnScope ["line", "words", "box", "word"] ["line"] (defScope s_box_in) := ⟨rfl, rfl, rfl, by decide +kernel, rfl, by decide +kernel, by decide +kernel⟩
abbrev s_pair_in : Stmt := topS 46
theorem sc_pair_in : FnScope ["line", "name", "between", "text"] ["line"] (defScope s_pair_in) := ⟨rfl, rfl, rfl, by decide +kernel, rfl, by decide +kernel, by decide +kernel⟩
abbrev s_read_atlas : Stmt := topS 47
theorem sc_read_atlas : FnScope ["text", "lines", "box", "pairs", "at", "line", "pair"] ["text"] (defScope s_read_atlas) := ⟨rfl, rfl, rfl, by decide +kernel, rfl, by decide +kernel, by decide +kernel⟩
abbrev s_Lany_entry : Stmt := topS 49
theorem sc_Lany_entry : FnScope ["_law_pool_here", "_law_looks", "_law_pick", "_law_sign_here"] ["_law_pool_here", "_law_looks"] (defScope s_Lany_entry) := ⟨rfl, rfl, rfl, by decide +kernel, rfl, by decide +kernel, by decide +kernel⟩
abbrev s_Lany_log : Stmt := topS 50
theorem sc_Lany_log : FnScope ["_law_pool_here", "_law_many", "_law_swaps", "_law_log", "_law_looks", "_law_left", "_law_k", "_law_entry"] ["_law_pool_here", "_law_many", "_law_swaps"] (defScope s_Lany_log) := ⟨rfl, rfl, rfl, by decide +kernel, rfl, by decide +kernel, by decide +kernel⟩
abbrev s_Lis_name : Stmt := topS 51
theorem sc_Lis_name : FnScope ["_law_thing", "_law_letter"] ["_law_thing"] (defScope s_Lis_name) := ⟨rfl, rfl, rfl, by decide +kernel, rfl, by decide +kernel, by decide +kernel⟩
abbrev s_Lis_sign : Stmt := topS 52
theorem sc_Lis_sign : FnScope ["_law_thing", "_law_first"] ["_law_thing"] (defScope s_Lis_sign) := ⟨rfl, rfl, rfl, by decide +kernel, rfl, by decide +kernel, by decide +kernel⟩
abbrev s_Lis_many : Stmt := topS 53
theorem sc_Lis_many : FnScope ["_law_thing"] ["_law_thing"] (defScope s_Lis_many) := ⟨rfl, rfl, rfl, by decide +kernel, rfl, by decide +kernel, by decide +kernel⟩
abbrev s_Lis_entry : Stmt := topS 54
theorem sc_Lis_entry : FnScope ["_law_thing"] ["_law_thing"] (defScope s_Lis_entry) := ⟨rfl, rfl, rfl, by decide +kernel, rfl, by decide +kernel, by decide +kernel⟩
abbrev s_Lbad_at : Stmt := topS 55
theorem sc_Lbad_at : FnScope ["_law_entries", "_law_looks", "_law_at", "_law_entry"] ["_law_entries"] (defScope s_Lbad_at) := ⟨rfl, rfl, rfl, by decide +kernel, rfl, by decide +kernel, by decide +kernel⟩
abbrev s_Lspoilt_text : Stmt := topS 56
theorem sc_Lspoilt_text : FnScope ["_law_pool_here", "_law_text", "_law_signs", "_law_sign_here", "_law_at", "_law_pick"] ["_law_pool_here", "_law_text"] (defScope s_Lspoilt_text) := ⟨rfl, rfl, rfl, by decide +kernel, rfl, by decide +kernel, by decide +kernel⟩
abbrev s_Lsmall_log : Stmt := topS 57
theorem sc_Lsmall_log : FnScope ["_law_pool_here", "_law_many", "_law_swaps", "_law_found", "_law_entry"] ["_law_pool_here", "_law_many", "_law_swaps"] (defScope s_Lsmall_log) := ⟨rfl, rfl, rfl, by decide +kernel, rfl, by decide +kernel, by decide +kernel⟩
abbrev s_Lsmall_rows : Stmt := topS 58
theorem sc_Lsmall_rows : FnScope ["_law_pool_here", "_law_walkers", "_law_rows", "_law_left", "_law_name_here", "_law_log"] ["_law_pool_here", "_law_walkers"] (defScope s_Lsmall_rows) := ⟨rfl, rfl, rfl, by decide +kernel, rfl, by decide +kernel, by decide +kernel⟩
abbrev s_Lsmall_box : Stmt := topS 59
theorem sc_Lsmall_box : FnScope ["_law_pool_here", "_law_legs_here", "_law_box", "_law_wide", "_law_k"] ["_law_pool_here", "_law_legs_here"] (defScope s_Lsmall_box) := ⟨rfl, rfl, rfl, by decide +kernel, rfl, by decide +kernel, by decide +kernel⟩
abbrev s_Lpool : Stmt := topS 60
theorem sc_Lpool : FnScope ["_law_script", "_law_k", "_law_cell", "_law_left"] ["_law_script", "_law_k"] (defScope s_Lpool) := ⟨rfl, rfl, rfl, by decide +kernel, rfl, by decide +kernel, by decide +kernel⟩
abbrev s_Ltake : Stmt := topS 61
theorem sc_Ltake : FnScope ["_law_pool_here", "_law_wide", "_law_found", "_law_primes", "_law_one", "_law_two"] ["_law_pool_here", "_law_wide"] (defScope s_Ltake) := ⟨rfl, rfl, rfl, by decide +kernel, rfl, by decide +kernel, by decide +kernel⟩
abbrev s_Lwhole : Stmt := topS 62
theorem sc_Lwhole : FnScope ["_law_thing"] ["_law_thing"] (defScope s_Lwhole) := ⟨rfl, rfl, rfl, by decide +kernel, rfl, by decide +kernel, by decide +kernel⟩
abbrev s_Lsame : Stmt := topS 63
theorem sc_Lsame : FnScope ["_law_found", "_law_due_here", "_law_one", "_law_other"] ["_law_found", "_law_due_here"] (defScope s_Lsame) := ⟨rfl, rfl, rfl, by decide +kernel, rfl, by decide +kernel, by decide +kernel⟩
abbrev s_Lname : Stmt := topS 64
theorem sc_Lname : FnScope ["_law_pool_here", "_law_letters", "_law_k"] ["_law_pool_here"] (defScope s_Lname) := ⟨rfl, rfl, rfl, by decide +kernel, rfl, by decide +kernel, by decide +kernel⟩
abbrev s_Lnames : Stmt := topS 65
theorem sc_Lnames : FnScope ["_law_pool_here", "_law_many", "_law_found", "_law_k", "_law_name_here", "_law_letter"] ["_law_pool_here", "_law_many"] (defScope s_Lnames) := ⟨rfl, rfl, rfl, by decide +kernel, rfl, by decide +kernel, by decide +kernel⟩
abbrev s_Lsign : Stmt := topS 66
theorem sc_Lsign : FnScope ["_law_pool_here", "_law_lone", "_law_sign_here"] ["_law_pool_here", "_law_lone"] (defScope s_Lsign) := ⟨rfl, rfl, rfl, by decide +kernel, rfl, by decide +kernel, by decide +kernel⟩
abbrev s_Llegs : Stmt := topS 67
theorem sc_Llegs : FnScope ["_law_log", "_law_entry"] ["_law_log"] (defScope s_Llegs) := ⟨rfl, rfl, rfl, by decide +kernel, rfl, by decide +kernel, by decide +kernel⟩
abbrev s_Lentry_of : Stmt := topS 68
theorem sc_Lentry_of : FnScope ["_law_text", "_law_words", "_law_entry"] ["_law_text"] (defScope s_Lentry_of) := ⟨rfl, rfl, rfl, by decide +kernel, rfl, by decide +kernel, by decide +kernel⟩
abbrev s_Lrow_of : Stmt := topS 69
theorem sc_Lrow_of : FnScope ["_law_line", "_law_at", "_law_log", "_law_part"] ["_law_line"] (defScope s_Lrow_of) := ⟨rfl, rfl, rfl, by decide +kernel, rfl, by decide +kernel, by decide +kernel⟩
abbrev s_Lbox_of : Stmt := topS 70
theorem sc_Lbox_of : FnScope ["_law_line", "_law_words", "_law_word", "_law_figures", "_law_sign_here"] ["_law_line"] (defScope s_Lbox_of) := ⟨rfl, rfl, rfl, by decide +kernel, rfl, by decide +kernel, by decide +kernel⟩
abbrev s_Ldue : Stmt := topS 71
theorem sc_Ldue : FnScope ["_law_text", "_law_lines", "_law_box", "_law_rows", "_law_at", "_law_line", "_law_row"] ["_law_text"] (defScope s_Ldue) := ⟨rfl, rfl, rfl, by decide +kernel, rfl, by decide +kernel, by decide +kernel⟩
abbrev s_Lread : Stmt := topS 72
theorem sc_Lread : FnScope ["_law_text", "_law_found", "_law_atlas", "e"] ["_law_text"] (defScope s_Lread) := ⟨rfl, rfl, rfl, by decide +kernel, rfl, by decide +kernel, by decide +kernel⟩
abbrev s_Lbent : Stmt := topS 73
theorem sc_Lbent : FnScope ["_law_pool_here", "_law_lines", "_law_way", "_law_at", "_law_to", "_law_some"] ["_law_pool_here", "_law_lines"] (defScope s_Lbent) := ⟨rfl, rfl, rfl, by decide +kernel, rfl, by decide +kernel, by decide +kernel⟩
abbrev s_law : Stmt := topS 74
theorem sc_law : FnScope ["_law_script", "_law_pool_here", "_law_rows", "_law_lines", "_law_name_here", "_law_log", "_law_text", "_law_k", "_law_there", "_law_bent_here", "_law_turn", "_law_due_here", "_law_legs_here", "_law_within", "_law_entry", "_law_count", "_law_part"] ["_law_script"] (defScope s_law) := ⟨rfl, rfl, rfl, by decide +kernel, rfl, by decide +kernel, by decide +kernel⟩
abbrev s_Atlas_init : Stmt := inClass (topS 37) 0
theorem sc_Atlas_init : FnScope ["self", "box", "logs", "held", "name", "log"] ["self", "box", "logs"] (defScope s_Atlas_init) := ⟨rfl, rfl, rfl, by decide +kernel, rfl, by decide +kernel, by decide +kernel⟩
abbrev s_init : Stmt := inClass (topS 8) 0
theorem sc_init : FnScope ["self", "name", "at"] ["self", "name", "at"] (defScope s_init) := ⟨rfl, rfl, rfl, by decide +kernel, rfl, by decide +kernel, by decide +kernel⟩
abbrev s_init_BadBox : Stmt := inClass (topS 9) 0
theorem sc_init_BadBox : FnScope ["self", "at"] ["self", "at"] (defScope s_init_BadBox) := ⟨rfl, rfl, rfl, by decide +kernel, rfl, by decide +kernel, by decide +kernel⟩
abbrev s_init_NoName : Stmt := inClass (topS 10) 0
theorem sc_init_NoName : FnScope ["self", "name"] ["self", "name"] (defScope s_init_NoName) := ⟨rfl, rfl, rfl, by decide +kernel, rfl, by decide +kernel, by decide +kernel⟩
abbrev s_init_Twice : Stmt := inClass (topS 11) 0
theorem sc_init_Twice : FnScope ["self", "name"] ["self", "name"] (defScope s_init_Twice) := ⟨rfl, rfl, rfl, by decide +kernel, rfl, by decide +kernel, by decide +kernel⟩
abbrev s_init_NoText : Stmt := inClass (topS 13) 0
theorem sc_init_NoText : FnScope ["self", "at"] ["self", "at"] (defScope s_init_NoText) := ⟨rfl, rfl, rfl, by decide +kernel, rfl, by decide +kernel, by decide +kernel⟩
/-- what the top has left -/
structure Top (w : World) (K : PySem.W.Frag) (mg : Str → Option Value) where
  a_Atlas : Addr
  g_Atlas : mg "Atlas" = some (.ref a_Atlas)
  cl_Atlas : Cls K a_Atlas
  nf_Atlas_box : NoAttr K a_Atlas "box"
  nf_Atlas_names : NoAttr K a_Atlas "names"
  nf_Atlas_logs : NoAttr K a_Atlas "logs"
  a_is_whole : Addr
  fd_is_whole : FuncData
  F_is_whole : Fun K "is_whole" "is_whole" s_is_whole a_is_whole fd_is_whole
  b_is_whole : Binds K fd_is_whole ["thing"] []
  g_is_whole : mg "is_whole" = some (.ref a_is_whole)
  a_is_row : Addr
  fd_is_row : FuncData
  F_is_row : Fun K "is_row" "is_row" s_is_row a_is_row fd_is_row
  b_is_row : Binds K fd_is_row ["thing"] []
  g_is_row : mg "is_row" = some (.ref a_is_row)
  a_laid_out : Addr
  fd_laid_out : FuncData
  F_laid_out : Fun K "laid_out" "laid_out" s_laid_out a_laid_out fd_laid_out
  b_laid_out : Binds K fd_laid_out ["thing"] []
  g_laid_out : mg "laid_out" = some (.ref a_laid_out)
  a_kept : Addr
  fd_kept : FuncData
  F_kept : Fun K "kept" "kept" s_kept a_kept fd_kept
  b_kept : Binds K fd_kept ["thing"] []
  g_kept : mg "kept" = some (.ref a_kept)
  a_is_letter : Addr
  fd_is_letter : FuncData
  F_is_letter : Fun K "is_letter" "is_letter" s_is_letter a_is_letter fd_is_letter
  b_is_letter : Binds K fd_is_letter ["thing"] []
  g_is_letter : mg "is_letter" = some (.ref a_is_letter)
  a_is_short_text : Addr
  fd_is_short_text : FuncData
  F_is_short_text : Fun K "is_short_text" "is_short_text" s_is_short_text a_is_short_text fd_is_short_text
  b_is_short_text : Binds K fd_is_short_text ["thing"] []
  g_is_short_text : mg "is_short_text" = some (.ref a_is_short_text)
  a_are_small : Addr
  fd_are_small : FuncData
  F_are_small : Fun K "are_small" "are_small" s_are_small a_are_small fd_are_small
  b_are_small : Binds K fd_are_small ["text"] []
  g_are_small : mg "are_small" = some (.ref a_are_small)
  a_is_name : Addr
  fd_is_name : FuncData
  F_is_name : Fun K "is_name" "is_name" s_is_name a_is_name fd_is_name
  b_is_name : Binds K fd_is_name ["thing"] []
  g_is_name : mg "is_name" = some (.ref a_is_name)
  a_is_lone : Addr
  fd_is_lone : FuncData
  F_is_lone : Fun K "is_lone" "is_lone" s_is_lone a_is_lone fd_is_lone
  b_is_lone : Binds K fd_is_lone ["thing"] []
  g_is_lone : mg "is_lone" = some (.ref a_is_lone)
  a_is_sign : Addr
  fd_is_sign : FuncData
  F_is_sign : Fun K "is_sign" "is_sign" s_is_sign a_is_sign fd_is_sign
  b_is_sign : Binds K fd_is_sign ["thing"] []
  g_is_sign : mg "is_sign" = some (.ref a_is_sign)
  a_is_many : Addr
  fd_is_many : FuncData
  F_is_many : Fun K "is_many" "is_many" s_is_many a_is_many fd_is_many
  b_is_many : Binds K fd_is_many ["thing"] []
  g_is_many : mg "is_many" = some (.ref a_is_many)
  a_is_pair_entry : Addr
  fd_is_pair_entry : FuncData
  F_is_pair_entry : Fun K "is_pair_entry" "is_pair_entry" s_is_pair_entry a_is_pair_entry fd_is_pair_entry
  b_is_pair_entry : Binds K fd_is_pair_entry ["word", "part"] []
  g_is_pair_entry : mg "is_pair_entry" = some (.ref a_is_pair_entry)
  a_is_entry : Addr
  fd_is_entry : FuncData
  F_is_entry : Fun K "is_entry" "is_entry" s_is_entry a_is_entry fd_is_entry
  b_is_entry : Binds K fd_is_entry ["thing"] []
  g_is_entry : mg "is_entry" = some (.ref a_is_entry)
  a_held_log : Addr
  fd_held_log : FuncData
  F_held_log : Fun K "held_log" "held_log" s_held_log a_held_log fd_held_log
  b_held_log : Binds K fd_held_log ["entries"] []
  g_held_log : mg "held_log" = some (.ref a_held_log)
  a_held_box : Addr
  fd_held_box : FuncData
  F_held_box : Fun K "held_box" "held_box" s_held_box a_held_box fd_held_box
  b_held_box : Binds K fd_held_box ["box"] []
  g_held_box : mg "held_box" = some (.ref a_held_box)
  a_held_log_of : Addr
  fd_held_log_of : FuncData
  F_held_log_of : Fun K "held_log_of" "held_log_of" s_held_log_of a_held_log_of fd_held_log_of
  b_held_log_of : Binds K fd_held_log_of ["name", "log"] []
  g_held_log_of : mg "held_log_of" = some (.ref a_held_log_of)
  a_number_in : Addr
  fd_number_in : FuncData
  F_number_in : Fun K "number_in" "number_in" s_number_in a_number_in fd_number_in
  b_number_in : Binds K fd_number_in ["word"] []
  g_number_in : mg "number_in" = some (.ref a_number_in)
  a_entry_in : Addr
  fd_entry_in : FuncData
  F_entry_in : Fun K "entry_in" "entry_in" s_entry_in a_entry_in fd_entry_in
  b_entry_in : Binds K fd_entry_in ["text"] []
  g_entry_in : mg "entry_in" = some (.ref a_entry_in)
  a_read_log : Addr
  fd_read_log : FuncData
  F_read_log : Fun K "read_log" "read_log" s_read_log a_read_log fd_read_log
  b_read_log : Binds K fd_read_log ["text"] []
  g_read_log : mg "read_log" = some (.ref a_read_log)
  a_box_in : Addr
  fd_box_in : FuncData
  F_box_in : Fun K "box_in" "box_in" s_box_in a_box_in fd_box_in
  b_box_in : Binds K fd_box_in ["line"] []
  g_box_in : mg "box_in" = some (.ref a_box_in)
  a_pair_in : Addr
  fd_pair_in : FuncData
  F_pair_in : Fun K "pair_in" "pair_in" s_pair_in a_pair_in fd_pair_in
  b_pair_in : Binds K fd_pair_in ["line"] []
  g_pair_in : mg "pair_in" = some (.ref a_pair_in)
  a_read_atlas : Addr
  fd_read_atlas : FuncData
  F_read_atlas : Fun K "read_atlas" "read_atlas" s_read_atlas a_read_atlas fd_read_atlas
  b_read_atlas : Binds K fd_read_atlas ["text"] []
  g_read_atlas : mg "read_atlas" = some (.ref a_read_atlas)
  a_Lany_entry : Addr
  fd_Lany_entry : FuncData
  F_Lany_entry : Fun K "_law_any_entry" "_law_any_entry" s_Lany_entry a_Lany_entry fd_Lany_entry
  b_Lany_entry : Binds K fd_Lany_entry ["_law_pool_here", "_law_looks"] []
  g_Lany_entry : mg "_law_any_entry" = some (.ref a_Lany_entry)
  a_Lany_log : Addr
  fd_Lany_log : FuncData
  F_Lany_log : Fun K "_law_any_log" "_law_any_log" s_Lany_log a_Lany_log fd_Lany_log
  b_Lany_log : Binds K fd_Lany_log ["_law_pool_here", "_law_many", "_law_swaps"] []
  g_Lany_log : mg "_law_any_log" = some (.ref a_Lany_log)
  a_Lis_name : Addr
  fd_Lis_name : FuncData
  F_Lis_name : Fun K "_law_is_name" "_law_is_name" s_Lis_name a_Lis_name fd_Lis_name
  b_Lis_name : Binds K fd_Lis_name ["_law_thing"] []
  g_Lis_name : mg "_law_is_name" = some (.ref a_Lis_name)
  a_Lis_sign : Addr
  fd_Lis_sign : FuncData
  F_Lis_sign : Fun K "_law_is_sign" "_law_is_sign" s_Lis_sign a_Lis_sign fd_Lis_sign
  b_Lis_sign : Binds K fd_Lis_sign ["_law_thing"] []
  g_Lis_sign : mg "_law_is_sign" = some (.ref a_Lis_sign)
  a_Lis_many : Addr
  fd_Lis_many : FuncData
  F_Lis_many : Fun K "_law_is_many" "_law_is_many" s_Lis_many a_Lis_many fd_Lis_many
  b_Lis_many : Binds K fd_Lis_many ["_law_thing"] []
  g_Lis_many : mg "_law_is_many" = some (.ref a_Lis_many)
  a_Lis_entry : Addr
  fd_Lis_entry : FuncData
  F_Lis_entry : Fun K "_law_is_entry" "_law_is_entry" s_Lis_entry a_Lis_entry fd_Lis_entry
  b_Lis_entry : Binds K fd_Lis_entry ["_law_thing"] []
  g_Lis_entry : mg "_law_is_entry" = some (.ref a_Lis_entry)
  a_Lbad_at : Addr
  fd_Lbad_at : FuncData
  F_Lbad_at : Fun K "_law_bad_at" "_law_bad_at" s_Lbad_at a_Lbad_at fd_Lbad_at
  b_Lbad_at : Binds K fd_Lbad_at ["_law_entries"] []
  g_Lbad_at : mg "_law_bad_at" = some (.ref a_Lbad_at)
  a_Lspoilt_text : Addr
  fd_Lspoilt_text : FuncData
  F_Lspoilt_text : Fun K "_law_spoilt_text" "_law_spoilt_text" s_Lspoilt_text a_Lspoilt_text fd_Lspoilt_text
  b_Lspoilt_text : Binds K fd_Lspoilt_text ["_law_pool_here", "_law_text"] []
  g_Lspoilt_text : mg "_law_spoilt_text" = some (.ref a_Lspoilt_text)
  a_Lsmall_log : Addr
  fd_Lsmall_log : FuncData
  F_Lsmall_log : Fun K "_law_small_log" "_law_small_log" s_Lsmall_log a_Lsmall_log fd_Lsmall_log
  b_Lsmall_log : Binds K fd_Lsmall_log ["_law_pool_here", "_law_many", "_law_swaps"] []
  g_Lsmall_log : mg "_law_small_log" = some (.ref a_Lsmall_log)
  a_Lsmall_rows : Addr
  fd_Lsmall_rows : FuncData
  F_Lsmall_rows : Fun K "_law_small_rows" "_law_small_rows" s_Lsmall_rows a_Lsmall_rows fd_Lsmall_rows
  b_Lsmall_rows : Binds K fd_Lsmall_rows ["_law_pool_here", "_law_walkers"] []
  g_Lsmall_rows : mg "_law_small_rows" = some (.ref a_Lsmall_rows)
  a_Lsmall_box : Addr
  fd_Lsmall_box : FuncData
  F_Lsmall_box : Fun K "_law_small_box" "_law_small_box" s_Lsmall_box a_Lsmall_box fd_Lsmall_box
  b_Lsmall_box : Binds K fd_Lsmall_box ["_law_pool_here", "_law_legs_here"] []
  g_Lsmall_box : mg "_law_small_box" = some (.ref a_Lsmall_box)
  a_Lpool : Addr
  fd_Lpool : FuncData
  F_Lpool : Fun K "_law_pool" "_law_pool" s_Lpool a_Lpool fd_Lpool
  b_Lpool : Binds K fd_Lpool ["_law_script", "_law_k"] []
  g_Lpool : mg "_law_pool" = some (.ref a_Lpool)
  a_Ltake : Addr
  fd_Ltake : FuncData
  F_Ltake : Fun K "_law_take" "_law_take" s_Ltake a_Ltake fd_Ltake
  b_Ltake : Binds K fd_Ltake ["_law_pool_here", "_law_wide"] []
  g_Ltake : mg "_law_take" = some (.ref a_Ltake)
  a_Lwhole : Addr
  fd_Lwhole : FuncData
  F_Lwhole : Fun K "_law_whole" "_law_whole" s_Lwhole a_Lwhole fd_Lwhole
  b_Lwhole : Binds K fd_Lwhole ["_law_thing"] []
  g_Lwhole : mg "_law_whole" = some (.ref a_Lwhole)
  a_Lsame : Addr
  fd_Lsame : FuncData
  F_Lsame : Fun K "_law_same" "_law_same" s_Lsame a_Lsame fd_Lsame
  b_Lsame : Binds K fd_Lsame ["_law_found", "_law_due_here"] []
  g_Lsame : mg "_law_same" = some (.ref a_Lsame)
  a_Lname : Addr
  fd_Lname : FuncData
  F_Lname : Fun K "_law_name" "_law_name" s_Lname a_Lname fd_Lname
  b_Lname : Binds K fd_Lname ["_law_pool_here"] []
  g_Lname : mg "_law_name" = some (.ref a_Lname)
  a_Lnames : Addr
  fd_Lnames : FuncData
  F_Lnames : Fun K "_law_names" "_law_names" s_Lnames a_Lnames fd_Lnames
  b_Lnames : Binds K fd_Lnames ["_law_pool_here", "_law_many"] []
  g_Lnames : mg "_law_names" = some (.ref a_Lnames)
  a_Lsign : Addr
  fd_Lsign : FuncData
  F_Lsign : Fun K "_law_sign" "_law_sign" s_Lsign a_Lsign fd_Lsign
  b_Lsign : Binds K fd_Lsign ["_law_pool_here", "_law_lone"] []
  g_Lsign : mg "_law_sign" = some (.ref a_Lsign)
  a_Llegs : Addr
  fd_Llegs : FuncData
  F_Llegs : Fun K "_law_legs" "_law_legs" s_Llegs a_Llegs fd_Llegs
  b_Llegs : Binds K fd_Llegs ["_law_log"] []
  g_Llegs : mg "_law_legs" = some (.ref a_Llegs)
  a_Lentry_of : Addr
  fd_Lentry_of : FuncData
  F_Lentry_of : Fun K "_law_entry_of" "_law_entry_of" s_Lentry_of a_Lentry_of fd_Lentry_of
  b_Lentry_of : Binds K fd_Lentry_of ["_law_text"] []
  g_Lentry_of : mg "_law_entry_of" = some (.ref a_Lentry_of)
  a_Lrow_of : Addr
  fd_Lrow_of : FuncData
  F_Lrow_of : Fun K "_law_row_of" "_law_row_of" s_Lrow_of a_Lrow_of fd_Lrow_of
  b_Lrow_of : Binds K fd_Lrow_of ["_law_line"] []
  g_Lrow_of : mg "_law_row_of" = some (.ref a_Lrow_of)
  a_Lbox_of : Addr
  fd_Lbox_of : FuncData
  F_Lbox_of : Fun K "_law_box_of" "_law_box_of" s_Lbox_of a_Lbox_of fd_Lbox_of
  b_Lbox_of : Binds K fd_Lbox_of ["_law_line"] []
  g_Lbox_of : mg "_law_box_of" = some (.ref a_Lbox_of)
  a_Ldue : Addr
  fd_Ldue : FuncData
  F_Ldue : Fun K "_law_due" "_law_due" s_Ldue a_Ldue fd_Ldue
  b_Ldue : Binds K fd_Ldue ["_law_text"] []
  g_Ldue : mg "_law_due" = some (.ref a_Ldue)
  a_Lread : Addr
  fd_Lread : FuncData
  F_Lread : Fun K "_law_read" "_law_read" s_Lread a_Lread fd_Lread
  b_Lread : Binds K fd_Lread ["_law_text"] []
  g_Lread : mg "_law_read" = some (.ref a_Lread)
  a_Lbent : Addr
  fd_Lbent : FuncData
  F_Lbent : Fun K "_law_bent" "_law_bent" s_Lbent a_Lbent fd_Lbent
  b_Lbent : Binds K fd_Lbent ["_law_pool_here", "_law_lines"] []
  g_Lbent : mg "_law_bent" = some (.ref a_Lbent)
  a_law : Addr
  fd_law : FuncData
  F_law : Fun K "law" "law" s_law a_law fd_law
  b_law : Binds K fd_law ["_law_script"] []
  g_law : mg "law" = some (.ref a_law)
  a_Atlas_init : Addr
  fd_Atlas_init : FuncData
  e_Atlas_init : Addr
  ee_Atlas_init : ∀ H, SqT K H e_Atlas_init []
  F_Atlas_init : FunD K "__init__" "Atlas.__init__" (defArgs s_Atlas_init) (defBody s_Atlas_init) (defScope s_Atlas_init) [.ref e_Atlas_init] [] a_Atlas_init fd_Atlas_init
  b1_Atlas_init : ∃ ds, Vals [.ref e_Atlas_init] ds ∧ Binds K fd_Atlas_init ["self", "box", "logs"] ds
  b_Atlas_init : Binds K fd_Atlas_init ["self", "box", "logs"] []
  mk_Atlas : Mk K a_Atlas a_Atlas_init
  a_STEPS : Addr
  g_STEPS : mg "STEPS" = some (.ref a_STEPS)
  es_STEPS : Array DictEntry
  n_STEPS : Nat
  kd_STEPS : KDict K w a_STEPS es_STEPS n_STEPS
  ns_STEPS : ∀ z : Str, ∃ r, PySem.W.nsIn K a_STEPS z = some r ∧ r.isSome = ((["n", "e", "s", "w"] : List Str).any fun s => s == z)
  v_STEPS_0 : ∃ q, KDct K w a_STEPS "n" (.ref q) ∧ ∀ H, SqT K H q [.int (0), .int (1)]
  v_STEPS_1 : ∃ q, KDct K w a_STEPS "e" (.ref q) ∧ ∀ H, SqT K H q [.int (1), .int (0)]
  v_STEPS_2 : ∃ q, KDct K w a_STEPS "s" (.ref q) ∧ ∀ H, SqT K H q [.int (0), .int (-1)]
  v_STEPS_3 : ∃ q, KDct K w a_STEPS "w" (.ref q) ∧ ∀ H, SqT K H q [.int (-1), .int (0)]
  g_SMALL : ∃ t, mg "SMALL" = some (.str "abcdefghijklmnopqrstuvwxyz" t)
  g_GREAT : ∃ t, mg "GREAT" = some (.str "ABCDEFGHIJKLMNOPQRSTUVWXYZ" t)
  g_LONGEST : ∃ t, mg "LONGEST" = some (.int 8 t)
  a_WORDS_ALONE : Addr
  g_WORDS_ALONE : mg "WORDS_ALONE" = some (.ref a_WORDS_ALONE)
  v_WORDS_ALONE : ∀ H, SqT K H a_WORDS_ALONE [.str "left", .str "right", .str "back", .str "bump", .str "bare", .str "swap"]
  a_WORDS_BEHIND_A_FACE : Addr
  g_WORDS_BEHIND_A_FACE : mg "WORDS_BEHIND_A_FACE" = some (.ref a_WORDS_BEHIND_A_FACE)
  v_WORDS_BEHIND_A_FACE : ∀ H, SqT K H a_WORDS_BEHIND_A_FACE [.str "left", .str "right", .str "back", .str "go", .str "bump", .str "spy"]
  g_HOW_MANY_LOTS : ∃ t, mg "HOW_MANY_LOTS" = some (.int 8 t)
  g_FIGURES : ∃ t, mg "FIGURES" = some (.str "0123456789" t)
  g_MOST_FIGURES : ∃ t, mg "MOST_FIGURES" = some (.int 30 t)
  g_NONE_AT_ALL : ∃ t, mg "NONE_AT_ALL" = some (.str "-" t)
  m_abs : mg "abs" = none
  m_all : mg "all" = none
  m_any : mg "any" = none
  m_bool : mg "bool" = none
  m_enumerate : mg "enumerate" = none
  m_int : mg "int" = none
  m_isinstance : mg "isinstance" = none
  m_len : mg "len" = none
  m_list : mg "list" = none
  m_range : mg "range" = none
  m_sorted : mg "sorted" = none
  m_str : mg "str" = none
  m_sum : mg "sum" = none
  m_tuple : mg "tuple" = none
  m_zip : mg "zip" = none
  a_BadLog : Addr
  g_BadLog : mg "BadLog" = some (.ref a_BadLog)
  a_BadBox : Addr
  g_BadBox : mg "BadBox" = some (.ref a_BadBox)
  a_NoName : Addr
  g_NoName : mg "NoName" = some (.ref a_NoName)
  a_Twice : Addr
  g_Twice : mg "Twice" = some (.ref a_Twice)
  a_NoWalker : Addr
  g_NoWalker : mg "NoWalker" = some (.ref a_NoWalker)
  a_NeedleError : Addr
  g_NeedleError : mg "NeedleError" = some (.ref a_NeedleError)
  a_NoText : Addr
  g_NoText : mg "NoText" = some (.ref a_NoText)
  kit_BadLog : PySem.W.kitOne K (.ref a_BadLog) (.ref a_BadLog) = some true
  kit_BadBox : PySem.W.kitOne K (.ref a_BadLog) (.ref a_BadBox) = some false
  kit_NoName : PySem.W.kitOne K (.ref a_BadLog) (.ref a_NoName) = some false
  kit_Twice : PySem.W.kitOne K (.ref a_BadLog) (.ref a_Twice) = some false
  kit_NoWalker : PySem.W.kitOne K (.ref a_BadLog) (.ref a_NoWalker) = some false
  kit_NeedleError : PySem.W.kitOne K (.ref a_BadLog) (.ref a_NeedleError) = some true
  kit_NoText : PySem.W.kitOne K (.ref a_BadLog) (.ref a_NoText) = some false
  kit_BadBox_BadLog : PySem.W.kitOne K (.ref a_BadBox) (.ref a_BadLog) = some false
  kit_BadBox_BadBox : PySem.W.kitOne K (.ref a_BadBox) (.ref a_BadBox) = some true
  kit_BadBox_NoName : PySem.W.kitOne K (.ref a_BadBox) (.ref a_NoName) = some false
  kit_BadBox_Twice : PySem.W.kitOne K (.ref a_BadBox) (.ref a_Twice) = some false
  kit_BadBox_NoWalker : PySem.W.kitOne K (.ref a_BadBox) (.ref a_NoWalker) = some false
  kit_BadBox_NeedleError : PySem.W.kitOne K (.ref a_BadBox) (.ref a_NeedleError) = some true
  kit_BadBox_NoText : PySem.W.kitOne K (.ref a_BadBox) (.ref a_NoText) = some false
  kit_NoName_BadLog : PySem.W.kitOne K (.ref a_NoName) (.ref a_BadLog) = some false
  kit_NoName_BadBox : PySem.W.kitOne K (.ref a_NoName) (.ref a_BadBox) = some false
  kit_NoName_NoName : PySem.W.kitOne K (.ref a_NoName) (.ref a_NoName) = some true
  kit_NoName_Twice : PySem.W.kitOne K (.ref a_NoName) (.ref a_Twice) = some false
  kit_NoName_NoWalker : PySem.W.kitOne K (.ref a_NoName) (.ref a_NoWalker) = some false
  kit_NoName_NeedleError : PySem.W.kitOne K (.ref a_NoName) (.ref a_NeedleError) = some true
  kit_NoName_NoText : PySem.W.kitOne K (.ref a_NoName) (.ref a_NoText) = some false
  kit_Twice_BadLog : PySem.W.kitOne K (.ref a_Twice) (.ref a_BadLog) = some false
  kit_Twice_BadBox : PySem.W.kitOne K (.ref a_Twice) (.ref a_BadBox) = some false
  kit_Twice_NoName : PySem.W.kitOne K (.ref a_Twice) (.ref a_NoName) = some false
  kit_Twice_Twice : PySem.W.kitOne K (.ref a_Twice) (.ref a_Twice) = some true
  kit_Twice_NoWalker : PySem.W.kitOne K (.ref a_Twice) (.ref a_NoWalker) = some false
  kit_Twice_NeedleError : PySem.W.kitOne K (.ref a_Twice) (.ref a_NeedleError) = some true
  kit_Twice_NoText : PySem.W.kitOne K (.ref a_Twice) (.ref a_NoText) = some false
  kit_NoText_BadLog : PySem.W.kitOne K (.ref a_NoText) (.ref a_BadLog) = some false
  kit_NoText_BadBox : PySem.W.kitOne K (.ref a_NoText) (.ref a_BadBox) = some false
  kit_NoText_NoName : PySem.W.kitOne K (.ref a_NoText) (.ref a_NoName) = some false
  kit_NoText_Twice : PySem.W.kitOne K (.ref a_NoText) (.ref a_Twice) = some false
  kit_NoText_NoWalker : PySem.W.kitOne K (.ref a_NoText) (.ref a_NoWalker) = some false
  kit_NoText_NeedleError : PySem.W.kitOne K (.ref a_NoText) (.ref a_NeedleError) = some true
  kit_NoText_NoText : PySem.W.kitOne K (.ref a_NoText) (.ref a_NoText) = some true
  m_ValueError : mg "ValueError" = none
  kit_VE : PySem.W.kitOne K (.ref a_BadLog) (.type "ValueError") = some true
  oex : OexC K a_BadLog
  a_init : Addr
  fd_init : FuncData
  F_init : Fun K "__init__" "BadLog.__init__" s_init a_init fd_init
  b_init : Binds K fd_init ["self", "name", "at"] []
  iC : PySem.W.findIn K (.ref a_BadLog) "__init__" = some (some (.ref a_init))
  tI : PySem.W.typeIn K (.ref a_init) = some (.type "function")
  xf : XfC K a_BadLog
  exc : ExcC K a_BadLog
  exm : PySem.W.exmOne K (.ref a_BadLog) (.ref a_BadLog) = some true
  no_name : PySem.W.findIn K (.ref a_BadLog) "name" = some none
  no_at : PySem.W.findIn K (.ref a_BadLog) "at" = some none
  kit_VE_BadBox : PySem.W.kitOne K (.ref a_BadBox) (.type "ValueError") = some true
  oex_BadBox : OexC K a_BadBox
  a_init_BadBox : Addr
  fd_init_BadBox : FuncData
  F_init_BadBox : Fun K "__init__" "BadBox.__init__" s_init_BadBox a_init_BadBox fd_init_BadBox
  b_init_BadBox : Binds K fd_init_BadBox ["self", "at"] []
  iC_BadBox : PySem.W.findIn K (.ref a_BadBox) "__init__" = some (some (.ref a_init_BadBox))
  tI_BadBox : PySem.W.typeIn K (.ref a_init_BadBox) = some (.type "function")
  xf_BadBox : XfC K a_BadBox
  exc_BadBox : ExcC K a_BadBox
  exm_BadBox : PySem.W.exmOne K (.ref a_BadBox) (.ref a_BadBox) = some true
  no_BadBox_at : PySem.W.findIn K (.ref a_BadBox) "at" = some none
  kit_VE_NoName : PySem.W.kitOne K (.ref a_NoName) (.type "ValueError") = some true
  oex_NoName : OexC K a_NoName
  a_init_NoName : Addr
  fd_init_NoName : FuncData
  F_init_NoName : Fun K "__init__" "NoName.__init__" s_init_NoName a_init_NoName fd_init_NoName
  b_init_NoName : Binds K fd_init_NoName ["self", "name"] []
  iC_NoName : PySem.W.findIn K (.ref a_NoName) "__init__" = some (some (.ref a_init_NoName))
  tI_NoName : PySem.W.typeIn K (.ref a_init_NoName) = some (.type "function")
  xf_NoName : XfC K a_NoName
  exc_NoName : ExcC K a_NoName
  exm_NoName : PySem.W.exmOne K (.ref a_NoName) (.ref a_NoName) = some true
  no_NoName_name : PySem.W.findIn K (.ref a_NoName) "name" = some none
  kit_VE_Twice : PySem.W.kitOne K (.ref a_Twice) (.type "ValueError") = some true
  oex_Twice : OexC K a_Twice
  a_init_Twice : Addr
  fd_init_Twice : FuncData
  F_init_Twice : Fun K "__init__" "Twice.__init__" s_init_Twice a_init_Twice fd_init_Twice
  b_init_Twice : Binds K fd_init_Twice ["self", "name"] []
  iC_Twice : PySem.W.findIn K (.ref a_Twice) "__init__" = some (some (.ref a_init_Twice))
  tI_Twice : PySem.W.typeIn K (.ref a_init_Twice) = some (.type "function")
  xf_Twice : XfC K a_Twice
  exc_Twice : ExcC K a_Twice
  exm_Twice : PySem.W.exmOne K (.ref a_Twice) (.ref a_Twice) = some true
  no_Twice_name : PySem.W.findIn K (.ref a_Twice) "name" = some none
  kit_VE_NoText : PySem.W.kitOne K (.ref a_NoText) (.type "ValueError") = some true
  oex_NoText : OexC K a_NoText
  a_init_NoText : Addr
  fd_init_NoText : FuncData
  F_init_NoText : Fun K "__init__" "NoText.__init__" s_init_NoText a_init_NoText fd_init_NoText
  b_init_NoText : Binds K fd_init_NoText ["self", "at"] []
  iC_NoText : PySem.W.findIn K (.ref a_NoText) "__init__" = some (some (.ref a_init_NoText))
  tI_NoText : PySem.W.typeIn K (.ref a_init_NoText) = some (.type "function")
  xf_NoText : XfC K a_NoText
  exc_NoText : ExcC K a_NoText
  exm_NoText : PySem.W.exmOne K (.ref a_NoText) (.ref a_NoText) = some true
  no_NoText_at : PySem.W.findIn K (.ref a_NoText) "at" = some none
  exn_BadLog_BadBox : PySem.W.exmOne K (.ref a_BadLog) (.ref a_BadBox) = some false
  exn_BadLog_NoName : PySem.W.exmOne K (.ref a_BadLog) (.ref a_NoName) = some false
  exn_BadLog_Twice : PySem.W.exmOne K (.ref a_BadLog) (.ref a_Twice) = some false
  exn_BadLog_NoText : PySem.W.exmOne K (.ref a_BadLog) (.ref a_NoText) = some false
  exn_BadBox_BadLog : PySem.W.exmOne K (.ref a_BadBox) (.ref a_BadLog) = some false
  exn_BadBox_NoName : PySem.W.exmOne K (.ref a_BadBox) (.ref a_NoName) = some false
  exn_BadBox_Twice : PySem.W.exmOne K (.ref a_BadBox) (.ref a_Twice) = some false
  exn_BadBox_NoText : PySem.W.exmOne K (.ref a_BadBox) (.ref a_NoText) = some false
  exn_NoName_BadLog : PySem.W.exmOne K (.ref a_NoName) (.ref a_BadLog) = some false
  exn_NoName_BadBox : PySem.W.exmOne K (.ref a_NoName) (.ref a_BadBox) = some false
  exn_NoName_Twice : PySem.W.exmOne K (.ref a_NoName) (.ref a_Twice) = some false
  exn_NoName_NoText : PySem.W.exmOne K (.ref a_NoName) (.ref a_NoText) = some false
  exn_Twice_BadLog : PySem.W.exmOne K (.ref a_Twice) (.ref a_BadLog) = some false
  exn_Twice_BadBox : PySem.W.exmOne K (.ref a_Twice) (.ref a_BadBox) = some false
  exn_Twice_NoName : PySem.W.exmOne K (.ref a_Twice) (.ref a_NoName) = some false
  exn_Twice_NoText : PySem.W.exmOne K (.ref a_Twice) (.ref a_NoText) = some false
  exn_NoText_BadLog : PySem.W.exmOne K (.ref a_NoText) (.ref a_BadLog) = some false
  exn_NoText_BadBox : PySem.W.exmOne K (.ref a_NoText) (.ref a_BadBox) = some false
  exn_NoText_NoName : PySem.W.exmOne K (.ref a_NoText) (.ref a_NoName) = some false
  exn_NoText_Twice : PySem.W.exmOne K (.ref a_NoText) (.ref a_Twice) = some false
/-! ### heaps, pools -/
/-- all but what stands at p is as it was -/
def But (p : Addr) (H H' : Hp) : Prop := ∀ b o, b ≠ p → H b = some o → H' b = some o
theorem But.refl (p : Addr) (H : Hp) : But p H H := fun _ _ _ h => h
theorem But.trans {p : Addr} {H H1 H2 : Hp} (a : But p H H1) (b : But p H1 H2) : But p H H2 := fun c o hc h => b c o hc (a c o hc h)
theorem But.of {p : Addr} {H H' : Hp} (a : Same H H') : But p H H' := fun b o _ h => a b o h
theorem But.upd {p : Addr} {H H' : Hp} {o : HO} (a : But p H H') : But p H (upd H' p o) := fun b u hb h => by
  rw [upd_ne hb]
  exact a b u hb h
theorem same_upd {H : Hp} {p : Addr} {o : HO} (h : H p = none) : Same H (upd H p o) := fun b x e => by
  rw [upd_ne (ne_of_none e h)]
  exact e
/-- changed at a new place alone -/
theorem But.same {p : Addr} {H H1 H2 : Hp} (n : H p = none) (a : Same H H1) (b : But p H1 H2) : Same H H2 := fun c o h => b c o (ne_of_none h n) (a c o h)
theorem But.free {p l : Addr} {H H1 : Hp} (a : But p H H1) (n : l ≠ p) (h : H1 l = none) : H l = none := by
  cases e : H l with
  | none => rfl
  | some o =>
    rw [a l o n e] at h
    cases h
/-- a change at a place that H doesn't know -/
theorem But.mut {p l : Addr} {H H1 : Hp} {o : HO} (a : But p H H1) (n : H l = none) : But p H (L2.upd H1 l o) := fun b u hb h => by
  rw [upd_ne (ne_of_none h n)]
  exact a b u hb h
/-- the spring of draws: four whole numbers, the first not below nought -/
def Pool (H : Hp) (p : Addr) : Prop := ∃ l c k n : Int, 0 ≤ l ∧ H p = some (.lst [.int l, .int c, .int k, .int n])
theorem Pool.same {H H' : Hp} {p : Addr} (h : Pool H p) (e : Same H H') : Pool H' p := by
  obtain ⟨l, c, k, n, h0, h1⟩ := h
  exact ⟨l, c, k, n, h0, e _ _ h1⟩
theorem Pool.ne_tup {H : Hp} {p q : Addr} {xs : List V} (h : Pool H p) (e : H q = some (.tup xs)) : q ≠ p := by
  obtain ⟨l, c, k, n, h0, h1⟩ := h
  exact ne_of e h1 (by intro z; cases z)
theorem Pool.ne_new {H : Hp} {p q : Addr} (h : Pool H p) (e : H q = none) : q ≠ p := by
  obtain ⟨l, c, k, n, h0, h1⟩ := h
  intro z
  rw [z, h1] at e
  cases e
theorem Pool.upd {H : Hp} {p q : Addr} {o : HO} (h : Pool H p) (e : q ≠ p) : Pool (L2.upd H q o) p := by
  obtain ⟨l, c, k, n, h0, h1⟩ := h
  refine ⟨l, c, k, n, h0, ?_⟩
  rw [upd_ne (Ne.symm e)]
  exact h1
theorem seq_but {K : PySem.W.Frag} {H H' : Hp} {p a : Addr} {xs : List V} (e : But p H H') (n : a ≠ p) (h : SqL K H a xs) : SqL K H' a xs := by
  rcases h with (h | ⟨o, h⟩) | h
  · exact .inl (.inl (e _ _ n h))
  · exact .inl (.inr ⟨o, e _ _ n h⟩)
  · exact .inr h
theorem abs_if (n : Int) : 0 ≤ (if n < 0 then -n else n) := by
  split <;> omega
local macro_rules | `(tactic| walk_at "go") => `(tactic| repeat (first
  | (with_reducible exact rfl)
  | (refine ⟨_, _, rfl, rfl, ?_⟩)
  | (refine ⟨_, rfl, ?_⟩)
  | (refine ⟨rfl, ?_⟩)))
def spPool (K : PySem.W.Frag) : Sp := fun vs H Q _ => ∃ (a : Addr) (ns : List Int) (k : Int), vs = [.ref a, .int k] ∧ SqL K H a (ns.map V.int) ∧ ns.length ≤ 63 ∧ 0 ≤ k ∧ ∀ H' p, Same H H' → H p = none → Pool H' p → Q (.ref p) H'
def spTake : Sp := fun vs H Q _ => ∃ (p : Addr) (m : Int), vs = [.ref p, .int m] ∧ 0 < m ∧ m < 2 ^ 200 ∧ Pool H p ∧ ∀ H' (r : Int), But p H H' → Pool H' p → 0 ≤ r → r < m → Q (.int r) H'
theorem iteY {c A B : Prop} [Decidable c] (hc : c) (h : A) : if decide c = true then A else B := by
  rw [if_pos (decide_eq_true hc)]
  exact h
theorem iteYn {c A B : Prop} [Decidable c] (hc : c) (h : B) : if (!decide c) = true then A else B := by
  rw [decide_eq_true hc]
  exact h
theorem iteDN {b : Bool} {A B : Prop} (hb : b = false) (h : B) : if b = true then A else B := by
  rw [hb]
  exact h
theorem iteDY {b : Bool} {A B : Prop} (hb : b = true) (h : A) : if b = true then A else B := by
  rw [hb]
  exact h
theorem iteNE {d e : PyData} {A B : Prop} (h : d = e) (hs : SeqAt.shaped d = true) (hB : B) : if (!PyData.eqv d e) = true then A else B := by
  subst h
  rw [SeqAt.eqv_refl d (SeqAt.canLay_of_shaped hs)]
  exact hB
theorem ne_no {x y : V} (e : x = y) : (!decide (x = y)) = false := by
  rw [decide_eq_true e]
  rfl
theorem iteN {x y : V} {A B : Prop} (e : x = y) (h : B) : if (!decide (x = y)) = true then A else B := by
  rw [ne_no e, if_neg Bool.false_ne_true]
  exact h
section
variable {P : Program} {w : World} {K : PySem.W.Frag} {mg : Str → Option Value} {base : Heap}
theorem ok_Lpool (T : Top w K mg) : FnOk P w K mg base CX0 1 T.a_Lpool T.fd_Lpool ["_law_script", "_law_k"] (spPool K) := by
  refine T.F_Lpool.ok sc_Lpool (fun vs H Q E h => ?_) (fun cdv A outer s H vs Q E hr h => ?_)
  · obtain ⟨a, ns, k, rfl, _⟩ := h
    rfl
  · obtain ⟨a, ns, k, rfl, hS, hlen, hk, q⟩ := h
    refine ⟨_, (pss_cons (ps_set (i := 2) sc_Lpool.nd rfl (.inl rfl) pe_int)
      (Evl.pss_cut (ps_if (pt_cmpR op_gt (pe_callB call_len_seq (by rfl) T.m_len (by decide +kernel) (pa_cons (pv 0) pa_nil)) pe_int (nomark _)) (pss_one (ps_set (i := 2) sc_Lpool.nd rfl (.inl rfl) (pe_ix ix_list (pv 0) (pe_op op_mod (pv 1) (pe_callB call_len_seq (by rfl) T.m_len (by decide +kernel) (pa_cons (pv 0) pa_nil))) (fun _ _ => rfl)))) pss_nil)
      (pss_cons (ps_set (i := 3) sc_Lpool.nd rfl (.inl rfl) pe_int)
      (pss_cons (ps_if (PW.pt (pw_and (pt_cmpR op_lt (pv 1) (pe_callB call_len_seq (by rfl) T.m_len (by decide +kernel) (pa_cons (pv 0) pa_nil)) (nomark _)) (pw_and1 (pt_cmpR op_ge (pe_callB call_abs (by rfl) T.m_abs (by decide +kernel) (pa_cons (pv 2) pa_nil)) (pe_op op_pow pe_int pe_int) (nomark _))))) (pss_one (ps_set (i := 3) sc_Lpool.nd rfl (.inl rfl) (pe_callB call_abs (by rfl) T.m_abs (by decide +kernel) (pa_cons (pv 2) pa_nil)))) pss_nil)
      (pss_one (ps_ret (pe_lst (pa_cons (pv 3) (pa_cons (pv 2) (pa_cons (pv 1) (pa_cons pe_int pa_nil))))))))))), ?_⟩
    have hL : ((ns.map V.int).length : Int) = ns.length := by rw [List.length_map]
    have fin : ∀ (l c : Int), 0 ≤ l → ∀ p, H p = none → Q (.ref p) (upd H p (.lst [.int l, .int c, .int k, .int 0])) := fun l c hl p hp =>
      q _ p (same_upd hp) hp ⟨l, c, k, 0, hl, upd_same⟩
    refine ⟨fun σ H' => H' = H ∧ ∃ c : Int, σ = [some (.ref a), some (.int k), some (.int c), none], ?_, ?_⟩
    · refine ⟨.ref a, rfl, a, ns.map V.int, rfl, .inl hS, _, _, rfl, rfl, _, rfl, ite2 (fun e => ?_) (fun e => ?_)⟩
      · have e0 : (0 : Int) < ((ns.map V.int).length : Int) := of_decide_eq_true e
        refine ⟨.ref a, rfl, .int k, rfl, .ref a, rfl, a, ns.map V.int, rfl, .inl hS, k, _, rfl, rfl, e0, ?_⟩
        have h1 := Int.emod_nonneg k (show ((ns.map V.int).length : Int) ≠ 0 by omega)
        have h2 := Int.emod_lt_of_pos k e0
        obtain ⟨j, hj⟩ : ∃ j : Nat, k % ((ns.map V.int).length : Int) = j := ⟨(k % ((ns.map V.int).length : Int)).toNat, by omega⟩
        have hj2 : j < ns.length := by omega
        have g : (ns.map V.int)[j]? = some (.int ns[j]) := by
          rw [List.getElem?_map, List.getElem?_eq_getElem hj2]
          rfl
        have gi : atI (ns.map V.int) (k % ((ns.map V.int).length : Int)) = some (.int ns[j]) := by
          rw [hj]
          exact atI_nat g
        exact ⟨a, _, _, _, rfl, rfl, hS, gi, rfl, _, rfl⟩
      · exact ⟨rfl, 0, rfl⟩
    · rintro σ H' ⟨rfl, c, rfl⟩
      refine ⟨.int k, rfl, .ref a, rfl, a, ns.map V.int, rfl, .inl hS, _, _, rfl, rfl, _, rfl, ite2 (fun e => ?_) (fun e => ?_)⟩
      · refine ⟨.int c, rfl, c, rfl, _, _, rfl, rfl, ⟨by decide, by decide, by decide⟩, _, _, rfl, rfl, _, rfl, ite2 (fun e => ?_) (fun e => ?_)⟩
        · exact ⟨.int c, rfl, c, rfl, _, rfl, _, rfl, _, rfl, by show 4 ≤ sizeLine; decide, fin _ c (abs_if c)⟩
        · exact ⟨_, rfl, _, rfl, _, rfl, by show 4 ≤ sizeLine; decide, fin 0 c (by decide)⟩
      · refine ite2 (fun e2 => by cases e2) (fun _ => ?_)
        exact ⟨_, rfl, _, rfl, _, rfl, by show 4 ≤ sizeLine; decide, fin 0 c (by decide)⟩
def primes : List Int := [2147483629, 2147483587, 2147483579, 2147483563, 2147483549, 2147483543, 2147483497, 2147483489]
theorem primes_at {i : Int} (h0 : 0 ≤ i) (h1 : i < 8) : ∃ p : Int, atI (primes.map V.int) i = some (.int p) ∧ 0 < p ∧ p < 2147483647 := by
  obtain rfl | rfl | rfl | rfl | rfl | rfl | rfl | rfl : i = 0 ∨ i = 1 ∨ i = 2 ∨ i = 3 ∨ i = 4 ∨ i = 5 ∨ i = 6 ∨ i = 7 := by omega
  all_goals exact ⟨_, rfl, by decide, by decide⟩
theorem pow_ok (a : Int) : CPow (a % 2147483647) 5 := by
  have h1 := Int.emod_nonneg a (show (2147483647 : Int) ≠ 0 by decide)
  have h2 := Int.emod_lt_of_pos a (show (0 : Int) < 2147483647 by decide)
  exact ⟨by decide, by decide, by omega⟩
theorem ok_Ltake (T : Top w K mg) : FnOk P w K mg base CX0 1 T.a_Ltake T.fd_Ltake ["_law_pool_here", "_law_wide"] spTake := by
  refine T.F_Ltake.ok sc_Ltake (fun vs H Q E h => ?_) (fun cdv A outer s H vs Q E hr h => ?_)
  · obtain ⟨p, m, rfl, _⟩ := h
    rfl
  · obtain ⟨p, m, rfl, hm, hb, ⟨l, c, k, n, hl, hp⟩, q⟩ := h
    refine ⟨_, (pss_cons (ps_if (pt_cmpR op_gt (pe_ix ix_list (pv 0) pe_int (fun _ _ => rfl)) pe_int (nomark _)) (pss_cons (ps_set (i := 2) sc_Ltake.nd rfl (.inl rfl) (pe_op op_mod (pe_ix ix_list (pv 0) pe_int (fun _ _ => rfl)) (pv 1)))
      (pss_cons (ps_asg (pe_op op_fdivW (pe_ix ix_list (pv 0) pe_int (fun _ _ => rfl)) (pv 1)) (pg_sub (pv 0) pe_int set_list))
      (pss_one (ps_ret (pv 2))))) pss_nil)
      (pss_cons (ps_asg (pe_op op_add (pe_ix ix_list (pv 0) pe_int (fun _ _ => rfl)) pe_int) (pg_sub (pv 0) pe_int set_list))
      (pss_cons (ps_set (i := 3) sc_Ltake.nd rfl (.inl rfl) (pe_lst (pa_cons pe_int (pa_cons pe_int (pa_cons pe_int (pa_cons pe_int (pa_cons pe_int (pa_cons pe_int (pa_cons pe_int (pa_cons pe_int pa_nil))))))))))
      (pss_cons (ps_set (i := 4) sc_Ltake.nd rfl (.inl rfl) (pe_op op_mod (pe_op op_add (pe_op op_add (pe_op op_add (pe_ix ix_list (pv 0) pe_int (fun _ _ => rfl)) (pe_op op_mul pe_int (pe_ix ix_list (pv 0) pe_int (fun _ _ => rfl)))) (pe_op op_mul pe_int (pe_ix ix_list (pv 0) pe_int (fun _ _ => rfl)))) pe_int) pe_int))
      (pss_cons (ps_set (i := 4) sc_Ltake.nd rfl (.inl rfl) (pe_op op_mod (pe_op op_pow (pv 4) pe_int) (pe_ix ix_list (pv 3) (pe_op op_mod (pe_ix ix_list (pv 0) pe_int (fun _ _ => rfl)) pe_int) (fun _ _ => rfl))))
      (pss_cons (ps_set (i := 5) sc_Ltake.nd rfl (.inl rfl) (pe_op op_mod (pe_op op_add (pe_op op_add (pv 4) (pe_op op_mul pe_int (pe_ix ix_list (pv 0) pe_int (fun _ _ => rfl)))) (pe_ix ix_list (pv 0) pe_int (fun _ _ => rfl))) pe_int))
      (pss_one (ps_ret (pe_op op_mod (pe_op op_add (pe_op op_mul (pe_op op_mod (pe_op op_pow (pv 5) pe_int) pe_int) pe_int) (pv 4)) (pv 1)))))))))), ?_⟩
    refine ⟨.ref p, rfl, p, _, 0, .int l, rfl, rfl, .inl (.inl hp), rfl, _, _, rfl, rfl, _, rfl, ite2 (fun e => ?_) (fun e => ?_)⟩
    · refine ⟨.ref p, rfl, p, _, 0, .int l, rfl, rfl, .inl (.inl hp), rfl, .int m, rfl, l, m, rfl, rfl, hm, ?_⟩
      refine ⟨.ref p, rfl, p, _, 0, .int l, rfl, rfl, .inl (.inl hp), rfl, .int m, rfl, l, m, rfl, rfl, wide_div (b := 200) hm (by omega) (by decide) (by decide), ?_⟩
      refine ⟨.ref p, rfl, p, _, 0, 0, rfl, rfl, hp, rfl, ?_⟩
      refine ⟨_, rfl, q _ _ (But.refl p H).upd ⟨l / m, c, k, n, Int.ediv_nonneg hl (by omega), ?_⟩ (Int.emod_nonneg l (by omega)) (Int.emod_lt_of_pos l hm)⟩
      exact upd_same
    · refine ⟨.ref p, rfl, p, _, 3, .int n, rfl, rfl, .inl (.inl hp), rfl, n, 1, rfl, rfl, .ref p, rfl, p, _, 3, 3, rfl, rfl, hp, rfl, ?_⟩
      refine ⟨by show 8 ≤ sizeLine; decide, fun o no => ?_⟩
      have hop : o ≠ p := fun z => by
        rw [z, upd_same] at no
        cases no
      have h3 : (upd (upd H p (.lst [.int l, .int c, .int k, .int (n + 1)])) o (.lst (primes.map V.int))) p = some (.lst [.int l, .int c, .int k, .int (n + 1)]) := by
        rw [upd_ne (Ne.symm hop), upd_same]
      have h4 : (upd (upd H p (.lst [.int l, .int c, .int k, .int (n + 1)])) o (.lst (primes.map V.int))) o = some (.lst (primes.map V.int)) := upd_same
      have bt : But p H (upd (upd H p (.lst [.int l, .int c, .int k, .int (n + 1)])) o (.lst (primes.map V.int))) := fun b u hb h => by
        have nb : b ≠ o := fun z => by
          have : (upd H p (.lst [.int l, .int c, .int k, .int (n + 1)])) b = some u := by
            rw [upd_ne hb]
            exact h
          rw [z] at this
          exact absurd (this.symm.trans no) (by intro z; cases z)
        rw [upd_ne nb, upd_ne hb]
        exact h
      have i8 : 0 ≤ (n + 1) % 8 := Int.emod_nonneg _ (by decide)
      have j8 : (n + 1) % 8 < 8 := Int.emod_lt_of_pos _ (by decide)
      obtain ⟨pr, hpr, pr0, pr1⟩ := primes_at i8 j8
      refine ⟨.ref p, rfl, p, _, 1, .int c, rfl, rfl, .inl (.inl h3), rfl, .ref p, rfl, p, _, 2, .int k, rfl, rfl, .inl (.inl h3), rfl, 7919, k, rfl, rfl, .inl ⟨by decide, by decide⟩, _, _, rfl, rfl, .ref p, rfl, p, _, 3, .int (n + 1), rfl, rfl, .inl (.inl h3), rfl, 104729, n + 1, rfl, rfl, .inl ⟨by decide, by decide⟩, _, _, rfl, rfl, _, _, rfl, rfl, _, _, rfl, rfl, (by show (0 : Int) < 2147483647; decide), ?_⟩
      refine ⟨_, rfl, _, _, rfl, rfl, pow_ok _, .ref o, rfl, .ref p, rfl, p, _, 3, .int (n + 1), rfl, rfl, .inl (.inl h3), rfl, _, _, rfl, rfl, (by show (0 : Int) < 8; decide), o, _, _, .int pr, rfl, rfl, .inl (.inl h4), hpr, _, _, rfl, rfl, pr0, ?_⟩
      refine ⟨_, rfl, .ref p, rfl, p, _, 2, .int k, rfl, rfl, .inl (.inl h3), rfl, 40692, k, rfl, rfl, .inl ⟨by decide, by decide⟩, _, _, rfl, rfl, .ref p, rfl, p, _, 3, .int (n + 1), rfl, rfl, .inl (.inl h3), rfl, _, _, rfl, rfl, _, _, rfl, rfl, (by show (0 : Int) < 2147483647; decide), ?_⟩
      refine ⟨_, rfl, _, _, rfl, rfl, pow_ok _, _, _, rfl, rfl, (by show (0 : Int) < 2147483647; decide), _, _, rfl, rfl, .inr ⟨by decide, by decide⟩, _, rfl, _, _, rfl, rfl, .int m, rfl, _, _, rfl, rfl, hm, ?_⟩
      exact q _ _ bt ⟨l, c, k, n + 1, hl, h3⟩ (Int.emod_nonneg _ (by omega)) (Int.emod_lt_of_pos _ hm)
/-! ### data alike -/
theorem sqt_same {K : PySem.W.Frag} {H H' : Hp} {a : Addr} {xs : List V} (e : Same H H') (h : SqT K H a xs) : SqT K H' a xs := Evl.ex_t (show Evl.Ex H H' from e) h
mutual
theorem dp_same {K : PySem.W.Frag} {H H' : Hp} (e : Same H H') : ∀ (d : PyData) (v : V), Dp K H v d → Dp K H' v d
  | .none, _, h => by cases h; exact .non
  | .bool b, _, h => by cases h; exact .bl b
  | .int i, _, h => by cases h; exact .int i
  | .str x, _, h => by cases h; exact .str x
  | .list ds, _, h => by
    cases h with
    | lst hs ha => exact .lst (e.seq hs) (dpa_same e ds _ ha)
  | .tuple ds, _, h => by
    cases h with
    | tup hs ha => exact .tup (sqt_same e hs) (dpa_same e ds _ ha)
  | .dict _, _, h => by cases h
theorem dpa_same {K : PySem.W.Frag} {H H' : Hp} (e : Same H H') : ∀ (ds : List PyData) (vs : List V), DpAll K H vs ds → DpAll K H' vs ds
  | [], _, h => by cases h; exact .nil
  | d :: ds, _, h => by
    cases h with
    | cons h1 h2 => exact .cons (dp_same e d _ h1) (dpa_same e ds _ h2)
end
theorem dpa_len {K : PySem.W.Frag} {H : Hp} : ∀ (ds : List PyData) (vs : List V), DpAll K H vs ds → vs.length = ds.length
  | [], _, h => by cases h; rfl
  | d :: ds, _, h => by
    cases h with
    | cons h1 h2 =>
      rw [List.length_cons, List.length_cons, dpa_len ds _ h2]
theorem dpa_at {K : PySem.W.Frag} {H : Hp} : ∀ (ds : List PyData) (vs : List V), DpAll K H vs ds → ∀ (i : Nat) (v : V), vs[i]? = some v → ∃ d, ds[i]? = some d ∧ Dp K H v d
  | [], _, h, i, v, e => by cases h; cases e
  | d :: ds, _, h, i, v, e => by
    cases h with
    | cons h1 h2 =>
      cases i with
      | zero =>
        cases e
        exact ⟨d, rfl, h1⟩
      | succ j => exact dpa_at ds _ h2 j v e
theorem ty_tup {K : PySem.W.Frag} {H : Hp} {a : Addr} {xs : List V} (h : SqT K H a xs) : TyX K H (.ref a) (.type "tuple") := by
  rcases h with (h | ⟨o, h⟩) | ⟨o, its, n, lk, hc, _⟩
  · exact .base (.tup h)
  · exact .fTuple h
  · exact .kTuple lk hc
/-- none, truths, whole numbers, texts, and tuples of these, at most n deep -/
def okD : Nat → PyData → Bool
  | _, .none => true
  | _, .bool _ => true
  | _, .int _ => true
  | _, .str _ => true
  | n + 1, .tuple ds => decide (ds.length ≤ 1000) && ds.all fun d => okD n d
  | _, _ => false
theorem walk_zipT {K : PySem.W.Frag} {a b : Addr} {xs ys : List V} {n : Nat} (hn : n = min xs.length ys.length) : Walk (RZ.ItzT K a b) n (fun H => SqT K H a xs ∧ SqT K H b ys) (YPair (fun i => xs[i]?) (fun i => ys[i]?)) where
  goes := fun i H lt ⟨p, q⟩ => ⟨xs, ys, _, _, p, q, List.getElem?_eq_getElem (by omega), List.getElem?_eq_getElem (by omega)⟩
  stops := fun H ⟨p, q⟩ => ⟨xs, ys, p, q, by omega⟩
  yields := fun i H v H' _ ⟨p, q⟩ ⟨T, x, y, e1, e2, e3, e4, e5⟩ => ⟨T, x, y, e1, e2, e3, e4 xs p, e5 ys q⟩
theorem all_true : ∀ n : Nat, (List.replicate n true).all id = true
  | 0 => rfl
  | n + 1 => by rw [List.replicate_succ, List.all_cons, all_true n]; rfl
def spWhole : Sp := fun vs H Q _ => ∃ i : Int, vs = [.int i] ∧ Q (.bl true) H
theorem ok_Lwhole (T : Top w K mg) : FnOk P w K mg base CX0 1 T.a_Lwhole T.fd_Lwhole ["_law_thing"] spWhole := by
  refine T.F_Lwhole.ok sc_Lwhole (fun vs H Q E h => ?_) (fun cdv A outer s H vs Q E hr h => ?_)
  · obtain ⟨i, rfl, _⟩ := h
    rfl
  · obtain ⟨i, rfl, q⟩ := h
    refine ⟨_, (pss_one (ps_ret (pe_and (pe_callB call_isi (by rfl) T.m_isinstance (by decide +kernel) (pa_cons (pv 0) (pa_cons (pe_bltn (v := .ty "int") (by rfl) T.m_int (by decide +kernel) rfl) pa_nil))) (pe_one (pe_not (pe_callB call_isi (by rfl) T.m_isinstance (by decide +kernel) (pa_cons (pv 0) (pa_cons (pe_bltn (v := .ty "bool") (by rfl) T.m_bool (by decide +kernel) rfl) pa_nil)))))))), ?_⟩
    refine ⟨.int i, rfl, _, _, _, _, true, rfl, .ty _, .base (.int i), kit_ty (by decide +kernel), _, rfl, iteT ?_⟩
    exact ⟨.int i, rfl, _, _, _, _, false, rfl, .ty _, .base (.int i), kit_ty (by decide +kernel), _, rfl, q⟩
def spSame (K : PySem.W.Frag) (n : Nat) : Sp := fun vs H Q _ => ∃ (x y : V) (d : PyData), vs = [x, y] ∧ Dp K H x d ∧ Dp K H y d ∧ okD n d = true ∧ ∀ H', Same H H' → Q (.bl true) H'
theorem ok_Lsame0 (T : Top w K mg) : FnOk P w K mg base CX0 2 T.a_Lsame T.fd_Lsame ["_law_found", "_law_due_here"] (spSame K 0) := by
  have G_Lwhole := ok_Lwhole (P := P) (w := w) (base := base) T
  refine T.F_Lsame.ok sc_Lsame (fun vs H Q E h => ?_) (fun cdv A outer s H vs Q E hr h => ?_)
  · obtain ⟨x, y, d, rfl, _⟩ := h
    rfl
  · obtain ⟨x, y, d, rfl, hx, hy, ok, q⟩ := h
    refine ⟨_, (pss_cons (ps_if (pt_val (pe_callB call_isi (by rfl) T.m_isinstance (by decide +kernel) (pa_cons (pv 1) (pa_cons (pe_bltn (v := .ty "tuple") (by rfl) T.m_tuple (by decide +kernel) rfl) pa_nil)))) pss_never pss_nil)
      (pss_cons (ps_if (pt_cmpR op_isN (pv 1) pe_non (nomark _)) (pss_one (ps_ret (pe_cmpR op_isN (pv 0) pe_non (nomark _)))) pss_nil)
      (pss_cons (ps_if (pt_val (pe_callB call_isi (by rfl) T.m_isinstance (by decide +kernel) (pa_cons (pv 1) (pa_cons (pe_bltn (v := .ty "bool") (by rfl) T.m_bool (by decide +kernel) rfl) pa_nil)))) (pss_one (ps_ret (pe_and (pe_callB call_isi (by rfl) T.m_isinstance (by decide +kernel) (pa_cons (pv 0) (pa_cons (pe_bltn (v := .ty "bool") (by rfl) T.m_bool (by decide +kernel) rfl) pa_nil))) (pe_one (pe_cmpR op_eq (pv 0) (pv 1) (nomark _)))))) pss_nil)
      (pss_cons (ps_if (pt_val (pe_callB call_isi (by rfl) T.m_isinstance (by decide +kernel) (pa_cons (pv 1) (pa_cons (pe_bltn (v := .ty "str") (by rfl) T.m_str (by decide +kernel) rfl) pa_nil)))) (pss_one (ps_ret (pe_and (pe_callB call_isi (by rfl) T.m_isinstance (by decide +kernel) (pa_cons (pv 0) (pa_cons (pe_bltn (v := .ty "str") (by rfl) T.m_str (by decide +kernel) rfl) pa_nil))) (pe_one (pe_cmpR op_eq (pv 0) (pv 1) (nomark _)))))) pss_nil)
      (pss_one (ps_ret (pe_and (pe_call G_Lwhole (hr.mono (by omega)) (by rfl) T.g_Lwhole T.F_Lwhole.kp T.b_Lwhole .nil pass0 (pa_cons (pv 0) pa_nil)) (pe_one (pe_cmpR op_eq (pv 0) (pv 1) (nomark _)))))))))), ?_⟩
    have Q0 := q H (Same.refl H)
    cases d with
    | none =>
      cases hx
      cases hy
      exact ⟨.non, rfl, _, _, _, _, false, rfl, .ty _, .base .non, kit_ty (by decide +kernel), _, rfl, iteF ⟨.non, rfl, rfl, _, rfl, iteT ⟨.non, rfl, rfl, Q0⟩⟩⟩
    | bool b =>
      cases hx
      cases hy
      refine ⟨.bl b, rfl, _, _, _, _, false, rfl, .ty _, .base (.bl b), kit_ty (by decide +kernel), _, rfl, iteF ⟨.bl b, rfl, rfl, _, rfl, iteF ?_⟩⟩
      refine ⟨.bl b, rfl, _, _, _, _, true, rfl, .ty _, .base (.bl b), kit_ty (by decide +kernel), _, rfl, iteT ?_⟩
      refine ⟨.bl b, rfl, _, _, _, _, true, rfl, .ty _, .base (.bl b), kit_ty (by decide +kernel), _, rfl, iteT ⟨.bl b, rfl, .bl b, rfl, rfl, ?_⟩⟩
      rw [decide_eq_true rfl]
      exact Q0
    | int i =>
      cases hx
      cases hy
      refine ⟨.int i, rfl, _, _, _, _, false, rfl, .ty _, .base (.int i), kit_ty (by decide +kernel), _, rfl, iteF ⟨.int i, rfl, rfl, _, rfl, iteF ?_⟩⟩
      refine ⟨.int i, rfl, _, _, _, _, false, rfl, .ty _, .base (.int i), kit_ty (by decide +kernel), _, rfl, iteF ?_⟩
      refine ⟨.int i, rfl, _, _, _, _, false, rfl, .ty _, .base (.int i), kit_ty (by decide +kernel), _, rfl, iteF ?_⟩
      refine ⟨.int i, rfl, i, rfl, _, rfl, iteT ⟨.int i, rfl, .int i, rfl, rfl, ?_⟩⟩
      rw [decide_eq_true rfl]
      exact Q0
    | str z =>
      cases hx
      cases hy
      refine ⟨.str z, rfl, _, _, _, _, false, rfl, .ty _, .base (.str z), kit_ty (by decide +kernel), _, rfl, iteF ⟨.str z, rfl, rfl, _, rfl, iteF ?_⟩⟩
      refine ⟨.str z, rfl, _, _, _, _, false, rfl, .ty _, .base (.str z), kit_ty (by decide +kernel), _, rfl, iteF ?_⟩
      refine ⟨.str z, rfl, _, _, _, _, true, rfl, .ty _, .base (.str z), kit_ty (by decide +kernel), _, rfl, iteT ?_⟩
      refine ⟨.str z, rfl, _, _, _, _, true, rfl, .ty _, .base (.str z), kit_ty (by decide +kernel), _, rfl, iteT ⟨.str z, rfl, .str z, rfl, rfl, ?_⟩⟩
      rw [decide_eq_true rfl]
      exact Q0
    | list ds => cases ok
    | tuple ds => cases ok
    | dict ds => cases ok
theorem ok_LsameS (T : Top w K mg) {n : Nat} (G_Lsame : FnOk P w K mg base CX0 (n + 2) T.a_Lsame T.fd_Lsame ["_law_found", "_law_due_here"] (spSame K n)) : FnOk P w K mg base CX0 (n + 3) T.a_Lsame T.fd_Lsame ["_law_found", "_law_due_here"] (spSame K (n + 1)) := by
  have G_Lwhole := ok_Lwhole (P := P) (w := w) (base := base) T
  refine T.F_Lsame.ok sc_Lsame (fun vs H Q E h => ?_) (fun cdv A outer s H vs Q E hr h => ?_)
  · obtain ⟨x, y, d, rfl, _⟩ := h
    rfl
  · obtain ⟨x, y, d, rfl, hx, hy, ok, q⟩ := h
    refine ⟨_, (pss_cons (ps_if (pt_val (pe_callB call_isi (by rfl) T.m_isinstance (by decide +kernel) (pa_cons (pv 1) (pa_cons (pe_bltn (v := .ty "tuple") (by rfl) T.m_tuple (by decide +kernel) rfl) pa_nil)))) (pss_cons (ps_if (PW.pt (pw_or (pt_not (pt_val (pe_callB call_isi (by rfl) T.m_isinstance (by decide +kernel) (pa_cons (pv 0) (pa_cons (pe_bltn (v := .ty "tuple") (by rfl) T.m_tuple (by decide +kernel) rfl) pa_nil))))) (pw_or1 (pt_cmpR op_ne (pe_callB call_len_seq (by rfl) T.m_len (by decide +kernel) (pa_cons (pv 0) pa_nil)) (pe_callB call_len_seq (by rfl) T.m_len (by decide +kernel) (pa_cons (pv 1) pa_nil)) (nomark _))))) (pss_one (ps_ret pe_bl)) pss_nil)
      (pss_one (ps_ret (pe_callB (cr_all rfl) (by rfl) T.m_all (by decide +kernel) (pa_cons (pe_lc (own := [("_law_one", 2), ("_law_other", 3)]) (g := gTup K 2 (gCons (gName 2) (gCons (gName 3) gNil))) (by rfl) sc_Lsame.nd (RZ.pi_zipA (by rfl) T.m_zip (pa_cons (pv 0) (pa_cons (pv 1) pa_nil))) (blkOk_by (own := [("_law_one", 2), ("_law_other", 3)]) (N := ["_law_found", "_law_due_here", "_law_one", "_law_other"]) (sc := defScope s_Lsame) (by decide +kernel)) (fun _ _ _ _ _ => (pg_tup rfl (pgs_cons (pg_name (i := 2) sc_Lsame.nd rfl (Or.inl rfl)) (pgs_cons (pg_name (i := 3) sc_Lsame.nd rfl (Or.inl rfl)) pgs_nil)))) (fun _ _ _ _ _ => pts_nil) (fun _ _ _ _ _ => (pe_call G_Lsame hr (by rfl) T.g_Lsame T.F_Lsame.kp T.b_Lsame .nil pass0 (pa_cons (pv 2) (pa_cons (pv 3) pa_nil))))) pa_nil))))) pss_nil)
      (pss_cons (ps_if (pt_cmpR op_isN (pv 1) pe_non (nomark _)) (pss_one (ps_ret (pe_cmpR op_isN (pv 0) pe_non (nomark _)))) pss_nil)
      (pss_cons (ps_if (pt_val (pe_callB call_isi (by rfl) T.m_isinstance (by decide +kernel) (pa_cons (pv 1) (pa_cons (pe_bltn (v := .ty "bool") (by rfl) T.m_bool (by decide +kernel) rfl) pa_nil)))) (pss_one (ps_ret (pe_and (pe_callB call_isi (by rfl) T.m_isinstance (by decide +kernel) (pa_cons (pv 0) (pa_cons (pe_bltn (v := .ty "bool") (by rfl) T.m_bool (by decide +kernel) rfl) pa_nil))) (pe_one (pe_cmpR op_eq (pv 0) (pv 1) (nomark _)))))) pss_nil)
      (pss_cons (ps_if (pt_val (pe_callB call_isi (by rfl) T.m_isinstance (by decide +kernel) (pa_cons (pv 1) (pa_cons (pe_bltn (v := .ty "str") (by rfl) T.m_str (by decide +kernel) rfl) pa_nil)))) (pss_one (ps_ret (pe_and (pe_callB call_isi (by rfl) T.m_isinstance (by decide +kernel) (pa_cons (pv 0) (pa_cons (pe_bltn (v := .ty "str") (by rfl) T.m_str (by decide +kernel) rfl) pa_nil))) (pe_one (pe_cmpR op_eq (pv 0) (pv 1) (nomark _)))))) pss_nil)
      (pss_one (ps_ret (pe_and (pe_call G_Lwhole (hr.mono (by omega)) (by rfl) T.g_Lwhole T.F_Lwhole.kp T.b_Lwhole .nil pass0 (pa_cons (pv 0) pa_nil)) (pe_one (pe_cmpR op_eq (pv 0) (pv 1) (nomark _)))))))))), ?_⟩
    have Q0 := q H (Same.refl H)
    cases d with
    | none =>
      cases hx
      cases hy
      exact ⟨.non, rfl, _, _, _, _, false, rfl, .ty _, .base .non, kit_ty (by decide +kernel), _, rfl, iteF ⟨.non, rfl, rfl, _, rfl, iteT ⟨.non, rfl, rfl, Q0⟩⟩⟩
    | bool b =>
      cases hx
      cases hy
      refine ⟨.bl b, rfl, _, _, _, _, false, rfl, .ty _, .base (.bl b), kit_ty (by decide +kernel), _, rfl, iteF ⟨.bl b, rfl, rfl, _, rfl, iteF ?_⟩⟩
      refine ⟨.bl b, rfl, _, _, _, _, true, rfl, .ty _, .base (.bl b), kit_ty (by decide +kernel), _, rfl, iteT ?_⟩
      refine ⟨.bl b, rfl, _, _, _, _, true, rfl, .ty _, .base (.bl b), kit_ty (by decide +kernel), _, rfl, iteT ⟨.bl b, rfl, .bl b, rfl, rfl, ?_⟩⟩
      rw [decide_eq_true rfl]
      exact Q0
    | int i =>
      cases hx
      cases hy
      refine ⟨.int i, rfl, _, _, _, _, false, rfl, .ty _, .base (.int i), kit_ty (by decide +kernel), _, rfl, iteF ⟨.int i, rfl, rfl, _, rfl, iteF ?_⟩⟩
      refine ⟨.int i, rfl, _, _, _, _, false, rfl, .ty _, .base (.int i), kit_ty (by decide +kernel), _, rfl, iteF ?_⟩
      refine ⟨.int i, rfl, _, _, _, _, false, rfl, .ty _, .base (.int i), kit_ty (by decide +kernel), _, rfl, iteF ?_⟩
      refine ⟨.int i, rfl, i, rfl, _, rfl, iteT ⟨.int i, rfl, .int i, rfl, rfl, ?_⟩⟩
      rw [decide_eq_true rfl]
      exact Q0
    | str z =>
      cases hx
      cases hy
      refine ⟨.str z, rfl, _, _, _, _, false, rfl, .ty _, .base (.str z), kit_ty (by decide +kernel), _, rfl, iteF ⟨.str z, rfl, rfl, _, rfl, iteF ?_⟩⟩
      refine ⟨.str z, rfl, _, _, _, _, false, rfl, .ty _, .base (.str z), kit_ty (by decide +kernel), _, rfl, iteF ?_⟩
      refine ⟨.str z, rfl, _, _, _, _, true, rfl, .ty _, .base (.str z), kit_ty (by decide +kernel), _, rfl, iteT ?_⟩
      refine ⟨.str z, rfl, _, _, _, _, true, rfl, .ty _, .base (.str z), kit_ty (by decide +kernel), _, rfl, iteT ⟨.str z, rfl, .str z, rfl, rfl, ?_⟩⟩
      rw [decide_eq_true rfl]
      exact Q0
    | list ds => cases ok
    | dict ds => cases ok
    | tuple ds =>
      cases hx with
      | @tup a xs _ sx ax =>
        cases hy with
        | @tup b ys _ sy ay =>
          have lx := dpa_len ds xs ax
          have ly := dpa_len ds ys ay
          obtain ⟨okL, okA⟩ := Bool.and_eq_true_iff.mp (show (decide (ds.length ≤ 1000) && ds.all fun d => okD n d) = true from ok)
          have okl : ds.length ≤ 1000 := of_decide_eq_true okL
          refine ⟨.ref b, rfl, _, _, _, _, true, rfl, .ty _, ty_tup sy, kit_ty (by decide +kernel), _, rfl, iteT ?_⟩
          refine ⟨.ref a, rfl, _, _, _, _, true, rfl, .ty _, ty_tup sx, kit_ty (by decide +kernel), _, rfl, iteF ?_⟩
          refine ⟨.ref a, rfl, a, xs, rfl, .inr sx, .ref b, rfl, b, ys, rfl, .inr sy, rfl, _, rfl, iteN (by rw [lx, ly]) ?_⟩
          refine ⟨.ref a, rfl, .ref b, rfl, a, b, xs, ys, rfl, .inr ⟨sx, sy, fun D hD => lc_it (walk_zipT (xs := xs) (ys := ys) (n := ds.length) (by omega)) (fun i H' => Same H H' ∧ H' D = some (.lst ((List.replicate i true).map V.bl))) ⟨same_upd hD, upd_same⟩ (fun i H' _ h => ⟨sqt_same h.1 sx, sqt_same h.1 sy⟩) ?_ ?_⟩⟩
          · rintro i v H1 H2 hi ⟨sm, eD⟩ ⟨t, u1, u2, rfl, nt, rfl, e1, e2⟩
            have st : Same H1 (upd H1 t (.tup [u1, u2])) := same_upd nt
            obtain ⟨d1, f1, g1⟩ := dpa_at ds xs ax i u1 e1
            obtain ⟨d2, f2, g2⟩ := dpa_at ds ys ay i u2 e2
            have ed : d2 = d1 := Option.some.inj (f2.symm.trans f1)
            subst ed
            have okd : okD n d2 = true := List.all_eq_true.mp okA d2 (List.mem_of_getElem? f1)
            refine ⟨t, [u1, u2], rfl, .inl (.inl upd_same), rfl, u1, [u2], rfl, u2, [], rfl, rfl, rfl, ?_⟩
            refine ⟨u1, rfl, u2, rfl, u1, u2, d2, rfl, dp_same (sm.trans st) d2 u1 g1, dp_same (sm.trans st) d2 u2 g2, okd, fun H3 s3 => ?_⟩
            refine ⟨_, s3 _ _ (st _ _ eD), ?_, ?_, ?_⟩
            · rw [List.length_map, List.length_replicate]
              exact small1000 (by omega)
            · exact fun b' o e => by
                rw [upd_ne (ne_of_none e hD)]
                exact s3 _ _ (st _ _ (sm _ _ e))
            · rw [upd_same, List.replicate_succ', List.map_append]
              rfl
          · rintro H1 ⟨sm, eD⟩
            refine ⟨_, List.replicate ds.length true, rfl, .inl (.inl eD), ?_⟩
            rw [all_true]
            exact q _ sm
theorem ok_Lsame (T : Top w K mg) : ∀ n : Nat, FnOk P w K mg base CX0 (n + 2) T.a_Lsame T.fd_Lsame ["_law_found", "_law_due_here"] (spSame K n)
  | 0 => ok_Lsame0 T
  | n + 1 => ok_LsameS T (ok_Lsame T n)
/-! ### data, whatever else stands in the heap -/
def isSeq : HO → Bool
  | .lst _ => true
  | .tup _ => true
  | .frz _ _ => true
  | _ => false
/-- all lists and tuples as they were -/
def Seqs (H H' : Hp) : Prop := ∀ b o, isSeq o = true → H b = some o → H' b = some o
theorem Seqs.of {H H' : Hp} (e : Same H H') : Seqs H H' := fun b o _ h => e b o h
theorem Seqs.trans {H H1 H2 : Hp} (a : Seqs H H1) (b : Seqs H1 H2) : Seqs H H2 := fun c o z h => b c o z (a c o z h)
theorem Seqs.upd {H : Hp} {a : Addr} {o u : HO} (e : H a = some u) (n : isSeq u = false) : Seqs H (L2.upd H a o) := fun b v z h => by
  rw [upd_ne (fun y => by rw [y, e] at h; cases h; rw [n] at z; cases z)]
  exact h
theorem Seqs.new {H : Hp} {a : Addr} {o : HO} (e : H a = none) : Seqs H (L2.upd H a o) := Seqs.of (same_upd e)
theorem seqs_l {K : PySem.W.Frag} {H H' : Hp} {a : Addr} {xs : List V} (e : Seqs H H') (h : SqL K H a xs) : SqL K H' a xs := by
  rcases h with (h | ⟨o, h⟩) | h
  · exact .inl (.inl (e _ _ rfl h))
  · exact .inl (.inr ⟨o, e _ _ rfl h⟩)
  · exact .inr h
theorem seqs_t {K : PySem.W.Frag} {H H' : Hp} {a : Addr} {xs : List V} (e : Seqs H H') (h : SqT K H a xs) : SqT K H' a xs := by
  rcases h with (h | ⟨o, h⟩) | h
  · exact .inl (.inl (e _ _ rfl h))
  · exact .inl (.inr ⟨o, e _ _ rfl h⟩)
  · exact .inr h
mutual
theorem dp_seqs {K : PySem.W.Frag} {H H' : Hp} (e : Seqs H H') : ∀ (d : PyData) (v : V), Dp K H v d → Dp K H' v d
  | .none, _, h => by cases h; exact .non
  | .bool b, _, h => by cases h; exact .bl b
  | .int i, _, h => by cases h; exact .int i
  | .str x, _, h => by cases h; exact .str x
  | .list ds, _, h => by
    cases h with
    | lst hs ha => exact .lst (seqs_l e hs) (dpa_seqs e ds _ ha)
  | .tuple ds, _, h => by
    cases h with
    | tup hs ha => exact .tup (seqs_t e hs) (dpa_seqs e ds _ ha)
  | .dict _, _, h => by cases h
theorem dpa_seqs {K : PySem.W.Frag} {H H' : Hp} (e : Seqs H H') : ∀ (ds : List PyData) (vs : List V), DpAll K H vs ds → DpAll K H' vs ds
  | [], _, h => by cases h; exact .nil
  | d :: ds, _, h => by
    cases h with
    | cons h1 h2 => exact .cons (dp_seqs e d _ h1) (dpa_seqs e ds _ h2)
end
theorem dpa_snoc {K : PySem.W.Frag} {H : Hp} {v : V} {d : PyData} (h : Dp K H v d) : ∀ (ds : List PyData) (vs : List V), DpAll K H vs ds → DpAll K H (vs ++ [v]) (ds ++ [d])
  | [], _, a => by cases a; exact .cons h .nil
  | x :: ds, _, a => by
    cases a with
    | cons h1 h2 => exact .cons h1 (dpa_snoc h ds _ h2)
/-- the heap without the places of X -/
noncomputable def wo (H : Hp) (X : Addr → Prop) : Hp := fun b => by
  classical
  exact if X b then none else H b
theorem wo_in {H : Hp} {X : Addr → Prop} {b : Addr} (h : ¬ X b) : wo H X b = H b := by
  unfold wo
  exact if_neg h
theorem wo_some {H : Hp} {X : Addr → Prop} {b : Addr} {o : HO} (h : wo H X b = some o) : ¬ X b ∧ H b = some o := by
  unfold wo at h
  by_cases hx : X b
  · rw [if_pos hx] at h
    cases h
  · rw [if_neg hx] at h
    exact ⟨hx, h⟩
theorem wo_same {H : Hp} {X : Addr → Prop} : Same (wo H X) H := fun b o h => (wo_some h).2
theorem wo_none {H : Hp} : wo H (fun _ => False) = H := by
  funext b
  exact wo_in (fun h => h)
--@@SPLIT
/-! ### kinds of things -/
theorem ty_lst {K : PySem.W.Frag} {H : Hp} {a : Addr} {xs : List V} (h : SqL K H a xs) : TyX K H (.ref a) (.type "list") := by
  rcases h with (h | ⟨o, h⟩) | ⟨o, its, n, lk, hc, _⟩
  · exact .base (.lst h)
  · exact .base (.frz h)
  · exact .kList lk hc
theorem kit_any2 {K : PySem.W.Frag} {t a b : String} {x y : Bool} (h1 : kitB t a = some x) (h2 : kitB t b = some y) : PySem.W.kitAny K (.type t) [.type a, .type b] = some (x || y) := by
  unfold PySem.W.kitAny
  rw [kit_ty h1]
  cases x with
  | true => rfl
  | false =>
    unfold PySem.W.kitAny
    rw [kit_ty h2]
    cases y <;> rfl
/-- the type's name -/
def tyD : PyData → String
  | .none => "NoneType"
  | .bool _ => "bool"
  | .int _ => "int"
  | .str _ => "str"
  | .list _ => "list"
  | .tuple _ => "tuple"
  | .dict _ => "dict"
theorem ty_dp {K : PySem.W.Frag} {H : Hp} {v : V} {d : PyData} (h : Dp K H v d) : TyX K H v (.type (tyD d)) := by
  cases h with
  | non => exact .base .non
  | bl b => exact .base (.bl b)
  | int i => exact .base (.int i)
  | str z => exact .base (.str z)
  | lst h _ => exact ty_lst h
  | tup h _ => exact ty_tup h
def seqD : PyData → Option (List PyData)
  | .list ds => some ds
  | .tuple ds => some ds
  | _ => none
def strD : PyData → Bool
  | .str _ => true
  | _ => false
theorem kit_seq (d : PyData) : ∃ x y, kitB (tyD d) "tuple" = some x ∧ kitB (tyD d) "list" = some y ∧ (x || y) = (seqD d).isSome := by
  cases d with
  | list ds => exact ⟨false, true, by show kitB "list" "tuple" = some false; decide +kernel, by show kitB "list" "list" = some true; decide +kernel, rfl⟩
  | tuple ds => exact ⟨true, false, by show kitB "tuple" "tuple" = some true; decide +kernel, by show kitB "tuple" "list" = some false; decide +kernel, rfl⟩
  | none => exact ⟨false, false, by show kitB "NoneType" "tuple" = some false; decide +kernel, by show kitB "NoneType" "list" = some false; decide +kernel, rfl⟩
  | bool b => exact ⟨false, false, by show kitB "bool" "tuple" = some false; decide +kernel, by show kitB "bool" "list" = some false; decide +kernel, rfl⟩
  | int i => exact ⟨false, false, by show kitB "int" "tuple" = some false; decide +kernel, by show kitB "int" "list" = some false; decide +kernel, rfl⟩
  | str z => exact ⟨false, false, by show kitB "str" "tuple" = some false; decide +kernel, by show kitB "str" "list" = some false; decide +kernel, rfl⟩
  | dict z => exact ⟨false, false, by show kitB "dict" "tuple" = some false; decide +kernel, by show kitB "dict" "list" = some false; decide +kernel, rfl⟩
theorem kit_str (d : PyData) : kitB (tyD d) "str" = some (strD d) := by
  cases d with
  | list ds => show kitB "list" "str" = some false; decide +kernel
  | tuple ds => show kitB "tuple" "str" = some false; decide +kernel
  | none => show kitB "NoneType" "str" = some false; decide +kernel
  | bool b => show kitB "bool" "str" = some false; decide +kernel
  | int i => show kitB "int" "str" = some false; decide +kernel
  | str z => show kitB "str" "str" = some true; decide +kernel
  | dict z => show kitB "dict" "str" = some false; decide +kernel
def SqA (K : PySem.W.Frag) (H : Hp) (a : Addr) (xs : List V) : Prop := SqL K H a xs ∨ SqT K H a xs
theorem SqA.same {K : PySem.W.Frag} {H H' : Hp} {a : Addr} {xs : List V} (e : Same H H') (h : SqA K H a xs) : SqA K H' a xs := h.elim (fun h => .inl (e.seq h)) (fun h => .inr (sqt_same e h))
theorem seq_dp {K : PySem.W.Frag} {H : Hp} {v : V} {d : PyData} {ds : List PyData} (h : Dp K H v d) (e : seqD d = some ds) : ∃ a xs, v = .ref a ∧ SqA K H a xs ∧ DpAll K H xs ds := by
  cases h with
  | lst h a => cases e; exact ⟨_, _, rfl, .inl h, a⟩
  | tup h a => cases e; exact ⟨_, _, rfl, .inr h, a⟩
  | _ => cases e
theorem ixA {K : PySem.W.Frag} {H : Hp} {a : Addr} {xs : List V} {j : Nat} {v : V} {Q : VK} (h : SqA K H a xs) (hj : xs[j]? = some v) (q : Q v H) : rIx K (.ref a) (.int (j : Int)) H Q :=
  h.elim (fun h => .inl ⟨a, xs, j, v, rfl, rfl, h, atI_nat hj, q⟩) (fun h => .inr (.inl ⟨a, xs, j, v, rfl, rfl, h, atI_nat hj, q⟩))
theorem kpA {K : PySem.W.Frag} {H : Hp} {a : Addr} {xs : List V} (h : SqA K H a xs) : (∀ H', Same H H' → SqL K H' a xs) ∨ (∀ H', Same H H' → SqT K H' a xs) := h.elim (fun h => .inl fun _ s => s.seq h) (fun h => .inr fun _ s => sqt_same s h)
/-! ### what is kept: things laid out, then made anew from the end on -/
mutual
def siz : PyData → Nat
  | .list ds => 1 + sizs ds
  | .tuple ds => 1 + sizs ds
  | _ => 1
def sizs : List PyData → Nat
  | [] => 0
  | d :: ds => siz d + sizs ds
end
theorem siz_pos : ∀ d : PyData, 1 ≤ siz d
  | .list ds => by unfold siz; omega
  | .tuple ds => by unfold siz; omega
  | .none => by unfold siz; omega
  | .bool _ => by unfold siz; omega
  | .int _ => by unfold siz; omega
  | .str _ => by unfold siz; omega
  | .dict _ => by unfold siz; omega
theorem sizs_len : ∀ ds : List PyData, ds.length ≤ sizs ds
  | [] => by unfold sizs; exact Nat.le_refl _
  | d :: ds => by
    have := siz_pos d
    have := sizs_len ds
    unfold sizs
    rw [List.length_cons]
    omega
theorem sizs_app : ∀ (a b : List PyData), sizs (a ++ b) = sizs a + sizs b
  | [], b => by
    show sizs b = sizs [] + sizs b
    have : sizs [] = 0 := by unfold sizs; rfl
    omega
  | d :: a, b => by
    have := sizs_app a b
    show sizs (d :: (a ++ b)) = sizs (d :: a) + sizs b
    have e1 : sizs (d :: (a ++ b)) = siz d + sizs (a ++ b) := by rw [sizs]
    have e2 : sizs (d :: a) = siz d + sizs a := by rw [sizs]
    omega
theorem siz_seq {d : PyData} {cs : List PyData} (h : seqD d = some cs) : siz d = 1 + sizs cs := by
  cases d with
  | list ds => cases h; rw [siz]
  | tuple ds => cases h; rw [siz]
  | _ => cases h
theorem siz_flat {d : PyData} (h : seqD d = none) : siz d = 1 := by
  cases d with
  | list ds => cases h
  | tuple ds => cases h
  | _ => simp [siz]
theorem siz_int (i : Int) : siz (.int i) ≤ 1000 := by simp [siz]
theorem siz_str (z : Str) : siz (.str z) ≤ 1000 := by simp [siz]
theorem dpa_app {K : PySem.W.Frag} {H : Hp} : ∀ (ds es : List PyData) (xs ys : List V), DpAll K H xs ds → DpAll K H ys es → DpAll K H (xs ++ ys) (ds ++ es)
  | [], _, _, _, h, g => by cases h; exact g
  | d :: ds, es, _, ys, h, g => by
    cases h with
    | cons h1 h2 => exact .cons h1 (dpa_app ds es _ ys h2 g)
theorem dpa_dropK {K : PySem.W.Frag} {H : Hp} : ∀ (n : Nat) (ds : List PyData) (xs : List V), DpAll K H xs ds → DpAll K H (xs.drop n) (ds.drop n)
  | 0, _, _, h => h
  | n + 1, [], _, h => by cases h; exact .nil
  | n + 1, d :: ds, _, h => by
    cases h with
    | cons h1 h2 => exact dpa_dropK n ds _ h2
theorem dpa_takeK {K : PySem.W.Frag} {H : Hp} : ∀ (n : Nat) (ds : List PyData) (xs : List V), DpAll K H xs ds → DpAll K H (xs.take n) (ds.take n)
  | 0, _, _, _ => .nil
  | n + 1, [], _, h => by cases h; exact .nil
  | n + 1, d :: ds, _, h => by
    cases h with
    | cons h1 h2 => exact .cons h1 (dpa_takeK n ds _ h2)
theorem dpa_setK {K : PySem.W.Frag} {H : Hp} {v : V} {d : PyData} (hv : Dp K H v d) : ∀ (n : Nat) (ds : List PyData) (xs : List V), DpAll K H xs ds → ds[n]? = some d → DpAll K H (xs.set n v) ds
  | _, [], _, h, e => by cases e
  | 0, d' :: ds, _, h, e => by
    cases e
    cases h with
    | cons h1 h2 => exact .cons hv h2
  | n + 1, d' :: ds, _, h, e => by
    cases h with
    | cons h1 h2 => exact .cons h1 (dpa_setK hv n ds _ h2 e)
/-- where the parts of each of the first ones begin -/
def LaidTo (i : Nat) (ds : List PyData) (bs : List Int) : Prop := ∀ (j : Nat) (d : PyData) (cs : List PyData), j < i → ds[j]? = some d → seqD d = some cs → ∃ b : Nat, bs[j]? = some (b : Int) ∧ (ds.drop b).take cs.length = cs
theorem laid_more {i : Nat} {ds : List PyData} {bs : List Int} (hi : i ≤ ds.length) (h : LaidTo i ds bs) (es : List PyData) : LaidTo i (ds ++ es) bs := fun j d cs hj hd hs => by
  have l : j < ds.length := by omega
  · rw [List.getElem?_append_left l] at hd
    obtain ⟨b, h1, h2⟩ := h j d cs hj hd hs
    refine ⟨b, h1, ?_⟩
    have hl : cs.length ≤ (ds.drop b).length := by
      have := congrArg List.length h2
      rw [List.length_take] at this
      omega
    by_cases hb : b ≤ ds.length
    · rw [List.drop_append_of_le_length hb, List.take_append_of_le_length hl]
      exact h2
    · have h0 : (ds.drop b).length = 0 := by rw [List.length_drop]; omega
      have : cs = [] := List.eq_nil_of_length_eq_zero (by omega)
      rw [this]
      rfl
def spRowD (K : PySem.W.Frag) : Sp := fun vs H Q _ => ∃ (v : V) (d : PyData), vs = [v] ∧ Dp K H v d ∧ ∀ H', Same H H' → Q (.bl (seqD d).isSome) H'
theorem ok_is_row (T : Top w K mg) : FnOk P w K mg base CX0 1 T.a_is_row T.fd_is_row ["thing"] (spRowD K) := by
  refine T.F_is_row.ok sc_is_row (fun vs H Q E h => ?_) (fun cdv A outer s H vs Q E hr h => ?_)
  · obtain ⟨v, d, rfl, _⟩ := h
    rfl
  · obtain ⟨v, d, rfl, hd, q⟩ := h
    refine ⟨_, (pss_one (ps_ret (pe_callB call_isiT (by rfl) T.m_isinstance (by decide +kernel) (pa_cons (pv 0) (pa_cons (pe_tup (pa_cons (pe_bltn (v := .ty "tuple") (by rfl) T.m_tuple (by decide +kernel) rfl) (pa_cons (pe_bltn (v := .ty "list") (by rfl) T.m_list (by decide +kernel) rfl) pa_nil))) pa_nil))))), ?_⟩
    obtain ⟨x, y, k1, k2, exy⟩ := kit_seq d
    refine ⟨v, rfl, by show 2 ≤ sizeLine; decide, fun tp np => ⟨v, tp, _, _, _, _, rfl, upd_same, .cons (.ty _) (.cons (.ty _) .nil), ty_dp (dp_same (same_upd np) d v hd), kit_any2 k1 k2, ?_⟩⟩
    rw [exy]
    exact q _ (same_upd np)
theorem cut_nat (xs : List V) (b n : Nat) (h : b + n ≤ xs.length) : cutV xs (some (b : Int)) (some ((b : Int) + (n : Int))) = (xs.drop b).take n := by
  unfold cutV
  have e1 : HT.sIx xs.length 0 (some (b : Int)) = b := by
    unfold HT.sIx
    simp only []
    split <;> omega
  have e2 : HT.sIx xs.length xs.length (some ((b : Int) + (n : Int))) = b + n := by
    unfold HT.sIx
    simp only []
    split <;> omega
  rw [e1, e2, Nat.add_sub_cancel_left]
theorem cut_bl (as : List Bool) (lo hi : Option Int) : ∃ cs : List Bool, cutV (as.map V.bl) lo hi = cs.map V.bl := by
  unfold cutV
  exact ⟨_, by rw [← List.map_drop, ← List.map_take]⟩
def spKept (K : PySem.W.Frag) : Sp := fun vs H Q _ => ∃ (v : V) (d : PyData), vs = [v] ∧ siz d ≤ 1000 ∧ Dp K H v d ∧ ∀ H' v', Same H H' → Dp K H' v' d → Q v' H'
def spLaid (K : PySem.W.Frag) : Sp := fun vs H Q _ => ∃ (v : V) (d : PyData), vs = [v] ∧ siz d ≤ 1000 ∧ Dp K H v d ∧
  ∀ H' r t b xs ds bs, Same H H' → H t = none → H b = none → t ≠ b → H' t = some (.lst xs) → H' b = some (.lst (bs.map V.int)) → H' r = some (.tup [.ref t, .ref b]) → DpAll K H xs ds → LaidTo ds.length ds bs → bs.length = ds.length → ds[0]? = some d → ds.length ≤ 1000 → Q (.ref r) H'
theorem ok_laid_out (T : Top w K mg) : FnOk P w K mg base CX0 2 T.a_laid_out T.fd_laid_out ["thing"] (spLaid K) := by
  have G_is_row := ok_is_row (P := P) (w := w) (base := base) T
  refine T.F_laid_out.ok sc_laid_out (fun vs H Q E h => ?_) (fun cdv A outer s H vs Q E hr h => ?_)
  · obtain ⟨v, d, rfl, _⟩ := h
    rfl
  · obtain ⟨v, d, rfl, hz, hd, q⟩ := h
    refine ⟨_, (pss_cons (ps_set (i := 1) sc_laid_out.nd rfl (.inl rfl) (pe_lst (pa_cons (pv 0) pa_nil)))
      (pss_cons (ps_set (i := 2) sc_laid_out.nd rfl (.inl rfl) (pe_lst pa_nil))
      (pss_cons (ps_while PassesOwn.never (pt_cmpR op_lt (pe_callB call_len_seq (by rfl) T.m_len (by decide +kernel) (pa_cons (pv 2) pa_nil)) (pe_callB call_len_seq (by rfl) T.m_len (by decide +kernel) (pa_cons (pv 1) pa_nil)) (nomark _)) (pss_cons (ps_set (i := 3) sc_laid_out.nd rfl (.inl rfl) (pe_ix ix_list (pv 1) (pe_callB call_len_seq (by rfl) T.m_len (by decide +kernel) (pa_cons (pv 2) pa_nil)) (fun _ _ => rfl)))
      (pss_cons (ps_expr (pe_bm PySem.F.plainAttrs_list PySem.F.slot_list_append PySem.F.type_list_append mt_append (pv 2) (pa_cons (pe_callB call_len_seq (by rfl) T.m_len (by decide +kernel) (pa_cons (pv 1) pa_nil)) pa_nil)))
      (pss_one (ps_if (pt_val (pe_call G_is_row hr (by rfl) T.g_is_row T.F_is_row.kp T.b_is_row .nil pass0 (pa_cons (pv 3) pa_nil))) (pss_one (ps_expr (pe_bm PySem.F.plainAttrs_list PySem.F.slot_list_extend PySem.F.type_list_extend mt_extend (pv 1) (pa_cons (pe_callTy call_list_of (by rfl) T.m_list (by decide +kernel) (pa_cons (pv 3) pa_nil)) pa_nil)))) pss_nil)))))
      (pss_one (ps_ret (pe_tup (pa_cons (pv 1) (pa_cons (pv 2) pa_nil)))))))), ?_⟩
    refine ⟨v, rfl, by show 1 ≤ sizeLine; decide, fun t nt => ?_⟩
    refine ⟨Nat.zero_le _, fun b nb => ?_⟩
    have s1 := same_upd (o := .lst [v]) nt
    have s2 := same_upd (o := .lst []) nb
    have tb : t ≠ b := fun z => by
      rw [← z, upd_same] at nb
      cases nb
    have nb0 : H b = none := s1.free nb
    refine ⟨fun m σ H1 => ∃ xs ds bs y, σ = [some v, some (.ref t), some (.ref b), y] ∧ Same H H1 ∧ H1 t = some (.lst xs) ∧ H1 b = some (.lst (bs.map V.int)) ∧ DpAll K H xs ds ∧ bs.length ≤ ds.length ∧ LaidTo bs.length ds bs ∧ ds[0]? = some d ∧ m = sizs (ds.drop bs.length) ∧ bs.length + m = siz d, ⟨siz d, [v], [d], [], none, rfl, s1.trans s2, s2 _ _ upd_same, upd_same, .cons hd .nil, Nat.zero_le _, (fun j d cs hj => absurd hj (Nat.not_lt_zero j)), rfl, ?_, Nat.zero_add _⟩, ?_⟩
    · show siz d = sizs [d]
      rw [sizs, sizs]
      rfl
    · rintro m σ H1 ⟨xs, ds, bs, y, rfl, sm, et, eb, ha, hl, hlaid, h0, hm, hsum⟩
      have lx := dpa_len ds xs ha
      refine ⟨.ref b, rfl, b, _, rfl, .inl (.inl (.inl eb)), .ref t, rfl, t, _, rfl, .inl (.inl (.inl et)), _, _, rfl, rfl, _, rfl, ite2 (fun e => ?_) (fun e => ?_)⟩
      · have hi : bs.length < ds.length := by
          have := of_decide_eq_true e
          rw [List.length_map] at this
          omega
        obtain ⟨di, fi⟩ : ∃ di, ds[bs.length]? = some di := ⟨_, List.getElem?_eq_getElem hi⟩
        obtain ⟨x, gx⟩ : ∃ x, xs[bs.length]? = some x := ⟨_, List.getElem?_eq_getElem (by omega)⟩
        have hx : Dp K H x di := by
          obtain ⟨d', e1, e2⟩ := dpa_at ds xs ha _ x gx
          rw [fi] at e1
          cases e1
          exact e2
        have dr : ds.drop bs.length = di :: ds.drop (bs.length + 1) := by
          obtain ⟨h1, h2⟩ := List.getElem?_eq_some_iff.mp fi
          rw [List.drop_eq_getElem_cons h1, h2]
        have m1 : m = siz di + sizs (ds.drop (bs.length + 1)) := by rw [hm, dr, sizs]
        have lds : ds.length ≤ siz d := by
          have := sizs_len (ds.drop bs.length)
          rw [List.length_drop] at this
          omega
        refine ⟨fun σ' H' => ∃ m', m' < m ∧ _, fun _ _ h => h, ?_⟩
        refine ⟨.ref t, rfl, .ref b, rfl, b, _, rfl, .inl (.inl (.inl eb)), t, xs, _, x, rfl, rfl, .inl (.inl et), atI_nat (by rw [List.length_map]; exact gx), ?_⟩
        refine ⟨.ref b, rfl, .inl ⟨rfl, _, .inl (.inl eb)⟩, .ref t, rfl, t, _, rfl, .inl (.inl (.inl et)), b, _, _, rfl, rfl, eb, small1000 (by rw [List.length_map]; omega), ?_⟩
        have sb := same_upd (o := .lst (bs.map V.int ++ [.int (xs.length : Nat)])) nb0
        have s3 : Same H (upd H1 b (.lst (bs.map V.int ++ [.int (xs.length : Nat)]))) := fun c o h => by
          rw [upd_ne (ne_of_none h nb0)]
          exact sm _ _ h
        have eb2 : (bs ++ [((xs.length : Nat) : Int)]).map V.int = bs.map V.int ++ [.int (xs.length : Nat)] := by rw [List.map_append]; rfl
        have lb2 : (bs ++ [((xs.length : Nat) : Int)]).length = bs.length + 1 := by rw [List.length_append]; rfl
        have old : ∀ es, LaidTo bs.length (ds ++ es) (bs ++ [((xs.length : Nat) : Int)]) := fun es j d' cs hj h1 h2 => by
          obtain ⟨b0, g1, g2⟩ := laid_more hl hlaid es j d' cs hj h1 h2
          exact ⟨b0, by rw [List.getElem?_append_left hj]; exact g1, g2⟩
        refine ⟨x, rfl, x, di, rfl, dp_same s3 di x hx, fun H4 s4 => ⟨_, rfl, ?_⟩⟩
        cases e : seqD di with
        | none =>
          refine iteF ⟨sizs (ds.drop (bs.length + 1)), by have := siz_pos di; omega, xs, ds, bs ++ [((xs.length : Nat) : Int)], _, rfl, s3.trans s4, s4 _ _ (by rw [upd_ne tb]; exact et), s4 _ _ (by rw [eb2]; exact upd_same), ha, by omega, fun j d' cs hj h1 h2 => ?_, h0, by rw [lb2], ?_⟩
          · rw [lb2] at hj
            by_cases ej : j = bs.length
            · rw [ej, fi] at h1
              cases h1
              rw [e] at h2
              cases h2
            · have := old [] j d' cs (by omega) (by rw [List.append_nil]; exact h1) h2
              rw [List.append_nil] at this
              exact this
          · have := siz_flat e
            omega
        | some cs =>
          obtain ⟨p, ys, rfl, hs, hc⟩ := seq_dp hx e
          have lc := dpa_len cs ys hc
          have zc := siz_seq e
          have lcs := sizs_len cs
          have ldr := sizs_len (ds.drop (bs.length + 1))
          rw [List.length_drop] at ldr
          refine iteT ⟨.ref t, rfl, .inl ⟨rfl, _, .inl (.inl (s4 _ _ (by rw [upd_ne tb]; exact et)))⟩, .ref p, rfl, p, ys, rfl, hs.elim (fun h => .inl ((s3.trans s4).seq h)) (fun h => .inr (sqt_same (s3.trans s4) h)), fun l nl => ?_⟩
          have et4 := s4 _ _ (show upd H1 b (.lst (bs.map V.int ++ [.int (xs.length : Nat)])) t = some (.lst xs) by rw [upd_ne tb]; exact et)
          have eb4 := s4 b _ upd_same
          have lt : t ≠ l := ne_of_none et4 nl
          have lb : b ≠ l := ne_of_none eb4 nl
          refine ⟨t, l, xs, ys, rfl, rfl, by rw [upd_ne lt]; exact et4, upd_same, Nat.le_of_lt (small1000 (by omega)), ?_⟩
          refine ⟨sizs ((ds ++ cs).drop (bs.length + 1)), ?_, xs ++ ys, ds ++ cs, bs ++ [((xs.length : Nat) : Int)], _, rfl, fun c o h => ?_, upd_same, ?_, dpa_app ds cs xs ys ha hc, ?_, fun j d' cs' hj h1 h2 => ?_, ?_, by rw [lb2], ?_⟩
          · rw [List.drop_append_of_le_length (by omega), sizs_app]
            omega
          · rw [upd_ne (ne_of_none h nt), upd_ne (ne_of_none ((s3.trans s4) _ _ h) nl)]
            exact (s3.trans s4) _ _ h
          · rw [upd_ne (Ne.symm tb), upd_ne lb, eb2]
            exact eb4
          · rw [lb2, List.length_append]
            omega
          · rw [lb2] at hj
            by_cases ej : j = bs.length
            · rw [ej, List.getElem?_append_left hi, fi] at h1
              cases h1
              rw [e] at h2
              cases h2
              refine ⟨ds.length, ?_, ?_⟩
              · rw [ej, List.getElem?_append_right (Nat.le_refl _), Nat.sub_self, lx]
                rfl
              · rw [List.drop_left, List.take_of_length_le (Nat.le_refl _)]
            · exact old cs j d' cs' (by omega) h1 h2
          · rw [List.getElem?_append_left (by omega)]
            exact h0
          · rw [List.drop_append_of_le_length (by omega), sizs_app]
            omega
      · have hi : bs.length = ds.length := by
          have : ¬ ((bs.map V.int).length : Int) < (xs.length : Int) := fun z => e (decide_eq_true z)
          rw [List.length_map] at this
          omega
        refine ⟨.ref t, rfl, .ref b, rfl, by show 2 ≤ sizeLine; decide, fun r nr => ?_⟩
        have sr := same_upd (o := .tup [.ref t, .ref b]) nr
        exact q _ r t b xs ds bs (sm.trans sr) nt nb0 tb (sr _ _ et) (sr _ _ eb) upd_same ha (by rw [← hi]; exact hlaid) hi h0 (by omega)
theorem ok_kept (T : Top w K mg) : FnOk P w K mg base CX0 3 T.a_kept T.fd_kept ["thing"] (spKept K) := by
  have G_is_row := ok_is_row (P := P) (w := w) (base := base) T
  have G_laid_out := ok_laid_out (P := P) (w := w) (base := base) T
  refine T.F_kept.ok sc_kept (fun vs H Q E h => ?_) (fun cdv A outer s H vs Q E hr h => ?_)
  · obtain ⟨v, d, rfl, _⟩ := h
    rfl
  · obtain ⟨v, d, rfl, hz, hd, q⟩ := h
    refine ⟨_, (pss_cons (ps_asg (pe_call G_laid_out hr (by rfl) T.g_laid_out T.F_laid_out.kp T.b_laid_out .nil pass0 (pa_cons (pv 0) pa_nil)) (pg_tup rfl (pgs_cons (pg_name (i := 1) sc_kept.nd rfl (.inl rfl)) (pgs_cons (pg_name (i := 2) sc_kept.nd rfl (.inl rfl)) pgs_nil))))
      (pss_cons (ps_set (i := 3) sc_kept.nd rfl (.inl rfl) (pe_callB call_len_seq (by rfl) T.m_len (by decide +kernel) (pa_cons (pv 1) pa_nil)))
      (pss_cons (ps_set (i := 4) sc_kept.nd rfl (.inl rfl) (pe_op op_rep (pe_lst (pa_cons pe_bl pa_nil)) (pv 3)))
      (pss_cons (ps_while PassesOwn.never (pt_cmpR op_gt (pv 3) pe_int (nomark _)) (pss_cons (ps_aug (i := 3) sc_kept.nd rfl (.inl rfl) pe_int ip_sub)
      (pss_cons (ps_set (i := 5) sc_kept.nd rfl (.inl rfl) (pe_ix ix_list (pv 1) (pv 3) (fun _ _ => rfl)))
      (pss_one (ps_if (pt_val (pe_call G_is_row (hr.mono (by decide)) (by rfl) T.g_is_row T.F_is_row.kp T.b_is_row .nil pass0 (pa_cons (pv 5) pa_nil))) (pss_cons (ps_par (i := 6) (j := 7) (by rfl) sc_kept.nd rfl rfl (by decide) rfl rfl (pa_cons (pe_ix ix_list (pv 2) (pv 3) (fun _ _ => rfl)) (pa_cons (pe_op op_add (pe_ix ix_list (pv 2) (pv 3) (fun _ _ => rfl)) (pe_callB call_len_seq (by rfl) T.m_len (by decide +kernel) (pa_cons (pv 5) pa_nil))) pa_nil)) (by rfl))
      (Evl.pss_cut (ps_asg (pe_or (pe_callB call_isi (by rfl) T.m_isinstance (by decide +kernel) (pa_cons (pv 5) (pa_cons (pe_bltn (v := .ty "list") (by rfl) T.m_list (by decide +kernel) rfl) pa_nil))) (pe_one (pe_callB (cr_any rfl) (by rfl) T.m_any (by decide +kernel) (pa_cons (pe_slice sl_list (pv 4) (po_some (pv 6)) (po_some (pv 7))) pa_nil)))) (pg_sub (pv 4) (pv 3) set_list))
      (pss_one (ps_if (pt_val (pe_ix ix_list (pv 4) (pv 3) (fun _ _ => rfl))) (pss_one (ps_asg (pe_ifExp (pt_val (pe_callB call_isi (by rfl) T.m_isinstance (by decide +kernel) (pa_cons (pv 5) (pa_cons (pe_bltn (v := .ty "list") (by rfl) T.m_list (by decide +kernel) rfl) pa_nil)))) (pe_slice sl_list (pv 1) (po_some (pv 6)) (po_some (pv 7))) (pe_callTy call_tuple_of (by rfl) T.m_tuple (by decide +kernel) (pa_cons (pe_slice sl_list (pv 1) (po_some (pv 6)) (po_some (pv 7))) pa_nil))) (pg_sub (pv 1) (pv 3) set_list))) pss_nil)))) pss_nil)))))
      (pss_one (ps_ret (pe_ix ix_list (pv 1) pe_int (fun _ _ => rfl)))))))), ?_⟩
    refine ⟨v, rfl, v, d, rfl, hz, hd, fun H1 r t b xs ds bs sm nt nb tb et eb er ha hlaid hlb h0 hl => ?_⟩
    have lx := dpa_len ds xs ha
    refine ⟨r, _, rfl, .inl (.inl er), rfl, _, _, rfl, _, _, rfl, rfl, ?_⟩
    refine ⟨.ref t, rfl, t, xs, rfl, .inl (.inl (.inl et)), ?_⟩
    have sl : xs.length ≤ sizeLine := Nat.le_of_lt (small1000 (by omega))
    refine ⟨by show 1 ≤ sizeLine; decide, fun l nl => ?_⟩
    have s1 := same_upd (o := .lst [.bl false]) nl
    refine ⟨.int (xs.length : Nat), rfl, l, _, _, rfl, rfl, upd_same, by omega, by have : sizeLine < 2 ^ 63 := by decide
                                                                                   omega, ?_, fun a na => ?_⟩
    · show 1 * (xs.length : Int).toNat ≤ sizeLine
      omega
    have s2 := same_upd (o := .lst (List.replicate (xs.length : Int).toNat [V.bl false]).flatten) na
    have ea : ∃ as : List Bool, (List.replicate (xs.length : Int).toNat [V.bl false]).flatten = as.map V.bl ∧ as.length = ds.length := ⟨List.replicate ds.length false, by simp [lx], by simp⟩
    obtain ⟨as, ea1, ea2⟩ := ea
    have ma : upd (upd H1 l (.lst [.bl false])) a (.lst (List.replicate (xs.length : Int).toNat [V.bl false]).flatten) a = some (.lst (as.map V.bl)) := by rw [upd_same, ea1]
    have ta : t ≠ a := ne_of_none (s1 _ _ et) na
    have ba : b ≠ a := ne_of_none (s1 _ _ eb) na
    have na0 : H a = none := sm.free (s1.free na)
    refine ⟨fun m σ H2 => ∃ xs as y5 y6 y7, σ = [some v, some (.ref t), some (.ref b), some (.int (m : Nat)), some (.ref a), y5, y6, y7] ∧ m ≤ ds.length ∧ Same H H2 ∧ H2 t = some (.lst xs) ∧ H2 b = some (.lst (bs.map V.int)) ∧ H2 a = some (.lst (as.map V.bl)) ∧ as.length = ds.length ∧ DpAll K (wo H2 (fun c => c = t ∨ c = b ∨ c = a)) xs ds, ⟨ds.length, xs, as, none, none, none, by rw [lx]; rfl, Nat.le_refl _, (sm.trans s1).trans s2, (s1.trans s2) _ _ et, (s1.trans s2) _ _ eb, ma, ea2, ?_⟩, ?_⟩
    · refine dpa_same (fun c o h => ?_) _ _ ha
      rw [wo_in (fun z => by
        rcases z with z | z | z
        · rw [z, nt] at h; cases h
        · rw [z, nb] at h; cases h
        · rw [z, na0] at h; cases h)]
      exact ((sm.trans s1).trans s2) _ _ h
    · rintro m σ H2 ⟨xs, as, y5, y6, y7, rfl, hm, sm2, et2, eb2, ea2, la, ha2⟩
      have lx := dpa_len ds xs ha2
      refine ⟨.int (m : Nat), rfl, _, _, rfl, rfl, _, rfl, ite2 (fun e => ?_) (fun e => ?_)⟩
      · have mp : 0 < m := by
          have := of_decide_eq_true e
          omega
        obtain ⟨j, rfl⟩ : ∃ j, m = j + 1 := ⟨m - 1, by omega⟩
        refine ⟨fun σ' H' => ∃ m', m' < j + 1 ∧ _, fun _ _ h => h, ?_⟩
        refine ⟨_, rfl, _, _, rfl, rfl, ?_⟩
        have ej : ((j + 1 : Nat) : Int) - 1 = (j : Nat) := by omega
        obtain ⟨dj, fj⟩ : ∃ dj, ds[j]? = some dj := ⟨_, List.getElem?_eq_getElem (by omega)⟩
        obtain ⟨x, gx⟩ : ∃ x, xs[j]? = some x := ⟨_, List.getElem?_eq_getElem (by omega)⟩
        have hx : Dp K (wo H2 (fun c => c = t ∨ c = b ∨ c = a)) x dj := by
          obtain ⟨d', e1, e2⟩ := dpa_at ds xs ha2 _ x gx
          rw [fj] at e1
          cases e1
          exact e2
        have hx2 := dp_same wo_same dj x hx
        have atj : ∀ {α : Type} {l : List α} {y : α}, l[j]? = some y → atI l (((j + 1 : Nat) : Int) - 1) = some y := fun h => by
          rw [ej]
          exact atI_nat h
        refine ⟨.ref t, rfl, _, rfl, t, xs, _, x, rfl, rfl, .inl (.inl et2), atj gx, ?_⟩
        refine ⟨x, rfl, x, dj, rfl, hx2, fun H3 s3 => ⟨_, rfl, ?_⟩⟩
        have keep : ∀ {H4 : Hp}, Same H2 H4 → Same (wo H2 (fun c => c = t ∨ c = b ∨ c = a)) (wo H4 (fun c => c = t ∨ c = b ∨ c = a)) := fun {H4} s4 c o h => by
          have h2 := wo_some h
          rw [wo_in h2.1]
          exact s4 _ _ h2.2
        cases e : seqD dj with
        | none => exact iteF ⟨j, Nat.lt_succ_self j, xs, as, some x, y6, y7, by rw [← ej]; rfl, by omega, sm2.trans s3, s3 _ _ et2, s3 _ _ eb2, s3 _ _ ea2, la, dpa_same (keep s3) _ _ ha2⟩
        | some cs =>
          obtain ⟨p, ys, rfl, hs, hc⟩ := seq_dp hx2 e
          have lc := dpa_len cs ys hc
          obtain ⟨b0, g1, g2⟩ := hlaid j dj cs (by omega) fj e
          have lcs : b0 + cs.length ≤ ds.length ∨ cs.length = 0 := by
            have := congrArg List.length g2
            rw [List.length_take, List.length_drop] at this
            omega
          have gb : (bs.map V.int)[j]? = some (.int (b0 : Int)) := by rw [List.getElem?_map, g1]; rfl
          have ty3 := ty_dp (dp_same s3 dj _ hx2)
          obtain ⟨x1, y1, k1, k2, exy⟩ := kit_seq dj
          refine iteT ⟨.ref b, rfl, _, rfl, b, _, _, _, rfl, rfl, .inl (.inl (s3 _ _ eb2)), atj gb, .ref b, rfl, _, rfl, b, _, _, _, rfl, rfl, .inl (.inl (s3 _ _ eb2)), atj gb, .ref p, rfl, p, ys, rfl, hs.elim (fun h => .inl (s3.seq h)) (fun h => .inr (sqt_same s3 h)), _, _, rfl, rfl, _, _, rfl, ?_⟩
          refine ⟨fun σ' H4 => ∃ as' : List Bool, σ' = [some v, some (.ref t), some (.ref b), some (.int (((j + 1 : Nat) : Int) - 1)), some (.ref a), some (.ref p), some (.int (b0 : Int)), some (.int ((b0 : Int) + (ys.length : Nat)))] ∧ as'.length = ds.length ∧ H4 a = some (.lst (as'.map V.bl)) ∧ ∀ c o, c ≠ a → H2 c = some o → H4 c = some o, ?_, ?_⟩
          · have put : ∀ (z : Bool) (H4 : Hp), Same H3 H4 → ∃ p xs k j', V.ref a = .ref p ∧ V.int (((j + 1 : Nat) : Int) - 1) = .int k ∧ H4 p = some (.lst xs) ∧ ixN xs.length k = some j' ∧ ∃ as' : List Bool, as'.length = ds.length ∧ upd H4 p (.lst (xs.set j' (.bl z))) a = some (.lst (as'.map V.bl)) ∧ ∀ c o, c ≠ a → H2 c = some o → upd H4 p (.lst (xs.set j' (.bl z))) c = some o := fun z H4 s4 => by
              refine ⟨a, as.map V.bl, _, j, rfl, rfl, s4 _ _ (s3 _ _ ea2), by rw [ej]; exact Evl.ixN_nat (by rw [List.length_map]; omega), as.set j z, by rw [List.length_set]; exact la, by rw [upd_same, List.map_set], fun c o hc h => ?_⟩
              rw [upd_ne hc]
              exact s4 _ _ (s3 _ _ h)
            refine ⟨.ref p, rfl, _, _, _, _, y1, rfl, .ty _, ty3, kit_ty k2, _, rfl, ?_⟩
            cases y1 with
            | true =>
              refine iteT ⟨.ref a, rfl, _, rfl, ?_⟩
              obtain ⟨p', xs', k', j', h1, h2, h3, h4, as', h5, h6, h7⟩ := put true H3 (Same.refl _)
              exact ⟨p', xs', k', j', h1, h2, h3, h4, as', rfl, h5, h6, h7⟩
            | false =>
              obtain ⟨cs', ec⟩ := cut_bl as (some (b0 : Int)) (some ((b0 : Int) + (ys.length : Nat)))
              refine iteF ⟨.ref a, rfl, _, rfl, _, rfl, _, rfl, _, rfl, a, _, rfl, .inl (.inl (s3 _ _ ea2)), fun c nc => ⟨c, cs', rfl, .inl (.inl (by rw [upd_same, ec])), .ref a, rfl, _, rfl, ?_⟩⟩
              obtain ⟨p', xs', k', j', h1, h2, h3, h4, as', h5, h6, h7⟩ := put (cs'.any id) _ (same_upd nc)
              exact ⟨p', xs', k', j', h1, h2, h3, h4, as', rfl, h5, h6, h7⟩
          · rintro σ' H4 ⟨as', rfl, la', ea4, k4⟩
            have na2 : H a = none := na0
            have sm4 : Same H H4 := fun c o h => k4 _ _ (ne_of_none h na0) (sm2 _ _ h)
            have et4 := k4 t _ ta et2
            have eb4 := k4 b _ ba eb2
            have keep4 : Same (wo H2 (fun c => c = t ∨ c = b ∨ c = a)) (wo H4 (fun c => c = t ∨ c = b ∨ c = a)) := fun c o h => by
              have h2 := wo_some h
              rw [wo_in h2.1]
              exact k4 _ _ (fun z => h2.1 (.inr (.inr z))) h2.2
            obtain ⟨z, gz⟩ : ∃ z, as'[j]? = some z := ⟨_, List.getElem?_eq_getElem (by omega)⟩
            refine ⟨.ref a, rfl, _, rfl, a, _, _, .bl z, rfl, rfl, .inl (.inl ea4), atj (by rw [List.getElem?_map, gz]; rfl), z, rfl, ?_⟩
            cases z with
            | false => exact iteF ⟨j, Nat.lt_succ_self j, xs, as', some (.ref p), _, _, by rw [← ej], by omega, sm4, et4, eb4, ea4, la', dpa_same keep4 _ _ ha2⟩
            | true =>
              refine iteT ⟨.ref p, rfl, _, _, _, _, y1, rfl, .ty _, ty_dp (dp_same keep4 dj _ hx |> dp_same wo_same dj _), kit_ty k2, _, rfl, ?_⟩
              have hcut : DpAll K (wo H4 (fun c => c = t ∨ c = b ∨ c = a)) (cutV xs (some (b0 : Int)) (some ((b0 : Int) + (ys.length : Nat)))) cs := by
                have h1 := dpa_takeK cs.length _ _ (dpa_dropK b0 _ _ (dpa_same keep4 _ _ ha2))
                rw [g2] at h1
                rcases lcs with h | h
                · rw [cut_nat xs b0 ys.length (by omega), lc]
                  exact h1
                · have e0 : cs = [] := List.eq_nil_of_length_eq_zero h
                  have e1 : ys.length = 0 := by omega
                  have e2 : cutV xs (some (b0 : Int)) (some ((b0 : Int) + (ys.length : Nat))) = [] := by
                    rw [e1]
                    unfold cutV
                    rw [show ((b0 : Int) + ((0 : Nat) : Int)) = (b0 : Int) by omega]
                    apply List.eq_nil_of_length_eq_zero
                    rw [List.length_take, List.length_drop]
                    unfold HT.sIx
                    simp only []
                    split <;> omega
                  rw [e2, e0]
                  exact .nil
              have fin : ∀ (H6 : Hp) (y' : V), Same H4 H6 → Dp K (wo H6 (fun c => c = t ∨ c = b ∨ c = a)) y' dj → Same H (upd H6 t (.lst (xs.set j y'))) ∧ upd H6 t (.lst (xs.set j y')) b = some (.lst (bs.map V.int)) ∧ upd H6 t (.lst (xs.set j y')) a = some (.lst (as'.map V.bl)) ∧ DpAll K (wo (upd H6 t (.lst (xs.set j y'))) (fun c => c = t ∨ c = b ∨ c = a)) (xs.set j y') ds := fun H6 y' s6 hy => by
                have k6 : Same (wo H6 (fun c => c = t ∨ c = b ∨ c = a)) (wo (upd H6 t (.lst (xs.set j y'))) (fun c => c = t ∨ c = b ∨ c = a)) := fun c o h => by
                  have h2 := wo_some h
                  rw [wo_in h2.1, upd_ne (fun z => h2.1 (.inl z))]
                  exact h2.2
                have k46 : Same (wo H4 (fun c => c = t ∨ c = b ∨ c = a)) (wo H6 (fun c => c = t ∨ c = b ∨ c = a)) := fun c o h => by
                  have h2 := wo_some h
                  rw [wo_in h2.1]
                  exact s6 _ _ h2.2
                refine ⟨fun c o h => ?_, ?_, ?_, dpa_setK (dp_same k6 dj y' hy) j ds xs (dpa_same (keep4.trans (k46.trans k6)) _ _ ha2) fj⟩
                · rw [upd_ne (ne_of_none h nt)]
                  exact s6 _ _ (sm4 _ _ h)
                · rw [upd_ne (Ne.symm tb)]
                  exact s6 _ _ eb4
                · rw [upd_ne (Ne.symm ta)]
                  exact s6 _ _ ea4
              have newX : ∀ {H6 : Hp} {c : Addr}, Same H4 H6 → H6 c = none → ¬ (c = t ∨ c = b ∨ c = a) := fun {H6 c} s6 nc z => by
                rcases z with z | z | z
                · rw [z, s6 _ _ et4] at nc; cases nc
                · rw [z, s6 _ _ eb4] at nc; cases nc
                · rw [z, s6 _ _ ea4] at nc; cases nc
              have keep6 : ∀ {H6 : Hp}, Same H4 H6 → Same (wo H4 (fun c => c = t ∨ c = b ∨ c = a)) (wo H6 (fun c => c = t ∨ c = b ∨ c = a)) := fun {H6} s6 c o h => by
                have h2 := wo_some h
                rw [wo_in h2.1]
                exact s6 _ _ h2.2
              have hk : (y1 = true → dj = .list cs) ∧ (y1 = false → dj = .tuple cs) := by
                cases dj with
                | list ds =>
                  cases e
                  have : kitB (tyD (.list cs)) "list" = some true := by show kitB "list" "list" = some true; decide +kernel
                  rw [this] at k2
                  cases k2
                  exact ⟨fun _ => rfl, fun z => by cases z⟩
                | tuple ds =>
                  cases e
                  have : kitB (tyD (.tuple cs)) "list" = some false := by show kitB "tuple" "list" = some false; decide +kernel
                  rw [this] at k2
                  cases k2
                  exact ⟨fun z => (by cases z), fun _ => rfl⟩
                | _ => cases e
              have ixj : ixN xs.length (((j + 1 : Nat) : Int) - 1) = some j := by rw [ej]; exact Evl.ixN_nat (by omega)
              cases y1 with
              | true =>
                refine iteT ⟨.ref t, rfl, _, rfl, _, rfl, _, rfl, _, rfl, t, xs, rfl, .inl (.inl et4), fun c nc => ?_⟩
                have sc := same_upd (o := .lst (cutV xs (some (b0 : Int)) (some ((b0 : Int) + (ys.length : Nat))))) nc
                obtain ⟨h1, h2, h3, h4⟩ := fin _ (.ref c) sc (by
                  rw [hk.1 rfl]
                  exact .lst (.inl (.inl (by rw [wo_in (newX (Same.refl _) nc)]; exact upd_same))) (dpa_same (keep6 sc) _ _ hcut))
                exact ⟨.ref t, rfl, _, rfl, t, xs, _, j, rfl, rfl, sc _ _ et4, ixj, j, Nat.lt_succ_self j, xs.set j (.ref c), as', some (.ref p), _, _, by rw [← ej], by omega, h1, upd_same, h2, h3, la', h4⟩
              | false =>
                refine iteF ⟨.ref t, rfl, _, rfl, _, rfl, _, rfl, _, rfl, t, xs, rfl, .inl (.inl et4), fun c nc => ⟨c, _, rfl, .inl ⟨.inl (.inl upd_same), fun l nl => ?_⟩⟩⟩
                have sc := same_upd (o := .lst (cutV xs (some (b0 : Int)) (some ((b0 : Int) + (ys.length : Nat))))) nc
                have sl := sc.trans (same_upd (o := .tup (cutV xs (some (b0 : Int)) (some ((b0 : Int) + (ys.length : Nat))))) nl)
                obtain ⟨h1, h2, h3, h4⟩ := fin _ (.ref l) sl (by
                  rw [hk.2 rfl]
                  exact .tup (.inl (.inl (by rw [wo_in (newX sc nl)]; exact upd_same))) (dpa_same (keep6 sl) _ _ hcut))
                exact ⟨.ref t, rfl, _, rfl, t, xs, _, j, rfl, rfl, sl _ _ et4, ixj, j, Nat.lt_succ_self j, xs.set j (.ref l), as', some (.ref p), _, _, by rw [← ej], by omega, h1, upd_same, h2, h3, la', h4⟩
      · have m0 : m = 0 := by
          have : ¬ (0 : Int) < (m : Int) := fun z => e (decide_eq_true z)
          omega
        subst m0
        cases xs with
        | nil => cases ha2; cases h0
        | cons x xs' =>
          obtain ⟨d', e1, e2⟩ := dpa_at ds _ ha2 0 x rfl
          rw [h0] at e1
          cases e1
          exact ⟨.ref t, rfl, t, _, 0, x, rfl, rfl, .inl (.inl et2), atI_nat (j := 0) rfl, q H2 x sm2 (dp_same wo_same _ x e2)⟩
--@@SPLIT
/-! ### what is kept while an exception is handled: flat things alone -/
theorem okH_is_row (T : Top w K mg) : L2H.FnH P w K mg base CX0 1 T.a_is_row T.fd_is_row ["thing"] (spRowD K) := by
  refine HotAs.okH T.F_is_row sc_is_row (fun vs H Q E h => ?_) (fun cdv A outer s H vs Q E p hr hc h => ?_)
  · obtain ⟨v, d, rfl, _⟩ := h
    rfl
  · obtain ⟨v, d, rfl, hd, q⟩ := h
    refine ⟨_, (pss_one (ps_ret (pe_callB call_isiT (by rfl) T.m_isinstance (by decide +kernel) (pa_cons (pv 0) (pa_cons (pe_tup (pa_cons (pe_bltn (v := .ty "tuple") (by rfl) T.m_tuple (by decide +kernel) rfl) (pa_cons (pe_bltn (v := .ty "list") (by rfl) T.m_list (by decide +kernel) rfl) pa_nil))) pa_nil))))), ?_⟩
    obtain ⟨x, y, k1, k2, exy⟩ := kit_seq d
    refine ⟨v, rfl, by show 2 ≤ sizeLine; decide, fun tp np => ⟨v, tp, _, _, _, _, rfl, upd_same, .cons (.ty _) (.cons (.ty _) .nil), ty_dp (dp_same (same_upd np) d v hd), kit_any2 k1 k2, ?_⟩⟩
    rw [exy]
    exact q _ (same_upd np)
def spLaidH (K : PySem.W.Frag) : Sp := fun vs H Q _ => ∃ (v : V) (d : PyData), vs = [v] ∧ seqD d = none ∧ Dp K H v d ∧
  ∀ H' r t b, Same H H' → H t = none → H b = none → t ≠ b → H' t = some (.lst [v]) → H' b = some (.lst [.int 1]) → H' r = some (.tup [.ref t, .ref b]) → Q (.ref r) H'
theorem okH_laid_out (T : Top w K mg) : L2H.FnH P w K mg base CX0 2 T.a_laid_out T.fd_laid_out ["thing"] (spLaidH K) := by
  have GH_is_row := okH_is_row (P := P) (w := w) (base := base) T
  refine HotAs.okH T.F_laid_out sc_laid_out (fun vs H Q E h => ?_) (fun cdv A outer s H vs Q E p hr hc h => ?_)
  · obtain ⟨v, d, rfl, _⟩ := h
    rfl
  · obtain ⟨v, d, rfl, fl, hd, q⟩ := h
    refine ⟨_, (pss_cons (ps_set (i := 1) sc_laid_out.nd rfl (.inl rfl) (pe_lst (pa_cons (pv 0) pa_nil)))
      (pss_cons (ps_set (i := 2) sc_laid_out.nd rfl (.inl rfl) (pe_lst pa_nil))
      (pss_cons (ps_while PassesOwn.never (pt_cmpR op_lt (pe_callB call_len_seq (by rfl) T.m_len (by decide +kernel) (pa_cons (pv 2) pa_nil)) (pe_callB call_len_seq (by rfl) T.m_len (by decide +kernel) (pa_cons (pv 1) pa_nil)) (nomark _)) (pss_cons (ps_set (i := 3) sc_laid_out.nd rfl (.inl rfl) (pe_ix ix_list (pv 1) (pe_callB call_len_seq (by rfl) T.m_len (by decide +kernel) (pa_cons (pv 2) pa_nil)) (fun _ _ => rfl)))
      (pss_cons (ps_expr (pe_bm PySem.F.plainAttrs_list PySem.F.slot_list_append PySem.F.type_list_append mt_append (pv 2) (pa_cons (pe_callB call_len_seq (by rfl) T.m_len (by decide +kernel) (pa_cons (pv 1) pa_nil)) pa_nil)))
      (pss_one (ps_if (pt_val (L2H.pe_callH (E := fun _ _ _ _ => False) GH_is_row hr hc (by rfl) T.g_is_row T.F_is_row.kp T.b_is_row (fun _ _ _ _ _ _ _ z => z.elim) (pa_cons (pv 3) pa_nil))) pss_never pss_nil)))))
      (pss_one (ps_ret (pe_tup (pa_cons (pv 1) (pa_cons (pv 2) pa_nil)))))))), ?_⟩
    refine ⟨v, rfl, by show 1 ≤ sizeLine; decide, fun t nt => ⟨Nat.zero_le _, fun b nb => ?_⟩⟩
    have s1 := same_upd (o := .lst [v]) nt
    have s2 := same_upd (o := .lst []) nb
    have tb : t ≠ b := ne_of_none (upd_same (H := H) (a := t) (o := .lst [v])) nb
    have nb0 : H b = none := s1.free nb
    refine ⟨fun m σ H1 => ∃ (bs : List V) (y : Option V), σ = [some v, some (.ref t), some (.ref b), y] ∧ Same H H1 ∧ H1 t = some (.lst [v]) ∧ H1 b = some (.lst bs) ∧ (m = 1 ∧ bs = [] ∨ m = 0 ∧ bs = [.int 1]), ⟨1, [], none, rfl, s1.trans s2, s2 _ _ upd_same, upd_same, .inl ⟨rfl, rfl⟩⟩, ?_⟩
    rintro m σ H1 ⟨bs, y, rfl, sm, et, eb, hm⟩
    refine ⟨.ref b, rfl, b, _, rfl, .inl (.inl (.inl eb)), .ref t, rfl, t, _, rfl, .inl (.inl (.inl et)), _, _, rfl, rfl, _, rfl, ?_⟩
    rcases hm with ⟨rfl, rfl⟩ | ⟨rfl, rfl⟩
    · refine iteDY rfl ⟨fun σ' H' => ∃ m', m' < 1 ∧ _, fun _ _ h => h, ?_⟩
      refine ⟨.ref t, rfl, .ref b, rfl, b, _, rfl, .inl (.inl (.inl eb)), t, _, _, v, rfl, rfl, .inl (.inl et), rfl, ?_⟩
      refine ⟨.ref b, rfl, .inl ⟨rfl, _, .inl (.inl eb)⟩, .ref t, rfl, t, _, rfl, .inl (.inl (.inl et)), b, _, _, rfl, rfl, eb, by decide, ?_⟩
      have s3 : Same H (upd H1 b (.lst [.int 1])) := fun c o h => by
        rw [upd_ne (ne_of_none h nb0)]
        exact sm _ _ h
      refine ⟨v, rfl, v, d, rfl, dp_same s3 d v hd, fun H4 s4 => ⟨_, rfl, ?_⟩⟩
      rw [fl]
      exact iteF ⟨0, Nat.zero_lt_one, [.int 1], _, rfl, s3.trans s4, s4 _ _ ((upd_ne tb).trans et), s4 _ _ upd_same, .inr ⟨rfl, rfl⟩⟩
    · refine iteDN rfl ⟨.ref t, rfl, .ref b, rfl, by show 2 ≤ sizeLine; decide, fun r nr => ?_⟩
      have sr := same_upd (o := .tup [.ref t, .ref b]) nr
      exact q _ r t b (sm.trans sr) nt nb0 tb (sr _ _ et) (sr _ _ eb) upd_same
def spKeptH (K : PySem.W.Frag) : Sp := fun vs H Q _ => ∃ (v : V) (d : PyData), vs = [v] ∧ seqD d = none ∧ Dp K H v d ∧ ∀ H', Same H H' → Q v H'
theorem okH_kept (T : Top w K mg) : L2H.FnH P w K mg base CX0 3 T.a_kept T.fd_kept ["thing"] (spKeptH K) := by
  have GH_is_row := okH_is_row (P := P) (w := w) (base := base) T
  have GH_laid_out := okH_laid_out (P := P) (w := w) (base := base) T
  refine HotAs.okH T.F_kept sc_kept (fun vs H Q E h => ?_) (fun cdv A outer s H vs Q E p hr hc h => ?_)
  · obtain ⟨v, d, rfl, _⟩ := h
    rfl
  · obtain ⟨v, d, rfl, fl, hd, q⟩ := h
    refine ⟨_, (pss_cons (ps_asg (L2H.pe_callH (E := fun _ _ _ _ => False) GH_laid_out hr hc (by rfl) T.g_laid_out T.F_laid_out.kp T.b_laid_out (fun _ _ _ _ _ _ _ z => z.elim) (pa_cons (pv 0) pa_nil)) (HotAs.pg_tupH hc (pgs_cons (pg_name (i := 1) sc_kept.nd rfl (.inl rfl)) (pgs_cons (pg_name (i := 2) sc_kept.nd rfl (.inl rfl)) pgs_nil))))
      (pss_cons (ps_set (i := 3) sc_kept.nd rfl (.inl rfl) (pe_callB call_len_seq (by rfl) T.m_len (by decide +kernel) (pa_cons (pv 1) pa_nil)))
      (pss_cons (ps_set (i := 4) sc_kept.nd rfl (.inl rfl) (pe_op op_rep (pe_lst (pa_cons pe_bl pa_nil)) (pv 3)))
      (pss_cons (ps_while PassesOwn.never (pt_cmpR op_gt (pv 3) pe_int (nomark _)) (pss_cons (ps_aug (i := 3) sc_kept.nd rfl (.inl rfl) pe_int ip_sub)
      (pss_cons (ps_set (i := 5) sc_kept.nd rfl (.inl rfl) (pe_ix ix_list (pv 1) (pv 3) (fun _ _ => rfl)))
      (pss_one (ps_if (pt_val (L2H.pe_callH (E := fun _ _ _ _ => False) GH_is_row (hr.mono (by decide)) hc (by rfl) T.g_is_row T.F_is_row.kp T.b_is_row (fun _ _ _ _ _ _ _ z => z.elim) (pa_cons (pv 5) pa_nil))) pss_never pss_nil)))))
      (pss_one (ps_ret (pe_ix ix_list (pv 1) pe_int (fun _ _ => rfl)))))))), ?_⟩
    refine ⟨v, rfl, v, d, rfl, fl, hd, fun H1 r t b sm nt nb tb et eb er => ?_⟩
    refine ⟨r, _, rfl, .inl (.inl er), rfl, _, _, rfl, _, _, rfl, rfl, ?_⟩
    refine ⟨.ref t, rfl, t, _, rfl, .inl (.inl (.inl et)), by show 1 ≤ sizeLine; decide, fun l nl => ?_⟩
    have s1 := same_upd (o := .lst [.bl false]) nl
    refine ⟨.int 1, rfl, l, _, _, rfl, rfl, upd_same, by decide, by decide, by decide, fun a na => ?_⟩
    have s2 := same_upd (o := .lst (List.replicate (1 : Int).toNat [V.bl false]).flatten) na
    have s02 := (sm.trans s1).trans s2
    refine ⟨fun m σ H2 => ∃ y5 y6 y7, σ = [some v, some (.ref t), some (.ref b), some (.int (m : Nat)), some (.ref a), y5, y6, y7] ∧ m ≤ 1 ∧ Same H H2 ∧ H2 t = some (.lst [v]), ⟨1, none, none, none, rfl, Nat.le_refl _, s02, (s1.trans s2) _ _ et⟩, ?_⟩
    rintro m σ H2 ⟨y5, y6, y7, rfl, hm, sm2, et2⟩
    refine ⟨.int (m : Nat), rfl, _, _, rfl, rfl, _, rfl, ?_⟩
    match m, hm with
    | 1, _ =>
      refine iteDY (by decide) ⟨fun σ' H' => ∃ m', m' < 1 ∧ _, fun _ _ h => h, ?_⟩
      refine ⟨_, rfl, _, _, rfl, rfl, .ref t, rfl, _, rfl, t, _, _, v, rfl, rfl, .inl (.inl et2), rfl, ?_⟩
      refine ⟨v, rfl, v, d, rfl, dp_same sm2 d v hd, fun H3 s3 => ⟨_, rfl, ?_⟩⟩
      rw [fl]
      exact iteF ⟨0, Nat.zero_lt_one, _, _, _, rfl, Nat.zero_le _, sm2.trans s3, s3 _ _ et2⟩
    | 0, _ => exact iteDN (by decide) ⟨.ref t, rfl, t, _, 0, v, rfl, rfl, .inl (.inl et2), rfl, q H2 sm2⟩
--@@SPLIT
/-! ### texts -/
abbrev SMALLs : Str := PySem.Str.ofString "abcdefghijklmnopqrstuvwxyz"
abbrev GREATs : Str := PySem.Str.ofString "ABCDEFGHIJKLMNOPQRSTUVWXYZ"
def smC (c : Nat) : Bool := decide (c ∈ SMALLs.cps.toList)
def grC (c : Nat) : Bool := decide (c ∈ GREATs.cps.toList)
def shL (cs : List Nat) : Bool := decide (1 ≤ (cs.length : Int)) && decide ((cs.length : Int) ≤ 8)
def nmL (cs : List Nat) : Bool := shL cs && cs.all smC
def loL : List Nat → Bool
  | [] => false
  | c :: r => shL (c :: r) && (grC c && r.all smC)
def nmV : V → Bool
  | .str z => nmL z.cps.toList
  | _ => false
def loV : V → Bool
  | .str z => loL z.cps.toList
  | _ => false
def sgV (v : V) : Bool := nmV v || loV v
def shV : V → Bool
  | .str z => shL z.cps.toList
  | _ => false
/-- a thing: a text that is not too long, or no text -/
def Th (K : PySem.W.Frag) (H : Hp) (v : V) : Prop := (∃ z : Str, v = .str z ∧ z.length ≤ 1000) ∨ ((∀ z, v ≠ .str z) ∧ ∃ t, TyX K H v (.type t) ∧ kitB t "str" = some false)
theorem tyx_same {K : PySem.W.Frag} {H H' : Hp} {v : V} {t : Value} (e : Same H H') (h : TyX K H v t) : TyX K H' v t := by
  cases h with
  | base b =>
    cases b with
    | non => exact .base .non
    | bl x => exact .base (.bl x)
    | int i => exact .base (.int i)
    | str x => exact .base (.str x)
    | flt x => exact .base (.flt x)
    | lst h => exact .base (.lst (e _ _ h))
    | frz h => exact .base (.frz (e _ _ h))
    | tup h => exact .base (.tup (e _ _ h))
    | dK h => exact .base (.dK (e _ _ h))
    | dT h => exact .base (.dT (e _ _ h))
    | ins h a b c d f => exact .base (.ins (e _ _ h) a b c d f)
  | byt b => exact .byt b
  | set h => exact .set (e _ _ h)
  | kList h c => exact .kList h c
  | kTuple h c => exact .kTuple h c
  | kDict h c => exact .kDict h c
  | fTuple h => exact .fTuple (e _ _ h)
  | fDict h => exact .fDict (e _ _ h)
theorem Th.same {K : PySem.W.Frag} {H H' : Hp} {v : V} (e : Same H H') (h : Th K H v) : Th K H' v := by
  rcases h with h | ⟨n, t, ty, k⟩
  · exact .inl h
  · exact .inr ⟨n, t, tyx_same e ty, k⟩
theorem nmV_no {v : V} (h : ∀ z, v ≠ .str z) : nmV v = false ∧ loV v = false ∧ shV v = false := by
  cases v with
  | str z => exact absurd rfl (h z)
  | _ => exact ⟨rfl, rfl, rfl⟩
theorem len_toList (z : Str) : z.cps.toList.length = z.length := Array.length_toList
theorem thou {n : Nat} (h : n ≤ 1000) : n ≤ sizeLine := Nat.le_trans h (by decide)
def spShort (K : PySem.W.Frag) : Sp := fun vs H Q _ => ∃ v, vs = [v] ∧ Th K H v ∧ Q (.bl (shV v)) H
theorem s0 : PySem.Str.ofString "" = (⟨#[]⟩ : Str) := by decide +kernel
theorem ok_is_short_text (T : Top w K mg) : FnOk P w K mg base CX0 1 T.a_is_short_text T.fd_is_short_text ["thing"] (spShort K) := by
  refine T.F_is_short_text.ok sc_is_short_text (fun vs H Q E h => ?_) (fun cdv A outer s H vs Q E hr h => ?_)
  · obtain ⟨v, rfl, _⟩ := h
    rfl
  · obtain ⟨v, rfl, hv, q⟩ := h
    refine ⟨_, (pss_one (ps_ret (pe_and (pe_callB call_isi (by rfl) T.m_isinstance (by decide +kernel) (pa_cons (pv 0) (pa_cons (pe_bltn (v := .ty "str") (by rfl) T.m_str (by decide +kernel) rfl) pa_nil))) (pe_one (pe_chain op_le op_le pe_int (pe_callB call_len_str (by rfl) T.m_len (by decide +kernel) (pa_cons (pv 0) pa_nil)) (pe_glob (v := .int 8) (by rfl) T.g_LONGEST.choose_spec ⟨_, rfl⟩)))))), ?_⟩
    rcases hv with ⟨z, rfl, hz⟩ | ⟨no, t, ty, k⟩
    · refine ⟨.str z, rfl, _, _, _, _, true, rfl, .ty _, .base (.str z), kit_ty (by decide +kernel), _, rfl, iteT ?_⟩
      have q' : Q (.bl (decide (1 ≤ (z.length : Int)) && decide ((z.length : Int) ≤ 8))) H := by
        have e : shV (.str z) = (decide (1 ≤ (z.length : Int)) && decide ((z.length : Int) ≤ 8)) := by
          show (decide (1 ≤ (z.cps.toList.length : Int)) && decide ((z.cps.toList.length : Int) ≤ 8)) = _
          rw [len_toList]
        rw [← e]
        exact q
      refine ⟨.str z, rfl, z, rfl, thou hz, _, _, rfl, rfl, _, rfl, ite2 (fun e => ?_) (fun e => ?_)⟩
      · refine ⟨_, _, rfl, rfl, ?_⟩
        rw [e] at q'
        exact q'
      · rw [Bool.eq_false_iff.mpr e] at q'
        exact q'
    · rw [(nmV_no no).2.2] at q
      exact ⟨v, rfl, _, _, _, _, false, rfl, .ty _, ty, kit_ty k, _, rfl, iteF q⟩
def spSmall : Sp := fun vs H Q _ => ∃ z : Str, vs = [.str z] ∧ z.length ≤ 1000 ∧ ∀ H', Same H H' → Q (.bl (z.cps.toList.all smC)) H'
theorem all_map {f : Nat → Bool} : ∀ xs : List Nat, (xs.map f).all id = xs.all f
  | [] => rfl
  | x :: r => by rw [List.map_cons, List.all_cons, List.all_cons, all_map r]; rfl
theorem ok_are_small (T : Top w K mg) : FnOk P w K mg base CX0 1 T.a_are_small T.fd_are_small ["text"] spSmall := by
  refine T.F_are_small.ok sc_are_small (fun vs H Q E h => ?_) (fun cdv A outer s H vs Q E hr h => ?_)
  · obtain ⟨z, rfl, _⟩ := h
    rfl
  · obtain ⟨z, rfl, hz, q⟩ := h
    refine ⟨_, (pss_one (ps_ret (pe_callB (cr_all rfl) (by rfl) T.m_all (by decide +kernel) (pa_cons (pe_lc (own := [("letter", 1)]) (g := gName 1) (by rfl) sc_are_small.nd (pi_str (pv 0)) (blkOk_by (own := [("letter", 1)]) (N := ["text", "letter"]) (sc := defScope s_are_small) (by decide +kernel)) (fun _ _ _ _ _ => (pg_name (i := 1) sc_are_small.nd rfl (Or.inl rfl))) (fun _ _ _ _ _ => pts_nil) (fun _ _ _ _ _ => (pe_cmpR op_in_sign (pv 1) (pe_glob (v := .str "abcdefghijklmnopqrstuvwxyz") (by rfl) T.g_SMALL.choose_spec ⟨_, rfl⟩) (by rfl)))) pa_nil)))), ?_⟩
    refine ⟨.str z, rfl, z, rfl, fun D hD => lc_it walk_str (fun i H' => Same H H' ∧ H' D = some (.lst (((z.cps.toList.take i).map smC).map V.bl))) ⟨same_upd hD, upd_same⟩ (fun _ _ _ _ => trivial) ?_ ?_⟩
    · rintro i x H1 H2 hi ⟨sm, eD⟩ ⟨rfl, c, hc, rfl⟩
      refine ⟨rfl, ?_⟩
      refine ⟨_, rfl, c, _, rfl, rfl, _, eD, ?_, ?_, ?_⟩
      · rw [List.length_map, List.length_map, List.length_take, len_toList]
        exact small1000 (by omega)
      · exact fun b' o e => by
          rw [upd_ne (ne_of_none e hD)]
          exact sm _ _ e
      · rw [upd_same, List.take_add_one, Array.getElem?_toList, hc, List.map_append, List.map_append]
        rfl
    · rintro H1 ⟨sm, eD⟩
      have e2 : z.cps.toList.take z.cps.size = z.cps.toList := List.take_of_length_le (by rw [Array.length_toList]; exact Nat.le_refl _)
      rw [e2] at eD
      refine ⟨_, z.cps.toList.map smC, rfl, .inl (.inl eD), ?_⟩
      rw [all_map]
      exact q _ sm
def spIsV (K : PySem.W.Frag) (f : V → Bool) : Sp := fun vs H Q _ => ∃ v, vs = [v] ∧ Th K H v ∧ ∀ H', Same H H' → Q (.bl (f v)) H'
theorem ok_is_name (T : Top w K mg) : FnOk P w K mg base CX0 2 T.a_is_name T.fd_is_name ["thing"] (spIsV K nmV) := by
  have G_is_short_text := ok_is_short_text (P := P) (w := w) (base := base) T
  have G_are_small := ok_are_small (P := P) (w := w) (base := base) T
  refine T.F_is_name.ok sc_is_name (fun vs H Q E h => ?_) (fun cdv A outer s H vs Q E hr h => ?_)
  · obtain ⟨v, rfl, _⟩ := h
    rfl
  · obtain ⟨v, rfl, hv, q⟩ := h
    refine ⟨_, (pss_one (ps_ret (pe_and (pe_call G_is_short_text hr (by rfl) T.g_is_short_text T.F_is_short_text.kp T.b_is_short_text .nil pass0 (pa_cons (pv 0) pa_nil)) (pe_one (pe_call G_are_small hr (by rfl) T.g_are_small T.F_are_small.kp T.b_are_small .nil pass0 (pa_cons (pv 0) pa_nil)))))), ?_⟩
    refine ⟨v, rfl, v, rfl, hv, _, rfl, ite2 (fun e => ?_) (fun e => ?_)⟩
    · rcases hv with ⟨z, rfl, hz⟩ | ⟨no, _⟩
      · refine ⟨.str z, rfl, z, rfl, hz, fun H' sm => ?_⟩
        have h := q H' sm
        have e2 : nmV (.str z) = z.cps.toList.all smC := by
          show (shV (.str z) && z.cps.toList.all smC) = _
          rw [e]
          rfl
        rw [e2] at h
        exact h
      · rw [(nmV_no no).2.2] at e
        cases e
    · have h := q H (Same.refl H)
      have e2 : nmV v = false := by
        rcases hv with ⟨z, rfl, hz⟩ | ⟨no, _⟩
        · show (shV (.str z) && z.cps.toList.all smC) = _
          rw [Bool.eq_false_iff.mpr e]
          rfl
        · exact (nmV_no no).1
      rw [e2] at h
      exact h
theorem cut_tail (c : Nat) (r : List Nat) : cutS ⟨⟨c :: r⟩⟩ (some 1) none = ⟨⟨r⟩⟩ := by
  unfold cutS
  have e1 : HT.sIx (Str.length ⟨⟨c :: r⟩⟩) 0 (some 1) = 1 := by
    rw [show HT.sIx (Str.length ⟨⟨c :: r⟩⟩) 0 (some 1) = min 1 (Str.length ⟨⟨c :: r⟩⟩) from HT.sIx_nat _ 0 1]
    show min 1 (r.length + 1) = 1
    omega
  rw [e1, HT.sIx_none]
  show (⟨(List.take ((c :: r).length - 1) r).toArray⟩ : Str) = ⟨⟨r⟩⟩
  rw [List.length_cons, Nat.add_sub_cancel, List.take_length]
theorem ok_is_lone (T : Top w K mg) : FnOk P w K mg base CX0 2 T.a_is_lone T.fd_is_lone ["thing"] (spIsV K loV) := by
  have G_is_short_text := ok_is_short_text (P := P) (w := w) (base := base) T
  have G_are_small := ok_are_small (P := P) (w := w) (base := base) T
  refine T.F_is_lone.ok sc_is_lone (fun vs H Q E h => ?_) (fun cdv A outer s H vs Q E hr h => ?_)
  · obtain ⟨v, rfl, _⟩ := h
    rfl
  · obtain ⟨v, rfl, hv, q⟩ := h
    refine ⟨_, (pss_one (ps_ret (pe_and (pe_call G_is_short_text hr (by rfl) T.g_is_short_text T.F_is_short_text.kp T.b_is_short_text .nil pass0 (pa_cons (pv 0) pa_nil)) (pe_and (pe_cmpR op_in_sign (pe_ix ix_str (pv 0) pe_int (fun _ _ => rfl)) (pe_glob (v := .str "ABCDEFGHIJKLMNOPQRSTUVWXYZ") (by rfl) T.g_GREAT.choose_spec ⟨_, rfl⟩) (by rfl)) (pe_one (pe_call G_are_small hr (by rfl) T.g_are_small T.F_are_small.kp T.b_are_small .nil pass0 (pa_cons (pe_slice sl_str (pv 0) (po_some pe_int) po_none) pa_nil))))))), ?_⟩
    refine ⟨v, rfl, v, rfl, hv, _, rfl, ite2 (fun e => ?_) (fun e => ?_)⟩
    · rcases hv with ⟨⟨⟨cs⟩⟩, rfl, hz⟩ | ⟨no, _⟩
      · match cs, hz, e, q with
        | [], _, e, _ => cases e
        | c :: r, hz, e, q =>
          have hz2 : r.length + 1 ≤ 1000 := hz
          refine ⟨_, rfl, _, 0, c, rfl, rfl, thou hz, atI_nat (j := 0) rfl, c, _, rfl, rfl, _, rfl, ite2 (fun e3 => ?_) (fun e3 => ?_)⟩
          · refine ⟨_, rfl, 1, rfl, _, rfl, thou hz, ?_⟩
            rw [cut_tail]
            refine ⟨_, rfl, by show r.length ≤ 1000; omega, fun H' sm => ?_⟩
            have h := q H' sm
            have e2 : loV (.str ⟨⟨c :: r⟩⟩) = r.all smC := by
              show (shL (c :: r) && (grC c && r.all smC)) = _
              rw [show shL (c :: r) = true from e, show grC c = true from e3]
              rfl
            rw [e2] at h
            exact h
          · have h := q H (Same.refl H)
            have e2 : loV (.str ⟨⟨c :: r⟩⟩) = false := by
              show (shL (c :: r) && (grC c && r.all smC)) = _
              rw [show grC c = false from Bool.eq_false_iff.mpr e3, Bool.false_and, Bool.and_false]
            rw [e2] at h
            exact h
      · rw [(nmV_no no).2.2] at e
        cases e
    · have h := q H (Same.refl H)
      have e2 : loV v = false := by
        rcases hv with ⟨⟨⟨cs⟩⟩, rfl, hz⟩ | ⟨no, _⟩
        · match cs, e with
          | [], _ => rfl
          | c :: r, e =>
            show (shL (c :: r) && (grC c && r.all smC)) = _
            rw [show shL (c :: r) = false from Bool.eq_false_iff.mpr e]
            rfl
        · exact (nmV_no no).2.1
      rw [e2] at h
      exact h
theorem ok_is_sign (T : Top w K mg) : FnOk P w K mg base CX0 3 T.a_is_sign T.fd_is_sign ["thing"] (spIsV K sgV) := by
  have G_is_name := ok_is_name (P := P) (w := w) (base := base) T
  have G_is_lone := ok_is_lone (P := P) (w := w) (base := base) T
  refine T.F_is_sign.ok sc_is_sign (fun vs H Q E h => ?_) (fun cdv A outer s H vs Q E hr h => ?_)
  · obtain ⟨v, rfl, _⟩ := h
    rfl
  · obtain ⟨v, rfl, hv, q⟩ := h
    refine ⟨_, (pss_one (ps_ret (pe_or (pe_call G_is_name hr (by rfl) T.g_is_name T.F_is_name.kp T.b_is_name .nil pass0 (pa_cons (pv 0) pa_nil)) (pe_one (pe_call G_is_lone hr (by rfl) T.g_is_lone T.F_is_lone.kp T.b_is_lone .nil pass0 (pa_cons (pv 0) pa_nil)))))), ?_⟩
    refine ⟨v, rfl, v, rfl, hv, fun H1 s1 => ⟨_, rfl, ite2 (fun e => ?_) (fun e => ?_)⟩⟩
    · have h := q H1 s1
      rw [show sgV v = true by unfold sgV; rw [e]; rfl] at h
      exact h
    · refine ⟨v, rfl, v, rfl, hv.same s1, fun H2 s2 => ?_⟩
      have h := q H2 (s1.trans s2)
      rw [show sgV v = loV v by unfold sgV; rw [Bool.eq_false_iff.mpr e]; rfl] at h
      exact h
/-! ### parts of entries -/
theorem units65 {k : Nat} {A : Around} (hr : Room k A) : A.units + 65 < cLine := by
  have := hr.un
  omega
def rEqA (K : PySem.W.Frag) : R2 := fun x y H Q => rEq x y H Q ∨ rEqD K x y H Q
theorem op_eqA {X : Cx} (hu : X.A.units + 64 < cLine) : OpR X (compareOp .Eq) (rEqA X.K) := by
  intro pins s σ H x y v u Q I rx ry h
  rcases h with h | h
  · exact op_eq pins s σ H x y v u Q I rx ry h
  · exact op_eqD hu pins s σ H x y v u Q I rx ry h
def rInTD (K : PySem.W.Frag) : R2 := fun x y H Q => ∃ d ds, Dp K H x d ∧ Dp K H y (.tuple ds) ∧ SeqAt.shaped d = true ∧ SeqAt.shaped (.tuple ds) = true ∧ Q (.bl (ds.any fun z => PyData.eqv z d)) H
def rInA (K : PySem.W.Frag) : R2 := fun x y H Q => rIn K false x y H Q ∨ rInTD K x y H Q
theorem op_inA {X : Cx} (hu : X.A.units + 65 < cLine) : OpR X (compareOp .In) (rInA X.K) := by
  intro pins s σ H x y v u Q I rx ry h
  rcases h with h | ⟨d, ds, hd, he, sd, se, q⟩
  · exact op_in_seq pins s σ H x y v u Q I rx ry h
  · obtain ⟨as, r1⟩ := Dp.reads I d x v hd rx
    obtain ⟨bs, r2⟩ := Dp.reads I (.tuple ds) y u he ry
    exact SeqAt.in_tuple_reads r2 r1 (SeqAt.canLay_of_shaped se) (SeqAt.canLay_of_shaped sd) (room_in_shaped sd hu) ⟨.bl _, H, I, rfl, q⟩
/-- a part of an entry: no text too long; what is nested is of the kind that can be compared -/
def gp : PyData → Bool
  | .none => true
  | .bool _ => true
  | .int _ => true
  | .str z => decide (z.length ≤ 1000)
  | .list ds => SeqAt.shaped (.list ds)
  | .tuple ds => SeqAt.shaped (.tuple ds)
  | .dict _ => false
/-- equal to a text -/
def eqS : PyData → Str → Bool
  | .str z, s => s == z
  | _, _ => false
def inW (d : PyData) (ws : List Str) : Bool := ws.any fun s => eqS d s
theorem dec_str (z s : Str) : decide (V.str z = V.str s) = (s == z) := by
  by_cases h : s = z
  · subst h
    rw [decide_eq_true rfl, beq_self_eq_true]
  · rw [decide_eq_false (fun e => h (V.str.inj e).symm), beq_eq_false_iff_ne.mpr h]
theorem eqA_of {K : PySem.W.Frag} {H : Hp} {v : V} {d : PyData} {s : Str} {Q : VK} (hd : Dp K H v d) (g : gp d = true) (hs : SeqAt.shaped (.str s) = true) (q : Q (.bl (eqS d s)) H) : rEqA K v (.str s) H Q := by
  cases hd with
  | non => exact .inl ⟨rfl, by rw [decide_eq_false (fun h => nomatch h)]; exact q⟩
  | bl b => exact .inl ⟨rfl, by rw [decide_eq_false (fun h => nomatch h)]; exact q⟩
  | int i => exact .inl ⟨rfl, by rw [decide_eq_false (fun h => nomatch h)]; exact q⟩
  | str z => exact .inl ⟨rfl, by rw [dec_str]; exact q⟩
  | lst h a => exact .inr ⟨_, _, .lst h a, .str s, g, hs, q⟩
  | tup h a => exact .inr ⟨_, _, .tup h a, .str s, g, hs, q⟩
theorem dpa_strs {K : PySem.W.Frag} {H : Hp} : ∀ ws : List Str, DpAll K H (ws.map V.str) (ws.map PyData.str)
  | [] => .nil
  | w :: r => .cons (.str w) (dpa_strs r)
theorem flat_strs : ∀ ws : List Str, (ws.map V.str).all flatV = true
  | [] => rfl
  | w :: r => by rw [List.map_cons, List.all_cons, flat_strs r]; rfl
theorem inW_flat {v : V} {d : PyData} (h : ∀ s : Str, eqV (.str s) v = eqS d s) : ∀ ws : List Str, inV v (ws.map V.str) = inW d ws
  | [] => rfl
  | w :: r => by
    have ih := inW_flat h r
    unfold inV inW at ih ⊢
    rw [List.map_cons, List.any_cons, List.any_cons, ih, h w]
theorem inW_deep {d : PyData} (h : ∀ s : Str, PyData.eqv (.str s) d = eqS d s) : ∀ ws : List Str, ((ws.map PyData.str).any fun z => PyData.eqv z d) = inW d ws
  | [] => rfl
  | w :: r => by
    have ih := inW_deep h r
    unfold inW at ih ⊢
    rw [List.map_cons, List.any_cons, List.any_cons, ih, h w]
theorem inA_of {K : PySem.W.Frag} {H : Hp} {v : V} {d : PyData} {p : Addr} {ws : List Str} {Q : VK} (hd : Dp K H v d) (g : gp d = true) (hp : SqT K H p (ws.map V.str)) (hs : SeqAt.shaped (.tuple (ws.map PyData.str)) = true) (q : Q (.bl (inW d ws)) H) : rInA K v (.ref p) H Q := by
  cases hd with
  | non => exact .inl ⟨p, _, rfl, .inr hp, rfl, flat_strs ws, by rw [← inW_flat (v := .non) (d := .none) (fun s => rfl)] at q; exact q⟩
  | bl b => exact .inl ⟨p, _, rfl, .inr hp, rfl, flat_strs ws, by rw [← inW_flat (v := .bl b) (d := .bool b) (fun s => rfl)] at q; exact q⟩
  | int i => exact .inl ⟨p, _, rfl, .inr hp, rfl, flat_strs ws, by rw [← inW_flat (v := .int i) (d := .int i) (fun s => rfl)] at q; exact q⟩
  | str z => exact .inl ⟨p, _, rfl, .inr hp, rfl, flat_strs ws, by rw [← inW_flat (v := .str z) (d := .str z) (fun s => rfl)] at q; exact q⟩
  | lst h a => exact .inr ⟨_, _, .lst h a, .tup hp (dpa_strs ws), g, hs, by rw [inW_deep (fun s => by simp [PyData.eqv, eqS])]; exact q⟩
  | tup h a => exact .inr ⟨_, _, .tup h a, .tup hp (dpa_strs ws), g, hs, by rw [inW_deep (fun s => by simp [PyData.eqv, eqS])]; exact q⟩
theorem th_dp {K : PySem.W.Frag} {H : Hp} {v : V} {d : PyData} (h : Dp K H v d) (g : gp d = true) : Th K H v := by
  cases h with
  | str z => exact .inl ⟨z, rfl, of_decide_eq_true g⟩
  | non => exact .inr ⟨(fun z e => nomatch e), _, .base .non, by decide +kernel⟩
  | bl b => exact .inr ⟨(fun z e => nomatch e), _, .base (.bl b), by decide +kernel⟩
  | int i => exact .inr ⟨(fun z e => nomatch e), _, .base (.int i), by decide +kernel⟩
  | lst h _ => exact .inr ⟨(fun z e => nomatch e), _, ty_lst h, by decide +kernel⟩
  | tup h _ => exact .inr ⟨(fun z e => nomatch e), _, ty_tup h, by decide +kernel⟩
def sgD : PyData → Bool
  | .str z => sgV (.str z)
  | _ => false
theorem sg_dp {K : PySem.W.Frag} {H : Hp} {v : V} {d : PyData} (h : Dp K H v d) : sgV v = sgD d := by
  cases h <;> rfl
/-! ### entries -/
def manyD : PyData → Bool
  | .int i => decide (1 ≤ i) && decide (i ≤ 9)
  | _ => false
abbrev lets : List Str := [PySem.Str.ofString "n", PySem.Str.ofString "e", PySem.Str.ofString "s", PySem.Str.ofString "w"]
def letD (d : PyData) : Bool := inW d lets
abbrev wAlone : List Str := [PySem.Str.ofString "left", PySem.Str.ofString "right", PySem.Str.ofString "back", PySem.Str.ofString "bump", PySem.Str.ofString "bare", PySem.Str.ofString "swap"]
abbrev wFace : List Str := [PySem.Str.ofString "left", PySem.Str.ofString "right", PySem.Str.ofString "back", PySem.Str.ofString "go", PySem.Str.ofString "bump", PySem.Str.ofString "spy"]
def pairD (w p : PyData) : Bool := if eqS w "face" = true then letD p else if eqS w "go" = true then manyD p else eqS w "sign" && sgD p
def entL : List PyData → Bool
  | [a] => inW a wAlone
  | [a, b] => pairD a b
  | [a, b, c] => eqS a "spy" && (manyD b && sgD c)
  | _ => false
def entD (d : PyData) : Bool := match seqD d with
  | some ds => entL ds
  | none => false
/-- a thing in the place of an entry -/
def ge (d : PyData) : Bool := match seqD d with
  | some ds => decide (ds.length ≤ 1000) && ds.all gp
  | none => gp d
/-! ### letters, steps -/
def cd : Fin 4 → Nat
  | 0 => 110
  | 1 => 101
  | 2 => 115
  | 3 => 119
def Lt (l : Fin 4) : Str := ⟨#[cd l]⟩
abbrev nesw : Str := PySem.Str.ofString "nesw"
theorem lt0 : PySem.Str.ofString "n" = Lt 0 := by decide +kernel
theorem lt1 : PySem.Str.ofString "e" = Lt 1 := by decide +kernel
theorem lt2 : PySem.Str.ofString "s" = Lt 2 := by decide +kernel
theorem lt3 : PySem.Str.ofString "w" = Lt 3 := by decide +kernel
theorem ltd : ∀ l m : Fin 4, decide (V.str (Lt l) = V.str (Lt m)) = decide (l = m) := by decide +kernel
theorem occ : ∀ l : Fin 4, Builtin.Str.occurrences nesw (Lt l) 0 nesw.length 1 = [l.val] := by decide +kernel
theorem nesw_len : nesw.length ≤ sizeLine := by decide +kernel
theorem nesw_at : ∀ (i : Nat) (h : i < 4) (c : Nat), nesw.cps[i]? = some c → (⟨#[c]⟩ : Str) = Lt ⟨i, h⟩
  | 0, _, c, e => by cases e; rfl
  | 1, _, c, e => by cases e; rfl
  | 2, _, c, e => by cases e; rfl
  | 3, _, c, e => by cases e; rfl
def dx : Fin 4 → Int
  | 0 => 0
  | 1 => 1
  | 2 => 0
  | 3 => -1
def dy : Fin 4 → Int
  | 0 => 1
  | 1 => 0
  | 2 => -1
  | 3 => 0
theorem dxb : ∀ l : Fin 4, -(2 ^ 64) < dx l ∧ dx l < 2 ^ 64 := by decide +kernel
theorem dyb : ∀ l : Fin 4, -(2 ^ 64) < dy l ∧ dy l < 2 ^ 64 := by decide +kernel
/-! ### lots -/
def tr (a : Fin 8) (l : Fin 4) : Fin 4 := if a.val < 4 then ⟨(a.val + l.val) % 4, by omega⟩ else ⟨(a.val + 4 - l.val) % 4, by omega⟩
def un (a : Fin 8) : Fin 8 := if a.val < 4 then ⟨(4 - a.val) % 4, by omega⟩ else a
def bo (a b : Fin 8) : Fin 8 :=
  let q := if a.val < 4 then (a.val + b.val) % 4 else (a.val + 8 - b.val) % 4
  if (decide (a.val < 4)) = (decide (b.val < 4)) then ⟨q % 4, by omega⟩ else ⟨q % 4 + 4, by omega⟩
theorem at_mir : ∀ (a : Fin 8) (l : Fin 4), (4 : Int) ≤ a.val → atI nesw.cps.toList (((a.val : Int) - (l.val : Int)) % 4) = some (cd (tr a l)) := by decide +kernel
theorem at_tur : ∀ (a : Fin 8) (l : Fin 4), ¬ (4 : Int) ≤ a.val → atI nesw.cps.toList (((a.val : Int) + (l.val : Int)) % 4) = some (cd (tr a l)) := by decide +kernel
theorem un_mir : ∀ a : Fin 8, (4 : Int) ≤ a.val → ((un a).val : Int) = a.val := by decide +kernel
theorem un_tur : ∀ a : Fin 8, ¬ (4 : Int) ≤ a.val → ((un a).val : Int) = (-(a.val : Int)) % 4 := by decide +kernel
theorem bo_1 : ∀ a b : Fin 8, (4 : Int) ≤ a.val → (4 : Int) ≤ b.val → ((bo a b).val : Int) = ((a.val : Int) - b.val) % 4 := by decide +kernel
theorem bo_2 : ∀ a b : Fin 8, (4 : Int) ≤ a.val → ¬ (4 : Int) ≤ b.val → ((bo a b).val : Int) = ((a.val : Int) - b.val) % 4 + 4 := by decide +kernel
theorem bo_3 : ∀ a b : Fin 8, ¬ (4 : Int) ≤ a.val → (4 : Int) ≤ b.val → ((bo a b).val : Int) = ((a.val : Int) + b.val) % 4 + 4 := by decide +kernel
theorem bo_4 : ∀ a b : Fin 8, ¬ (4 : Int) ≤ a.val → ¬ (4 : Int) ≤ b.val → ((bo a b).val : Int) = ((a.val : Int) + b.val) % 4 := by decide +kernel
/-! ### entries that are right -/
inductive Ent where
  | face (l : Fin 4)
  | turn (q : Fin 3)
  | go (n : Fin 9)
  | bump
  | sign (z : Str)
  | bare
  | spy (n : Fin 9) (z : Str)
  | swap
def ws : Fin 10 → Str
  | 0 => PySem.Str.ofString "face"
  | 1 => PySem.Str.ofString "left"
  | 2 => PySem.Str.ofString "right"
  | 3 => PySem.Str.ofString "back"
  | 4 => PySem.Str.ofString "go"
  | 5 => PySem.Str.ofString "bump"
  | 6 => PySem.Str.ofString "sign"
  | 7 => PySem.Str.ofString "bare"
  | 8 => PySem.Str.ofString "spy"
  | 9 => PySem.Str.ofString "swap"
theorem wsd : ∀ i j : Fin 10, decide (V.str (ws i) = V.str (ws j)) = decide (i = j) := by decide +kernel
theorem ws_ok : ∀ i : Fin 10, PyData.strOk (ws i) = true ∧ (ws i).length ≤ 12 := by decide +kernel
namespace Ent
def kind : Ent → Fin 10
  | face _ => 0
  | turn q => ⟨q.val + 1, by omega⟩
  | go _ => 4
  | bump => 5
  | sign _ => 6
  | bare => 7
  | spy _ _ => 8
  | swap => 9
def rest : Ent → List PyData
  | face l => [.str (Lt l)]
  | go n => [.int ((n.val : Int) + 1)]
  | sign z => [.str z]
  | spy n z => [.int ((n.val : Int) + 1), .str z]
  | _ => []
def parts (e : Ent) : List PyData := .str (ws e.kind) :: e.rest
def tup (e : Ent) : PyData := .tuple e.parts
def lst (e : Ent) : PyData := .list e.parts
def need : Ent → Bool
  | turn _ => true
  | go _ => true
  | bump => true
  | spy _ _ => true
  | _ => false
def isFace : Ent → Bool
  | face _ => true
  | _ => false
def isSwap : Ent → Bool
  | swap => true
  | _ => false
def sgS (z : Str) : Bool := nmL z.cps.toList || loL z.cps.toList
def ok : Ent → Prop
  | sign z => z.length ≤ 12 ∧ PyData.strOk z = true ∧ sgS z = true
  | spy _ z => z.length ≤ 12 ∧ PyData.strOk z = true ∧ sgS z = true
  | _ => True
theorem face_iff (e : Ent) : e.isFace = decide (e.kind = 0) := by
  cases e with
  | turn q => match q with
    | 0 => rfl
    | 1 => rfl
    | 2 => rfl
  | _ => rfl
theorem swap_iff (e : Ent) : e.isSwap = decide (e.kind = 9) := by
  cases e with
  | turn q => match q with
    | 0 => rfl
    | 1 => rfl
    | 2 => rfl
  | _ => rfl
end Ent
/-- what comes ahead has a face where one is needed -/
def Right (es : List Ent) : Prop := ∀ (i : Nat) (e : Ent), es[i]? = some e → e.need = true → (es.take i).any Ent.isFace = true
theorem Right.nil : Right [] := fun i e h => by cases h
theorem Right.snoc {es : List Ent} {e : Ent} (h : Right es) (he : e.need = true → es.any Ent.isFace = true) : Right (es ++ [e]) := fun i x hx hn => by
  by_cases hi : i < es.length
  · rw [List.getElem?_append_left hi] at hx
    rw [List.take_append_of_le_length (Nat.le_of_lt hi)]
    exact h i x hx hn
  · have hl := (List.getElem?_eq_some_iff.mp hx).1
    rw [List.length_append] at hl
    have : i = es.length := by
      have : [e].length = 1 := rfl
      omega
    rw [this, List.getElem?_append_right (Nat.le_refl _), Nat.sub_self] at hx
    cases hx
    rw [this, List.take_left]
    exact he hn
def swaps (es : List Ent) : Nat := (es.filter Ent.isSwap).length
theorem swaps_snoc (es : List Ent) (e : Ent) : swaps (es ++ [e]) = swaps es + (if e.isSwap = true then 1 else 0) := by
  unfold swaps
  rw [List.filter_append, List.length_append, List.filter_cons, List.filter_nil]
  split <;> rfl
theorem swaps_le (es : List Ent) : swaps es ≤ es.length := List.length_filter_le _ _
/-! ### where a walker stands -/
structure Wk where
  leg : Nat
  x : Int
  y : Int
  look : Option (Fin 4)
def W0 : Wk := ⟨0, 0, 0, none⟩
def tq : Fin 3 → Fin 4
  | 0 => 3
  | 1 => 1
  | 2 => 2
def nlook (a : Fin 8) (look : Option (Fin 4)) : Ent → Option (Fin 4)
  | .face l => some (tr a l)
  | .turn q => look.map (fun l => l + tq q)
  | _ => look
def nx (p : Int) (look : Option (Fin 4)) : Ent → Int
  | .go n => match look with
    | some l => p + ((n.val : Int) + 1) * dx l
    | none => p
  | _ => p
def ny (p : Int) (look : Option (Fin 4)) : Ent → Int
  | .go n => match look with
    | some l => p + ((n.val : Int) + 1) * dy l
    | none => p
  | _ => p
def nleg (n : Nat) (e : Ent) : Nat := if e.isSwap = true then n + 1 else n
def next (lots : List (Fin 8)) (p : Wk) (e : Ent) : Wk := ⟨nleg p.leg e, nx p.x p.look e, ny p.y p.look e, nlook (lots.getD (nleg p.leg e) 0) p.look e⟩
@[irreducible] def wat (lots : List (Fin 8)) (es : List Ent) (i : Nat) : Wk := (es.take i).foldl (next lots) W0
theorem wat_zero (lots : List (Fin 8)) (es : List Ent) : wat lots es 0 = W0 := by
  unfold wat
  rfl
theorem wat_succ {lots : List (Fin 8)} {es : List Ent} {i : Nat} {e : Ent} (h : es[i]? = some e) : wat lots es (i + 1) = next lots (wat lots es i) e := by
  unfold wat
  rw [List.take_add_one, h, List.foldl_append]
  rfl
theorem wat_look (lots : List (Fin 8)) (es : List Ent) : ∀ i, (wat lots es i).look.isSome = (es.take i).any Ent.isFace
  | 0 => by rw [wat_zero]; rfl
  | i + 1 => by
    by_cases hi : i < es.length
    · have h : es[i]? = some es[i] := List.getElem?_eq_getElem hi
      rw [wat_succ h, List.take_add_one, h, List.any_append, ← wat_look lots es i]
      show (nlook _ (wat lots es i).look es[i]).isSome = ((wat lots es i).look.isSome || (es[i].isFace || false))
      cases es[i] with
      | face l => cases (wat lots es i).look <;> rfl
      | turn q => cases (wat lots es i).look <;> rfl
      | _ => cases (wat lots es i).look <;> rfl
    · have e1 : es.take (i + 1) = es.take i := by rw [List.take_of_length_le (by omega), List.take_of_length_le (by omega)]
      have := wat_look lots es i
      unfold wat at this ⊢
      rw [e1]
      exact this
theorem wat_leg (lots : List (Fin 8)) (es : List Ent) : ∀ i, (wat lots es i).leg = swaps (es.take i)
  | 0 => by rw [wat_zero]; rfl
  | i + 1 => by
    by_cases hi : i < es.length
    · have h : es[i]? = some es[i] := List.getElem?_eq_getElem hi
      rw [wat_succ h, List.take_add_one, h]
      show nleg (wat lots es i).leg es[i] = swaps (es.take i ++ [es[i]])
      rw [swaps_snoc, wat_leg lots es i]
      unfold nleg
      split <;> rfl
    · have e1 : es.take (i + 1) = es.take i := by rw [List.take_of_length_le (by omega), List.take_of_length_le (by omega)]
      have := wat_leg lots es i
      unfold wat at this ⊢
      rw [e1]
      exact this
theorem swaps_take (es : List Ent) (i : Nat) : swaps (es.take i) ≤ swaps es := by
  unfold swaps
  exact List.Sublist.length_le ((List.take_sublist i es).filter _)
def lk : Option (Fin 4) → Str
  | some l => Lt l
  | none => PySem.Str.ofString ""
def plD (p : Wk) : PyData := .tuple [.int p.x, .int p.y]
def posD (p : Wk) : PyData := .tuple [plD p, .str (lk p.look)]
def trackL (lots : List (Fin 8)) (es : List Ent) (n : Nat) : List PyData := (List.range n).map fun i => posD (wat lots es (i + 1))
theorem trackL_succ (lots : List (Fin 8)) (es : List Ent) (n : Nat) : trackL lots es (n + 1) = trackL lots es n ++ [posD (wat lots es (n + 1))] := by
  unfold trackL
  rw [List.range_succ, List.map_append]
  rfl
def trackD (lots : List (Fin 8)) (es : List Ent) : PyData := .tuple (trackL lots es es.length)
/-- rows of entries, each a list or a tuple -/
def Rows (K : PySem.W.Frag) (H : Hp) (xs : List V) (es : List Ent) : Prop := ∃ ds, DpAll K H xs ds ∧ ds.map seqD = es.map fun e => some e.parts
theorem Rows.same {K : PySem.W.Frag} {H H' : Hp} {xs : List V} {es : List Ent} (h : Rows K H xs es) (s : Same H H') : Rows K H' xs es := by
  obtain ⟨ds, h1, h2⟩ := h
  exact ⟨ds, dpa_same s _ _ h1, h2⟩
theorem Rows.len {K : PySem.W.Frag} {H : Hp} {xs : List V} {es : List Ent} (h : Rows K H xs es) : xs.length = es.length := by
  obtain ⟨ds, h1, h2⟩ := h
  have := congrArg List.length h2
  rw [List.length_map, List.length_map] at this
  rw [dpa_len ds xs h1, this]
/-- one entry, a list or a tuple -/
def EntAt (K : PySem.W.Frag) (H : Hp) (v : V) (e : Ent) : Prop := ∃ a xs, v = .ref a ∧ SqA K H a (.str (ws e.kind) :: xs) ∧ DpAll K H xs e.rest
theorem ent_at {K : PySem.W.Frag} {H : Hp} {v : V} {d : PyData} {e : Ent} (h : Dp K H v d) (hs : seqD d = some e.parts) : EntAt K H v e := by
  obtain ⟨a, xs, rfl, hq, ha⟩ := seq_dp h hs
  cases ha with
  | cons h1 h2 =>
    cases h1
    exact ⟨a, _, rfl, hq, h2⟩
theorem EntAt.same {K : PySem.W.Frag} {H H' : Hp} {v : V} {e : Ent} (h : EntAt K H v e) (s : Same H H') : EntAt K H' v e := by
  obtain ⟨a, xs, h1, h2, h3⟩ := h
  exact ⟨a, xs, h1, h2.elim (fun h => .inl (s.seq h)) (fun h => .inr (sqt_same s h)), dpa_same s _ _ h3⟩
theorem Rows.at_ {K : PySem.W.Frag} {H : Hp} {xs : List V} {es : List Ent} (h : Rows K H xs es) {i : Nat} {v : V} (hv : xs[i]? = some v) : ∃ e, es[i]? = some e ∧ EntAt K H v e := by
  obtain ⟨ds, h1, h2⟩ := h
  obtain ⟨d, fd, gd⟩ := dpa_at ds xs h1 i v hv
  have e1 : (ds.map seqD)[i]? = some (seqD d) := by rw [List.getElem?_map, fd]; rfl
  rw [h2, List.getElem?_map] at e1
  cases e2 : es[i]? with
  | none => rw [e2] at e1; cases e1
  | some e =>
    rw [e2] at e1
    exact ⟨e, rfl, ent_at gd (Option.some.inj e1).symm⟩
theorem rows_tup {K : PySem.W.Frag} {H : Hp} {xs : List V} {es : List Ent} (h : DpAll K H xs (es.map Ent.tup)) : Rows K H xs es := ⟨_, h, by rw [List.map_map]; rfl⟩
--@@SPLIT
def whD : PyData → Bool
  | .int _ => true
  | _ => false
def spWholeD (K : PySem.W.Frag) : Sp := fun vs H Q _ => ∃ (v : V) (d : PyData), vs = [v] ∧ Dp K H v d ∧ Q (.bl (whD d)) H
theorem ok_is_wholeD (T : Top w K mg) : FnOk P w K mg base CX0 1 T.a_is_whole T.fd_is_whole ["thing"] (spWholeD K) := by
  refine T.F_is_whole.ok sc_is_whole (fun vs H Q E h => ?_) (fun cdv A outer s H vs Q E hr h => ?_)
  · obtain ⟨v, d, rfl, _⟩ := h
    rfl
  · obtain ⟨v, d, rfl, hd, q⟩ := h
    refine ⟨_, (pss_one (ps_ret (pe_and (pe_callB call_isi (by rfl) T.m_isinstance (by decide +kernel) (pa_cons (pv 0) (pa_cons (pe_bltn (v := .ty "int") (by rfl) T.m_int (by decide +kernel) rfl) pa_nil))) (pe_one (pe_not (pe_callB call_isi (by rfl) T.m_isinstance (by decide +kernel) (pa_cons (pv 0) (pa_cons (pe_bltn (v := .ty "bool") (by rfl) T.m_bool (by decide +kernel) rfl) pa_nil)))))))), ?_⟩
    cases hd with
    | non => exact ⟨.non, rfl, _, _, _, _, false, rfl, .ty _, .base .non, kit_ty (by decide +kernel), _, rfl, iteF q⟩
    | bl b => exact ⟨.bl b, rfl, _, _, _, _, true, rfl, .ty _, .base (.bl b), kit_ty (by decide +kernel), _, rfl, iteT ⟨.bl b, rfl, _, _, _, _, true, rfl, .ty _, .base (.bl b), kit_ty (by decide +kernel), _, rfl, q⟩⟩
    | int i => exact ⟨.int i, rfl, _, _, _, _, true, rfl, .ty _, .base (.int i), kit_ty (by decide +kernel), _, rfl, iteT ⟨.int i, rfl, _, _, _, _, false, rfl, .ty _, .base (.int i), kit_ty (by decide +kernel), _, rfl, q⟩⟩
    | str z => exact ⟨.str z, rfl, _, _, _, _, false, rfl, .ty _, .base (.str z), kit_ty (by decide +kernel), _, rfl, iteF q⟩
    | lst h _ => exact ⟨_, rfl, _, _, _, _, false, rfl, .ty _, ty_lst h, kit_ty (by decide +kernel), _, rfl, iteF q⟩
    | tup h _ => exact ⟨_, rfl, _, _, _, _, false, rfl, .ty _, ty_tup h, kit_ty (by decide +kernel), _, rfl, iteF q⟩
def lotD : PyData → Bool
  | .int i => decide (0 ≤ i) && decide (i ≤ 7)
  | _ => false
/-! ### the program's reading of an entry -/
def Keys : List DictEntry → List Str → Prop
  | [], [] => True
  | e :: r, k :: ks => (∃ t, e.key = .str k t) ∧ Keys r ks
  | _, _ => False
theorem find_keys (z : Str) : ∀ (l : List DictEntry) (ks : List Str), Keys l ks → (l.find? (·.key.isStr z)).isSome = (ks.any fun s => s == z) ∧ l.any (·.refKey) = false
  | [], [], _ => ⟨rfl, rfl⟩
  | e :: r, k :: ks, h => by
    obtain ⟨⟨t, hk⟩, hr⟩ := h
    obtain ⟨i1, i2⟩ := find_keys z r ks hr
    have e1 : e.key.isStr z = (k == z) := by rw [hk]; rfl
    have e2 : e.refKey = false := by unfold DictEntry.refKey; rw [hk]
    constructor
    · rw [List.find?_cons, e1, List.any_cons]
      cases k == z with
      | true => rfl
      | false => exact i1
    · rw [List.any_cons, e2, i2]
      rfl
  | [], _ :: _, h => h.elim
  | _ :: _, [], h => h.elim
theorem ns_keys {K : PySem.W.Frag} {a : Addr} {es : Array DictEntry} {n : Nat} {ks : List Str} (h : K.lookup a = some ⟨.type "dict", none, .dict es n, #[]⟩) (hk : Keys es.toList ks) (z : Str) : ∃ r, PySem.W.nsIn K a z = some r ∧ r.isSome = (ks.any fun s => s == z) := by
  obtain ⟨i1, i2⟩ := find_keys z es.toList ks hk
  unfold PySem.W.nsIn
  rw [h]
  cases e : es.toList.find? (·.key.isStr z) with
  | some x =>
    rw [e] at i1
    refine ⟨some x.val, ?_, i1⟩
    simp only [e]
  | none =>
    rw [e] at i1
    refine ⟨none, ?_, i1⟩
    simp only [e, i2]
    rfl
def spPart (K : PySem.W.Frag) (f : PyData → Bool) : Sp := fun vs H Q _ => ∃ (v : V) (d : PyData), vs = [v] ∧ gp d = true ∧ Dp K H v d ∧ ∀ H', Same H H' → Q (.bl (f d)) H'
theorem ok_is_letter (T : Top w K mg) : FnOk P w K mg base CX0 1 T.a_is_letter T.fd_is_letter ["thing"] (spPart K letD) := by
  refine T.F_is_letter.ok sc_is_letter (fun vs H Q E h => ?_) (fun cdv A outer s H vs Q E hr h => ?_)
  · obtain ⟨v, d, rfl, _⟩ := h
    rfl
  · obtain ⟨v, d, rfl, g, hd, q⟩ := h
    refine ⟨_, (pss_one (ps_ret (pe_and (pe_callB call_isi (by rfl) T.m_isinstance (by decide +kernel) (pa_cons (pv 0) (pa_cons (pe_bltn (v := .ty "str") (by rfl) T.m_str (by decide +kernel) rfl) pa_nil))) (pe_one (pe_cmpR (op_in_kd T.kd_STEPS) (pv 0) (pe_glob (v := .ref T.a_STEPS) (by rfl) T.g_STEPS rfl) (by rfl)))))), ?_⟩
    refine ⟨v, rfl, _, _, _, _, _, rfl, .ty _, ty_dp hd, kit_ty (kit_str d), _, rfl, ?_⟩
    have q := q H (Same.refl H)
    cases hd with
    | str z =>
      obtain ⟨r, h1, h2⟩ := T.ns_STEPS z
      refine iteT ⟨.str z, rfl, z, r, rfl, rfl, h1, ?_⟩
      rw [h2]
      exact q
    | non => exact iteF q
    | bl b => exact iteF q
    | int i => exact iteF q
    | lst h _ => exact iteF q
    | tup h _ => exact iteF q
theorem ok_is_many (T : Top w K mg) : FnOk P w K mg base CX0 2 T.a_is_many T.fd_is_many ["thing"] (spPart K manyD) := by
  have G_is_whole := ok_is_wholeD (P := P) (w := w) (base := base) T
  refine T.F_is_many.ok sc_is_many (fun vs H Q E h => ?_) (fun cdv A outer s H vs Q E hr h => ?_)
  · obtain ⟨v, d, rfl, _⟩ := h
    rfl
  · obtain ⟨v, d, rfl, g, hd, q⟩ := h
    refine ⟨_, (pss_one (ps_ret (pe_and (pe_call G_is_whole hr (by rfl) T.g_is_whole T.F_is_whole.kp T.b_is_whole .nil pass0 (pa_cons (pv 0) pa_nil)) (pe_one (pe_chain op_le op_le pe_int (pv 0) pe_int))))), ?_⟩
    refine ⟨v, rfl, v, d, rfl, hd, _, rfl, ?_⟩
    have q := q H (Same.refl H)
    cases hd with
    | int i =>
      refine iteT ⟨.int i, rfl, _, _, rfl, rfl, _, rfl, ite2 (fun e => ?_) (fun e => ?_)⟩
      · refine ⟨_, _, rfl, rfl, ?_⟩
        have e2 : manyD (.int i) = decide (i ≤ 9) := by
          show (decide (1 ≤ i) && decide (i ≤ 9)) = _
          rw [e]
          rfl
        rw [e2] at q
        exact q
      · have e2 : manyD (.int i) = false := by
          show (decide (1 ≤ i) && decide (i ≤ 9)) = _
          rw [Bool.eq_false_iff.mpr e]
          rfl
        rw [e2] at q
        exact q
    | non => exact iteF q
    | bl b => exact iteF q
    | str z => exact iteF q
    | lst h _ => exact iteF q
    | tup h _ => exact iteF q
def spPair (K : PySem.W.Frag) : Sp := fun vs H Q _ => ∃ (v u : V) (d c : PyData), vs = [v, u] ∧ gp d = true ∧ gp c = true ∧ Dp K H v d ∧ Dp K H u c ∧ ∀ H', Same H H' → Q (.bl (pairD d c)) H'
theorem ok_is_pair_entry (T : Top w K mg) : FnOk P w K mg base CX0 4 T.a_is_pair_entry T.fd_is_pair_entry ["word", "part"] (spPair K) := by
  have G_is_letter := ok_is_letter (P := P) (w := w) (base := base) T
  have G_is_many := ok_is_many (P := P) (w := w) (base := base) T
  have G_is_sign := ok_is_sign (P := P) (w := w) (base := base) T
  refine T.F_is_pair_entry.ok sc_is_pair_entry (fun vs H Q E h => ?_) (fun cdv A outer s H vs Q E hr h => ?_)
  · obtain ⟨v, u, d, c, rfl, _⟩ := h
    rfl
  · obtain ⟨v, u, d, c, rfl, gd, gc, hd, hc, q⟩ := h
    refine ⟨_, (pss_cons (ps_if (pt_cmpR (op_eqA hr.units) (pv 0) pe_str (nomark _)) (pss_one (ps_ret (pe_call G_is_letter (hr.mono (by decide)) (by rfl) T.g_is_letter T.F_is_letter.kp T.b_is_letter .nil pass0 (pa_cons (pv 1) pa_nil)))) pss_nil)
      (pss_cons (ps_if (pt_cmpR (op_eqA hr.units) (pv 0) pe_str (nomark _)) (pss_one (ps_ret (pe_call G_is_many (hr.mono (by decide)) (by rfl) T.g_is_many T.F_is_many.kp T.b_is_many .nil pass0 (pa_cons (pv 1) pa_nil)))) pss_nil)
      (pss_one (ps_ret (pe_and (pe_cmpR (op_eqA hr.units) (pv 0) pe_str (nomark _)) (pe_one (pe_call G_is_sign hr (by rfl) T.g_is_sign T.F_is_sign.kp T.b_is_sign .nil pass0 (pa_cons (pv 1) pa_nil)))))))), ?_⟩
    refine ⟨v, rfl, eqA_of hd gd (by decide +kernel) ⟨_, rfl, ite2 (fun e1 => ?_) (fun e1 => ?_)⟩⟩
    · rw [show pairD d c = letD c from if_pos e1] at q
      exact ⟨u, rfl, u, c, rfl, gc, hc, q⟩
    refine ⟨v, rfl, eqA_of hd gd (by decide +kernel) ⟨_, rfl, ite2 (fun e2 => ?_) (fun e2 => ?_)⟩⟩
    · rw [show pairD d c = manyD c by unfold pairD; rw [if_neg e1, if_pos e2]] at q
      exact ⟨u, rfl, u, c, rfl, gc, hc, q⟩
    rw [show pairD d c = (eqS d "sign" && sgD c) by unfold pairD; rw [if_neg e1, if_neg e2]] at q
    refine ⟨v, rfl, eqA_of hd gd (by decide +kernel) ⟨_, rfl, ite2 (fun e3 => ?_) (fun e3 => ?_)⟩⟩
    · rw [e3] at q
      refine ⟨u, rfl, u, rfl, th_dp hc gc, fun H' sm => ?_⟩
      rw [sg_dp hc]
      exact q H' sm
    · rw [Bool.eq_false_iff.mpr e3] at q
      exact q H (Same.refl H)
theorem ge_parts {d : PyData} {ds : List PyData} (h : ge d = true) (e : seqD d = some ds) : ds.length ≤ 1000 ∧ ∀ x ∈ ds, gp x = true := by
  unfold ge at h
  rw [e] at h
  obtain ⟨h1, h2⟩ := Bool.and_eq_true_iff.mp h
  exact ⟨of_decide_eq_true h1, List.all_eq_true.mp h2⟩
/-- the parts of a list or tuple, whichever it is -/
theorem len1 {α : Type} : ∀ l : List α, l.length = 1 → ∃ a, l = [a]
  | [a], _ => ⟨a, rfl⟩
  | [], h => by cases h
  | _ :: _ :: _, h => by simp at h
theorem len2 {α : Type} : ∀ l : List α, l.length = 2 → ∃ a b, l = [a, b]
  | [a, b], _ => ⟨a, b, rfl⟩
  | [], h => by cases h
  | [_], h => by simp at h
  | _ :: _ :: _ :: _, h => by simp at h
theorem len3 {α : Type} : ∀ l : List α, l.length = 3 → ∃ a b c, l = [a, b, c]
  | [a, b, c], _ => ⟨a, b, c, rfl⟩
  | [], h => by cases h
  | [_], h => by simp at h
  | [_, _], h => by simp at h
  | _ :: _ :: _ :: _ :: _, h => by simp at h
theorem ent_else : ∀ ds : List PyData, ¬ ds.length = 1 → ¬ ds.length = 2 → ¬ ds.length = 3 → entL ds = false
  | [], _, _, _ => rfl
  | [_], h, _, _ => absurd rfl h
  | [_, _], _, h, _ => absurd rfl h
  | [_, _, _], _, _, h => absurd rfl h
  | _ :: _ :: _ :: _ :: _, _, _, _ => rfl
theorem dpa1 {K : PySem.W.Frag} {H : Hp} {xs : List V} {a : PyData} (h : DpAll K H xs [a]) : ∃ x, xs = [x] ∧ Dp K H x a := by
  cases h with
  | cons h1 h2 => cases h2; exact ⟨_, rfl, h1⟩
theorem dpa2 {K : PySem.W.Frag} {H : Hp} {xs : List V} {a b : PyData} (h : DpAll K H xs [a, b]) : ∃ x y, xs = [x, y] ∧ Dp K H x a ∧ Dp K H y b := by
  cases h with
  | cons h1 h2 =>
    obtain ⟨y, rfl, h3⟩ := dpa1 h2
    exact ⟨_, y, rfl, h1, h3⟩
theorem dpa3 {K : PySem.W.Frag} {H : Hp} {xs : List V} {a b c : PyData} (h : DpAll K H xs [a, b, c]) : ∃ x y z, xs = [x, y, z] ∧ Dp K H x a ∧ Dp K H y b ∧ Dp K H z c := by
  cases h with
  | cons h1 h2 =>
    obtain ⟨y, z, rfl, h3, h4⟩ := dpa2 h2
    exact ⟨_, y, z, rfl, h1, h3, h4⟩
def spEntry (K : PySem.W.Frag) : Sp := fun vs H Q _ => ∃ (v : V) (d : PyData), vs = [v] ∧ ge d = true ∧ Dp K H v d ∧ ∀ H', Same H H' → Q (.bl (entD d)) H'
theorem ok_is_entry (T : Top w K mg) : FnOk P w K mg base CX0 5 T.a_is_entry T.fd_is_entry ["thing"] (spEntry K) := by
  have G_is_pair_entry := ok_is_pair_entry (P := P) (w := w) (base := base) T
  have G_is_many := ok_is_many (P := P) (w := w) (base := base) T
  have G_is_sign := ok_is_sign (P := P) (w := w) (base := base) T
  refine T.F_is_entry.ok sc_is_entry (fun vs H Q E h => ?_) (fun cdv A outer s H vs Q E hr h => ?_)
  · obtain ⟨v, d, rfl, _⟩ := h
    rfl
  · obtain ⟨v, d, rfl, g, hd, q⟩ := h
    refine ⟨_, (pss_cons (ps_if (pt_not (pt_val (pe_callB call_isiT (by rfl) T.m_isinstance (by decide +kernel) (pa_cons (pv 0) (pa_cons (pe_tup (pa_cons (pe_bltn (v := .ty "tuple") (by rfl) T.m_tuple (by decide +kernel) rfl) (pa_cons (pe_bltn (v := .ty "list") (by rfl) T.m_list (by decide +kernel) rfl) pa_nil))) pa_nil))))) (pss_one (ps_ret pe_bl)) pss_nil)
      (pss_cons (ps_if (pt_cmpR op_eq (pe_callB call_len_seq (by rfl) T.m_len (by decide +kernel) (pa_cons (pv 0) pa_nil)) pe_int (nomark _)) (pss_one (ps_ret (pe_cmpR (op_inA (units65 hr)) (pe_ix ix_seq (pv 0) pe_int (fun _ _ => rfl)) (pe_glob (v := .ref T.a_WORDS_ALONE) (by rfl) T.g_WORDS_ALONE rfl) (by rfl)))) pss_nil)
      (pss_cons (ps_if (pt_cmpR op_eq (pe_callB call_len_seq (by rfl) T.m_len (by decide +kernel) (pa_cons (pv 0) pa_nil)) pe_int (nomark _)) (pss_one (ps_ret (pe_call G_is_pair_entry hr (by rfl) T.g_is_pair_entry T.F_is_pair_entry.kp T.b_is_pair_entry .nil pass0 (pa_cons (pe_ix ix_seq (pv 0) pe_int (fun _ _ => rfl)) (pa_cons (pe_ix ix_seq (pv 0) pe_int (fun _ _ => rfl)) pa_nil))))) pss_nil)
      (pss_one (ps_ret (pe_and (pe_cmpR op_eq (pe_callB call_len_seq (by rfl) T.m_len (by decide +kernel) (pa_cons (pv 0) pa_nil)) pe_int (nomark _)) (pe_and (pe_cmpR (op_eqA hr.units) (pe_ix ix_seq (pv 0) pe_int (fun _ _ => rfl)) pe_str (nomark _)) (pe_and (pe_call G_is_many (hr.mono (by decide)) (by rfl) T.g_is_many T.F_is_many.kp T.b_is_many .nil pass0 (pa_cons (pe_ix ix_seq (pv 0) pe_int (fun _ _ => rfl)) pa_nil)) (pe_one (pe_call G_is_sign (hr.mono (by decide)) (by rfl) T.g_is_sign T.F_is_sign.kp T.b_is_sign .nil pass0 (pa_cons (pe_ix ix_seq (pv 0) pe_int (fun _ _ => rfl)) pa_nil))))))))))), ?_⟩
    obtain ⟨x, y, k1, k2, exy⟩ := kit_seq d
    refine ⟨v, rfl, by show 2 ≤ sizeLine; decide, fun tp np => ⟨v, tp, _, _, _, _, rfl, upd_same, .cons (.ty _) (.cons (.ty _) .nil), ty_dp (dp_same (same_upd np) d v hd), kit_any2 k1 k2, _, rfl, ?_⟩⟩
    rw [exy]
    have s0 := same_upd (o := .tup [.ty "tuple", .ty "list"]) np
    have hd0 := dp_same s0 d v hd
    cases e : seqD d with
    | none =>
      rw [show entD d = false by unfold entD; rw [e]] at q
      exact iteT (q _ s0)
    | some ds =>
      rw [show entD d = entL ds by unfold entD; rw [e]] at q
      refine iteF ?_
      obtain ⟨hlen, hgp⟩ := ge_parts g e
      obtain ⟨a, xs, rfl, hs, ha⟩ := seq_dp hd0 e
      have lx := dpa_len ds xs ha
      refine ⟨.ref a, rfl, a, xs, rfl, hs, rfl, _, rfl, ?_⟩
      by_cases n1 : ds.length = 1
      · obtain ⟨d1, rfl⟩ := len1 ds n1
        obtain ⟨x1, rfl, h1⟩ := dpa1 ha
        · refine iteDY (decide_eq_true rfl) ⟨.ref a, rfl, ixA (j := 0) hs rfl (inA_of (ws := wAlone) h1 (hgp d1 (by simp)) (T.v_WORDS_ALONE _) (by decide +kernel) (q _ s0))⟩
      refine iteDN (decide_eq_false (fun z => n1 (by have := V.int.inj z; omega))) ?_
      refine ⟨.ref a, rfl, a, xs, rfl, hs, rfl, _, rfl, ?_⟩
      by_cases n2 : ds.length = 2
      · obtain ⟨d1, d2, rfl⟩ := len2 ds n2
        obtain ⟨x1, x2, rfl, h1, h2⟩ := dpa2 ha
        · refine iteDY (decide_eq_true rfl) ⟨.ref a, rfl, ixA (j := 0) hs rfl ⟨.ref a, rfl, ixA (j := 1) hs rfl ⟨x1, x2, d1, d2, rfl, hgp d1 (by simp), hgp d2 (by simp), h1, h2, fun H' sm => q _ (s0.trans sm)⟩⟩⟩
      refine iteDN (decide_eq_false (fun z => n2 (by have := V.int.inj z; omega))) ?_
      refine ⟨.ref a, rfl, a, xs, rfl, hs, rfl, _, rfl, ?_⟩
      by_cases n3 : ds.length = 3
      · obtain ⟨d1, d2, d3, rfl⟩ := len3 ds n3
        obtain ⟨x1, x2, x3, rfl, h1, h2, h3⟩ := dpa3 ha
        · have q : ∀ H', Same H H' → Q (.bl (eqS d1 "spy" && (manyD d2 && sgD d3))) H' := q
          refine iteDY (decide_eq_true rfl) ⟨.ref a, rfl, ixA (j := 0) hs rfl (eqA_of h1 (hgp d1 (by simp)) (by decide +kernel) ⟨_, rfl, ite2 (fun e1 => ?_) (fun e1 => ?_)⟩)⟩
          · rw [e1] at q
            refine ⟨.ref a, rfl, ixA (j := 1) hs rfl ⟨x2, d2, rfl, hgp d2 (by simp), h2, fun H2 s2 => ⟨_, rfl, ite2 (fun e2 => ?_) (fun e2 => ?_)⟩⟩⟩
            · rw [e2] at q
              refine ⟨.ref a, rfl, ixA (j := 2) (hs.same s2) rfl ⟨x3, rfl, th_dp (dp_same s2 _ _ h3) (hgp d3 (by simp)), fun H3 s3 => ?_⟩⟩
              rw [sg_dp h3]
              exact q _ ((s0.trans s2).trans s3)
            · rw [Bool.eq_false_iff.mpr e2] at q
              exact q _ (s0.trans s2)
          · rw [Bool.eq_false_iff.mpr e1] at q
            exact q _ s0
      refine iteDN (decide_eq_false (fun z => n3 (by have := V.int.inj z; omega))) ?_
      rw [ent_else ds n1 n2 n3] at q
      exact q _ s0
theorem many_fin : ∀ n : Fin 9, manyD (.int ((n.val : Int) + 1)) = true := by decide
theorem let_fin : ∀ l : Fin 4, letD (.str (Lt l)) = true := by decide +kernel
theorem ent_L {e : Ent} (h : e.ok) : entL e.parts = true := by
  cases e with
  | face l =>
    show pairD (.str (ws 0)) (.str (Lt l)) = true
    unfold pairD
    rw [if_pos (by decide +kernel)]
    exact let_fin l
  | go n =>
    show pairD (.str (ws 4)) (.int ((n.val : Int) + 1)) = true
    unfold pairD
    rw [if_neg (by decide +kernel), if_pos (by decide +kernel)]
    exact many_fin n
  | sign z =>
    show pairD (.str (ws 6)) (.str z) = true
    unfold pairD
    rw [if_neg (by decide +kernel), if_neg (by decide +kernel)]
    show (eqS (.str (ws 6)) "sign" && Ent.sgS z) = true
    rw [h.2.2, show eqS (.str (ws 6)) "sign" = true by decide +kernel]
    rfl
  | spy n z =>
    show (eqS (.str (ws 8)) "spy" && (manyD (.int ((n.val : Int) + 1)) && Ent.sgS z)) = true
    rw [h.2.2, many_fin n, show eqS (.str (ws 8)) "spy" = true by decide +kernel]
    rfl
  | turn q =>
    have : ∀ q : Fin 3, entL (Ent.turn q).parts = true := by decide +kernel
    exact this q
  | bump => show inW (.str (ws 5)) wAlone = true; decide +kernel
  | bare => show inW (.str (ws 7)) wAlone = true; decide +kernel
  | swap => show inW (.str (ws 9)) wAlone = true; decide +kernel
--@@SPLIT
theorem kit_same {K : PySem.W.Frag} {C : Addr} : PySem.W.kitOne K (.ref C) (.ref C) = some true := by
  unfold PySem.W.kitOne
  rw [if_pos (beq_self_eq_true _)]
theorem kit_other {K : PySem.W.Frag} {D C : Addr} {b : Bool} (hn : (Value.ref D == Value.ref C) = false) (h1 : PySem.W.isClsIn K C = true) (h2 : PySem.W.typeIn K (.ref C) = some (.type "type")) (h3 : PySem.W.subIn K (.ref D) (.ref C) = some b) : PySem.W.kitOne K (.ref D) (.ref C) = some b := by
  unfold PySem.W.kitOne
  rw [hn, if_neg Bool.false_ne_true]
  show (if ((PySem.W.clsIn K C).isSome && PySem.W.typeIn K (.ref C) == some (.type "type")) = true then PySem.W.subIn K (.ref D) (.ref C) else none) = some b
  rw [if_pos (by rw [show (PySem.W.clsIn K C).isSome = true from h1, h2]; rfl)]
  exact h3
theorem kit_ve {K : PySem.W.Frag} {D : Addr} (h : PySem.W.subIn K (.ref D) (.type "ValueError") = some true) : PySem.W.kitOne K (.ref D) (.type "ValueError") = some true := by
  unfold PySem.W.kitOne
  rw [show (Value.ref D == Value.type "ValueError") = false from rfl, if_neg Bool.false_ne_true]
  show (if PySem.W.kitMeta "ValueError" = true then PySem.W.subIn K (.ref D) (.type "ValueError") else none) = some true
  rw [if_pos (by decide +kernel)]
  exact h
/-! ### the refusal of a log -/
def spInit (K : PySem.W.Frag) (C : Addr) : Sp := fun vs H Q _ => ∃ (a : Addr) (z : Str) (i : Int), vs = [.ref a, .str z, .int i] ∧ H a = some (exo a C none) ∧
  ∀ H' dx, (∀ b o, b ≠ a → H b = some o → H' b = some o) → H dx = none → dx ≠ a → H' a = some (exo a C (some dx)) → H' dx = some (exd dx [("at", .int i), ("name", .str z)]) → Q .non H'
theorem ok_init (T : Top w K mg) : FnOk P w K mg base CX0 4 T.a_init T.fd_init ["self", "name", "at"] (spInit K T.a_BadLog) := by
  have G_kept := ok_kept (P := P) (w := w) (base := base) T
  refine T.F_init.ok sc_init (fun vs H Q E h => ?_) (fun cdv A outer s H vs Q E hr h => ?_)
  · obtain ⟨a, z, i, rfl, _⟩ := h
    rfl
  · obtain ⟨a, z, i, rfl, ha, q⟩ := h
    refine ⟨_, (pss_cons (ps_ost (pv 0) (pe_call G_kept (hr.mono (by decide)) (by rfl) T.g_kept T.F_kept.kp T.b_kept .nil pass0 (pa_cons (pv 1) pa_nil)))
      (pss_one (ps_ost (pv 0) (pe_call G_kept (hr.mono (by decide)) (by rfl) T.g_kept T.F_kept.kp T.b_kept .nil pass0 (pa_cons (pv 2) pa_nil))))), ?_⟩
    refine ⟨_, rfl, .str z, .str z, rfl, siz_str _, .str z, fun H1 v' s1 hv' => ?_⟩
    cases hv'
    refine ⟨.ref a, rfl, a, T.a_BadLog, rfl, T.oex, T.no_name, .inl ⟨s1 _ _ ha, fun dx ndx ne => ?_⟩⟩
    refine ⟨_, rfl, .int i, .int i, rfl, siz_int _, .int i, fun H2 v' s2 hv' => ?_⟩
    cases hv'
    have ea := s2 _ _ (upd_same (H := upd H1 dx (exd dx [("name", .str z)])) (a := a) (o := exo a T.a_BadLog (some dx)))
    have ed := s2 dx (exd dx [("name", .str z)]) (by rw [upd_ne ne]; exact upd_same)
    refine ⟨.ref a, rfl, a, T.a_BadLog, rfl, T.oex, T.no_at, .inr ⟨dx, _, ea, ed, by show 1 ≤ 900; decide, ?_⟩⟩
    refine q _ dx (fun b o hb h => ?_) (s1.free ndx) ne ?_ upd_same
    · have hb2 : b ≠ dx := ne_of_none (s1 _ _ h) ndx
      rw [upd_ne hb2]
      refine s2 _ _ ?_
      rw [upd_ne hb, upd_ne hb2]
      exact s1 _ _ h
    · rw [upd_ne (Ne.symm ne)]
      exact ea
--@@SPLIT
/-! ### a log, entry by entry -/
def headL : List PyData → PyData
  | a :: _ => a
  | [] => .none
def headD (d : PyData) : PyData := match seqD d with
  | some ds => headL ds
  | none => .none
def fcD (d : PyData) : Bool := eqS (headD d) "face"
def ndD (d : PyData) : Bool := inW (headD d) wFace
def tupD (d : PyData) : PyData := match seqD d with
  | some ds => .tuple ds
  | none => d
def badAt : Bool → Nat → List PyData → Option Nat
  | _, _, [] => none
  | f, i, d :: r => if entD d = false then some i else if (ndD d && !f) = true then some i else badAt (f || fcD d) (i + 1) r
theorem ent_seq {d : PyData} (h : entD d = true) : ∃ a r, seqD d = some (a :: r) := by
  unfold entD at h
  cases e : seqD d with
  | none => rw [e] at h; cases h
  | some ds =>
    rw [e] at h
    cases ds with
    | nil => cases h
    | cons a r => exact ⟨a, r, rfl⟩
theorem seq_head {K : PySem.W.Frag} {H : Hp} {v : V} {d a : PyData} {r : List PyData} (h : Dp K H v d) (e : seqD d = some (a :: r)) : ∃ p x xs, v = .ref p ∧ SqA K H p (x :: xs) ∧ Dp K H x a ∧ DpAll K H (x :: xs) (a :: r) := by
  obtain ⟨p, xs, rfl, hs, ha⟩ := seq_dp h e
  have ha2 := ha
  cases ha2 with
  | @cons x xs' _ _ h1 h2 => exact ⟨p, x, xs', rfl, hs, h1, ha⟩
theorem head_eq {d a : PyData} {r : List PyData} (e : seqD d = some (a :: r)) : headD d = a := by
  unfold headD
  rw [e]
  rfl
theorem tup_eq {d : PyData} {ds : List PyData} (e : seqD d = some ds) : tupD d = .tuple ds := by
  unfold tupD
  rw [e]
theorem any_more {ds : List PyData} {i : Nat} {d : PyData} (h : ds[i]? = some d) : (ds.take (i + 1)).any fcD = ((ds.take i).any fcD || fcD d) := by
  rw [List.take_add_one, h, List.any_append]
  show ((ds.take i).any fcD || (fcD d || false)) = _
  rw [Bool.or_false]
theorem drop_at {ds : List PyData} {i : Nat} {d : PyData} (h : ds[i]? = some d) : ds.drop i = d :: ds.drop (i + 1) := by
  obtain ⟨hi, e⟩ := List.getElem?_eq_some_iff.mp h
  rw [List.drop_eq_getElem_cons hi, e]
def spHeldT (K : PySem.W.Frag) (C : Addr) : Sp := fun vs H Q E => ∃ (e : Addr) (xs : List V) (ds : List PyData), vs = [.ref e] ∧ SqA K H e xs ∧ DpAll K H xs ds ∧ (∀ d ∈ ds, ge d = true) ∧ ds.length ≤ 901 ∧
  (badAt false 0 ds = none → ∀ H' r, Same H H' → Dp K H' (.ref r) (.tuple (ds.map tupD)) → Q (.ref r) H') ∧
  (∀ i, badAt false 0 ds = some i → ∀ H' dd, Same H H' → H dd = none → H' dd = some (.xd [("at", .int (i : Nat)), ("name", .str "")]) → E (.ref C) (some dd) H')
theorem ok_held_logT (T : Top w K mg) : FnOk P w K mg base (L2N.CX P w) 8 T.a_held_log T.fd_held_log ["entries"] (spHeldT K T.a_BadLog) := by
  have G_is_entry := ok_is_entry (P := P) (w := w) (base := base) T
  have G_init := ok_init (P := P) (w := w) (base := base) T
  refine HotAs.okN T.F_held_log sc_held_log (fun vs H Q E h => ?_) (fun cdv A outer s H vs Q E hr h => ?_)
  · obtain ⟨e, xs, ds, rfl, _⟩ := h
    rfl
  · obtain ⟨e, xs, ds, rfl, hs, ha, hge, hlen, q, bad⟩ := h
    have lx := dpa_len ds xs ha
    refine ⟨_, (pss_cons (ps_set (i := 1) sc_held_log.nd rfl (.inl rfl) pe_bl)
      (pss_cons (ps_set (i := 2) sc_held_log.nd rfl (.inl rfl) (pe_lst pa_nil))
      (pss_cons (ps_for (passes_of rfl) rfl (SeqW.pi_enumA (by rfl) T.m_enumerate (pa_cons (pv 0) pa_nil)) (pg_tup rfl (pgs_cons (pg_name (i := 3) sc_held_log.nd rfl (.inl rfl)) (pgs_cons (pg_name (i := 4) sc_held_log.nd rfl (.inl rfl)) pgs_nil))) (pss_cons (ps_if (pt_not (pt_val (pe_call G_is_entry (hr.mono (by decide)) (by rfl) T.g_is_entry T.F_is_entry.kp T.b_is_entry .nil pass0 (pa_cons (pv 4) pa_nil)))) (pss_one (L2N.ps_raise rfl (L2N.takes_of rfl rfl rfl rfl) (HotAs.pmk_oexN T.oex T.iC T.tI G_init (hr.mono (by decide)) T.b_init pass0 (by rfl) T.g_BadLog (pa_cons pe_str (pa_cons (pv 3) pa_nil))))) pss_nil)
      (Evl.pss_cut (ps_if (PW.pt (pw_and (pt_cmpR (op_inA (units65 hr)) (pe_ix ix_seq (pv 4) pe_int (fun _ _ => rfl)) (pe_glob (v := .ref T.a_WORDS_BEHIND_A_FACE) (by rfl) T.g_WORDS_BEHIND_A_FACE rfl) (by rfl)) (pw_and1 (pt_not (pt_val (pv 1)))))) (pss_one (L2N.ps_raise rfl (L2N.takes_of rfl rfl rfl rfl) (HotAs.pmk_oexN T.oex T.iC T.tI G_init (hr.mono (by decide)) T.b_init pass0 (by rfl) T.g_BadLog (pa_cons pe_str (pa_cons (pv 3) pa_nil))))) pss_nil)
      (Evl.pss_cut (ps_set (i := 1) sc_held_log.nd rfl (.inl rfl) (pe_or (pv 1) (pe_one (pe_cmpR (op_eqA hr.units) (pe_ix ix_seq (pv 4) pe_int (fun _ _ => rfl)) pe_str (nomark _)))))
      (pss_one (ps_expr (pe_bm PySem.F.plainAttrs_list PySem.F.slot_list_append PySem.F.type_list_append mt_append (pv 2) (pa_cons (pe_callTy call_tuple_of (by rfl) T.m_tuple (by decide +kernel) (pa_cons (pv 4) pa_nil)) pa_nil))))))))
      (pss_one (ps_ret (pe_callTy call_tuple_of (by rfl) T.m_tuple (by decide +kernel) (pa_cons (pv 2) pa_nil))))))), ?_⟩
    refine ⟨Nat.zero_le _, fun L nL => ?_⟩
    have s0 := same_upd (o := .lst []) nL
    refine ⟨.ref e, rfl, e, xs, rfl, (fun H' => Same H H'), hs.elim (fun h => .inl fun _ s => s.seq h) (fun h => .inr fun _ s => sqt_same s h), s0, fun J G wk hG => for_it wk (fun i σ H' => Same H H' ∧ ∃ y3 y4 ys, σ = [some (.ref e), some (.bl ((ds.take i).any fcD)), some (.ref L), y3, y4] ∧ H' L = some (.lst ys) ∧ ys.length = i ∧ DpAll K (wo H' (fun b => b = L)) ys ((ds.take i).map tupD) ∧ badAt false 0 ds = badAt ((ds.take i).any fcD) i (ds.drop i))
      ⟨s0, none, none, [], rfl, upd_same, rfl, .nil, rfl⟩ (fun i σ H' _ h => hG _ h.1) ?_ ?_⟩
    · rintro i v σ H1 H2 hi ⟨sm, y3, y4, ys, rfl, eL, ly, hy, hb⟩ ⟨t, u1, u2, rfl, nt, rfl, e1, e2⟩
      cases e1
      obtain ⟨d, fd, gd⟩ := dpa_at ds xs ha i u2 e2
      have hgd := hge d (List.mem_of_getElem? fd)
      rw [drop_at fd] at hb
      have st := same_upd (o := .tup [.int (i : Nat), u2]) nt
      have sm2 := sm.trans st
      have nLt : L ≠ t := ne_of_none eL nt
      refine ⟨t, _, rfl, .inl (.inl upd_same), rfl, _, _, rfl, _, _, rfl, rfl, ?_⟩
      refine ⟨u2, rfl, u2, d, rfl, hgd, dp_same sm2 d u2 gd, fun H3 s3 => ⟨_, rfl, ?_⟩⟩
      have sm3 := sm2.trans s3
      have raise_ : badAt false 0 ds = some i → ∀ (Hx : Hp), Same H Hx → ∀ a, Hx a = none → spInit K T.a_BadLog (.ref a :: ([.str "", .int (i : Nat)] ++ [])) (upd Hx a (exo a T.a_BadLog none)) (fun v H2 => v = .non ∧ ∃ (d : Addr) (fs : List (Str × V)), H2 a = some (exo a T.a_BadLog (some d)) ∧ H2 d = some (exd d fs) ∧ Hx d = none ∧ E (.ref T.a_BadLog) (some d) (upd (del H2 a) d (.xd fs))) (fun _ _ _ => False) := fun hbi Hx sx a na =>
        ⟨a, _, _, rfl, upd_same, fun H4 dx keep ndx ne ea ed => by
          rw [upd_ne ne] at ndx
          refine ⟨rfl, dx, _, ea, ed, ndx, bad i hbi _ dx (fun b o h => ?_) (sx.free ndx) upd_same⟩
          have h2 := sx _ _ h
          have na2 : b ≠ a := ne_of_none h2 na
          rw [upd_ne (ne_of_none h2 ndx), del_ne na2]
          exact keep b o na2 (by rw [upd_ne na2]; exact h2)⟩
      cases he : entD d with
      | false =>
        have hbi : badAt false 0 ds = some i := by
          rw [hb]
          show (if entD d = false then _ else _) = _
          rw [if_pos he]
        exact iteT ⟨_, rfl, by show 2 ≤ 1000; decide, fun a na => raise_ hbi H3 sm3 a na⟩
      | true =>
        refine iteF ?_
        obtain ⟨a, r, es⟩ := ent_seq he
        have mH : Same H (wo H3 (fun b => b = L)) := fun b o h => by
          rw [wo_in (X := fun b => b = L) (ne_of_none h nL)]
          exact sm3 _ _ h
        obtain ⟨p, x, xs2, rfl, hsqW, hxW, hallW⟩ := seq_head (dp_same mH d u2 gd) es
        have hsq := hsqW.same wo_same
        have hx := dp_same wo_same _ _ hxW
        have ga : gp a = true := (ge_parts hgd es).2 a (by simp)
        have hb2 : badAt false 0 ds = if (ndD d && !((ds.take i).any fcD)) = true then some i else badAt ((ds.take i).any fcD || fcD d) (i + 1) (ds.drop (i + 1)) := by
          rw [hb]
          show (if entD d = false then _ else _) = _
          rw [if_neg (by rw [he]; decide)]
        have hnd : ndD d = inW a wFace := by unfold ndD; rw [head_eq es]
        have hfc : fcD d = eqS a "face" := by unfold fcD; rw [head_eq es]
        refine ⟨fun σ H' => H3 = H' ∧ σ = [some (.ref e), some (.bl ((ds.take i).any fcD)), some (.ref L), some (.int (i : Nat)), some (.ref p)] ∧ badAt false 0 ds = badAt ((ds.take i).any fcD || fcD d) (i + 1) (ds.drop (i + 1)), ?_, ?_⟩
        · refine ⟨.ref p, rfl, ixA (j := 0) hsq rfl (inA_of (ws := wFace) hx ga (T.v_WORDS_BEHIND_A_FACE _) (by decide +kernel) ⟨_, rfl, ite2 (fun e3 => ?_) (fun e3 => ?_)⟩)⟩
          · refine ⟨_, rfl, _, rfl, ?_⟩
            cases hf : (ds.take i).any fcD with
            | false =>
              have hbi : badAt false 0 ds = some i := by
                rw [hb2, hnd, e3, hf]
                rfl
              exact iteT ⟨_, rfl, by show 2 ≤ 1000; decide, fun a na => raise_ hbi H3 sm3 a na⟩
            | true =>
              refine iteF ⟨rfl, rfl, ?_⟩
              rw [hb2, hf, Bool.not_true, Bool.and_false, if_neg Bool.false_ne_true]
          · refine ite2 (fun z => nomatch z) (fun _ => ⟨rfl, rfl, ?_⟩)
            rw [hb2, hnd, Bool.eq_false_iff.mpr e3, Bool.false_and, if_neg Bool.false_ne_true]
        rintro σ H4 ⟨rfl, rfl, hb3⟩
        refine ⟨fun σ H' => H3 = H' ∧ σ = [some (.ref e), some (.bl ((ds.take i).any fcD || fcD d)), some (.ref L), some (.int (i : Nat)), some (.ref p)], ?_, ?_⟩
        · refine ⟨_, rfl, _, rfl, ?_⟩
          cases hf : (ds.take i).any fcD with
          | true => exact iteT ⟨rfl, by rw [Bool.true_or]; rfl⟩
          | false =>
            refine iteF ⟨.ref p, rfl, ixA (j := 0) hsq rfl (eqA_of hx ga (by decide +kernel) ⟨rfl, ?_⟩)⟩
            rw [hfc, Bool.false_or]
            rfl
        rintro σ H4 ⟨rfl, rfl⟩
        have eL3 := s3 _ _ (st _ _ eL)
        have m3 : Same (wo H1 (fun b => b = L)) (wo H3 (fun b => b = L)) := fun b o h => by
          have h2 := wo_some h
          rw [wo_in (X := fun b => b = L) h2.1]
          exact s3 _ _ (st _ _ h2.2)
        have fin : ∀ (H5 : Hp) (q : Addr), Same H3 H5 → Dp K (wo H5 (fun b => b = L)) (.ref q) (tupD d) → (Same H (upd H5 L (.lst (ys ++ [.ref q]))) ∧ ∃ y3 y4 zs, ([some (.ref e), some (.bl ((ds.take i).any fcD || fcD d)), some (.ref L), some (.int (i : Nat)), some (.ref p)] : L2.St) = [some (.ref e), some (.bl ((ds.take (i + 1)).any fcD)), some (.ref L), y3, y4] ∧ (upd H5 L (.lst (ys ++ [.ref q]))) L = some (.lst zs) ∧ zs.length = i + 1 ∧ DpAll K (wo (upd H5 L (.lst (ys ++ [.ref q]))) (fun b => b = L)) zs ((ds.take (i + 1)).map tupD) ∧ badAt false 0 ds = badAt ((ds.take (i + 1)).any fcD) (i + 1) (ds.drop (i + 1))) := fun H5 q s5 hq => by
          have m5 : Same (wo H3 (fun b => b = L)) (wo H5 (fun b => b = L)) := fun b o h => by
            have h2 := wo_some h
            rw [wo_in (X := fun b => b = L) h2.1]
            exact s5 _ _ h2.2
          have m6 : Same (wo H5 (fun b => b = L)) (wo (upd H5 L (.lst (ys ++ [.ref q]))) (fun b => b = L)) := fun b o h => by
            have h2 := wo_some h
            rw [wo_in (X := fun b => b = L) h2.1, upd_ne h2.1]
            exact h2.2
          refine ⟨fun b o h => ?_, some (.int (i : Nat)), some (.ref p), ys ++ [.ref q], ?_, upd_same, ?_, ?_, ?_⟩
          · rw [upd_ne (ne_of_none h nL)]
            exact s5 _ _ (sm3 _ _ h)
          · rw [any_more fd]
          · rw [List.length_append, ly]
            rfl
          · rw [List.take_add_one, fd, List.map_append]
            exact dpa_snoc (dp_same m6 _ _ hq) _ _ (dpa_same ((m3.trans m5).trans m6) _ _ hy)
          · rw [any_more fd]
            exact hb3
        refine ⟨.ref L, rfl, .inl ⟨rfl, _, .inl (.inl eL3)⟩, .ref p, rfl, p, x :: xs2, rfl, ?_⟩
        rcases hsqW with hl | ht
        · refine .inl ⟨wo_same.seq hl, fun r2 nr2 => ?_⟩
          have sr := same_upd (o := .tup (x :: xs2)) nr2
          refine ⟨L, ys, _, rfl, rfl, sr _ _ eL3, small1000 (by omega), fin _ r2 sr ?_⟩
          rw [tup_eq es]
          refine .tup (.inl (.inl ?_)) (dpa_same (fun b o h => ?_) _ _ hallW)
          · rw [wo_in (X := fun b => b = L) (fun z => by rw [z, eL3] at nr2; cases nr2)]
            exact upd_same
          · have h2 := wo_some h
            rw [wo_in (X := fun b => b = L) h2.1]
            exact sr _ _ h2.2
        · refine .inr ⟨sqt_same wo_same ht, ⟨L, ys, _, rfl, rfl, eL3, small1000 (by omega), fin H3 p (Same.refl _) ?_⟩⟩
          rw [tup_eq es]
          exact .tup ht hallW
    · rintro σ H1 ⟨sm, y3, y4, ys, rfl, eL, ly, hy, hb⟩
      rw [lx, List.drop_length] at hb
      rw [lx, List.take_length] at hy
      refine ⟨.ref L, rfl, L, ys, rfl, .inl ⟨.inl (.inl eL), fun r nr => ?_⟩⟩
      exact q hb _ r (sm.trans (same_upd nr)) (.tup (.inl (.inl upd_same)) (dpa_same (wo_same.trans (same_upd nr)) _ _ hy))
--@@SPLIT
/-! ### a refusal with one field that is flat -/
def RaV (C : Addr) (H : Hp) (fs : List (Str × V)) (E : XK) : Prop := ∀ H' dd, Same H H' → H dd = none → H' dd = some (.xd fs) → E (.ref C) (some dd) H'
theorem RaV.same {C : Addr} {H H' : Hp} {fs : List (Str × V)} {E : XK} (h : RaV C H fs E) (s : Same H H') : RaV C H' fs E := fun H2 dd s2 n e => h H2 dd (s.trans s2) (s.free n) e
def spIni (C : Addr) (key : Str) (fl : V → Prop) : Sp := fun vs H Q _ => ∃ (a : Addr) (v : V), vs = [.ref a, v] ∧ fl v ∧ H a = some (exo a C none) ∧
  ∀ H' dx, (∀ b o, b ≠ a → H b = some o → H' b = some o) → H dx = none → dx ≠ a → H' a = some (exo a C (some dx)) → H' dx = some (exd dx [(key, v)]) → Q .non H'
theorem raise1 {C : Addr} {key : Str} {fl : V → Prop} {v : V} {H : Hp} {E : XK} (hv : fl v) (bad : RaV C H [(key, v)] E) (a : Addr) (na : H a = none) :
    spIni C key fl (.ref a :: ([v] ++ [])) (upd H a (exo a C none)) (fun v H2 => v = .non ∧ ∃ (d : Addr) (fs : List (Str × V)), H2 a = some (exo a C (some d)) ∧ H2 d = some (exd d fs) ∧ H d = none ∧ E (.ref C) (some d) (upd (del H2 a) d (.xd fs))) (fun _ _ _ => False) :=
  ⟨a, v, rfl, hv, upd_same, fun H4 dx keep ndx ne ea ed => by
    rw [upd_ne ne] at ndx
    refine ⟨rfl, dx, _, ea, ed, ndx, bad _ dx (fun b o h => ?_) ndx upd_same⟩
    have na2 : b ≠ a := ne_of_none h na
    rw [upd_ne (ne_of_none h ndx), del_ne na2]
    exact keep b o na2 (by rw [upd_ne na2]; exact h)⟩
def isIntV (v : V) : Prop := ∃ i : Int, v = .int i
def isStrV (v : V) : Prop := ∃ z : Str, v = .str z
/-! ### the refusals of an atlas -/
inductive Rf where
  | made
  | box (i : Nat)
  | name (d : PyData)
  | twice (z : Str)
  | log (z : Str) (i : Nat)
def okB : PyData → Bool
  | .int i => decide (0 ≤ i)
  | _ => false
def badB : Nat → List PyData → Option Nat
  | _, [] => none
  | i, d :: r => if okB d = true then badB (i + 1) r else some i
def boxR (ds : List PyData) : Option Nat := if ds.length = 8 then badB 0 ds else some ds.length
def nameD : PyData → Option Str
  | .str z => if nmL z.cps.toList = true then some z else none
  | _ => none
def rowsR : List Str → List (PyData × List PyData) → Rf
  | _, [] => .made
  | ns, (d, es) :: r => match nameD d with
    | none => .name d
    | some z => if z ∈ ns then .twice z else match badAt false 0 es with
      | some i => .log z i
      | none => rowsR (ns ++ [z]) r
def atlasR (box : List PyData) (rows : List (PyData × List PyData)) : Rf := match boxR box with
  | some i => .box i
  | none => rowsR [] rows
theorem name_nm {K : PySem.W.Frag} {H : Hp} {v : V} {d : PyData} (h : Dp K H v d) : nmV v = (nameD d).isSome := by
  cases h with
  | str z =>
    show nmL z.cps.toList = (if nmL z.cps.toList = true then some z else none).isSome
    cases nmL z.cps.toList <;> rfl
  | non => rfl
  | bl b => rfl
  | int i => rfl
  | lst h _ => rfl
  | tup h _ => rfl
theorem name_str {K : PySem.W.Frag} {H : Hp} {v : V} {d : PyData} {z : Str} (h : Dp K H v d) (e : nameD d = some z) : v = .str z ∧ d = .str z := by
  cases d with
  | str y =>
    have e : (if nmL y.cps.toList = true then some y else none) = some z := e
    by_cases hn : nmL y.cps.toList = true
    · rw [if_pos hn] at e
      cases e
      cases h
      exact ⟨rfl, rfl⟩
    · rw [if_neg hn] at e
      cases e
  | _ => cases e
/-- one field, of any data -/
def spIniD (K : PySem.W.Frag) (C : Addr) (key : Str) : Sp := fun vs H Q _ => ∃ (a : Addr) (v : V) (d : PyData), vs = [.ref a, v] ∧ siz d ≤ 1000 ∧ Dp K H v d ∧ H a = some (exo a C none) ∧
  ∀ H' dx v', (∀ b o, b ≠ a → H b = some o → H' b = some o) → H dx = none → dx ≠ a → H' a = some (exo a C (some dx)) → H' dx = some (exd dx [(key, v')]) → Dp K H' v' d → Q .non H'
def RaD (K : PySem.W.Frag) (C : Addr) (H : Hp) (key : Str) (d : PyData) (E : XK) : Prop := ∀ H' dd v', Same H H' → H dd = none → H' dd = some (.xd [(key, v')]) → Dp K H' v' d → E (.ref C) (some dd) H'
theorem RaD.same {K : PySem.W.Frag} {C : Addr} {H H' : Hp} {key : Str} {d : PyData} {E : XK} (h : RaD K C H key d E) (s : Same H H') : RaD K C H' key d E := fun H2 dd v' s2 n e hv => h H2 dd v' (s.trans s2) (s.free n) e hv
theorem raiseD {K : PySem.W.Frag} {C : Addr} {key : Str} {v : V} {d : PyData} {H : Hp} {E : XK} (hz : siz d ≤ 1000) (hv : Dp K H v d) (bad : RaD K C H key d E) (a : Addr) (na : H a = none) :
    spIniD K C key (.ref a :: ([v] ++ [])) (upd H a (exo a C none)) (fun v H2 => v = .non ∧ ∃ (d : Addr) (fs : List (Str × V)), H2 a = some (exo a C (some d)) ∧ H2 d = some (exd d fs) ∧ H d = none ∧ E (.ref C) (some d) (upd (del H2 a) d (.xd fs))) (fun _ _ _ => False) :=
  ⟨a, v, d, rfl, hz, dp_same (same_upd na) _ _ hv, upd_same, fun H4 dx v' keep ndx ne ea ed hv' => by
    rw [upd_ne ne] at ndx
    have sq : Seqs H4 (upd (del H4 a) dx (.xd [(key, v')])) := fun b u z h => by
      have n1 : b ≠ a := fun e => by rw [e, ea] at h; cases h; cases z
      have n2 : b ≠ dx := fun e => by rw [e, ed] at h; cases h; cases z
      rw [upd_ne n2, del_ne n1]
      exact h
    refine ⟨rfl, dx, _, ea, ed, ndx, bad _ dx v' (fun b o h => ?_) ndx upd_same (dp_seqs sq d v' hv')⟩
    have na2 : b ≠ a := ne_of_none h na
    rw [upd_ne (ne_of_none h ndx), del_ne na2]
    exact keep b o na2 (by rw [upd_ne na2]; exact h)⟩
theorem raise2 {K : PySem.W.Frag} {C : Addr} {z : Str} {i : Int} {H : Hp} {E : XK} (bad : RaV C H [("at", .int i), ("name", .str z)] E) (a : Addr) (na : H a = none) :
    spInit K C (.ref a :: ([.str z, .int i] ++ [])) (upd H a (exo a C none)) (fun v H2 => v = .non ∧ ∃ (d : Addr) (fs : List (Str × V)), H2 a = some (exo a C (some d)) ∧ H2 d = some (exd d fs) ∧ H d = none ∧ E (.ref C) (some d) (upd (del H2 a) d (.xd fs))) (fun _ _ _ => False) :=
  ⟨a, z, i, rfl, upd_same, fun H4 dx keep ndx ne ea ed => by
    rw [upd_ne ne] at ndx
    refine ⟨rfl, dx, _, ea, ed, ndx, bad _ dx (fun b o h => ?_) ndx upd_same⟩
    have na2 : b ≠ a := ne_of_none h na
    rw [upd_ne (ne_of_none h ndx), del_ne na2]
    exact keep b o na2 (by rw [upd_ne na2]; exact h)⟩
theorem okH_init (T : Top w K mg) : L2H.FnH P w K mg base CX0 4 T.a_init T.fd_init ["self", "name", "at"] (spInit K T.a_BadLog) := by
  have GH_kept := okH_kept (P := P) (w := w) (base := base) T
  refine HotAs.okH T.F_init sc_init (fun vs H Q E h => ?_) (fun cdv A outer s H vs Q E p hr hc h => ?_)
  · obtain ⟨a, z, i, rfl, _⟩ := h
    rfl
  · obtain ⟨a, z, i, rfl, ha, q⟩ := h
    refine ⟨_, (pss_cons (ps_ost (pv 0) (L2H.pe_callH (E := fun _ _ _ _ => False) GH_kept (hr.mono (by decide)) hc (by rfl) T.g_kept T.F_kept.kp T.b_kept (fun _ _ _ _ _ _ _ z => z.elim) (pa_cons (pv 1) pa_nil)))
      (pss_one (ps_ost (pv 0) (L2H.pe_callH (E := fun _ _ _ _ => False) GH_kept (hr.mono (by decide)) hc (by rfl) T.g_kept T.F_kept.kp T.b_kept (fun _ _ _ _ _ _ _ z => z.elim) (pa_cons (pv 2) pa_nil))))), ?_⟩
    refine ⟨_, rfl, .str z, .str z, rfl, rfl, .str z, fun H1 s1 => ?_⟩
    refine ⟨.ref a, rfl, a, T.a_BadLog, rfl, T.oex, T.no_name, .inl ⟨s1 _ _ ha, fun dx ndx ne => ?_⟩⟩
    refine ⟨_, rfl, .int i, .int i, rfl, rfl, .int i, fun H2 s2 => ?_⟩
    have ea := s2 _ _ (upd_same (H := upd H1 dx (exd dx [("name", .str z)])) (a := a) (o := exo a T.a_BadLog (some dx)))
    have ed := s2 dx (exd dx [("name", .str z)]) ((upd_ne ne).trans upd_same)
    refine ⟨.ref a, rfl, a, T.a_BadLog, rfl, T.oex, T.no_at, .inr ⟨dx, _, ea, ed, by show 1 ≤ 900; decide, ?_⟩⟩
    refine q _ dx (fun b o hb h => ?_) (s1.free ndx) ne ((upd_ne (Ne.symm ne)).trans ea) upd_same
    have hb2 : b ≠ dx := ne_of_none (s1 _ _ h) ndx
    rw [upd_ne hb2]
    refine s2 _ _ ?_
    rw [upd_ne hb, upd_ne hb2]
    exact s1 _ _ h
theorem ok_init_BadBox (T : Top w K mg) : FnOk P w K mg base CX0 4 T.a_init_BadBox T.fd_init_BadBox ["self", "at"] (spIni T.a_BadBox "at" isIntV) := by
  have G_kept := ok_kept (P := P) (w := w) (base := base) T
  refine T.F_init_BadBox.ok sc_init_BadBox (fun vs H Q E h => ?_) (fun cdv A outer s H vs Q E hr h => ?_)
  · obtain ⟨a, i, rfl, _⟩ := h
    rfl
  · obtain ⟨a, _, rfl, ⟨i, rfl⟩, ha, q⟩ := h
    refine ⟨_, (pss_one (ps_ost (pv 0) (pe_call G_kept (hr.mono (by decide)) (by rfl) T.g_kept T.F_kept.kp T.b_kept .nil pass0 (pa_cons (pv 1) pa_nil)))), ?_⟩
    refine ⟨_, rfl, .int i, .int i, rfl, siz_int _, .int i, fun H1 v' s1 hv' => ?_⟩
    cases hv'
    refine ⟨.ref a, rfl, a, T.a_BadBox, rfl, T.oex_BadBox, T.no_BadBox_at, .inl ⟨s1 _ _ ha, fun dx ndx ne => ?_⟩⟩
    exact q _ dx (fun b o hb h => (upd_ne hb).trans (same_upd ndx _ _ (s1 _ _ h))) (s1.free ndx) ne upd_same ((upd_ne ne).trans upd_same)
theorem ok_init_Twice (T : Top w K mg) : FnOk P w K mg base CX0 4 T.a_init_Twice T.fd_init_Twice ["self", "name"] (spIni T.a_Twice "name" isStrV) := by
  have G_kept := ok_kept (P := P) (w := w) (base := base) T
  refine T.F_init_Twice.ok sc_init_Twice (fun vs H Q E h => ?_) (fun cdv A outer s H vs Q E hr h => ?_)
  · obtain ⟨a, i, rfl, _⟩ := h
    rfl
  · obtain ⟨a, _, rfl, ⟨i, rfl⟩, ha, q⟩ := h
    refine ⟨_, (pss_one (ps_ost (pv 0) (pe_call G_kept (hr.mono (by decide)) (by rfl) T.g_kept T.F_kept.kp T.b_kept .nil pass0 (pa_cons (pv 1) pa_nil)))), ?_⟩
    refine ⟨_, rfl, .str i, .str i, rfl, siz_str _, .str i, fun H1 v' s1 hv' => ?_⟩
    cases hv'
    refine ⟨.ref a, rfl, a, T.a_Twice, rfl, T.oex_Twice, T.no_Twice_name, .inl ⟨s1 _ _ ha, fun dx ndx ne => ?_⟩⟩
    exact q _ dx (fun b o hb h => (upd_ne hb).trans (same_upd ndx _ _ (s1 _ _ h))) (s1.free ndx) ne upd_same ((upd_ne ne).trans upd_same)
theorem ok_init_NoName (T : Top w K mg) : FnOk P w K mg base CX0 4 T.a_init_NoName T.fd_init_NoName ["self", "name"] (spIniD K T.a_NoName "name") := by
  have G_kept := ok_kept (P := P) (w := w) (base := base) T
  refine T.F_init_NoName.ok sc_init_NoName (fun vs H Q E h => ?_) (fun cdv A outer s H vs Q E hr h => ?_)
  · obtain ⟨a, v, d, rfl, _⟩ := h
    rfl
  · obtain ⟨a, v, d, rfl, hz, hd, ha, q⟩ := h
    refine ⟨_, (pss_one (ps_ost (pv 0) (pe_call G_kept (hr.mono (by decide)) (by rfl) T.g_kept T.F_kept.kp T.b_kept .nil pass0 (pa_cons (pv 1) pa_nil)))), ?_⟩
    refine ⟨v, rfl, v, d, rfl, hz, hd, fun H1 v' s1 hv' => ?_⟩
    refine ⟨.ref a, rfl, a, T.a_NoName, rfl, T.oex_NoName, T.no_NoName_name, .inl ⟨s1 _ _ ha, fun dx ndx ne => ?_⟩⟩
    have ha1 := s1 _ _ ha
    refine q _ dx v' (fun b o hb h => (upd_ne hb).trans (same_upd ndx _ _ (s1 _ _ h))) (s1.free ndx) ne upd_same ((upd_ne ne).trans upd_same) ?_
    exact dp_seqs ((Seqs.new ndx).trans (Seqs.upd (same_upd ndx _ _ ha1) rfl)) d v' hv'
/-! ### a box, a log: held or refused -/
def spBoxX (K : PySem.W.Frag) (C : Addr) : Sp := fun vs H Q E => ∃ (b : Addr) (xs : List V) (ds : List PyData), vs = [.ref b] ∧ SqA K H b xs ∧ DpAll K H xs ds ∧ ds.length ≤ 100 ∧ (boxR ds = none → ∀ H' r, Same H H' → SqT K H' r xs → Q (.ref r) H') ∧ (∀ i : Nat, boxR ds = some i → RaV C H [("at", .int (i : Int))] E)
theorem ok_held_box (T : Top w K mg) : FnOk P w K mg base (L2.CX P w) 6 T.a_held_box T.fd_held_box ["box"] (spBoxX K T.a_BadBox) := by
  have G_is_whole := ok_is_wholeD (P := P) (w := w) (base := base) T
  have G_init_BadBox := ok_init_BadBox (P := P) (w := w) (base := base) T
  refine T.F_held_box.okX sc_held_box (fun vs H Q E h => ?_) (fun cdv A outer s H vs Q E hr h => ?_)
  · obtain ⟨b, xs, ds, rfl, _⟩ := h
    rfl
  · obtain ⟨b, xs, ds, rfl, hs, hd, hl, q, bad⟩ := h
    have lx := dpa_len ds xs hd
    refine ⟨_, (pss_cons (ps_if (pt_cmpR op_ne (pe_callB call_len_seq (by rfl) T.m_len (by decide +kernel) (pa_cons (pv 0) pa_nil)) (pe_glob (v := .int 8) (by rfl) T.g_HOW_MANY_LOTS.choose_spec ⟨_, rfl⟩) (nomark _)) (pss_one (ps_raise rfl (takes_of rfl rfl rfl rfl) (pmk_oex T.oex_BadBox T.iC_BadBox T.tI_BadBox G_init_BadBox (hr.mono (by decide)) T.b_init_BadBox .nil pass0 (by rfl) T.g_BadBox (pa_cons (pe_callB call_len_seq (by rfl) T.m_len (by decide +kernel) (pa_cons (pv 0) pa_nil)) pa_nil)))) pss_nil)
      (pss_cons (ps_for (passes_of rfl) rfl (SeqW.pi_enumA (by rfl) T.m_enumerate (pa_cons (pv 0) pa_nil)) (pg_tup rfl (pgs_cons (pg_name (i := 1) sc_held_box.nd rfl (.inl rfl)) (pgs_cons (pg_name (i := 2) sc_held_box.nd rfl (.inl rfl)) pgs_nil))) (pss_one (ps_if (PW.pt (pw_or (pt_not (pt_val (pe_call G_is_whole (hr.mono (by decide)) (by rfl) T.g_is_whole T.F_is_whole.kp T.b_is_whole .nil pass0 (pa_cons (pv 2) pa_nil)))) (pw_or1 (pt_cmpR op_lt (pv 2) pe_int (nomark _))))) (pss_one (ps_raise rfl (takes_of rfl rfl rfl rfl) (pmk_oex T.oex_BadBox T.iC_BadBox T.tI_BadBox G_init_BadBox (hr.mono (by decide)) T.b_init_BadBox .nil pass0 (by rfl) T.g_BadBox (pa_cons (pv 1) pa_nil)))) pss_nil)))
      (pss_one (ps_ret (pe_callTy call_tuple_of (by rfl) T.m_tuple (by decide +kernel) (pa_cons (pv 0) pa_nil)))))), ?_⟩
    refine ⟨.ref b, rfl, b, _, rfl, hs, rfl, _, rfl, ?_⟩
    by_cases h8 : ds.length = 8
    · have e0 : boxR ds = badB 0 ds := if_pos h8
      refine iteN (by rw [lx, h8]; rfl) ⟨.ref b, rfl, b, _, rfl, (fun H' => Same H H'), kpA hs, Same.refl _, fun J G wk hG => for_it wk (fun i σ H' => Same H H' ∧ boxR ds = badB i (ds.drop i) ∧ ∃ y1 y2, σ = [some (.ref b), y1, y2]) ⟨Same.refl _, e0, _, _, rfl⟩ (fun i σ H' _ h => hG _ h.1) ?_ ?_⟩
      · rintro i v σ H1 H2 hi ⟨sm, hb, y1, y2, rfl⟩ ⟨t, u1, u2, rfl, nt, rfl, e1, e2⟩
        cases e1
        have st := same_upd (o := .tup [.int (i : Nat), u2]) nt
        obtain ⟨d, fd, gd⟩ := dpa_at ds xs (dpa_same (sm.trans st) _ _ hd) i u2 e2
        rw [drop_at fd] at hb
        refine ⟨t, _, rfl, .inl (.inl upd_same), rfl, _, _, rfl, _, _, rfl, rfl, ?_⟩
        have stop : okB d = false → ∀ Hx, Same H Hx → ∀ a, Hx a = none → _ := fun ho Hx sx a na => raise1 (C := T.a_BadBox) (key := "at") (fl := isIntV) (v := .int ((i : Nat) : Int)) (E := E) ⟨_, rfl⟩ ((bad i (hb.trans (if_neg (by rw [ho]; decide)))).same sx) a na
        have on : okB d = true → ∀ Hx, Same H Hx → (Same H Hx ∧ boxR ds = badB (i + 1) (ds.drop (i + 1)) ∧ ∃ y1 y2, [some (V.ref b), some (.int (i : Nat)), some u2] = [some (.ref b), y1, y2]) := fun ho Hx sx => ⟨sx, hb.trans (if_pos ho), _, _, rfl⟩
        refine ⟨u2, rfl, u2, d, rfl, gd, _, rfl, ?_⟩
        cases gd with
        | int j =>
          refine iteF ⟨.int j, rfl, _, _, rfl, rfl, _, rfl, ite2 (fun e => ?_) (fun e => ?_)⟩
          · have ho : okB (.int j) = false := decide_eq_false (by have := of_decide_eq_true e; omega)
            exact ⟨_, rfl, by show 1 ≤ 1000; decide, stop ho _ (sm.trans st)⟩
          · exact on (decide_eq_true (by have : ¬ j < 0 := fun z => e (decide_eq_true z); omega)) _ (sm.trans st)
        | _ => exact iteT ⟨_, rfl, by show 1 ≤ 1000; decide, stop rfl _ (sm.trans st)⟩
      · rintro σ H1 ⟨sm, hb, y1, y2, rfl⟩
        have hn : boxR ds = none := by
          rw [hb, List.drop_of_length_le (by omega)]
          rfl
        refine ⟨.ref b, rfl, b, xs, rfl, ?_⟩
        rcases hs.same sm with h | h
        · exact .inl ⟨h, fun r nr => q hn _ r (sm.trans (same_upd nr)) (.inl (.inl upd_same))⟩
        · exact .inr ⟨h, q hn _ b sm h⟩
    · have ne : ¬ V.int (xs.length : Nat) = .int 8 := fun z => h8 (by have : ((xs.length : Nat) : Int) = 8 := V.int.inj z; omega)
      refine iteDY (by rw [decide_eq_false ne]; rfl) ⟨.ref b, rfl, b, _, rfl, hs, by show 1 ≤ 1000; decide, fun a na => ?_⟩
      rw [lx]
      exact raise1 ⟨_, rfl⟩ (bad _ (if_neg h8)) a na
def spLogOf (K : PySem.W.Frag) (C : Addr) : Sp := fun vs H Q E => ∃ (z : Str) (e : Addr) (xs : List V) (ds : List PyData), vs = [.str z, .ref e] ∧ SqA K H e xs ∧ DpAll K H xs ds ∧ (∀ d ∈ ds, ge d = true) ∧ ds.length ≤ 901 ∧
  (badAt false 0 ds = none → ∀ H' r, Same H H' → Dp K H' (.ref r) (.tuple (ds.map tupD)) → Q (.ref r) H') ∧ (∀ i : Nat, badAt false 0 ds = some i → RaV C H [("at", .int (i : Int)), ("name", .str z)] E)
theorem ok_held_log_of (T : Top w K mg) : FnOk P w K mg base (L2.CX P w) 9 T.a_held_log_of T.fd_held_log_of ["name", "log"] (spLogOf K T.a_BadLog) := by
  have G_held_log := ok_held_logT (P := P) (w := w) (base := base) T
  have GH_init := okH_init (P := P) (w := w) (base := base) T
  refine T.F_held_log_of.okX sc_held_log_of (fun vs H Q E h => ?_) (fun cdv A outer s H vs Q E hr h => ?_)
  · obtain ⟨z, e, xs, ds, rfl, _⟩ := h
    rfl
  · obtain ⟨z, e, xs, ds, rfl, hs, ha, hg, hl, q, bad⟩ := h
    refine ⟨_, (pss_one (HotAs.ps_try_asX (i := 2) rfl rfl sc_held_log_of.nd rfl rfl ⟨rfl, by decide, .inl T.g_BadLog⟩ (fun hd => L2H.passesAt_of rfl hd) (takes_of rfl rfl rfl rfl) (fun W pn xe tk _ => (pss_one (ps_ret (pe_callS G_held_log hr (by rfl) T.g_held_log T.F_held_log.kp T.b_held_log (fun σ => L2N.passAt tk σ) (pa_cons (pv 1) pa_nil))))) (fun a oe cls d pn xe hz hf tk hot => (pss_one (L2H.ps_raiseHN hot tk (L2H.pmk5_oexH T.oex T.iC T.tI GH_init (L2H.roomH_mark (hr.mono (by decide)) _) hot T.b_init pass0 (by rfl) T.g_BadLog (pa_cons (pv 0) (pa_cons (HotAs.pe_sx (pe_xf T.xf T.no_at (L2N.Zn.zc hz) hf (pv 2))) pa_nil)))))))), ?_⟩
    refine ⟨.ref e, rfl, e, xs, ds, rfl, hs, ha, hg, hl, fun hn H' r s' hd => q hn H' r s' hd, fun i hi H' dd s' nd ed => ?_⟩
    refine ⟨true, T.exm, (fun _ a0 na0 => ⟨.str z, rfl, .ref a0, rfl, rfl, rfl, dd, _, .int (i : Nat), rfl, ed, by simp [List.lookup], by show 2 ≤ 1000; decide, fun a na => ?_⟩), fun y => Bool.noConfusion y⟩
    exact raise2 ((bad i hi).same s') a na
--@@SPLIT
/-! ### drawn texts, drawn things -/
theorem op_mulS {X : Cx} : OpR X (binaryOp .Mult) (fun x y H Q => ∃ (z : Str) (n : Int), x = .str z ∧ y = .int n ∧ z.length ≤ 16 ∧ 0 ≤ n ∧ n ≤ 1048576 ∧ ∀ z' : Str, (z'.length : Int) = (z.length : Int) * n → Q (.str z') H) := by
  intro pins s σ H x y v u Q I rx ry h
  obtain ⟨z, n, rfl, rfl, hz, h0, h1, q⟩ := h
  obtain ⟨t, rfl⟩ := rx
  obtain ⟨t', rfl⟩ := ry
  exact PySem.W.KXi.mul rfl hz (by omega) (by omega) fun t' k _ h2 => ⟨.str _, H, I.tok _, ⟨_, rfl⟩, q _ (h2 h0)⟩
theorem cut_len (z : Str) (lo hi : Option Int) : (cutS z lo hi).length ≤ z.length := by
  show (((z.cps.toList.drop (HT.sIx z.length 0 lo)).take (HT.sIx z.length z.length hi - HT.sIx z.length 0 lo)).toArray).size ≤ z.length
  rw [List.size_toArray, List.length_take, List.length_drop, len_toList]
  omega
theorem app_len (a b : Str) : (a ++ b).length = a.length + b.length := by
  show (a.cps ++ b.cps).size = _
  rw [Array.size_append]
  rfl
theorem str_at {z : Str} {i : Int} (h0 : 0 ≤ i) (h1 : i < (z.length : Int)) : ∃ c, atI z.cps.toList i = some c := by
  obtain ⟨j, rfl⟩ : ∃ j : Nat, i = j := ⟨i.toNat, by omega⟩
  have hj : j < z.cps.toList.length := by
    rw [len_toList]
    omega
  exact ⟨z.cps.toList[j], atI_nat (List.getElem?_eq_getElem hj)⟩
def spText (lo hi : Nat) : Sp := fun vs H Q _ => ∃ p, vs = [.ref p] ∧ Pool H p ∧ ∀ H' (z : Str), But p H H' → Pool H' p → lo ≤ z.length → z.length ≤ hi → (∀ c ∈ z.cps.toList, c ∈ SMALLs.cps.toList) → Q (.str z) H'
theorem app_mem {a b : Str} {c : Nat} (h : c ∈ (a ++ b).cps.toList) : c ∈ a.cps.toList ∨ c ∈ b.cps.toList := by
  have h2 : c ∈ (a.cps ++ b.cps).toList := h
  rw [Array.toList_append] at h2
  exact List.mem_append.mp h2
theorem join_mem {S : List Nat} : ∀ ys : List Str, (∀ y ∈ ys, ∀ c ∈ y.cps.toList, c ∈ S) → ∀ c ∈ (Str.join (PySem.Str.ofString "") ys).cps.toList, c ∈ S
  | [], _, c, h => by
    have h2 : c ∈ ([] : List Nat) := h
    cases h2
  | [y], hy, c, h => hy y (by simp) c h
  | y :: z :: r, hy, c, h => by
    have h2 : c ∈ ((y ++ PySem.Str.ofString "") ++ Str.join (PySem.Str.ofString "") (z :: r)).cps.toList := h
    rcases app_mem h2 with h3 | h3
    · rcases app_mem h3 with h4 | h4
      · exact hy y (by simp) c h4
      · have h5 : c ∈ ([] : List Nat) := by
          rw [show (PySem.Str.ofString "").cps.toList = [] by decide +kernel] at h4
          exact h4
        cases h5
    · exact join_mem (z :: r) (fun x hx => hy x (List.mem_cons_of_mem _ hx)) c h3
theorem ok_of_mem {z : Str} (h : ∀ c ∈ z.cps.toList, c < 0x110000) : PyData.strOk z = true := by
  show z.cps.all (fun c => decide (c < 0x110000)) = true
  rw [Array.all_eq_true_iff_forall_mem]
  intro c hc
  exact decide_eq_true (h c (Array.mem_toList_iff.mpr hc))
theorem small_ok : ∀ c ∈ SMALLs.cps.toList, c < 0x110000 := by decide +kernel
theorem cut_mem {z : Str} {lo hi : Option Int} {c : Nat} (h : c ∈ (cutS z lo hi).cps.toList) : c ∈ z.cps.toList := by
  have h2 : c ∈ (z.cps.toList.drop (HT.sIx z.length 0 lo)).take (HT.sIx z.length z.length hi - HT.sIx z.length 0 lo) := h
  exact List.mem_of_mem_drop (List.mem_of_mem_take h2)
theorem at_mem {z : Str} {i : Int} {c : Nat} (h : atI z.cps.toList i = some c) : c ∈ z.cps.toList := by
  obtain ⟨j, _, h2, _⟩ := atI_get h
  exact List.mem_of_getElem? h2
theorem join_len : ∀ ys : List Str, (∀ y ∈ ys, y.length = 1) → (Str.join (PySem.Str.ofString "") ys).length = ys.length
  | [], _ => rfl
  | [y], h => by
    show y.length = 1
    exact h y (by simp)
  | y :: z :: r, h => by
    show ((y ++ PySem.Str.ofString "") ++ Str.join (PySem.Str.ofString "") (z :: r)).length = _
    rw [app_len, app_len, join_len (z :: r) (fun x hx => h x (List.mem_cons_of_mem _ hx)), h y (by simp), s0]
    show 1 + 0 + (z :: r).length = (z :: r).length + 1
    omega
theorem sum_ones : ∀ ys : List Str, (∀ y ∈ ys, y.length = 1) → (ys.map (·.length)).sum = ys.length
  | [], _ => rfl
  | y :: r, h => by
    rw [List.map_cons, List.sum_cons, sum_ones r (fun x hx => h x (List.mem_cons_of_mem _ hx)), h y (by simp), List.length_cons]
    omega
theorem ok_Lname (T : Top w K mg) : FnOk P w K mg base CX0 2 T.a_Lname T.fd_Lname ["_law_pool_here"] (spText 1 8) := by
  have G_Ltake := ok_Ltake (P := P) (w := w) (base := base) T
  refine T.F_Lname.ok sc_Lname (fun vs H Q E h => ?_) (fun cdv A outer s H vs Q E hr h => ?_)
  · obtain ⟨p, rfl, _⟩ := h
    rfl
  · obtain ⟨p, rfl, hp, q⟩ := h
    refine ⟨_, (pss_cons (ps_set (i := 1) sc_Lname.nd rfl (.inr rfl) pe_str)
      (pss_one (ps_ret (pe_bm PySem.F.plainAttrs_str PySem.F.slot_str_join PySem.F.type_str_join mt_join pe_str (pa_cons (pe_lc (own := [("_law_k", 2)]) (g := gName 2) (by rfl) sc_Lname.nd (pi_range1 (by rfl) T.m_range (pa_cons (pe_op op_add pe_int (pe_call G_Ltake hr (by rfl) T.g_Ltake T.F_Ltake.kp T.b_Ltake .nil pass0 (pa_cons (pv 0) (pa_cons pe_int pa_nil)))) pa_nil)) (blkOk_by (own := [("_law_k", 2)]) (N := ["_law_pool_here", "_law_letters", "_law_k"]) (sc := defScope s_Lname) (by decide +kernel)) (fun _ _ _ _ _ => (pg_name (i := 2) sc_Lname.nd rfl (Or.inl rfl))) (fun _ _ _ _ _ => pts_nil) (fun _ _ _ _ _ => (pe_ix ix_str (pv 1) (pe_call G_Ltake hr (by rfl) T.g_Ltake T.F_Ltake.kp T.b_Ltake .nil pass0 (pa_cons (pv 0) (pa_cons pe_int pa_nil))) (fun _ _ => rfl)))) pa_nil))))), ?_⟩
    refine ⟨rfl, .ref p, rfl, p, 8, rfl, by decide, by decide, hp, fun H1 r b1 hp1 r0 r1 => ?_⟩
    have l26 : SMALLs.length = 26 := by decide +kernel
    refine ⟨_, _, rfl, rfl, 1 + r, rfl, by omega, by omega, fun D hD => lc_range (lo := 0) (n := (1 + r).toNat) (fun i H' => Pool H' p ∧ But p H H' ∧ ∃ ys : List Str, ys.length = i ∧ (∀ y ∈ ys, y.length = 1) ∧ (∀ y ∈ ys, ∀ c ∈ y.cps.toList, c ∈ SMALLs.cps.toList) ∧ H' D = some (.lst (ys.map V.str))) ⟨hp1.upd (hp1.ne_new hD), b1.mut (b1.free (hp1.ne_new hD) hD), [], rfl, (fun _ h => nomatch h), (fun _ h => nomatch h), upd_same⟩ ?_ ?_⟩
    · rintro i H2 hi ⟨hp2, b2, ys, hl, h1, hm, eD⟩
      have nD : D ≠ p := hp1.ne_new hD
      refine ⟨rfl, ?_⟩
      refine ⟨_, rfl, .ref p, rfl, p, 26, rfl, by decide, by decide, hp2, fun H3 k b3 hp3 k0 k1 => ?_⟩
      obtain ⟨c, hc⟩ := str_at (z := SMALLs) k0 (by rw [l26]; omega)
      refine ⟨_, k, c, rfl, rfl, by decide +kernel, hc, _, b3 _ _ nD eD, ?_, hp3.upd nD, (b2.trans b3).mut (b1.free nD hD), ys ++ [⟨#[c]⟩], ?_, ?_, ?_, ?_⟩
      · rw [List.length_map]
        exact small1000 (by omega)
      · rw [List.length_append, hl]
        rfl
      · intro y hy
        rcases List.mem_append.mp hy with h | h
        · exact h1 y h
        · rw [List.mem_singleton.mp h]
          rfl
      · intro y hy c2 hc2
        rcases List.mem_append.mp hy with h | h
        · exact hm y h c2 hc2
        · rw [List.mem_singleton.mp h] at hc2
          have h3 : c2 ∈ [c] := hc2
          rw [List.mem_singleton.mp h3]
          exact at_mem hc
      · rw [upd_same, List.map_append]
        rfl
    · rintro H2 ⟨hp2, b2, ys, hl, h1, hm, eD⟩
      have e := join_len ys h1
      refine ⟨_, D, ys, rfl, rfl, .inl (.inl (.inl eD)), ?_, ?_⟩
      · rw [sum_ones ys h1, s0]
        show ys.length + ys.length * 0 ≤ 16777216
        omega
      · rw [TL.join_eq]
        exact q H2 _ b2 hp2 (by omega) (by omega) (join_mem ys hm)
theorem up_gr : ∀ c ∈ SMALLs.cps.toList, (Txt.upper ⟨#[c]⟩).cps.toList = [c - 32] ∧ grC (c - 32) = true ∧ c - 32 < 0x110000 := by decide +kernel
theorem all_sm {cs : List Nat} (h : ∀ c ∈ cs, c ∈ SMALLs.cps.toList) : cs.all smC = true := List.all_eq_true.mpr fun c hc => decide_eq_true (h c hc)
theorem nm_of {z : Str} (h1 : 1 ≤ z.length) (h8 : z.length ≤ 8) (hm : ∀ c ∈ z.cps.toList, c ∈ SMALLs.cps.toList) : nmL z.cps.toList = true := by
  unfold nmL shL
  rw [all_sm hm, len_toList, decide_eq_true (show (1 : Int) ≤ (z.length : Int) by omega), decide_eq_true (show (z.length : Int) ≤ 8 by omega)]
  rfl
theorem cut1_tl (z : Str) (h : 1 ≤ z.length) : (cutS z (some 1) none).cps.toList = z.cps.toList.drop 1 := by
  show (z.cps.toList.drop (HT.sIx z.length 0 (some 1))).take (HT.sIx z.length z.length none - HT.sIx z.length 0 (some 1)) = _
  have e1 : HT.sIx z.length 0 (some 1) = 1 := by
    unfold HT.sIx
    simp
    omega
  have e2 : HT.sIx z.length z.length none = z.length := rfl
  rw [e1, e2]
  exact List.take_of_length_le (by rw [List.length_drop, len_toList]; exact Nat.le_refl _)
theorem lo_of {z : Str} {c : Nat} (h1 : 1 ≤ z.length) (h8 : z.length ≤ 8) (hm : ∀ c ∈ z.cps.toList, c ∈ SMALLs.cps.toList) (hc : c ∈ SMALLs.cps.toList) : (Txt.upper ⟨#[c]⟩ ++ cutS z (some 1) none).cps.toList = (c - 32) :: z.cps.toList.drop 1 ∧ loL ((c - 32) :: z.cps.toList.drop 1) = true := by
  obtain ⟨u1, u2, _⟩ := up_gr c hc
  refine ⟨?_, ?_⟩
  · show ((Txt.upper ⟨#[c]⟩).cps ++ (cutS z (some 1) none).cps).toList = _
    rw [Array.toList_append, u1, cut1_tl z h1]
    rfl
  · show (shL ((c - 32) :: z.cps.toList.drop 1) && (grC (c - 32) && (z.cps.toList.drop 1).all smC)) = true
    have l : ((c - 32) :: z.cps.toList.drop 1).length = z.length := by
      rw [List.length_cons, List.length_drop, len_toList]
      omega
    unfold shL
    rw [u2, all_sm (fun d hd => hm d (List.mem_of_mem_drop hd)), l, decide_eq_true (show (1 : Int) ≤ (z.length : Int) by omega), decide_eq_true (show (z.length : Int) ≤ 8 by omega)]
    rfl
/-- a sign that is drawn: lone, or as a name -/
def spSign : Sp := fun vs H Q _ => ∃ (p : Addr) (b : Bool), vs = [.ref p, .bl b] ∧ Pool H p ∧ ∀ H' (z : Str), But p H H' → Pool H' p → z.length ≤ 12 → (PyData.strOk z = true ∧ Ent.sgS z = true) → Q (.str z) H'
theorem ok_Lsign (T : Top w K mg) : FnOk P w K mg base CX0 3 T.a_Lsign T.fd_Lsign ["_law_pool_here", "_law_lone"] spSign := by
  have G_Lname := ok_Lname (P := P) (w := w) (base := base) T
  refine T.F_Lsign.ok sc_Lsign (fun vs H Q E h => ?_) (fun cdv A outer s H vs Q E hr h => ?_)
  · obtain ⟨p, b, rfl, _⟩ := h
    rfl
  · obtain ⟨p, b, rfl, hp, q⟩ := h
    refine ⟨_, (pss_cons (ps_set (i := 2) sc_Lsign.nd rfl (.inl rfl) (pe_call G_Lname hr (by rfl) T.g_Lname T.F_Lname.kp T.b_Lname .nil pass0 (pa_cons (pv 0) pa_nil)))
      (pss_cons (ps_if (pt_val (pv 1)) (pss_one (ps_ret (pe_op op_add_str (pe_bm0 PySem.F.plainAttrs_str PySem.F.slot_str_upper PySem.F.type_str_upper mt_upper (pe_ix ix_str (pv 2) pe_int (fun _ _ => rfl))) (pe_slice sl_str (pv 2) (po_some pe_int) po_none)))) pss_nil)
      (pss_one (ps_ret (pv 2))))), ?_⟩
    refine ⟨.ref p, rfl, p, rfl, hp, fun H1 z b1 hp1 z0 z1 zm => ?_⟩
    refine ⟨.bl b, rfl, b, rfl, ite2 (fun e => ?_) (fun e => ?_)⟩
    · obtain ⟨c, hc⟩ := str_at (z := z) (i := 0) (by decide) (by omega)
      have hu1 : (⟨#[c]⟩ : Str).length = 1 := rfl
      have hcut := cut_len z (some 1) none
      have cm := zm c (at_mem hc)
      obtain ⟨el, lo⟩ := lo_of (c := c) z0 z1 zm cm
      have hl : (Txt.upper ⟨#[c]⟩ ++ cutS z (some 1) none).length ≤ 12 := by
        rw [← len_toList, el, List.length_cons, List.length_drop, len_toList]
        omega
      refine ⟨.str z, rfl, z, 0, c, rfl, rfl, thou (by omega), hc, rfl, _, rfl, rfl, (by rw [hu1]; decide), .str z, rfl, 1, rfl, z, rfl, thou (by omega), _, _, rfl, rfl, ?_, ?_⟩
      · have h3 := app_len (Txt.upper ⟨#[c]⟩) (cutS z (some 1) none)
        exact thou (by omega)
      exact q H1 _ b1 hp1 hl ⟨ok_of_mem fun c2 h2 => by
        rw [el] at h2
        rcases List.mem_cons.mp h2 with h3 | h3
        · rw [h3]
          exact (up_gr c cm).2.2
        · exact small_ok c2 (zm c2 (List.mem_of_mem_drop h3)), by unfold Ent.sgS; rw [el, lo, Bool.or_true]⟩
    · exact ⟨.str z, rfl, q H1 z b1 hp1 (by omega) ⟨ok_of_mem fun c2 h2 => small_ok c2 (zm c2 h2), by unfold Ent.sgS; rw [nm_of z0 z1 zm]; rfl⟩⟩
/-! ### names, logs and boxes drawn -/
theorem pigeon {α : Type} [DecidableEq α] : ∀ (l found : List α), l.Nodup → (∀ x ∈ l, x ∈ found) → l.length ≤ found.length
  | [], _, _, _ => Nat.zero_le _
  | x :: r, found, nd, h => by
    have nd2 := List.nodup_cons.mp nd
    have hx := h x List.mem_cons_self
    have := pigeon r (found.erase x) nd2.2 (fun y hy => (List.mem_erase_of_ne (fun e => nd2.1 (by rw [← e]; exact hy))).mpr (h y (List.mem_cons_of_mem _ hy)))
    rw [List.length_erase_of_mem hx] at this
    have hp : 0 < found.length := List.length_pos_of_mem hx
    rw [List.length_cons]
    omega
def twelve : List Str := (PySem.Str.ofString "abcdefghijkl").cps.toList.map fun c => ⟨#[c]⟩
theorem twelve_nd : twelve.Nodup := by decide +kernel
theorem twelve_nm : ∀ z ∈ twelve, nmL z.cps.toList = true := by decide +kernel
theorem inV_str (z : Str) (zs : List Str) : inV (.str z) (zs.map V.str) = zs.any (fun y => y == z) := by
  unfold inV
  rw [List.any_map]
  rfl
theorem inV_mem {z : Str} {zs : List Str} : inV (.str z) (zs.map V.str) = true ↔ z ∈ zs := by
  rw [inV_str, List.any_eq_true]
  constructor
  · rintro ⟨y, hy, e⟩
    rw [← eq_of_beq e]
    exact hy
  · exact fun h => ⟨z, h, beq_self_eq_true z⟩
theorem flat_strsM (zs : List Str) : (zs.map V.str).all flatV = true := List.all_eq_true.mpr fun v hv => by
  obtain ⟨z, _, rfl⟩ := List.mem_map.mp hv
  rfl
theorem cut0_tl (z : Str) : (cutS z none (some 1)).cps.toList = z.cps.toList.take 1 := by
  show (z.cps.toList.drop (HT.sIx z.length 0 none)).take (HT.sIx z.length z.length (some 1) - HT.sIx z.length 0 none) = _
  have e1 : HT.sIx z.length 0 none = 0 := rfl
  rw [e1, List.drop_zero, Nat.sub_zero]
  have e2 : HT.sIx z.length z.length (some 1) = min 1 z.length := by
    unfold HT.sIx
    simp
  rw [e2]
  by_cases h : z.length = 0
  · have : z.cps.toList = [] := List.eq_nil_of_length_eq_zero (by rw [len_toList]; exact h)
    rw [this]
    simp
  · rw [show min 1 z.length = 1 by omega]
def spNames : Sp := fun vs H Q _ => ∃ (p : Addr) (m : Nat), vs = [.ref p, .int (m : Nat)] ∧ m ≤ 11 ∧ Pool H p ∧ ∀ H' L (zs : List Str), But p H H' → Pool H' p → H L = none → H' L = some (.lst (zs.map V.str)) → zs.length = m → zs.Nodup → (∀ z ∈ zs, nmL z.cps.toList = true) → Q (.ref L) H'
theorem ok_Lnames (T : Top w K mg) : FnOk P w K mg base CX0 3 T.a_Lnames T.fd_Lnames ["_law_pool_here", "_law_many"] spNames := by
  have G_Ltake := ok_Ltake (P := P) (w := w) (base := base) T
  have G_Lname := ok_Lname (P := P) (w := w) (base := base) T
  refine T.F_Lnames.ok sc_Lnames (fun vs H Q E h => ?_) (fun cdv A outer s H vs Q E hr h => ?_)
  · obtain ⟨p, m, rfl, _⟩ := h
    rfl
  · obtain ⟨p, m, rfl, hm, hp, q⟩ := h
    refine ⟨_, (pss_cons (ps_set (i := 2) sc_Lnames.nd rfl (.inr rfl) (pe_lst pa_nil))
      (pss_cons (ps_for PassesOwn.never rfl (pi_range1 (by rfl) T.m_range (pa_cons (pv 1) pa_nil)) (pg_name (i := 3) sc_Lnames.nd rfl (.inl rfl)) (pss_cons (ps_set (i := 4) sc_Lnames.nd rfl (.inl rfl) (pe_call G_Lname hr (by rfl) T.g_Lname T.F_Lname.kp T.b_Lname .nil pass0 (pa_cons (pv 0) pa_nil)))
      (Evl.pss_cut (ps_if (pt_cmpR op_eq (pe_call G_Ltake (hr.mono (by decide)) (by rfl) T.g_Ltake T.F_Ltake.kp T.b_Ltake .nil pass0 (pa_cons (pv 0) (pa_cons pe_int pa_nil))) pe_int (nomark _)) (pss_one (ps_set (i := 4) sc_Lnames.nd rfl (.inl rfl) (pe_slice sl_str (pv 4) po_none (po_some pe_int)))) pss_nil)
      (Evl.pss_cut (ps_if (pt_cmpR op_in_seq (pv 4) (pv 2) (by rfl)) (pss_one (ps_set (i := 4) sc_Lnames.nd rfl (.inl rfl) (pe_ix ix_list (pe_lc (own := [("_law_letter", 5)]) (g := gName 5) (by rfl) sc_Lnames.nd (pi_str pe_str) (blkOk_by (own := [("_law_letter", 5)]) (N := ["_law_pool_here", "_law_many", "_law_found", "_law_k", "_law_name_here", "_law_letter"]) (sc := defScope s_Lnames) (by decide +kernel)) (fun _ _ _ _ _ => (pg_name (i := 5) sc_Lnames.nd rfl (Or.inl rfl))) (fun _ _ _ _ _ => (pts_one (pt_cmpR (r := rIn K true) (SeqW.notIn_K rfl) (pv 5) (pv 2) (by rfl)))) (fun _ _ _ _ _ => (pv 5))) pe_int (fun _ _ => rfl)))) pss_nil)
      (pss_one (ps_expr (pe_bm PySem.F.plainAttrs_list PySem.F.slot_list_append PySem.F.type_list_append mt_append (pv 2) (pa_cons (pv 4) pa_nil))))))))
      (pss_one (ps_ret (pv 2))))), ?_⟩
    refine ⟨Nat.zero_le _, fun L nL => ?_⟩
    have nLp : L ≠ p := hp.ne_new nL
    have s0 := same_upd (o := .lst []) nL
    refine ⟨.int m, rfl, m, rfl, by omega, by omega, for_range (n := m) (fun i σ H' => But p H H' ∧ Pool H' p ∧ ∃ y3 y4 y5 zs, σ = [some (.ref p), some (.int (m : Nat)), some (.ref L), y3, y4, y5] ∧ H' L = some (.lst (zs.map V.str)) ∧ zs.length = i ∧ zs.Nodup ∧ (∀ z ∈ zs, nmL z.cps.toList = true)) ⟨But.of s0, hp.same s0, none, none, none, [], rfl, upd_same, rfl, .nil, (fun _ h => nomatch h)⟩ ?_ ?_⟩
    · rintro i σ H1 hi ⟨b1, hp1, y3, y4, y5, zs, rfl, eL, lz, nd, hz⟩
      refine ⟨.ref p, rfl, p, rfl, hp1, fun H2 z b2 hp2 z0 z1 zm => ?_⟩
      have eL2 := b2 _ _ nLp eL
      refine ⟨fun σ H' => But p H H' ∧ Pool H' p ∧ H' L = some (.lst (zs.map V.str)) ∧ ∃ y3 y5 z, σ = [some (.ref p), some (.int (m : Nat)), some (.ref L), y3, some (.str z), y5] ∧ nmL z.cps.toList = true, ?_, ?_⟩
      · refine ⟨.ref p, rfl, p, 3, rfl, by decide, by decide, hp2, fun H3 r b3 hp3 _ _ => ⟨rfl, _, rfl, ite2 (fun e => ?_) (fun e => ?_)⟩⟩
        · refine ⟨.str z, rfl, 1, rfl, z, rfl, thou (by omega), (b1.trans b2).trans b3, hp3, b3 _ _ nLp eL2, _, _, _, rfl, ?_⟩
          have l1 : (cutS z none (some 1)).cps.toList.length = 1 := by
            rw [cut0_tl, List.length_take, len_toList]
            omega
          rw [len_toList] at l1
          exact nm_of (by omega) (by omega) (fun c hc => zm c (by rw [cut0_tl] at hc; exact List.mem_of_mem_take hc))
        · exact ⟨(b1.trans b2).trans b3, hp3, b3 _ _ nLp eL2, _, _, z, rfl, nm_of z0 z1 zm⟩
      rintro σ H3 ⟨b3, hp3, eL3, y3, y5, z, rfl, hn⟩
      refine ⟨fun σ H' => But p H H' ∧ Pool H' p ∧ H' L = some (.lst (zs.map V.str)) ∧ ∃ y3 y5 z, σ = [some (.ref p), some (.int (m : Nat)), some (.ref L), y3, some (.str z), y5] ∧ nmL z.cps.toList = true ∧ z ∉ zs, ?_, ?_⟩
      · refine ⟨.str z, rfl, .ref L, rfl, L, _, rfl, .inl (.inl (.inl eL3)), rfl, flat_strsM zs, _, rfl, ite2 (fun e => ?_) (fun e => ?_)⟩
        · refine ⟨_, rfl, fun D hD => lc_it walk_str (fun i H' => Same H3 H' ∧ H' D = some (.lst (((twelve.take i).filter fun y => !(inV (.str y) (zs.map V.str))).map V.str))) ⟨same_upd hD, upd_same⟩ (fun _ _ _ _ => trivial) ?_ ?_⟩
          · rintro j v H4 H5 hj ⟨sm, eD⟩ ⟨rfl, c, hc, rfl⟩
            have ht : twelve[j]? = some ⟨#[c]⟩ := by
              unfold twelve
              rw [List.getElem?_map, Array.getElem?_toList, hc]
              rfl
            have tk : twelve.take (j + 1) = twelve.take j ++ [⟨#[c]⟩] := by rw [List.take_add_one, ht]; rfl
            refine ⟨rfl, _, rfl, .ref L, rfl, L, _, rfl, .inl (.inl (.inl (sm _ _ eL3))), rfl, flat_strsM zs, _, rfl, ite2 (fun e2 => ?_) (fun e2 => ?_)⟩
            · have e2 : (!(inV (.str ⟨#[c]⟩) (zs.map V.str))) = true := e2
              refine ⟨_, rfl, _, eD, ?_, ?_, ?_⟩
              · rw [List.length_map]
                have h1 := List.length_filter_le (fun y => !(inV (.str y) (zs.map V.str))) (twelve.take j)
                have h2 : (twelve.take j).length ≤ 12 := by
                  rw [List.length_take]
                  have : twelve.length = 12 := by decide +kernel
                  omega
                exact small1000 (by omega)
              · exact fun b' o e => by
                  rw [upd_ne (ne_of_none e hD)]
                  exact sm _ _ e
              · rw [upd_same, tk, List.filter_append, List.map_append, List.filter_cons, if_pos e2]
                rfl
            · have e2 : ¬ (!(inV (.str ⟨#[c]⟩) (zs.map V.str))) = true := e2
              refine ⟨sm, ?_⟩
              rw [tk, List.filter_append, List.filter_cons, if_neg e2, List.filter_nil, List.append_nil]
              exact eD
          · rintro H4 ⟨sm, eD⟩
            have l12 : (PySem.Str.ofString "abcdefghijkl").cps.size = 12 := by decide +kernel
            rw [l12, show twelve.take 12 = twelve from List.take_of_length_le (by decide +kernel)] at eD
            obtain ⟨x, xs, ex⟩ : ∃ x xs, (twelve.filter fun y => !(inV (.str y) (zs.map V.str))) = x :: xs := by
              cases ef : twelve.filter fun y => !(inV (.str y) (zs.map V.str)) with
              | cons x xs => exact ⟨x, xs, rfl⟩
              | nil =>
                have hall : ∀ y ∈ twelve, y ∈ zs := fun y hy => by
                  have := List.filter_eq_nil_iff.mp ef y hy
                  refine inV_mem.mp ?_
                  cases h : inV (.str y) (zs.map V.str) with
                  | true => rfl
                  | false => rw [h] at this; exact absurd rfl this
                have := pigeon twelve zs twelve_nd hall
                have t12 : twelve.length = 12 := by decide +kernel
                omega
            rw [ex] at eD
            have hxm : x ∈ twelve.filter fun y => !(inV (.str y) (zs.map V.str)) := by rw [ex]; exact List.mem_cons_self
            obtain ⟨hx1, hx2⟩ := List.mem_filter.mp hxm
            refine ⟨D, _, 0, _, rfl, rfl, .inl (.inl eD), atI_nat (j := 0) rfl, b3.trans (But.of sm), hp3.same sm, sm _ _ eL3, _, _, x, rfl, twelve_nm x hx1, fun hm => ?_⟩
            rw [inV_mem.mpr hm] at hx2
            cases hx2
        · exact ⟨b3, hp3, eL3, _, _, z, rfl, hn, fun hm => e (inV_mem.mpr hm)⟩
      rintro σ H4 ⟨b4, hp4, eL4, y3, y5, z, rfl, hn, hnew⟩
      refine ⟨.ref L, rfl, .inl ⟨rfl, _, .inl (.inl eL4)⟩, .str z, rfl, L, _, _, rfl, rfl, eL4, small1000 (by rw [List.length_map]; omega), b4.mut nL, hp4.upd nLp, _, _, _, zs ++ [z], rfl, ?_, ?_, ?_, ?_⟩
      · rw [upd_same, List.map_append]
        rfl
      · rw [List.length_append, lz]
        rfl
      · exact List.nodup_append.mpr ⟨nd, List.nodup_cons.mpr ⟨List.not_mem_nil, .nil⟩, fun a ha b hb e => hnew (by rw [← List.mem_singleton.mp hb, ← e]; exact ha)⟩
      · intro y hy
        rcases List.mem_append.mp hy with h | h
        · exact hz y h
        · rw [List.mem_singleton.mp h]
          exact hn
    · rintro σ H1 ⟨b1, hp1, y3, y4, y5, zs, rfl, eL, lz, nd, hz⟩
      exact ⟨.ref L, rfl, q H1 L zs b1 hp1 nL eL lz nd hz⟩
--@@SPLIT
/-! ### logs that are right, held -/
theorem ws_gp : ∀ i : Fin 10, gp (.str (ws i)) = true := by decide +kernel
theorem seq_entD {d : PyData} {e : Ent} (h : seqD d = some e.parts) (ok : e.ok) : entD d = true := by
  unfold entD
  rw [h]
  exact ent_L ok
theorem parts_gp {e : Ent} (ok : e.ok) : ∀ d ∈ e.parts, gp d = true := by
  intro d hd
  rcases List.mem_cons.mp hd with hd | hd
  · rw [hd]
    have : ∀ i : Fin 10, gp (.str (ws i)) = true := by decide +kernel
    exact this _
  have sg : ∀ {z : Str}, (z.length ≤ 12 ∧ PyData.strOk z = true ∧ Ent.sgS z = true) → gp (.str z) = true := fun h => decide_eq_true (by have := h.1; omega)
  have lt : ∀ l : Fin 4, gp (.str (Lt l)) = true := by decide +kernel
  cases e with
  | face l => rw [List.mem_singleton.mp hd]; exact lt l
  | go n => rw [List.mem_singleton.mp hd]; rfl
  | sign z => rw [List.mem_singleton.mp hd]; exact sg ok
  | spy n z =>
    rcases List.mem_cons.mp hd with hd | hd
    · rw [hd]; rfl
    · rw [List.mem_singleton.mp hd]; exact sg ok
  | turn q => cases hd
  | bump => cases hd
  | bare => cases hd
  | swap => cases hd
theorem plen3 (e : Ent) : e.parts.length ≤ 3 := by
  cases e with
  | face l => exact (show 2 ≤ 3 by decide)
  | turn q => exact (show 1 ≤ 3 by decide)
  | go n => exact (show 2 ≤ 3 by decide)
  | bump => exact (show 1 ≤ 3 by decide)
  | sign z => exact (show 2 ≤ 3 by decide)
  | bare => exact (show 1 ≤ 3 by decide)
  | spy n z => exact (show 3 ≤ 3 by decide)
  | swap => exact (show 1 ≤ 3 by decide)
theorem seq_ge {d : PyData} {e : Ent} (h : seqD d = some e.parts) (ok : e.ok) : ge d = true := by
  unfold ge
  rw [h]
  refine Bool.and_eq_true_iff.mpr ⟨decide_eq_true (by have := plen3 e; omega), List.all_eq_true.mpr (parts_gp ok)⟩
/-- the i-th entry as data -/
theorem Rows.dp_at {K : PySem.W.Frag} {H : Hp} {xs : List V} {es : List Ent} (h : Rows K H xs es) {i : Nat} {v : V} (hv : xs[i]? = some v) : ∃ e d, es[i]? = some e ∧ Dp K H v d ∧ seqD d = some e.parts := by
  obtain ⟨ds, h1, h2⟩ := h
  obtain ⟨d, fd, gd⟩ := dpa_at ds xs h1 i v hv
  have e1 : (ds.map seqD)[i]? = some (seqD d) := by rw [List.getElem?_map, fd]; rfl
  rw [h2, List.getElem?_map] at e1
  cases e2 : es[i]? with
  | none => rw [e2] at e1; cases e1
  | some e =>
    rw [e2] at e1
    exact ⟨e, d, rfl, gd, (Option.some.inj e1).symm⟩
theorem need_iff : ∀ i : Fin 10, inV (.str (ws i)) (wFace.map V.str) = decide (i = 1 ∨ i = 2 ∨ i = 3 ∨ i = 4 ∨ i = 5 ∨ i = 8) := by decide +kernel
theorem need_kind (e : Ent) : decide (e.kind = 1 ∨ e.kind = 2 ∨ e.kind = 3 ∨ e.kind = 4 ∨ e.kind = 5 ∨ e.kind = 8) = e.need := by
  cases e with
  | turn q =>
    have : ∀ q : Fin 3, decide ((Ent.turn q).kind = 1 ∨ (Ent.turn q).kind = 2 ∨ (Ent.turn q).kind = 3 ∨ (Ent.turn q).kind = 4 ∨ (Ent.turn q).kind = 5 ∨ (Ent.turn q).kind = 8) = true := by decide
    exact this q
  | _ => rfl
theorem faceW (e : Ent) : decide (V.str (ws e.kind) = V.str (PySem.Str.ofString "face")) = e.isFace := (wsd e.kind 0).trans e.face_iff.symm
/-! ### rows of walkers: names and logs -/
abbrev Row := Str × List Ent
def ltN (a b : Str) : Prop := a.cps.toList < b.cps.toList
/-- rising by names -/
def Srt (rs : List Row) : Prop := rs.Pairwise fun a b => ltN a.1 b.1
def nms (rs : List Row) : List Str := rs.map (·.1)
def logD (r : Row) : PyData := .tuple (r.2.map Ent.tup)
structure RowOk (r : Row) : Prop where
  nm : nmL r.1.cps.toList = true
  ok : ∀ e ∈ r.2, e.ok
  right : Right r.2
  len : r.2.length ≤ 100
theorem srt_uniq {a b : List Row} (h : a.Perm b) (ha : Srt a) (hb : Srt b) : a = b :=
  h.eq_of_pairwise (fun x y _ _ h1 h2 => absurd (List.lt_trans h1 h2) (List.lt_irrefl _)) ha hb
theorem perm_lift {α β : Type} {f : α → β} : ∀ {ys : List β} {rs : List α}, ys.Perm (rs.map f) → ∃ rs' : List α, rs'.Perm rs ∧ rs'.map f = ys
  | [], rs, h => by
    have e : rs.map f = [] := h.symm.eq_nil
    have e2 : rs = [] := List.map_eq_nil_iff.mp e
    exact ⟨[], by rw [e2], rfl⟩
  | y :: ys, rs, h => by
    obtain ⟨r, hr, rfl⟩ := List.mem_map.mp (h.mem_iff.mp List.mem_cons_self)
    obtain ⟨s, t, rfl⟩ := List.append_of_mem hr
    have h2 : ys.Perm ((s ++ t).map f) := by
      have e : ((s ++ r :: t).map f).Perm (f r :: (s ++ t).map f) := (List.perm_middle (a := r) (l₁ := s) (l₂ := t)).map f
      exact (h.trans e).cons_inv
    obtain ⟨rs', p, e⟩ := perm_lift h2
    exact ⟨r :: rs', (p.cons r).trans List.perm_middle.symm, by rw [List.map_cons, e]⟩
theorem le_of_rising : ∀ (p : Str) (r : List Str), risingS p r = true → ∀ x ∈ r, ¬ x.cps.toList < p.cps.toList
  | _, [], _, _, h => nomatch h
  | p, x :: r, h, y, hy => by
    obtain ⟨h1, h2⟩ := Bool.and_eq_true_iff.mp h
    have h1 : ¬ x.cps.toList < p.cps.toList := fun z => by
      rw [ltCps_eq, decide_eq_true z] at h1
      cases h1
    rcases List.mem_cons.mp hy with e | hy
    · rw [e]
      exact h1
    · have h3 := le_of_rising x r h2 y hy
      exact List.not_lt.mpr (List.le_trans (List.not_lt.mp h1) (List.not_lt.mp h3))
theorem sortedS_pw : ∀ l : List Str, sortedS l = true → l.Pairwise fun a b => ¬ b.cps.toList < a.cps.toList
  | [], _ => .nil
  | x :: r, h => by
    refine .cons (fun y hy => le_of_rising x r h y hy) ?_
    cases r with
    | nil => exact .nil
    | cons z t => exact sortedS_pw (z :: t) (Bool.and_eq_true_iff.mp h).2
theorem str_inj {a b : Str} (h : a.cps.toList = b.cps.toList) : a = b := by
  cases a with
  | mk x =>
    cases b with
    | mk y =>
      congr 1
      exact Array.toList_inj.mp h
/-- no name twice, none falling: rising -/
theorem srt_of {rs : List Row} (nd : (nms rs).Nodup) (h : (nms rs).Pairwise fun a b => ¬ b.cps.toList < a.cps.toList) : Srt rs := by
  have h1 : rs.Pairwise fun a b => a.1 ≠ b.1 := List.pairwise_map.mp nd
  have h2 : rs.Pairwise fun a b => ¬ b.1.cps.toList < a.1.cps.toList := List.pairwise_map.mp h
  refine (h1.and h2).imp fun {a b} z => ?_
  refine Classical.byContradiction fun l => z.1 (str_inj (List.le_antisymm (List.not_lt.mp z.2) (List.not_lt.mp l)))
theorem Srt.nodup {rs : List Row} (h : Srt rs) : (nms rs).Nodup := by
  refine List.pairwise_map.mpr (h.imp fun {a b} z e => ?_)
  unfold ltN at z
  rw [e] at z
  exact List.lt_irrefl _ z
/-- the dict of names and logs -/
def kvsOf : List Row → List V → List (Key × V)
  | r :: rs, v :: vs => (Sum.inr r.1, v) :: kvsOf rs vs
  | _, _ => []
theorem kvs_keys : ∀ (rs : List Row) (vs : List V), vs.length = rs.length → (kvsOf rs vs).map (·.1) = (nms rs).map Sum.inr
  | [], _, _ => rfl
  | r :: rs, v :: vs, h => by
    show Sum.inr r.1 :: (kvsOf rs vs).map (·.1) = Sum.inr r.1 :: (nms rs).map Sum.inr
    rw [kvs_keys rs vs (Nat.succ.inj h)]
  | r :: rs, [], h => by cases h
theorem kvs_snoc : ∀ (rs : List Row) (vs : List V) (r : Row) (v : V), vs.length = rs.length → kvsOf (rs ++ [r]) (vs ++ [v]) = kvsOf rs vs ++ [(Sum.inr r.1, v)]
  | [], [], r, v, _ => rfl
  | q :: rs, u :: vs, r, v, h => by
    show (Sum.inr q.1, u) :: kvsOf (rs ++ [r]) (vs ++ [v]) = (Sum.inr q.1, u) :: (kvsOf rs vs ++ [(Sum.inr r.1, v)])
    rw [kvs_snoc rs vs r v (Nat.succ.inj h)]
  | [], _ :: _, _, _, h => by cases h
  | _ :: _, [], _, _, h => by cases h
theorem kvs_none : ∀ (rs : List Row) (vs : List V) (z : Str), z ∉ nms rs → valV (kvsOf rs vs) (Sum.inr z : Key) = none
  | [], _, _, _ => rfl
  | r :: rs, [], _, _ => rfl
  | r :: rs, v :: vs, z, h => by
    have h1 : ¬ ((Sum.inr r.1 : Key) = Sum.inr z) := fun e => h (List.mem_cons.mpr (.inl (Sum.inr.inj e).symm))
    exact (valV_neg (p := ((Sum.inr r.1 : Key), v)) h1).trans (kvs_none rs vs z fun m => h (List.mem_cons_of_mem _ m))
theorem kvs_some : ∀ (rs : List Row) (vs : List V) (m : Nat) (r : Row) (v : V), (nms rs).Nodup → rs[m]? = some r → vs[m]? = some v → valV (kvsOf rs vs) (Sum.inr r.1 : Key) = some v
  | [], _, _, _, _, _, h, _ => by cases h
  | q :: rs, [], _, _, _, _, _, h => by cases h
  | q :: rs, u :: vs, 0, r, v, _, h1, h2 => by
    cases h1
    cases h2
    exact valV_pos rfl
  | q :: rs, u :: vs, m + 1, r, v, nd, h1, h2 => by
    have nd2 := List.nodup_cons.mp (show (q.1 :: nms rs).Nodup from nd)
    have hr : r.1 ∈ nms rs := List.mem_map.mpr ⟨r, List.mem_of_getElem? h1, rfl⟩
    have h3 : ¬ ((Sum.inr q.1 : Key) = Sum.inr r.1) := fun e => nd2.1 (by rw [Sum.inr.inj e]; exact hr)
    exact (valV_neg (p := ((Sum.inr q.1 : Key), u)) h3).trans (kvs_some rs vs m r v nd2.2 h1 h2)
theorem kvs_len : ∀ (rs : List Row) (vs : List V), (kvsOf rs vs).length ≤ rs.length
  | [], _ => Nat.zero_le _
  | _ :: _, [] => Nat.zero_le _
  | _ :: rs, _ :: vs => Nat.succ_le_succ (kvs_len rs vs)
/-! ### an atlas -/
def flds (b n l : Addr) : List (Str × V) := putF "logs" (.ref l) (putF "names" (.ref n) (putF "box" (.ref b) []))
theorem fl_nl : ¬ (("names" : Str) = "logs") := by decide +kernel
theorem fl_bl : ¬ (("box" : Str) = "logs") := by decide +kernel
theorem fl_bn : ¬ (("box" : Str) = "names") := by decide +kernel
theorem fl_box (b n l : Addr) : (flds b n l).lookup ("box" : Str) = some (.ref b) := by
  unfold flds
  rw [lookup_putF, if_neg fl_bl, lookup_putF, if_neg fl_bn, lookup_putF, if_pos rfl]
theorem fl_names (b n l : Addr) : (flds b n l).lookup ("names" : Str) = some (.ref n) := by
  unfold flds
  rw [lookup_putF, if_neg fl_nl, lookup_putF, if_pos rfl]
theorem fl_logs (b n l : Addr) : (flds b n l).lookup ("logs" : Str) = some (.ref l) := by
  unfold flds
  rw [lookup_putF, if_pos rfl]
theorem fl_no (b n l : Addr) {m : Str} (h1 : ¬ m = "logs") (h2 : ¬ m = "names") (h3 : ¬ m = "box") : (flds b n l).lookup m = none := by
  unfold flds
  rw [lookup_putF, if_neg h1, lookup_putF, if_neg h2, lookup_putF, if_neg h3]
  rfl
def boxV (box : List Nat) : List V := box.map fun n => V.int (n : Nat)
def namV (rs : List Row) : List V := (nms rs).map V.str
def AtlasAt (K : PySem.W.Frag) (C : Addr) (H : Hp) (p : Addr) (box : List Nat) (rs : List Row) : Prop :=
  ∃ dx b n l ls on, OwnI.PlainT on ∧ H p = some (.ins C dx (flds b n l)) ∧ SqT K H b (boxV box) ∧ H n = some (.frz on (.tup (namV rs))) ∧ SqT K H l ls ∧ DpAll K H ls (rs.map logD)
theorem AtlasAt.same {K : PySem.W.Frag} {C : Addr} {H H' : Hp} {p : Addr} {box : List Nat} {rs : List Row} (h : AtlasAt K C H p box rs) (s : Same H H') : AtlasAt K C H' p box rs := by
  obtain ⟨dx, b, n, l, ls, on, po, h1, h2, h3, h4, h5⟩ := h
  exact ⟨dx, b, n, l, ls, on, po, s _ _ h1, sqt_same s h2, s _ _ h3, sqt_same s h4, dpa_same s _ _ h5⟩
/-- tuples and instances as they were, whatever became of lists -/
def keepO : HO → Bool
  | .lst _ => false
  | .dK _ => false
  | _ => true
def Kp (H H' : Hp) : Prop := ∀ b o, keepO o = true → H b = some o → H' b = some o
theorem Kp.of {H H' : Hp} (s : Same H H') : Kp H H' := fun b o _ h => s b o h
theorem Kp.trans {H H1 H2 : Hp} (a : Kp H H1) (b : Kp H1 H2) : Kp H H2 := fun c o z h => b c o z (a c o z h)
theorem Kp.upd {H : Hp} {a : Addr} {o u : HO} (e : H a = some u) (n : keepO u = false) : Kp H (L2.upd H a o) := fun b v z h => by
  rw [upd_ne (fun y => by rw [y, e] at h; cases h; rw [n] at z; cases z)]
  exact h
theorem Kp.but {H H' : Hp} {p : Addr} (hp : Pool H p) (b : But p H H') : Kp H H' := fun c o z h => by
  refine b c o (fun e => ?_) h
  obtain ⟨l, x, k, n, _, h1⟩ := hp
  rw [e, h1] at h
  cases h
  cases z
/-- tuples as they were -/
def tpO : HO → Bool
  | .tup _ => true
  | .frz _ _ => true
  | _ => false
def Tp (H H' : Hp) : Prop := ∀ b o, tpO o = true → H b = some o → H' b = some o
theorem Kp.tp {H H' : Hp} (k : Kp H H') : Tp H H' := fun b o z h => k b o (by cases o <;> first | rfl | cases z) h
theorem Tp.wo {H : Hp} {X : Addr → Prop} (h : ∀ b o, X b → H b = some o → tpO o = false) : Tp H (M.wo H X) := fun b o z e => by
  rw [wo_in (X := X) (fun x => by rw [h b o x e] at z; cases z)]
  exact e
theorem sqt_kp {K : PySem.W.Frag} {H H' : Hp} {a : Addr} {xs : List V} (e : Tp H H') (h : SqT K H a xs) : SqT K H' a xs := by
  rcases h with (h | ⟨o, h⟩) | h
  · exact .inl (.inl (e _ _ rfl h))
  · exact .inl (.inr ⟨o, e _ _ rfl h⟩)
  · exact .inr h
theorem dpa_kpA {K : PySem.W.Frag} {H H' : Hp} {P : PyData → Prop} (f : ∀ d v, P d → Dp K H v d → Dp K H' v d) : ∀ (ds : List PyData) (vs : List V), (∀ d ∈ ds, P d) → DpAll K H vs ds → DpAll K H' vs ds
  | [], _, _, h => by cases h; exact .nil
  | d :: ds, _, hp, h => by
    cases h with
    | cons h1 h2 => exact .cons (f d _ (hp d List.mem_cons_self) h1) (dpa_kpA f ds _ (fun x hx => hp x (List.mem_cons_of_mem _ hx)) h2)
theorem dp_kp {K : PySem.W.Frag} {H H' : Hp} (e : Tp H H') : ∀ (n : Nat) (d : PyData) (v : V), okD n d = true → Dp K H v d → Dp K H' v d
  | n, .none, _, _, h => by cases h; exact .non
  | n, .bool b, _, _, h => by cases h; exact .bl b
  | n, .int i, _, _, h => by cases h; exact .int i
  | n, .str x, _, _, h => by cases h; exact .str x
  | 0, .list ds, _, o, _ => by cases o
  | n + 1, .list ds, _, o, _ => by cases o
  | 0, .tuple ds, _, o, _ => by cases o
  | n + 1, .tuple ds, _, o, h => by
    cases h with
    | tup hs ha =>
      have o2 := (Bool.and_eq_true_iff.mp (show (decide (ds.length ≤ 1000) && ds.all fun d => okD n d) = true from o)).2
      exact .tup (sqt_kp e hs) (dpa_kpA (P := fun d => okD n d = true) (fun d v o h => dp_kp e n d v o h) ds _ (fun d hd => List.all_eq_true.mp o2 d hd) ha)
  | 0, .dict ds, _, o, _ => by cases o
  | n + 1, .dict ds, _, o, _ => by cases o
theorem part_ok0 {e : Ent} : ∀ d ∈ e.parts, okD 0 d = true := by
  intro d hd
  rcases List.mem_cons.mp hd with hd | hd
  · rw [hd]; rfl
  cases e with
  | face l => rw [List.mem_singleton.mp hd]; rfl
  | go n => rw [List.mem_singleton.mp hd]; rfl
  | sign z => rw [List.mem_singleton.mp hd]; rfl
  | spy n z =>
    rcases List.mem_cons.mp hd with hd | hd
    · rw [hd]; rfl
    · rw [List.mem_singleton.mp hd]; rfl
  | turn q => cases hd
  | bump => cases hd
  | bare => cases hd
  | swap => cases hd
theorem ent_okT (e : Ent) : okD 1 e.tup = true := Bool.and_eq_true_iff.mpr ⟨decide_eq_true (by have := plen3 e; omega), List.all_eq_true.mpr part_ok0⟩
theorem log_okD {r : Row} (h : r.2.length ≤ 1000) : okD 2 (logD r) = true := by
  refine Bool.and_eq_true_iff.mpr ⟨decide_eq_true (by rw [List.length_map]; exact h), List.all_eq_true.mpr fun d hd => ?_⟩
  obtain ⟨e, _, rfl⟩ := List.mem_map.mp hd
  exact ent_okT e
theorem AtlasAt.kp {K : PySem.W.Frag} {C : Addr} {H H' : Hp} {p : Addr} {box : List Nat} {rs : List Row} (h : AtlasAt K C H p box rs) (hr : ∀ r ∈ rs, r.2.length ≤ 1000) (s : Kp H H') : AtlasAt K C H' p box rs := by
  obtain ⟨dx, b, n, l, ls, on, po, h1, h2, h3, h4, h5⟩ := h
  refine ⟨dx, b, n, l, ls, on, po, s _ _ rfl h1, sqt_kp s.tp h2, s _ _ rfl h3, sqt_kp s.tp h4, dpa_kpA (P := fun d => okD 2 d = true) (fun d v o h => dp_kp s.tp 2 d v o h) _ _ (fun d hd => ?_) h5⟩
  obtain ⟨r, hr2, rfl⟩ := List.mem_map.mp hd
  exact log_okD (hr r hr2)
/-! ### what is told to be an entry is one; what is told to be a log is one -/
theorem eqS_isS {a : PyData} {s : Str} (h : eqS a s = true) : a = .str s := by
  cases a with
  | str z => rw [eq_of_beq (show (s == z) = true from h)]
  | _ => cases h
theorem inW_isS {a : PyData} {l : List Str} (h : inW a l = true) : ∃ s ∈ l, a = .str s := by
  obtain ⟨s, hs, e⟩ := List.any_eq_true.mp h
  exact ⟨s, hs, eqS_isS e⟩
theorem let_of {d : PyData} (h : letD d = true) : ∃ l : Fin 4, d = .str (Lt l) := by
  obtain ⟨s, hs, rfl⟩ := inW_isS h
  simp only [lets, List.mem_cons, List.not_mem_nil, or_false] at hs
  rcases hs with rfl | rfl | rfl | rfl
  · exact ⟨0, congrArg PyData.str (by decide +kernel)⟩
  · exact ⟨1, congrArg PyData.str (by decide +kernel)⟩
  · exact ⟨2, congrArg PyData.str (by decide +kernel)⟩
  · exact ⟨3, congrArg PyData.str (by decide +kernel)⟩
theorem many_of {d : PyData} (h : manyD d = true) : ∃ n : Fin 9, d = .int ((n.val : Int) + 1) := by
  cases d with
  | int i =>
    obtain ⟨h1, h2⟩ := Bool.and_eq_true_iff.mp (show (decide (1 ≤ i) && decide (i ≤ 9)) = true from h)
    have h1 := of_decide_eq_true h1
    have h2 := of_decide_eq_true h2
    exact ⟨⟨(i - 1).toNat, by omega⟩, by show PyData.int i = .int (((i - 1).toNat : Int) + 1); congr 1; omega⟩
  | _ => cases h
theorem great_ok : ∀ c ∈ GREATs.cps.toList, c < 0x110000 := by decide +kernel
theorem sgS_ok {z : Str} (h : Ent.sgS z = true) : z.length ≤ 12 ∧ PyData.strOk z = true ∧ Ent.sgS z = true := by
  have sh : ∀ {cs : List Nat}, shL cs = true → cs.length ≤ 8 := fun h => by
    have := of_decide_eq_true (Bool.and_eq_true_iff.mp h).2
    omega
  rcases Bool.or_eq_true_iff.mp (show (nmL z.cps.toList || loL z.cps.toList) = true from h) with n | l
  · obtain ⟨h1, h2⟩ := Bool.and_eq_true_iff.mp (show (shL z.cps.toList && z.cps.toList.all smC) = true from n)
    have := sh h1
    rw [len_toList] at this
    exact ⟨by omega, ok_of_mem fun c hc => small_ok c (of_decide_eq_true (List.all_eq_true.mp h2 c hc)), h⟩
  · have hz : ∀ cs : List Nat, loL cs = true → cs.length ≤ 8 ∧ ∀ c ∈ cs, c < 0x110000 := fun cs l => by
      cases cs with
      | nil => cases l
      | cons c r =>
        obtain ⟨h1, h2⟩ := Bool.and_eq_true_iff.mp (show (shL (c :: r) && (grC c && r.all smC)) = true from l)
        obtain ⟨h3, h4⟩ := Bool.and_eq_true_iff.mp h2
        refine ⟨sh h1, fun x hx => ?_⟩
        rcases List.mem_cons.mp hx with e | hx
        · rw [e]; exact great_ok c (of_decide_eq_true h3)
        · exact small_ok x (of_decide_eq_true (List.all_eq_true.mp h4 x hx))
    obtain ⟨h1, h2⟩ := hz _ l
    rw [len_toList] at h1
    exact ⟨by omega, ok_of_mem h2, h⟩
theorem sg_of {d : PyData} (h : sgD d = true) : ∃ z, d = .str z ∧ z.length ≤ 12 ∧ PyData.strOk z = true ∧ Ent.sgS z = true := by
  cases d with
  | str z => exact ⟨z, rfl, sgS_ok h⟩
  | _ => cases h
theorem ent_of {d : PyData} (h : entD d = true) : ∃ e : Ent, seqD d = some e.parts ∧ e.ok := by
  obtain ⟨a, r, e⟩ := ent_seq h
  unfold entD at h
  rw [e] at h
  rw [e]
  match r, h with
  | [], h =>
    obtain ⟨s, hs, rfl⟩ := inW_isS (show inW a wAlone = true from h)
    simp only [wAlone, List.mem_cons, List.not_mem_nil, or_false] at hs
    rcases hs with rfl | rfl | rfl | rfl | rfl | rfl
    · exact ⟨.turn 0, rfl, trivial⟩
    · exact ⟨.turn 1, rfl, trivial⟩
    · exact ⟨.turn 2, rfl, trivial⟩
    · exact ⟨.bump, rfl, trivial⟩
    · exact ⟨.bare, rfl, trivial⟩
    · exact ⟨.swap, rfl, trivial⟩
  | [b], h =>
    have h : (if eqS a "face" = true then letD b else if eqS a "go" = true then manyD b else eqS a "sign" && sgD b) = true := h
    by_cases h1 : eqS a "face" = true
    · rw [if_pos h1] at h
      obtain ⟨l, rfl⟩ := let_of h
      exact ⟨.face l, by rw [eqS_isS h1]; rfl, trivial⟩
    · rw [if_neg h1] at h
      by_cases h2 : eqS a "go" = true
      · rw [if_pos h2] at h
        obtain ⟨n, rfl⟩ := many_of h
        exact ⟨.go n, by rw [eqS_isS h2]; rfl, trivial⟩
      · rw [if_neg h2] at h
        obtain ⟨h3, h4⟩ := Bool.and_eq_true_iff.mp h
        obtain ⟨z, rfl, ok⟩ := sg_of h4
        exact ⟨.sign z, by rw [eqS_isS h3]; rfl, ok⟩
  | [b, c], h =>
    have h : (eqS a "spy" && (manyD b && sgD c)) = true := h
    obtain ⟨h1, h2⟩ := Bool.and_eq_true_iff.mp h
    obtain ⟨h3, h4⟩ := Bool.and_eq_true_iff.mp h2
    obtain ⟨n, rfl⟩ := many_of h3
    obtain ⟨z, rfl, ok⟩ := sg_of h4
    exact ⟨.spy n z, by rw [eqS_isS h1]; rfl, ok⟩
  | _ :: _ :: _ :: _, h => cases h
theorem ent_fc {d : PyData} {e : Ent} (h : seqD d = some e.parts) : fcD d = e.isFace ∧ ndD d = e.need := by
  have hd : headD d = .str (ws e.kind) := by unfold headD; rw [h]; rfl
  unfold fcD ndD
  rw [hd]
  have f : ∀ k : Fin 10, eqS (.str (ws k)) "face" = decide (k = 0) ∧ inW (.str (ws k)) wFace = decide (k = 1 ∨ k = 2 ∨ k = 3 ∨ k = 4 ∨ k = 5 ∨ k = 8) := by decide +kernel
  rw [(f e.kind).1, (f e.kind).2]
  cases e with
  | turn q => match q with
    | 0 => exact ⟨rfl, rfl⟩
    | 1 => exact ⟨rfl, rfl⟩
    | 2 => exact ⟨rfl, rfl⟩
  | _ => exact ⟨rfl, rfl⟩
theorem log_of : ∀ (ds : List PyData) (f : Bool) (i : Nat), badAt f i ds = none → ∃ es : List Ent, ds.map tupD = es.map Ent.tup ∧ (∀ e ∈ es, e.ok) ∧ ∀ (j : Nat) (e : Ent), es[j]? = some e → e.need = true → (f || (es.take j).any Ent.isFace) = true
  | [], _, _, _ => ⟨[], rfl, (fun _ h => by cases h), fun j e h => by cases h⟩
  | d :: ds, f, i, h => by
    by_cases h1 : entD d = false
    · rw [badAt, if_pos h1] at h; cases h
    rw [badAt, if_neg h1] at h
    by_cases h2 : (ndD d && !f) = true
    · rw [if_pos h2] at h; cases h
    rw [if_neg h2] at h
    obtain ⟨e, he, ok⟩ := ent_of (by cases x : entD d with | true => rfl | false => exact absurd x h1)
    obtain ⟨es, h3, h4, h5⟩ := log_of ds _ _ h
    obtain ⟨fe, ne⟩ := ent_fc he
    refine ⟨e :: es, by rw [List.map_cons, List.map_cons, h3, tup_eq he]; rfl, fun x hx => ?_, fun j x hj hn => ?_⟩
    · rcases List.mem_cons.mp hx with rfl | hx
      · exact ok
      · exact h4 x hx
    · match j, hj with
      | 0, hj =>
        cases hj
        rw [ne, hn] at h2
        cases f with
        | true => rfl
        | false => exact absurd rfl h2
      | j + 1, hj =>
        have := h5 j x hj hn
        rw [List.take_succ_cons, List.any_cons]
        rw [fe] at this
        cases f with
        | true => rfl
        | false => exact this
theorem log_ents {ds : List PyData} (h : badAt false 0 ds = none) : ∃ es : List Ent, ds.map tupD = es.map Ent.tup ∧ (∀ e ∈ es, e.ok) ∧ Right es := by
  obtain ⟨es, h1, h2, h3⟩ := log_of ds false 0 h
  exact ⟨es, h1, h2, fun j e he hn => h3 j e he hn⟩
/-- a box that is told to be one -/
theorem box_ints : ∀ (ds : List PyData) (i : Nat), badB i ds = none → ∃ box : List Nat, ds = box.map fun n => PyData.int (n : Nat)
  | [], _, _ => ⟨[], rfl⟩
  | d :: ds, i, h => by
    by_cases h1 : okB d = true
    · rw [badB, if_pos h1] at h
      obtain ⟨box, e⟩ := box_ints ds _ h
      cases d with
      | int k =>
        have := of_decide_eq_true (show decide (0 ≤ k) = true from h1)
        exact ⟨k.toNat :: box, by rw [List.map_cons, ← e, Int.toNat_of_nonneg this]⟩
      | _ => cases h1
    · rw [badB, if_neg h1] at h; cases h
theorem box_of {ds : List PyData} (h : boxR ds = none) : ∃ box : List Nat, ds = (box.map fun n => PyData.int (n : Nat)) ∧ box.length = 8 := by
  unfold boxR at h
  by_cases h8 : ds.length = 8
  · rw [if_pos h8] at h
    obtain ⟨box, e⟩ := box_ints ds 0 h
    exact ⟨box, e, by rw [e, List.length_map] at h8; exact h8⟩
  · rw [if_neg h8] at h; cases h
theorem box_vals {K : PySem.W.Frag} {H : Hp} : ∀ {box : List Nat} {xs : List V}, DpAll K H xs (box.map fun n => PyData.int (n : Nat)) → xs = boxV box
  | [], _, h => by cases h; rfl
  | n :: r, _, h => by
    cases h with
    | cons h1 h2 => cases h1; rw [box_vals h2]; rfl
--@@SPLIT
theorem seqs_of {H H' : Hp} {x C dx : Addr} {fs : List (Str × V)} (hx : H x = some (.ins C dx fs)) (b : But x H H') : Seqs H H' := fun c o z h => b c o (fun e => by rw [e, hx] at h; cases h; cases z) h
/-! ### an atlas is made, or refused -/
section
variable {ns : List Str} {d : PyData} {z : Str} {es : List PyData} {r : List (PyData × List PyData)}
theorem rows_none (en : nameD d = none) : rowsR ns ((d, es) :: r) = .name d := by simp [rowsR, en]
theorem rows_twice (en : nameD d = some z) (h : z ∈ ns) : rowsR ns ((d, es) :: r) = .twice z := by simp [rowsR, en, h]
theorem rows_log {i : Nat} (en : nameD d = some z) (h : ¬ z ∈ ns) (hb : badAt false 0 es = some i) : rowsR ns ((d, es) :: r) = .log z i := by simp [rowsR, en, h, hb]
theorem rows_go (en : nameD d = some z) (h : ¬ z ∈ ns) (hb : badAt false 0 es = none) : rowsR ns ((d, es) :: r) = rowsR (ns ++ [z]) r := by simp [rowsR, en, h, hb]
end
def PairD (K : PySem.W.Frag) (H : Hp) (v : V) (q : PyData × List PyData) : Prop := ∃ p nv l xs, v = .ref p ∧ SqA K H p [nv, .ref l] ∧ Dp K H nv q.1 ∧ SqA K H l xs ∧ DpAll K H xs q.2
theorem PairD.seqs {K : PySem.W.Frag} {H H' : Hp} {v : V} {q : PyData × List PyData} (h : PairD K H v q) (s : Seqs H H') : PairD K H' v q := by
  obtain ⟨p, nv, l, xs, h1, h2, h3, h4, h5⟩ := h
  exact ⟨p, nv, l, xs, h1, h2.elim (fun h => .inl (seqs_l s h)) (fun h => .inr (seqs_t s h)), dp_seqs s _ _ h3, h4.elim (fun h => .inl (seqs_l s h)) (fun h => .inr (seqs_t s h)), dpa_seqs s _ _ h5⟩
def PairsD (K : PySem.W.Frag) (H : Hp) (vs : List V) (qs : List (PyData × List PyData)) : Prop := vs.length = qs.length ∧ ∀ (i : Nat) (v : V), vs[i]? = some v → ∃ q, qs[i]? = some q ∧ PairD K H v q
structure QOk (q : PyData × List PyData) : Prop where
  nm : gp q.1 = true
  sz : siz q.1 ≤ 1000
  lg : ∀ d ∈ q.2, ge d = true
  len : q.2.length ≤ 100
def RaVx (C x : Addr) (H : Hp) (fs : List (Str × V)) (E : XK) : Prop := ∀ H' dd, But x H H' → H dd = none → H' dd = some (.xd fs) → E (.ref C) (some dd) H'
def RaDx (K : PySem.W.Frag) (C x : Addr) (H : Hp) (key : Str) (d : PyData) (E : XK) : Prop := ∀ H' dd v', But x H H' → H dd = none → H' dd = some (.xd [(key, v')]) → Dp K H' v' d → E (.ref C) (some dd) H'
theorem but_none {x c : Addr} {H H' : Hp} {o : HO} (b : But x H H') (hx : H' x = some o) (n : H' c = none) : H c = none := b.free (fun z => by rw [z, hx] at n; cases n) n
theorem RaVx.at_ {C x : Addr} {H H2 : Hp} {fs : List (Str × V)} {E : XK} {o : HO} (h : RaVx C x H fs E) (b : But x H H2) (hx : H2 x = some o) : RaV C H2 fs E := fun H' dd s n e => h H' dd (b.trans (But.of s)) (but_none b hx n) e
theorem RaDx.at_ {K : PySem.W.Frag} {C x : Addr} {H H2 : Hp} {key : Str} {d : PyData} {E : XK} {o : HO} (h : RaDx K C x H key d E) (b : But x H H2) (hx : H2 x = some o) : RaD K C H2 key d E := fun H' dd v' s n e hv => h H' dd v' (b.trans (But.of s)) (but_none b hx n) e hv
theorem val_in : ∀ {kvs : List (Key × V)} {ns : List Str} {z : Str}, kvs.map (·.1) = ns.map Sum.inr → (valV kvs (Sum.inr z : Key)).isSome = decide (z ∈ ns)
  | [], [], z, _ => by rw [decide_eq_false (fun h => nomatch h)]; rfl
  | [], _ :: _, _, h => nomatch h
  | _ :: _, [], _, h => nomatch h
  | (k, v) :: r, n :: ns, z, h => by
    have h1 : k = Sum.inr n := (List.cons.inj h).1
    have h2 := (List.cons.inj h).2
    have ih := val_in (z := z) h2
    subst h1
    by_cases e : n = z
    · subst e
      rw [decide_eq_true List.mem_cons_self]
      show (valV ((Sum.inr n, v) :: r) (Sum.inr n : Key)).isSome = true
      simp [valV]
    · have e2 : ¬ ((Sum.inr n : Key) = Sum.inr z) := fun y => e (Sum.inr.inj y)
      have e3 : valV ((Sum.inr n, v) :: r) (Sum.inr z : Key) = valV r (Sum.inr z : Key) := by simp [valV, e2]
      rw [e3, ih]
      by_cases m : z ∈ ns
      · rw [decide_eq_true m, decide_eq_true (List.mem_cons_of_mem _ m)]
      · rw [decide_eq_false m, decide_eq_false (fun y => (List.mem_cons.mp y).elim (fun y => e y.symm) m)]
theorem PairsD.seqs {K : PySem.W.Frag} {H H' : Hp} {vs : List V} {qs : List (PyData × List PyData)} (h : PairsD K H vs qs) (s : Seqs H H') : PairsD K H' vs qs := ⟨h.1, fun i v hv => let ⟨q, e, hq⟩ := h.2 i v hv; ⟨q, e, hq.seqs s⟩⟩
def tupQ (q : PyData × List PyData) : PyData × List PyData := (q.1, q.2.map tupD)
def rowQ (r : Row) : PyData × List PyData := (.str r.1, r.2.map Ent.tup)
def spInitX (K : PySem.W.Frag) (T : Top w K mg) : Sp := fun vs H Q E => ∃ (x dx b l : Addr) (bxs : List V) (bds : List PyData) (ps : List V) (qs : List (PyData × List PyData)), vs = [.ref x, .ref b, .ref l] ∧ H x = some (.ins T.a_Atlas dx []) ∧ SqA K H b bxs ∧ DpAll K H bxs bds ∧ bds.length ≤ 100 ∧ SqA K H l ps ∧ PairsD K H ps qs ∧ (∀ q ∈ qs, QOk q) ∧ qs.length ≤ 60 ∧
  (atlasR bds qs = .made → ∀ H' box rs rs', But x H H' → bds = (box.map fun n : Nat => PyData.int (n : Nat)) → box.length = 8 → rs.map rowQ = qs.map tupQ → (∀ r ∈ rs, RowOk r) → (nms rs).Nodup → rs'.Perm rs → Srt rs' → AtlasAt K T.a_Atlas H' x box rs' → Q .non H') ∧ (∀ i : Nat, atlasR bds qs = .box i → RaVx T.a_BadBox x H [("at", .int (i : Int))] E) ∧ (∀ d, atlasR bds qs = .name d → RaDx K T.a_NoName x H "name" d E) ∧ (∀ z, atlasR bds qs = .twice z → RaVx T.a_Twice x H [("name", .str z)] E) ∧ (∀ z (i : Nat), atlasR bds qs = .log z i → RaVx T.a_BadLog x H [("at", .int (i : Int)), ("name", .str z)] E)
theorem ok_Atlas_init (T : Top w K mg) : FnOk P w K mg base (L2.CX P w) 10 T.a_Atlas_init T.fd_Atlas_init ["self", "box", "logs"] (spInitX K T) := by
  have G_held_box := ok_held_box (P := P) (w := w) (base := base) T
  have G_is_name := ok_is_name (P := P) (w := w) (base := base) T
  have G_held_log_of := ok_held_log_of (P := P) (w := w) (base := base) T
  have G_init_NoName := ok_init_NoName (P := P) (w := w) (base := base) T
  have G_init_Twice := ok_init_Twice (P := P) (w := w) (base := base) T
  refine FunD.ok (CX := L2.CX P w) T.F_Atlas_init sc_Atlas_init (fun vs H Q E h => ?_) (fun cdv A outer s H vs Q E hr h => ?_)
  · obtain ⟨x, dx, b, l, bxs, bds, ps, qs, rfl, _⟩ := h
    rfl
  · obtain ⟨x, dx, b, l, bxs, bds, ps, qs, rfl, hx, hb, hbd, hbl, hl, hps, hok, hlen, q, bad1, bad2, bad3, bad4⟩ := h
    refine ⟨_, (pss_cons (ps_fld (pv 0) (pe_call G_held_box (hr.mono (by decide)) (by rfl) T.g_held_box T.F_held_box.kp T.b_held_box .nil (passes_call (takes_of rfl rfl rfl rfl) (fun _ _ _ _ h => h)) (pa_cons (pv 1) pa_nil)) rfl)
      (pss_cons (ps_set (i := 3) sc_Atlas_init.nd rfl (.inr rfl) pe_dnewK)
      (pss_cons (ps_for (passes_of rfl) rfl (SeqW.pi_seq (pv 2)) (SeqW.pg_any rfl (pgs_cons (pg_name (i := 4) sc_Atlas_init.nd rfl (.inl rfl)) (pgs_cons (pg_name (i := 5) sc_Atlas_init.nd rfl (.inl rfl)) pgs_nil))) (pss_cons (ps_if (pt_not (pt_val (pe_call G_is_name (hr.mono (by decide)) (by rfl) T.g_is_name T.F_is_name.kp T.b_is_name .nil pass0 (pa_cons (pv 4) pa_nil)))) (pss_one (ps_raise rfl (takes_of rfl rfl rfl rfl) (pmk_oex T.oex_NoName T.iC_NoName T.tI_NoName G_init_NoName (hr.mono (by decide)) T.b_init_NoName .nil pass0 (by rfl) T.g_NoName (pa_cons (pv 4) pa_nil)))) pss_nil)
      (pss_cons (ps_if (pt_cmp (pc_din (hu_of hr) (pv 4) (pv 3))) (pss_one (ps_raise rfl (takes_of rfl rfl rfl rfl) (pmk_oex T.oex_Twice T.iC_Twice T.tI_Twice G_init_Twice (hr.mono (by decide)) T.b_init_Twice .nil pass0 (by rfl) T.g_Twice (pa_cons (pv 4) pa_nil)))) pss_nil)
      (pss_one (ps_dput (hu_of hr) (pv 3) (pv 4) (pe_call G_held_log_of hr (by rfl) T.g_held_log_of T.F_held_log_of.kp T.b_held_log_of .nil (passes_call (takes_of rfl rfl rfl rfl) (fun _ _ _ _ h => h)) (pa_cons (pv 4) (pa_cons (pv 5) pa_nil))) rfl)))))
      (pss_cons (ps_fld (pv 0) (pe_callTy OwnI.call_tuple_frz (by rfl) T.m_tuple (by decide +kernel) (pa_cons (pe_callB (call_sortedD rfl) (by rfl) T.m_sorted (by decide +kernel) (pa_cons (pv 3) pa_nil)) pa_nil)) rfl)
      (pss_one (ps_fld (pv 0) (pe_callTy call_tuple_of (by rfl) T.m_tuple (by decide +kernel) (pa_cons (pe_lc (own := [("name", 4)]) (g := gName 4) (by rfl) sc_Atlas_init.nd (pi_tup (pe_fld (pv 0) rfl)) (blkOk_by (own := [("name", 4)]) (N := ["self", "box", "logs", "held", "name", "log"]) (sc := defScope s_Atlas_init) (by decide +kernel)) (fun _ _ _ _ _ => (pg_name (i := 4) sc_Atlas_init.nd rfl (Or.inl rfl))) (fun _ _ _ _ _ => pts_nil) (fun _ _ _ _ _ => (pe_dget (hu_of hr) (pv 3) (pv 4) (fun _ _ => rfl)))) pa_nil)) rfl)))))), ?_⟩
    refine ⟨.ref b, rfl, b, bxs, bds, rfl, hb, hbd, hbl, fun hn H1 bt s1 hbt => ?_, fun i hi => ?_⟩
    rotate_left
    · exact (bad1 i (by unfold atlasR; rw [hi])).at_ (But.refl _ _) hx
    have er : atlasR bds qs = rowsR [] qs := by unfold atlasR; rw [hn]
    rw [er] at q bad2 bad3 bad4
    refine ⟨.ref x, rfl, x, T.a_Atlas, dx, [], rfl, s1 _ _ hx, T.cl_Atlas, T.nf_Atlas_box, by show 0 < 1000; decide, ?_⟩
    intro d nd
    generalize efs : putF "box" (.ref bt) [] = fs1 at nd ⊢
    have ndx : d ≠ x := fun z => by rw [z, upd_same] at nd; cases nd
    have nd1 : H1 d = none := by rw [upd_ne ndx] at nd; exact nd
    have nd0 : H d = none := s1.free nd1
    have b1 : But x H (upd (upd H1 x (.ins T.a_Atlas dx fs1)) d (.dK [])) := fun c o hc h => by
      rw [upd_ne (ne_of_none h nd0), upd_ne hc]
      exact s1 _ _ h
    have ex2 : (upd (upd H1 x (.ins T.a_Atlas dx fs1)) d (.dK [])) x = some (.ins T.a_Atlas dx fs1) := (upd_ne (Ne.symm ndx)).trans upd_same
    obtain ⟨box, hbox, h8⟩ := box_of hn
    have hbx : bxs = boxV box := box_vals (hbox ▸ hbd)
    have hbt2 : SqT K (upd (upd H1 x (.ins T.a_Atlas dx fs1)) d (.dK [])) bt (boxV box) := by
      rw [← hbx]
      refine seqs_t (fun c o z h => ?_) hbt
      rw [upd_ne (ne_of_none h nd1), upd_ne (fun e => by rw [e, s1 _ _ hx] at h; cases h; cases z)]
      exact h
    refine ⟨.ref l, rfl, l, ps, rfl, (fun H' => Seqs H H'), hl.elim (fun h => .inl fun _ s => seqs_l s h) (fun h => .inr fun _ s => seqs_t s h), seqs_of hx b1, fun J G wk hG => for_it wk (fun i σ H' => But x H H' ∧ H' x = some (.ins T.a_Atlas dx fs1) ∧ SqT K H' bt (boxV box) ∧ ∃ y4 y5 rs ls, σ = [some (.ref x), some (.ref b), some (.ref l), some (.ref d), y4, y5] ∧ H' d = some (.dK (kvsOf rs ls)) ∧ ls.length = rs.length ∧ rs.length = i ∧ rs.map rowQ = (qs.take i).map tupQ ∧ (∀ r ∈ rs, RowOk r) ∧ (nms rs).Nodup ∧ DpAll K (wo H' (fun c => c = x ∨ c = d)) ls (rs.map logD) ∧ rowsR [] qs = rowsR (nms rs) (qs.drop i))
      ⟨b1, ex2, hbt2, _, _, [], [], rfl, upd_same, rfl, rfl, rfl, (fun _ h => nomatch h), .nil, .nil, rfl⟩ (fun i σ H' _ h => hG _ (seqs_of hx h.1)) ?_ ?_⟩
    · rintro i v σ H2 H3 hi ⟨b2, e2, hb2, y4, y5, rs, ls, rfl, ed, ll, lr, hmap, hrok, hnd, hls, hrow⟩ ⟨rfl, hv⟩
      have hks := kvs_keys rs ls ll
      obtain ⟨pq, fq, hpq⟩ := hps.2 i v hv
      have qok := hok pq (List.mem_of_getElem? fq)
      obtain ⟨pp, nv, lg, xs, rfl, hsp, hnv, hsl, hds⟩ := hpq.seqs (seqs_of hx b2)
      have dr : qs.drop i = pq :: qs.drop (i + 1) := by
        obtain ⟨h1, h2⟩ := List.getElem?_eq_some_iff.mp fq
        rw [List.drop_eq_getElem_cons h1, h2]
      obtain ⟨dn, es⟩ := pq
      rw [dr] at hrow
      have hil : i < qs.length := (List.getElem?_eq_some_iff.mp fq).1
      refine ⟨pp, _, rfl, hsp, rfl, _, _, rfl, _, _, rfl, rfl, ?_⟩
      refine ⟨nv, rfl, nv, rfl, th_dp hnv qok.nm, fun H4 s4 => ⟨_, rfl, ?_⟩⟩
      rw [name_nm hnv]
      have b4 := b2.trans (But.of s4)
      have e4 := s4 _ _ e2
      cases en : nameD dn with
      | none =>
        have hd : rowsR [] qs = .name dn := hrow.trans (rows_none en)
        exact iteT ⟨nv, rfl, by show 1 ≤ 1000; decide, fun a na => raiseD qok.sz (dp_same s4 _ _ hnv) ((bad2 _ hd).at_ b4 e4) a na⟩
      | some z =>
        obtain ⟨rfl, rfl⟩ := name_str hnv en
        refine iteF ?_
        have ed4 := s4 _ _ ed
        refine ⟨_, rfl, _, rfl, d, _, rfl, DGet.k (k := Sum.inr z) ed4, _, rfl, ?_⟩
        rw [val_in hks]
        by_cases hz : z ∈ nms rs
        · exact iteDY (decide_eq_true hz) ⟨_, rfl, by show 1 ≤ 1000; decide, fun a na => raise1 ⟨_, rfl⟩ ((bad3 _ (hrow.trans (rows_twice en hz))).at_ b4 e4) a na⟩
        refine iteDN (decide_eq_false hz) ?_
        refine ⟨.str z, rfl, .ref lg, rfl, z, lg, xs, es, rfl, hsl.same s4, dpa_same s4 _ _ hds, qok.lg, by have : es.length ≤ 100 := qok.len; omega, fun hn H5 rr s5 hdp => ?_, fun j hj => ?_⟩
        · have hrow := hrow.trans (rows_go en hz hn)
          obtain ⟨ents, he, hok5, hright⟩ := log_ents hn
          have lent : ents.length = es.length := by
            have := congrArg List.length he
            rw [List.length_map, List.length_map] at this
            exact this.symm
          have nz : nmL z.cps.toList = true := by
            by_cases y : nmL z.cps.toList = true
            · exact y
            · have : nameD (.str z) = none := if_neg y
              rw [en] at this; cases this
          have lk := kvs_len rs ls
          have ed5 := s5 _ _ ed4
          have hno := kvs_none rs ls z hz
          refine ⟨_, rfl, _, rfl, d, _, rfl, DPut.k (k := Sum.inr z) ed5 (small1000 (by omega)), ?_⟩
          have s45 := s4.trans s5
          have ro : RowOk (z, ents) := ⟨nz, hok5, hright, by rw [lent]; exact qok.len⟩
          refine ⟨fun c o hc h => ?_, ?_, ?_, _, _, rs ++ [(z, ents)], ls ++ [.ref rr], rfl, ?_, ?_, ?_, ?_, ?_, ?_, ?_, ?_⟩
          · rw [upd_ne (ne_of_none h nd0)]
            exact s45 _ _ (b2 _ _ hc h)
          · rw [upd_ne (Ne.symm ndx)]
            exact s45 _ _ e2
          · refine seqs_t (fun c o z h => ?_) hb2
            rw [upd_ne (fun e => by rw [e, ed] at h; cases h; cases z)]
            exact s45 _ _ h
          · rw [upd_same, putK_new _ hno, kvs_snoc _ _ _ _ ll]
          · rw [List.length_append, List.length_append, ll]; rfl
          · rw [List.length_append, lr]; rfl
          · rw [List.take_add_one, fq, List.map_append, List.map_append, hmap]
            show _ ++ [rowQ (z, ents)] = _ ++ [tupQ (.str z, es)]
            unfold rowQ tupQ
            rw [he]
          · intro r hr
            rcases List.mem_append.mp hr with hr | hr
            · exact hrok r hr
            · rw [List.mem_singleton.mp hr]; exact ro
          · unfold nms
            rw [List.map_append]
            exact List.nodup_append.mpr ⟨hnd, by simp, fun a ha b hb e => hz (by have hb : b = z := List.mem_singleton.mp hb; rw [← hb, ← e]; exact ha)⟩
          · rw [List.map_append]
            have m5 : Same (wo H3 (fun c => c = x ∨ c = d)) (wo H5 (fun c => c = x ∨ c = d)) := fun c o h => by
              have h2 := wo_some h
              rw [wo_in (X := fun c => c = x ∨ c = d) h2.1]
              exact s45 _ _ h2.2
            have m6 : Same (wo H5 (fun c => c = x ∨ c = d)) (wo (upd H5 d (.dK (putK (kvsOf rs ls) (Sum.inr z) (.ref rr)))) (fun c => c = x ∨ c = d)) := fun c o h => by
              have h2 := wo_some h
              rw [wo_in (X := fun c => c = x ∨ c = d) h2.1, upd_ne (fun z => h2.1 (.inr z))]
              exact h2.2
            refine dpa_snoc (dp_same m6 _ _ ?_) _ _ (dpa_same (m5.trans m6) _ _ hls)
            refine dp_kp (Tp.wo (fun c o hc h => ?_)) 2 _ _ (log_okD (r := (z, ents)) (by have := ro.len; exact Nat.le_trans this (by decide))) (show Dp K H5 (.ref rr) (logD (z, ents)) by rw [he] at hdp; exact hdp)
            rcases hc with hc | hc
            · rw [hc, s45 _ _ e2] at h; cases h; rfl
            · rw [hc, ed5] at h; cases h; rfl
          · unfold nms at hrow ⊢
            rw [List.map_append]
            exact hrow
        · exact (bad4 _ _ (hrow.trans (rows_log en hz hj))).at_ b4 e4
    · rintro σ H2 ⟨b2, e2, hb2, y4, y5, rs, ls, rfl, ed, ll, lr, hmap, hrok, hnd, hls, hrow⟩
      rw [hps.1] at lr
      have hm : rowsR [] qs = .made := by
        rw [hrow, List.drop_of_length_le (by rw [hps.1]; exact Nat.le_refl _)]
        rfl
      rw [List.take_of_length_le (by rw [hps.1]; exact Nat.le_refl _)] at hmap
      have q := fun H' => q hm H' box rs
      refine ⟨.ref d, rfl, d, _, nms rs, rfl, Rd.of ed, kvs_keys rs ls ll, by unfold nms; rw [List.length_map]; omega, fun ys p perm srt np => ?_⟩
      obtain ⟨rs', prm, ey⟩ := perm_lift (f := fun r : Row => r.1) perm
      have nd' : (nms rs').Nodup := (show (nms rs').Perm (nms rs) from prm.map _).nodup_iff.mpr hnd
      have hsrt : Srt rs' := srt_of nd' (by rw [show nms rs' = ys from ey]; exact sortedS_pw ys srt)
      have lrs : rs'.length = rs.length := prm.length_eq
      have sp := same_upd (o := .lst (ys.map V.str)) np
      refine ⟨p, _, rfl, .inl (.inl upd_same), fun n on po nn => ?_⟩
      have sn := same_upd (o := .frz on (.tup (ys.map V.str))) nn
      have s3 := sp.trans sn
      refine ⟨.ref x, rfl, x, T.a_Atlas, dx, fs1, rfl, s3 _ _ e2, T.cl_Atlas, T.nf_Atlas_names, by rw [← efs]; show 1 < 1000; decide, ?_⟩
      have nnx : n ≠ x := fun z => by rw [z, sp _ _ e2] at nn; cases nn
      have nnd : n ≠ d := fun z => by rw [z, sp _ _ ed] at nn; cases nn
      generalize eH3 : upd (upd (upd H2 p (.lst (ys.map V.str))) n (.frz on (.tup (ys.map V.str)))) x (.ins T.a_Atlas dx (putF "names" (.ref n) fs1)) = H3
      have k3 : ∀ c o, c ≠ x → H2 c = some o → H3 c = some o := fun c o hc h => by
        rw [← eH3, upd_ne hc]
        exact s3 _ _ h
      have x3 : H3 x = some (.ins T.a_Atlas dx (putF "names" (.ref n) fs1)) := by rw [← eH3]; exact upd_same
      have n3 : H3 n = some (.frz on (.tup (ys.map V.str))) := by
        rw [← eH3, upd_ne nnx]
        exact upd_same
      have d3 : H3 d = some (.dK (kvsOf rs ls)) := k3 _ _ ndx ed
      have hls3 : DpAll K (wo H3 (fun c => c = x ∨ c = d)) ls (rs.map logD) := dpa_same (fun c o h => by
        have h2 := wo_some h
        rw [wo_in (X := fun c => c = x ∨ c = d) h2.1]
        exact k3 _ _ (fun z => h2.1 (.inl z)) h2.2) _ _ hls
      have lkn : (putF "names" (.ref n) fs1).lookup ("names" : Str) = some (.ref n) := by rw [lookup_putF, if_pos rfl]
      refine ⟨.ref x, rfl, x, T.a_Atlas, dx, _, _, rfl, x3, T.cl_Atlas, T.nf_Atlas_names, lkn, n, rfl, ⟨_, .inl (.inr ⟨on, n3⟩)⟩, fun D hD => lc_it (walk_tup (xs := ys.map V.str)) (fun i H' => Same H3 H' ∧ ∃ zs, H' D = some (.lst zs) ∧ zs.length = i ∧ DpAll K (wo H3 (fun c => c = x ∨ c = d)) zs ((rs'.take i).map logD)) ⟨same_upd hD, [], upd_same, rfl, .nil⟩ (fun i H' _ h => .inl (.inr ⟨on, h.1 _ _ n3⟩)) ?_ ?_⟩
      · rintro i v H4 H5 hi ⟨s4, zs, eD, lz, hz⟩ ⟨rfl, hv⟩
        rw [← ey, List.map_map, List.getElem?_map] at hv
        obtain ⟨r, fr, rfl⟩ : ∃ r, rs'[i]? = some r ∧ V.str r.1 = v := by
          cases e1 : rs'[i]? with
          | none => rw [e1] at hv; cases hv
          | some r => rw [e1] at hv; exact ⟨r, rfl, Option.some.inj hv⟩
        obtain ⟨m, hm⟩ := List.mem_iff_getElem?.mp (prm.mem_iff.mp (List.mem_of_getElem? fr))
        have hml : m < ls.length := by rw [ll]; exact (List.getElem?_eq_some_iff.mp hm).1
        have hlm := List.getElem?_eq_getElem hml
        have hval := kvs_some rs ls m r ls[m] hnd hm hlm
        obtain ⟨dd, fd, gd⟩ := dpa_at _ ls hls3 m ls[m] hlm
        rw [List.getElem?_map, hm] at fd
        cases fd
        have il : i < rs'.length := (List.getElem?_eq_some_iff.mp fr).1
        refine ⟨rfl, _, rfl, _, rfl, d, ls[m], rfl, ?_, zs, eD, small1000 (by omega), ?_, _, upd_same, ?_, ?_⟩
        · have hg := DGet.k (k := Sum.inr r.1) (s4 _ _ d3)
          rw [hval] at hg
          exact hg
        · exact fun c o h => by
            rw [upd_ne (ne_of_none h hD)]
            exact s4 _ _ h
        · rw [List.length_append, lz]
          rfl
        · rw [List.take_add_one, fr, List.map_append]
          exact dpa_snoc gd _ _ hz
      · rintro H4 ⟨s4, zs, eD, lz, hz⟩
        rw [List.length_map, show ys.length = rs'.length by rw [← ey, List.length_map], List.take_length] at hz
        refine ⟨D, zs, rfl, .inl ⟨.inl (.inl eD), fun t nt => ?_⟩⟩
        have st := same_upd (o := .tup zs) nt
        have s34 := s4.trans st
        refine ⟨.ref x, rfl, x, T.a_Atlas, dx, _, rfl, s34 _ _ x3, T.cl_Atlas, T.nf_Atlas_logs, by rw [← efs]; show (putF "names" (.ref n) [("box", V.ref bt)]).length < 1000; exact Nat.lt_of_le_of_lt (length_putF _ _ _) (show 1 + 1 < 1000 by decide), ?_⟩
        have ntx : t ≠ x := fun z => by rw [z, s4 _ _ x3] at nt; cases nt
        have kf : Same (wo H3 (fun c => c = x ∨ c = d)) (upd (upd H4 t (.tup zs)) x (.ins T.a_Atlas dx (putF "logs" (.ref t) (putF "names" (.ref n) fs1)))) := fun c o h => by
          have h2 := wo_some h
          rw [upd_ne (fun z => h2.1 (.inl z))]
          exact s34 _ _ h2.2
        refine q _ rs' (fun c o hc h => ?_) hbox h8 hmap hrok hnd prm hsrt ⟨dx, bt, n, t, zs, on, po, ?_, ?_, ?_, .inl (.inl ?_), dpa_same kf _ _ hz⟩
        · rw [upd_ne hc]
          exact s34 _ _ (k3 _ _ hc (b2 _ _ hc h))
        · rw [upd_same, ← efs]
          rfl
        · refine seqs_t (fun c o z h => ?_) hb2
          have hcx : c ≠ x := fun e => by rw [e, e2] at h; cases h; cases z
          rw [upd_ne hcx]
          exact s34 _ _ (k3 _ _ hcx h)
        · rw [upd_ne nnx, show namV rs' = ys.map V.str by unfold namV; rw [show nms rs' = ys from ey]]
          exact s34 _ _ n3
        · rw [upd_ne ntx]
          exact upd_same
--@@SPLIT
/-! ### numbers by figures -/
abbrev FIGs : Str := PySem.Str.ofString "0123456789"
def dgC (c : Nat) : Bool := decide (c ∈ FIGs.cps.toList)
def numOk (cs : List Nat) : Bool := (decide (1 ≤ (cs.length : Int)) && decide ((cs.length : Int) ≤ 30)) && (cs.all dgC && !(decide (cs.head? = some 48) && decide (1 < (cs.length : Int))))
def numIn (cs : List Nat) : Option Nat := if numOk cs = true then some (NumText.digitsVal cs) else none
def numV : Option Nat → V
  | some n => .int (n : Int)
  | none => .non
theorem figs_eq : FIGs.cps.toList = [48, 49, 50, 51, 52, 53, 54, 55, 56, 57] := by decide +kernel
theorem dg_iff (c : Nat) : dgC c = true ↔ 48 ≤ c ∧ c ≤ 57 := by
  unfold dgC
  rw [figs_eq, decide_eq_true_iff]
  simp only [List.mem_cons, List.not_mem_nil, or_false]
  omega
theorem num_all {cs : List Nat} (h : cs.all dgC = true) : NumText.AllDigits cs := fun c hc => by
  have := (dg_iff c).mp (List.all_eq_true.mp h c hc)
  omega
def spNumIn : Sp := fun vs H Q _ => ∃ z : Str, vs = [.str z] ∧ z.length ≤ 1000000 ∧ ∀ H', Same H H' → Q (numV (numIn z.cps.toList)) H'
theorem len_toListN (z : Str) : z.cps.toList.length = z.length := Array.length_toList
theorem all_mapN {f : Nat → Bool} : ∀ xs : List Nat, (xs.map f).all id = xs.all f
  | [] => rfl
  | x :: r => by rw [List.map_cons, List.all_cons, List.all_cons, all_mapN r]; rfl
theorem ok_number_in (T : Top w K mg) : FnOk P w K mg base CX0 1 T.a_number_in T.fd_number_in ["word"] spNumIn := by
  refine T.F_number_in.ok sc_number_in (fun vs H Q E h => ?_) (fun cdv A outer s H vs Q E hr h => ?_)
  · obtain ⟨z, rfl, _⟩ := h
    rfl
  · obtain ⟨z, rfl, hz, q⟩ := h
    refine ⟨_, (pss_cons (ps_if (PW.pt (pw_or (pt_not (pt_chain op_le op_le pe_int (pe_callB call_len_str (by rfl) T.m_len (by decide +kernel) (pa_cons (pv 0) pa_nil)) (pe_glob (v := .int 30) (by rfl) T.g_MOST_FIGURES.choose_spec ⟨_, rfl⟩))) (pw_or1 (pt_not (pt_val (pe_callB (cr_all rfl) (by rfl) T.m_all (by decide +kernel) (pa_cons (pe_lc (own := [("figure", 1)]) (g := gName 1) (by rfl) sc_number_in.nd (pi_str (pv 0)) (blkOk_by (own := [("figure", 1)]) (N := ["word", "figure"]) (sc := defScope s_number_in) (by decide +kernel)) (fun _ _ _ _ _ => (pg_name (i := 1) sc_number_in.nd rfl (Or.inl rfl))) (fun _ _ _ _ _ => pts_nil) (fun _ _ _ _ _ => (pe_cmpR op_in_sign (pv 1) (pe_glob (v := .str "0123456789") (by rfl) T.g_FIGURES.choose_spec ⟨_, rfl⟩) (by rfl)))) pa_nil))))))) (pss_one (ps_ret pe_non)) pss_nil)
      (pss_cons (ps_if (PW.pt (pw_and (pt_cmpR op_eq (pe_ix ix_str (pv 0) pe_int (fun _ _ => rfl)) pe_str (nomark _)) (pw_and1 (pt_cmpR op_gt (pe_callB call_len_str (by rfl) T.m_len (by decide +kernel) (pa_cons (pv 0) pa_nil)) pe_int (nomark _))))) (pss_one (ps_ret pe_non)) pss_nil)
      (pss_one (ps_ret (pe_callTy call_int_str (by rfl) T.m_int (by decide +kernel) (pa_cons (pv 0) pa_nil)))))), ?_⟩
    have hs : z.length ≤ sizeLine := Nat.le_trans hz (by decide)
    have lz : z.cps.toList.length = z.length := len_toListN z
    have no : numOk z.cps.toList = false → ∀ H', Same H H' → Q .non H' := fun e H' s => by
      have h := q H' s
      unfold numIn at h
      rw [e] at h
      exact h
    refine ⟨.str z, rfl, z, rfl, hs, _, _, rfl, rfl, _, rfl, ite2 (fun e1 => ?_) (fun e1 => ?_)⟩
    · refine ⟨_, _, rfl, rfl, _, rfl, ite2 (fun e2 => ?_) (fun e2 => ?_)⟩
      · refine no ?_ H (Same.refl _)
        unfold numOk
        rw [lz, show decide ((z.length : Int) ≤ 30) = false by cases h : decide ((z.length : Int) ≤ 30) with
          | false => rfl
          | true => rw [h] at e2; cases e2]
        simp
      have l30 : decide ((z.length : Int) ≤ 30) = true := by
        cases h : decide ((z.length : Int) ≤ 30) with
          | true => rfl
          | false => rw [h] at e2; exact absurd rfl e2
      refine ⟨.str z, rfl, z, rfl, fun D hD => lc_it walk_str (fun i H' => Same H H' ∧ H' D = some (.lst (((z.cps.toList.take i).map dgC).map V.bl))) ⟨same_upd hD, upd_same⟩ (fun _ _ _ _ => trivial) ?_ ?_⟩
      · rintro i x H1 H2 hi ⟨sm, eD⟩ ⟨rfl, c, hc, rfl⟩
        refine ⟨rfl, ?_⟩
        refine ⟨_, rfl, c, _, rfl, rfl, _, eD, ?_, ?_, ?_⟩
        · rw [List.length_map, List.length_map, List.length_take, lz]
          exact small1000 (by have := of_decide_eq_true l30; omega)
        · exact fun b' o e => by
            rw [upd_ne (ne_of_none e hD)]
            exact sm _ _ e
        · rw [upd_same, List.take_add_one, Array.getElem?_toList, hc, List.map_append, List.map_append]
          rfl
      · rintro H1 ⟨sm, eD⟩
        have e2 : z.cps.toList.take z.cps.size = z.cps.toList := List.take_of_length_le (by rw [Array.length_toList]; exact Nat.le_refl _)
        rw [e2] at eD
        refine ⟨_, z.cps.toList.map dgC, rfl, .inl (.inl eD), ?_⟩
        rw [all_mapN]
        refine ⟨_, rfl, ite2 (fun e3 => ?_) (fun e3 => ?_)⟩
        · refine no ?_ H1 sm
          unfold numOk
          rw [show z.cps.toList.all dgC = false by cases h : z.cps.toList.all dgC with
            | false => rfl
            | true => rw [h] at e3; cases e3]
          simp
        have ad : z.cps.toList.all dgC = true := by
          cases h : z.cps.toList.all dgC with
            | true => rfl
            | false => rw [h] at e3; exact absurd rfl e3
        obtain ⟨c, r, ez⟩ : ∃ c r, z.cps.toList = c :: r := by
          cases h : z.cps.toList with
          | nil =>
            rw [h] at lz
            have : (1 : Int) ≤ (z.length : Int) := of_decide_eq_true e1
            have : ([] : List Nat).length = 0 := rfl
            omega
          | cons c r => exact ⟨c, r, rfl⟩
        have hc : decide (V.str ⟨#[c]⟩ = V.str (PySem.Str.ofString "0")) = decide (c = 48) := by
          by_cases h : c = 48
          · subst h; decide +kernel
          · rw [decide_eq_false h]
            refine decide_eq_false fun z => h ?_
            have z2 := V.str.inj z
            have z3 := congrArg (fun s : Str => s.cps.toList) z2
            rw [show (PySem.Str.ofString "0").cps.toList = [48] by decide +kernel] at z3
            exact (List.cons.inj z3).1
        have ok0 : numOk z.cps.toList = !(decide (c = 48) && decide (1 < (z.length : Int))) := by
          unfold numOk
          rw [lz, ad, l30, show decide (1 ≤ (z.length : Int)) = true from e1, ez]
          show (true && true && (true && !(decide (some c = some 48) && _))) = _
          rw [show decide (some c = some 48) = decide (c = 48) by simp]
          simp
        have yes : numOk z.cps.toList = true → Q (.int (NumText.digitsVal z.cps.toList : Nat)) H1 := fun e => by
          have h := q H1 sm
          unfold numIn at h
          rw [e] at h
          exact h
        have fin : numOk z.cps.toList = true → ∃ a n, [V.str z] = [.str a] ∧ PySem.intText? a = some n ∧ a.length ≤ 640 ∧ Q (.int n) H1 := fun e => by
          have l3 := of_decide_eq_true l30
          exact ⟨z, _, rfl, intText_digits (num_all ad) (by rw [ez]; exact fun h => nomatch h) (by omega), by omega, yes e⟩
        refine ⟨.str z, rfl, z, 0, c, rfl, rfl, hs, by rw [ez]; exact atI_nat (j := 0) rfl, rfl, _, rfl, ?_⟩
        rw [hc]
        refine ite2 (fun e4 => ?_) (fun e4 => ?_)
        · refine ⟨.str z, rfl, z, rfl, hs, _, _, rfl, rfl, _, rfl, ite2 (fun e5 => ?_) (fun e5 => ?_)⟩
          · refine no ?_ H1 sm
            rw [ok0, e4, show decide (1 < (z.length : Int)) = true from e5]
            rfl
          · refine ⟨.str z, rfl, fin ?_⟩
            rw [ok0, show decide (1 < (z.length : Int)) = false from Bool.eq_false_iff.mpr e5]
            simp
        · refine ite2 (fun z => nomatch z) (fun _ => ⟨.str z, rfl, fin ?_⟩)
          rw [ok0, Bool.eq_false_iff.mpr e4]
          rfl
    · refine ⟨_, rfl, iteT (no ?_ H (Same.refl _))⟩
      unfold numOk
      rw [lz, show decide (1 ≤ (z.length : Int)) = false from Bool.eq_false_iff.mpr e1]
      rfl
/-! ### a number written -/
def figT (n : Nat) : Str := PySem.Str.ofString (toString ((n : Nat) : Int))
theorem tl_fig (n : Nat) : (figT n).cps.toList = TL.numL n := TL.tl_num n
theorem fig_len {n : Nat} (h : n < 10 ^ 30) : (figT n).length ≤ 30 := by
  rw [← len_toListN, tl_fig]
  exact TL.numL_len (by decide) h
theorem head0 : ∀ n : Nat, 10 ≤ n → (TL.numL n).head? ≠ some 48 := fun n => by
  induction n using Nat.strongRecOn with
  | _ n ih =>
    intro h
    rw [TL.numL_step h]
    by_cases h2 : n / 10 < 10
    · rw [TL.numL_lt h2]
      show some (48 + n / 10) ≠ some 48
      intro z
      have := Option.some.inj z
      omega
    · have := ih (n / 10) (by omega) (by omega)
      have ne := TL.numL_ne (n / 10)
      cases e : TL.numL (n / 10) with
      | nil => exact absurd e ne
      | cons c r =>
        rw [e] at this
        exact this
theorem numIn_fig {n : Nat} (h : n < 10 ^ 30) : numIn (figT n).cps.toList = some n := by
  have hl : (TL.numL n).length ≤ 30 := TL.numL_len (by decide) h
  have h1 : 1 ≤ (TL.numL n).length := List.length_pos_iff.mpr (TL.numL_ne n)
  have ok : numOk (TL.numL n) = true := by
    unfold numOk
    rw [decide_eq_true (show (1 : Int) ≤ ((TL.numL n).length : Int) by omega), decide_eq_true (show ((TL.numL n).length : Int) ≤ 30 by omega)]
    have ha : (TL.numL n).all dgC = true := List.all_eq_true.mpr fun c hc => (dg_iff c).mpr (by have := TL.numL_digits n c hc; omega)
    rw [ha]
    by_cases h10 : n < 10
    · rw [TL.numL_lt h10]
      simp
    · rw [decide_eq_false (head0 n (by omega))]
      rfl
  unfold numIn
  rw [tl_fig, ok, if_pos rfl, TL.numL_val]
--@@SPLIT
/-! ### entries as texts -/
def rStrA : List V → Hp → VK → Prop := fun xs H Q => (∃ i, xs = [.int i] ∧ i.natAbs.log2 < 1920 ∧ Q (.str (toString i)) H) ∨ (∃ a, xs = [.str a] ∧ Q (.str a) H)
theorem call_strA {X : Cx} : CallR X (.type "str") rStrA := by
  intro pins s σ H xs us Q I r h
  rcases h with h | h
  · exact call_str_int pins s σ H xs us Q I r h
  · exact SkE.call_str_str pins s σ H xs us Q I r h
abbrev blank : Str := PySem.Str.ofString " "
theorem blank_tl : blank.cps.toList = [32] := by decide +kernel
/-- the text of a part -/
def partT : PyData → Str
  | .str z => z
  | .int i => PySem.Str.ofString (toString i)
  | _ => PySem.Str.ofString ""
def partOk : PyData → Bool
  | .str z => decide (z.length ≤ 100)
  | .int i => decide (0 ≤ i) && decide (i < 10 ^ 30)
  | _ => false
def entT (ds : List PyData) : Str := Txt.join blank (ds.map partT)
theorem part_len {d : PyData} (h : partOk d = true) : (partT d).length ≤ 100 := by
  cases d with
  | str z => exact of_decide_eq_true h
  | int i =>
    obtain ⟨h0, h1⟩ := Bool.and_eq_true_iff.mp h
    have h0 := of_decide_eq_true h0
    have h1 := of_decide_eq_true h1
    obtain ⟨n, rfl⟩ : ∃ n : Nat, i = n := ⟨i.toNat, by omega⟩
    have h2 : n < 10 ^ 30 := by omega
    have := fig_len h2
    show (figT n).length ≤ 100
    omega
  | _ => cases h
theorem part_sum : ∀ ds : List PyData, (∀ d ∈ ds, partOk d = true) → ((ds.map partT).map (·.length)).sum ≤ 100 * ds.length
  | [], _ => Nat.zero_le _
  | d :: r, h => by
    rw [List.map_cons, List.map_cons, List.sum_cons, List.length_cons]
    have h1 := part_len (h d List.mem_cons_self)
    have h2 := part_sum r (fun x hx => h x (List.mem_cons_of_mem _ hx))
    omega
def spEntText (K : PySem.W.Frag) : Sp := fun vs H Q _ => ∃ (a : Addr) (xs : List V) (ds : List PyData), vs = [.ref a] ∧ SqA K H a xs ∧ DpAll K H xs ds ∧ (∀ d ∈ ds, partOk d = true) ∧ ds.length ≤ 900 ∧ ∀ H', Same H H' → Q (.str (entT ds)) H'
theorem log2_30 {n : Nat} (h : n < 10 ^ 30) : n.log2 < 1920 := by
  by_cases h0 : n = 0
  · subst h0
    decide
  · refine (Nat.log2_lt h0).mpr (Nat.lt_of_lt_of_le h (by decide +kernel))
/-! ### a text read as an entry -/
abbrev wGS : List Str := [PySem.Str.ofString "go", PySem.Str.ofString "spy"]
def goSpy (s : Str) : Bool := inV (.str s) (wGS.map V.str)
def numD : Option Nat → PyData
  | some n => .int (n : Int)
  | none => .none
def entDs : List Str → List PyData
  | a :: b :: r => .str a :: (if goSpy a = true then numD (numIn b.cps.toList) else .str b) :: r.map PyData.str
  | ws => ws.map PyData.str
theorem spl_ne (S : List Nat) : ∀ (l acc : List Nat) (k : Nat), TL.spl S k acc l ≠ []
  | [], acc, k => by rw [TL.spl_nil]; exact fun h => nomatch h
  | c :: r, acc, 0 => by
    cases e : TL.pre S (c :: r) with
    | true => rw [TL.spl_hit e]; exact fun h => nomatch h
    | false => rw [TL.spl_miss e]; exact spl_ne S r _ 0
  | c :: r, acc, k + 1 => by
    rw [TL.spl_pass]
    exact spl_ne' S _ _
where spl_ne' (S : List Nat) : ∀ (l acc : List Nat), TL.spl S 0 acc l ≠ []
  | [], acc => by rw [TL.spl_nil]; exact fun h => nomatch h
  | c :: r, acc => by
    cases e : TL.pre S (c :: r) with
    | true => rw [TL.spl_hit e]; exact fun h => nomatch h
    | false => rw [TL.spl_miss e]; exact spl_ne' S r _
theorem split_ne (z : Str) : Txt.split z blank ≠ [] := fun h => by
  have e := TL.split_spl z blank (by rw [show TL.tl blank = [32] from blank_tl]; exact fun h => nomatch h) (TL.kind_ok (by decide +kernel))
  rw [h] at e
  exact spl_ne _ _ _ _ e.symm
theorem strs_dp {K : PySem.W.Frag} {H : Hp} : ∀ ws : List Str, DpAll K H (ws.map V.str) (ws.map PyData.str)
  | [] => .nil
  | a :: r => .cons (.str _) (strs_dp r)
theorem numV_dp {K : PySem.W.Frag} {H : Hp} : ∀ o : Option Nat, Dp K H (numV o) (numD o)
  | some n => .int _
  | none => .non
theorem numD_gp : ∀ o : Option Nat, gp (numD o) = true
  | some n => rfl
  | none => rfl
theorem ents_gp {ws : List Str} (h : ∀ x ∈ ws, x.length ≤ 1000) : ∀ d ∈ entDs ws, gp d = true := by
  have hs : ∀ ws : List Str, (∀ x ∈ ws, x.length ≤ 1000) → ∀ d ∈ ws.map PyData.str, gp d = true := fun ws h d hd => by
    obtain ⟨x, hx, rfl⟩ := List.mem_map.mp hd
    exact decide_eq_true (h x hx)
  match ws, h with
  | [], h => exact hs _ h
  | [a], h => exact hs _ h
  | a :: b :: r, h =>
    intro d hd
    rcases List.mem_cons.mp hd with hd | hd
    · rw [hd]
      exact decide_eq_true (h a (by simp))
    rcases List.mem_cons.mp hd with hd | hd
    · rw [hd]
      by_cases g : goSpy a = true
      · rw [if_pos g]
        exact numD_gp _
      · rw [if_neg g]
        exact decide_eq_true (h b (by simp))
    · exact hs r (fun x hx => h x (List.mem_cons_of_mem _ (List.mem_cons_of_mem _ hx))) d hd
theorem ents_len : ∀ ws : List Str, (entDs ws).length = ws.length
  | [] => rfl
  | [a] => rfl
  | a :: b :: r => by
    show (r.map PyData.str).length + 1 + 1 = r.length + 1 + 1
    rw [List.length_map]
def spEntIn (K : PySem.W.Frag) : Sp := fun vs H Q _ => ∃ (z : Str) (ws : List Str), vs = [.str z] ∧ z.length ≤ 1000000 ∧ Txt.split z blank = ws ∧ ws.length ≤ 1000 ∧ (∀ x ∈ ws, x.length ≤ 1000) ∧
  (entL (entDs ws) = true → ∀ H' r xs, Same H H' → H r = none → H' r = some (.tup xs) → DpAll K H' xs (entDs ws) → Q (.ref r) H') ∧ (entL (entDs ws) = false → ∀ H', Same H H' → Q .non H')
theorem ok_entry_in (T : Top w K mg) : FnOk P w K mg base CX0 6 T.a_entry_in T.fd_entry_in ["text"] (spEntIn K) := by
  have G_number_in := ok_number_in (P := P) (w := w) (base := base) T
  have G_is_entry := ok_is_entry (P := P) (w := w) (base := base) T
  refine T.F_entry_in.ok sc_entry_in (fun vs H Q E h => ?_) (fun cdv A outer s H vs Q E hr h => ?_)
  · obtain ⟨z, ws, rfl, _⟩ := h
    rfl
  · obtain ⟨z, ws, rfl, hz, hw, hl, hx, q1, q2⟩ := h
    refine ⟨_, (pss_cons (ps_set (i := 1) sc_entry_in.nd rfl (.inl rfl) (pe_bm PySem.F.plainAttrs_str PySem.F.slot_str_split PySem.F.type_str_split mt_split (pv 0) (pa_cons pe_str pa_nil)))
      (Evl.pss_cut (ps_if (PW.pt (pw_and (pt_cmpR op_in_seq (pe_ix ix_list (pv 1) pe_int (fun _ _ => rfl)) (pe_tup (pa_cons pe_str (pa_cons pe_str pa_nil))) (by rfl)) (pw_and1 (pt_cmpR op_gt (pe_callB call_len_seq (by rfl) T.m_len (by decide +kernel) (pa_cons (pv 1) pa_nil)) pe_int (nomark _))))) (pss_one (ps_asg (pe_call G_number_in (hr.mono (by decide)) (by rfl) T.g_number_in T.F_number_in.kp T.b_number_in .nil pass0 (pa_cons (pe_ix ix_list (pv 1) pe_int (fun _ _ => rfl)) pa_nil)) (pg_sub (pv 1) pe_int set_list))) pss_nil)
      (pss_one (ps_ret (pe_ifExp (pt_val (pe_call G_is_entry hr (by rfl) T.g_is_entry T.F_is_entry.kp T.b_is_entry .nil pass0 (pa_cons (pv 1) pa_nil))) (pe_callTy call_tuple_of (by rfl) T.m_tuple (by decide +kernel) (pa_cons (pv 1) pa_nil)) pe_non))))), ?_⟩
    refine ⟨_, rfl, rfl, _, _, rfl, rfl, by decide +kernel, Nat.le_trans (show z.length + 2 ≤ 1000002 by omega) (by decide), fun W nW => ?_⟩
    rw [hw]
    have sW := same_upd (o := .lst (ws.map V.str)) nW
    obtain ⟨a, r, rfl⟩ : ∃ a r, ws = a :: r := by
      cases e : ws with
      | nil => rw [e] at hw; exact absurd hw (split_ne z)
      | cons a r => exact ⟨a, r, rfl⟩
    refine ⟨fun σ H' => Same H H' ∧ ∃ xs, σ = [some (.str z), some (.ref W)] ∧ H' W = some (.lst xs) ∧ DpAll K H' xs (entDs (a :: r)), ?_, ?_⟩
    · refine ⟨.ref W, rfl, W, _, 0, .str a, rfl, rfl, .inl (.inl upd_same), atI_nat (j := 0) rfl, ?_⟩
      refine ⟨by show 2 ≤ sizeLine; decide, fun tp np => ⟨tp, wGS.map V.str, rfl, .inr (.inl (.inl upd_same)), rfl, by decide +kernel, _, rfl, ?_⟩⟩
      have s1 := same_upd (o := .tup (wGS.map V.str)) np
      have eW := s1 _ _ (upd_same (H := H) (a := W) (o := .lst ((a :: r).map V.str)))
      have nos : ∀ H', Same (upd H W (.lst ((a :: r).map V.str))) H' → entDs (a :: r) = (a :: r).map PyData.str → (Same H H' ∧ ∃ xs, [some (V.str z), some (.ref W)] = [some (.str z), some (.ref W)] ∧ H' W = some (.lst xs) ∧ DpAll K H' xs (entDs (a :: r))) := fun H' s e => ⟨sW.trans s, _, rfl, s _ _ upd_same, by rw [e]; exact strs_dp _⟩
      show if goSpy a = true then _ else _
      refine ite2 (fun e1 => ?_) (fun e1 => ?_)
      · refine ⟨.ref W, rfl, W, _, rfl, .inl (.inl (.inl eW)), _, _, rfl, rfl, _, rfl, ite2 (fun e2 => ?_) (fun e2 => ?_)⟩
        · obtain ⟨b, r, rfl⟩ : ∃ b r', r = b :: r' := by
            cases e : r with
            | nil =>
              rw [e] at e2
              cases e2
            | cons b r' => exact ⟨b, r', rfl⟩
          refine ⟨.ref W, rfl, W, _, 1, .str b, rfl, rfl, .inl (.inl eW), atI_nat (j := 1) rfl, b, rfl, Nat.le_trans (hx b (by simp)) (by decide), fun H3 s3 => ?_⟩
          have eW3 := s3 _ _ eW
          refine ⟨.ref W, rfl, W, _, 1, 1, rfl, rfl, eW3, Evl.ixN_nat (j := 1) (by rw [List.length_map, List.length_cons, List.length_cons]; omega), fun b' o e => ?_, _, rfl, upd_same, ?_⟩
          · rw [upd_ne (ne_of_none e nW)]
            exact s3 _ _ (s1 _ _ (sW _ _ e))
          · show DpAll K _ (.str a :: numV (numIn b.cps.toList) :: r.map V.str) (.str a :: (if goSpy a = true then _ else _) :: r.map PyData.str)
            rw [if_pos e1]
            exact .cons (.str _) (.cons (numV_dp _) (strs_dp r))
        · refine nos _ s1 ?_
          cases e : r with
          | nil => rfl
          | cons b r' =>
            rw [e] at e2
            refine absurd (decide_eq_true ?_) e2
            show (1 : Int) < (((a :: b :: r').map V.str).length : Int)
            rw [List.length_map, List.length_cons, List.length_cons]
            omega
      · refine ite2 (fun z => nomatch z) (fun _ => nos _ s1 ?_)
        cases e : r with
        | nil => rfl
        | cons b r' =>
          show PyData.str a :: (if goSpy a = true then _ else _) :: _ = _
          rw [if_neg e1]
          rfl
    rintro σ H1 ⟨s1, xs, rfl, eW, ha⟩
    refine ⟨.ref W, rfl, .ref W, .list (entDs (a :: r)), rfl, ?_, .lst (.inl (.inl eW)) ha, fun H2 s2 => ⟨_, rfl, ?_⟩⟩
    · show (decide ((entDs (a :: r)).length ≤ 1000) && (entDs (a :: r)).all gp) = true
      rw [decide_eq_true (by rw [ents_len]; exact hl), List.all_eq_true.mpr (ents_gp hx)]
      rfl
    show if entL (entDs (a :: r)) = true then _ else _
    refine ite2 (fun e => ?_) (fun e => q2 (Bool.eq_false_iff.mpr e) _ (s1.trans s2))
    refine ⟨.ref W, rfl, W, xs, rfl, .inl ⟨.inl (.inl (s2 _ _ eW)), fun t nt => ?_⟩⟩
    have s3 := same_upd (o := .tup xs) nt
    exact q1 e _ t xs ((s1.trans s2).trans s3) ((s1.trans s2).free nt) upd_same (dpa_same (s2.trans s3) _ _ ha)
/-! ### how long texts are, joined and split -/
theorem app_lenT (a b : Str) : (a ++ b).length = a.length + b.length := by
  show (a.cps ++ b.cps).size = _
  rw [Array.size_append]
  rfl
theorem join_lenG (m : Str) : ∀ ys : List Str, (Str.join m ys).length = (ys.map (·.length)).sum + (ys.length - 1) * m.length
  | [] => (Nat.zero_mul m.length).symm.trans (Nat.zero_add _).symm
  | [y] => by
    show y.length = y.length + 0 + 0 * m.length
    omega
  | y :: z :: r => by
    have ih := join_lenG m (z :: r)
    have e1 : (Str.join m (y :: z :: r)).length = ((y ++ m) ++ Str.join m (z :: r)).length := rfl
    have e2 : ((y :: z :: r).map (·.length)).sum = y.length + ((z :: r).map (·.length)).sum := by rw [List.map_cons, List.sum_cons]
    have e3 : ((y :: z :: r).length - 1) * m.length = ((z :: r).length - 1) * m.length + m.length := Nat.succ_mul r.length m.length
    rw [e1, app_lenT, app_lenT, ih, e2, e3]
    omega
theorem split_sum (z m : Str) : ((Txt.split z m).map (·.length)).sum + ((Txt.split z m).length - 1) * m.length = z.length := by
  have h := congrArg Str.length (StrLaws.join_split z m)
  rw [join_lenG] at h
  exact h
theorem mem_sum : ∀ {ys : List Str} {y : Str}, y ∈ ys → y.length ≤ (ys.map (·.length)).sum
  | x :: r, y, h => by
    rw [List.map_cons, List.sum_cons]
    rcases List.mem_cons.mp h with h | h
    · rw [h]
      exact Nat.le_add_right _ _
    · exact Nat.le_trans (mem_sum h) (Nat.le_add_left _ _)
theorem split_mem {z m y : Str} (h : y ∈ Txt.split z m) : y.length ≤ z.length := by
  have h1 := mem_sum h
  have h2 := split_sum z m
  omega
theorem split_cnt {z m : Str} (hm : 1 ≤ m.length) : (Txt.split z m).length ≤ z.length + 1 := by
  have h2 := split_sum z m
  have h3 : (Txt.split z m).length - 1 ≤ ((Txt.split z m).length - 1) * m.length := Nat.le_mul_of_pos_right _ hm
  omega
theorem notIn_KT {X : Cx} {K : PySem.W.Frag} (h : X.K = K) : OpR X (compareOp .NotIn) (rIn K true) := h ▸ op_notIn_seq
theorem pi_listK {X : Cx} {K : PySem.W.Frag} {tg l : Expr} {tl : TE} (h : X.K = K) (hl : PE X l tl) : PI X tg l (iList K tl) := h ▸ pi_list hl
/-- parts that are flat stay what they are in any heap -/
def flatD : PyData → Bool
  | .list _ => false
  | .tuple _ => false
  | .dict _ => false
  | _ => true
theorem dpa_flat {K : PySem.W.Frag} {H H' : Hp} : ∀ {ds : List PyData} {xs : List V}, (∀ d ∈ ds, flatD d = true) → DpAll K H xs ds → DpAll K H' xs ds
  | [], _, _, h => by cases h; exact .nil
  | d :: r, _, hf, h => by
    cases h with
    | cons h1 h2 =>
      refine .cons ?_ (dpa_flat (fun x hx => hf x (List.mem_cons_of_mem _ hx)) h2)
      have := hf d List.mem_cons_self
      cases h1 with
      | non => exact .non
      | bl b => exact .bl b
      | int i => exact .int i
      | str z => exact .str z
      | lst h _ => cases this
      | tup h _ => cases this
theorem ents_flat (ws : List Str) : ∀ d ∈ entDs ws, flatD d = true := by
  have hs : ∀ (ws : List Str), ∀ d ∈ ws.map PyData.str, flatD d = true := fun ws d hd => by
    obtain ⟨x, _, rfl⟩ := List.mem_map.mp hd
    rfl
  match ws with
  | [] => exact hs _
  | [a] => exact hs _
  | a :: b :: r =>
    intro d hd
    rcases List.mem_cons.mp hd with hd | hd
    · rw [hd]; rfl
    rcases List.mem_cons.mp hd with hd | hd
    · rw [hd]
      split
      · cases numIn b.cps.toList <;> rfl
      · rfl
    · exact hs r d hd
theorem small1001 {n : Nat} (h : n ≤ 1001) : n < sizeLine := Nat.lt_of_le_of_lt h (by decide)
--@@SPLIT
/-! ### texts read, or refused -/
inductive Rd where
  | told (d : PyData)
  | bad (i : Nat)
abbrev semi : Str := PySem.Str.ofString "; "
abbrev stroke : Str := PySem.Str.ofString "-"
theorem semi_len : semi.length = 2 := by decide +kernel
abbrev wordsT (z : Str) : List Str := Txt.split z blank
def entO (z : Str) : PyData := if entL (entDs (wordsT z)) = true then .tuple (entDs (wordsT z)) else .none
def rdEnt (z : Str) : Rd := if entL (entDs (wordsT z)) = true then .told (.tuple (entDs (wordsT z))) else .bad 0
def partsO (z : Str) : List PyData := (Txt.split z semi).map entO
def rdLog (z : Str) : Rd := if z = stroke then .told (.tuple []) else match badAt false 0 (partsO z) with
  | none => .told (.tuple (partsO z))
  | some i => .bad i
def lotO (z : Str) : PyData := numD (numIn z.cps.toList)
def lotsO (z : Str) : List PyData := (wordsT z).map lotO
def badLot : Nat → List PyData → Option Nat
  | _, [] => none
  | i, d :: r => if lotD d = true then badLot (i + 1) r else some i
def rdDeal (z : Str) : Rd := if z = stroke then .told (.tuple []) else match badLot 0 (lotsO z) with
  | none => .told (.tuple (lotsO z))
  | some i => .bad i
theorem words_len {z : Str} (h : z.length ≤ 900) : (wordsT z).length ≤ 1000 ∧ ∀ x ∈ wordsT z, x.length ≤ 1000 := by
  refine ⟨?_, fun x hx => ?_⟩
  · have := split_cnt (z := z) (m := blank) (by decide +kernel)
    show (Txt.split z blank).length ≤ 1000
    omega
  · have := split_mem hx
    omega
theorem entO_ge {z : Str} (h : z.length ≤ 900) : ge (entO z) = true := by
  unfold entO
  obtain ⟨h1, h2⟩ := words_len h
  split
  · show (decide ((entDs (wordsT z)).length ≤ 1000) && (entDs (wordsT z)).all gp) = true
    rw [decide_eq_true (by rw [ents_len]; exact h1), List.all_eq_true.mpr (ents_gp h2)]
    rfl
  · rfl
theorem tupD_entO (z : Str) : tupD (entO z) = entO z := by
  unfold entO
  split <;> rfl
theorem tupD_parts (z : Str) : (partsO z).map tupD = partsO z := by
  unfold partsO
  rw [List.map_map]
  exact List.map_congr_left fun x _ => tupD_entO x
/-- a promise of a text that is read -/
def spRd (K : PySem.W.Frag) (C : Addr) (f : Str → Rd) : Sp := fun vs H Q E => ∃ z : Str, vs = [.str z] ∧ z.length ≤ 900 ∧ (∀ d, f z = .told d → ∀ H' v, Same H H' → Dp K H' v d → Q v H') ∧ (∀ i : Nat, f z = .bad i → RaV C H [("at", .int (i : Int))] E)
theorem ok_init_NoText (T : Top w K mg) : FnOk P w K mg base CX0 4 T.a_init_NoText T.fd_init_NoText ["self", "at"] (spIni T.a_NoText "at" isIntV) := by
  have G_kept := ok_kept (P := P) (w := w) (base := base) T
  refine T.F_init_NoText.ok sc_init_NoText (fun vs H Q E h => ?_) (fun cdv A outer s H vs Q E hr h => ?_)
  · obtain ⟨a, i, rfl, _⟩ := h
    rfl
  · obtain ⟨a, _, rfl, ⟨i, rfl⟩, ha, q⟩ := h
    refine ⟨_, (pss_one (ps_ost (pv 0) (pe_call G_kept (hr.mono (by decide)) (by rfl) T.g_kept T.F_kept.kp T.b_kept .nil pass0 (pa_cons (pv 1) pa_nil)))), ?_⟩
    refine ⟨_, rfl, .int i, .int i, rfl, siz_int _, .int i, fun H1 v' s1 hv' => ?_⟩
    cases hv'
    refine ⟨.ref a, rfl, a, T.a_NoText, rfl, T.oex_NoText, T.no_NoText_at, .inl ⟨s1 _ _ ha, fun dx ndx ne => ?_⟩⟩
    exact q _ dx (fun b o hb h => (upd_ne hb).trans (same_upd ndx _ _ (s1 _ _ h))) (s1.free ndx) ne upd_same ((upd_ne ne).trans upd_same)
theorem okH_init_NoText (T : Top w K mg) : L2H.FnH P w K mg base CX0 4 T.a_init_NoText T.fd_init_NoText ["self", "at"] (spIni T.a_NoText "at" isIntV) := by
  have GH_kept := okH_kept (P := P) (w := w) (base := base) T
  refine HotAs.okH T.F_init_NoText sc_init_NoText (fun vs H Q E h => ?_) (fun cdv A outer s H vs Q E p hr hc h => ?_)
  · obtain ⟨a, i, rfl, _⟩ := h
    rfl
  · obtain ⟨a, _, rfl, ⟨i, rfl⟩, ha, q⟩ := h
    refine ⟨_, (pss_one (ps_ost (pv 0) (L2H.pe_callH (E := fun _ _ _ _ => False) GH_kept (hr.mono (by decide)) hc (by rfl) T.g_kept T.F_kept.kp T.b_kept (fun _ _ _ _ _ _ _ z => z.elim) (pa_cons (pv 1) pa_nil)))), ?_⟩
    refine ⟨_, rfl, .int i, .int i, rfl, rfl, .int i, fun H1 s1 => ?_⟩
    refine ⟨.ref a, rfl, a, T.a_NoText, rfl, T.oex_NoText, T.no_NoText_at, .inl ⟨s1 _ _ ha, fun dx ndx ne => ?_⟩⟩
    exact q _ dx (fun b o hb h => (upd_ne hb).trans (same_upd ndx _ _ (s1 _ _ h))) (s1.free ndx) ne upd_same ((upd_ne ne).trans upd_same)
theorem ok_read_log (T : Top w K mg) : FnOk P w K mg base (L2.CX P w) 9 T.a_read_log T.fd_read_log ["text"] (spRd K T.a_NoText rdLog) := by
  have G_entry_in := ok_entry_in (P := P) (w := w) (base := base) T
  have G_held_log := ok_held_logT (P := P) (w := w) (base := base) T
  have GH_init_NoText := okH_init_NoText (P := P) (w := w) (base := base) T
  refine T.F_read_log.okX sc_read_log (fun vs H Q E h => ?_) (fun cdv A outer s H vs Q E hr h => ?_)
  · obtain ⟨z, rfl, _⟩ := h
    rfl
  · obtain ⟨z, rfl, hz, q, bad⟩ := h
    refine ⟨_, (pss_cons (ps_if (pt_cmpR op_eq (pv 0) (pe_glob (v := .str "-") (by rfl) T.g_NONE_AT_ALL.choose_spec ⟨_, rfl⟩) (nomark _)) (pss_one (ps_ret (pe_tup pa_nil))) pss_nil)
      (pss_one (HotAs.ps_try_asX (i := 1) rfl rfl sc_read_log.nd rfl rfl ⟨rfl, by decide, .inl T.g_BadLog⟩ (fun hd => L2H.passesAt_of rfl hd) (takes_of rfl rfl rfl rfl) (fun W pn xe tk _ => (pss_one (ps_ret (pe_callS G_held_log hr (by rfl) T.g_held_log T.F_held_log.kp T.b_held_log (fun σ => L2N.passAt tk σ) (pa_cons (pe_lc (own := [("part", 2)]) (g := gName 2) (by rfl) sc_read_log.nd (pi_listK (K := K) rfl (SeqK.pe_bmK (K := K) rfl PySem.F.plainAttrs_str PySem.F.slot_str_split PySem.F.type_str_split mt_split (pv 0) (pa_cons pe_str pa_nil))) (blkOk_by (own := [("part", 2)]) (N := ["text", "why", "part"]) (sc := defScope s_read_log) (by decide +kernel)) (fun _ _ _ _ _ => (pg_name (i := 2) sc_read_log.nd rfl (Or.inl rfl))) (fun _ _ _ _ _ => pts_nil) (fun _ _ _ _ _ => (pe_call G_entry_in (hr.mono (by decide)) (by rfl) T.g_entry_in T.F_entry_in.kp T.b_entry_in .nil pass0 (pa_cons (pv 2) pa_nil)))) pa_nil))))) (fun a oe cls d pn xe hz hf tk hot => (pss_one (L2H.ps_raiseHN hot tk (L2H.pmk5_oexH T.oex_NoText T.iC_NoText T.tI_NoText GH_init_NoText (L2H.roomH_mark (hr.mono (by decide)) _) hot T.b_init_NoText pass0 (by rfl) T.g_NoText (pa_cons (HotAs.pe_sx (pe_xf T.xf T.no_at (L2N.Zn.zc hz) hf (pv 1))) pa_nil)))))))), ?_⟩
    refine ⟨_, rfl, rfl, _, rfl, ?_⟩
    by_cases e0 : z = stroke
    · refine iteDY (decide_eq_true (congrArg V.str e0)) ⟨Nat.zero_le _, fun r nr => ?_⟩
      exact q _ (if_pos e0) _ _ (same_upd nr) (.tup (.inl (.inl upd_same)) .nil)
    refine iteDN (decide_eq_false fun y => e0 (V.str.inj y)) ?_
    have q : badAt false 0 (partsO z) = none → ∀ H' v, Same H H' → Dp K H' v (.tuple (partsO z)) → Q v H' := fun e => q _ (by unfold rdLog; rw [if_neg e0, e])
    have bad : ∀ i : Nat, badAt false 0 (partsO z) = some i → RaV T.a_NoText H [("at", .int (i : Int))] E := fun i e => bad i (by unfold rdLog; rw [if_neg e0, e])
    have cnt := split_cnt (z := z) (m := semi) (by decide +kernel)
    refine ⟨_, rfl, rfl, _, _, rfl, rfl, by decide +kernel, Nat.le_trans (show z.length + 2 ≤ 1000 by omega) (by decide), fun W nW => ?_⟩
    have sW := same_upd (o := .lst ((Txt.split z semi).map V.str)) nW
    have eW : upd H W (.lst ((Txt.split z semi).map V.str)) W = some (.lst ((Txt.split z semi).map V.str)) := upd_same
    generalize upd H W (.lst ((Txt.split z semi).map V.str)) = H1 at sW eW ⊢
    refine ⟨W, rfl, ⟨_, .inl (.inl eW)⟩, fun D hD => lc_it (walk_list (xs := (Txt.split z semi).map V.str)) (fun i H' => Same H1 H' ∧ ∃ ys, H' D = some (.lst ys) ∧ DpAll K (wo H' (fun c => c = D)) ys ((partsO z).take i)) ⟨same_upd hD, [], upd_same, .nil⟩ (fun i H' _ h => .inl (.inl (h.1 _ _ eW))) ?_ ?_⟩
    · rintro i v H2 H3 hi ⟨sm, ys, eD, hy⟩ ⟨rfl, hx⟩
      rw [List.getElem?_map] at hx
      obtain ⟨x, fx, rfl⟩ : ∃ x, (Txt.split z semi)[i]? = some x ∧ V.str x = v := by
        cases e1 : (Txt.split z semi)[i]? with
        | none => rw [e1] at hx; cases hx
        | some x => rw [e1] at hx; exact ⟨x, rfl, Option.some.inj hx⟩
      have lx := split_mem (List.mem_of_getElem? fx)
      obtain ⟨w1, w2⟩ := words_len (show x.length ≤ 900 by omega)
      have ly := dpa_len _ _ hy
      rw [List.length_take] at ly
      have fp : (partsO z)[i]? = some (entO x) := by unfold partsO; rw [List.getElem?_map, fx]; rfl
      have lp : (partsO z).length = (Txt.split z semi).length := List.length_map _
      have more : ∀ (H4 : Hp) (v : V), Same H3 H4 → Dp K (wo H4 (fun c => c = D)) v (entO x) → ∃ acc, H4 D = some (.lst acc) ∧ acc.length < sizeLine ∧ (Same H1 (upd H4 D (.lst (acc ++ [v]))) ∧ ∃ ys, (upd H4 D (.lst (acc ++ [v]))) D = some (.lst ys) ∧ DpAll K (wo (upd H4 D (.lst (acc ++ [v]))) (fun c => c = D)) ys ((partsO z).take (i + 1))) := fun H4 v s4 hv => by
        have m5 : Same (wo H3 (fun c => c = D)) (wo (upd H4 D (.lst (ys ++ [v]))) (fun c => c = D)) := fun c o h => by
          have h2 := wo_some h
          rw [wo_in (X := fun c => c = D) h2.1, upd_ne h2.1]
          exact s4 _ _ h2.2
        have m6 : Same (wo H4 (fun c => c = D)) (wo (upd H4 D (.lst (ys ++ [v]))) (fun c => c = D)) := fun c o h => by
          have h2 := wo_some h
          rw [wo_in (X := fun c => c = D) h2.1, upd_ne h2.1]
          exact h2.2
        refine ⟨ys, s4 _ _ eD, small1000 (by omega), fun c o h => (upd_ne (ne_of_none h hD)).trans (s4 _ _ (sm _ _ h)), _, upd_same, ?_⟩
        rw [List.take_add_one, fp]
        exact dpa_snoc (dp_same m6 _ _ hv) _ _ (dpa_same m5 _ _ hy)
      refine ⟨rfl, _, rfl, x, wordsT x, rfl, by omega, rfl, w1, w2, fun e H4 r xs s4 nr er hx => more H4 _ s4 ?_, fun e H4 s4 => more H4 _ s4 ?_⟩
      · unfold entO
        rw [if_pos e]
        have nrD : r ≠ D := Ne.symm (ne_of_none eD nr)
        refine .tup (.inl (.inl ((wo_in (X := fun c => c = D) nrD).trans er))) ?_
        exact dpa_flat (ents_flat _) hx
      · unfold entO
        rw [if_neg (by rw [e]; decide)]
        exact .non
    rintro H2 ⟨sm, ys, eD, hy⟩
    have lp : (partsO z).length = (Txt.split z semi).length := List.length_map _
    rw [List.length_map, ← lp, List.take_length] at hy
    refine ⟨D, ys, partsO z, rfl, .inl (.inl (.inl eD)), dpa_same wo_same _ _ hy, fun d hd => ?_, by omega, fun hn H3 r s3 hr3 => ?_, fun i hi H3 dd s3 nd ed => ?_⟩
    · unfold partsO at hd
      obtain ⟨x, hx, rfl⟩ := List.mem_map.mp hd
      exact entO_ge (by have := split_mem hx; omega)
    · rw [tupD_parts] at hr3
      exact q hn _ _ ((sW.trans sm).trans s3) hr3
    · refine ⟨true, T.exm, (fun _ a0 na0 => ⟨.ref a0, rfl, rfl, rfl, dd, _, .int (i : Nat), rfl, ed, by simp [List.lookup], by show 1 ≤ 1000; decide, fun a na => ?_⟩), fun y => Bool.noConfusion y⟩
      exact raise1 ⟨_, rfl⟩ ((bad i hi).same ((sW.trans sm).trans s3)) a na

--@@SPLIT
/-! ### one figure, by the law's own look -/
theorem sgs_in {b : Str} {cs : List Nat} : inV (.str b) (LsT.sgs cs) = (cs.any fun c => (⟨#[c]⟩ : Str) == b) := by
  unfold inV LsT.sgs
  rw [List.any_map]
  rfl
theorem sgs_flat (cs : List Nat) : (LsT.sgs cs).all flatV = true := by
  unfold LsT.sgs
  rw [List.all_map]
  exact List.all_eq_true.mpr fun _ _ => rfl
abbrev N19 : Str := PySem.Str.ofString "123456789"
abbrev N07 : Str := PySem.Str.ofString "01234567"
def nineF (b : Str) : Bool := inV (.str b) (LsT.sgs N19.cps.toList)
def sevenF (b : Str) : Bool := inV (.str b) (LsT.sgs N07.cps.toList)
theorem n19 : N19.cps.toList = [49, 50, 51, 52, 53, 54, 55, 56, 57] := by decide +kernel
theorem n07 : N07.cps.toList = [48, 49, 50, 51, 52, 53, 54, 55] := by decide +kernel
theorem nineF_iff (b : Str) : nineF b = true ↔ ∃ c, 49 ≤ c ∧ c ≤ 57 ∧ b = ⟨#[c]⟩ := by
  unfold nineF
  rw [sgs_in, n19, List.any_eq_true]
  constructor
  · rintro ⟨c, hc, e⟩
    refine ⟨c, ?_, ?_, (beq_iff_eq.mp e).symm⟩ <;> · simp only [List.mem_cons, List.not_mem_nil, or_false] at hc; omega
  · rintro ⟨c, h1, h2, rfl⟩
    refine ⟨c, ?_, beq_self_eq_true _⟩
    simp only [List.mem_cons, List.not_mem_nil, or_false]
    omega
theorem seven_iff (b : Str) : sevenF b = true ↔ ∃ c, 48 ≤ c ∧ c ≤ 55 ∧ b = ⟨#[c]⟩ := by
  unfold sevenF
  rw [sgs_in, n07, List.any_eq_true]
  constructor
  · rintro ⟨c, hc, e⟩
    refine ⟨c, ?_, ?_, (beq_iff_eq.mp e).symm⟩ <;> · simp only [List.mem_cons, List.not_mem_nil, or_false] at hc; omega
  · rintro ⟨c, h1, h2, rfl⟩
    refine ⟨c, ?_, beq_self_eq_true _⟩
    simp only [List.mem_cons, List.not_mem_nil, or_false]
    omega
theorem num_one {c : Nat} (h0 : 48 ≤ c) (h1 : c ≤ 57) : numIn (⟨#[c]⟩ : Str).cps.toList = some (c - 48) := by
  unfold numIn
  have ok : numOk [c] = true := by
    unfold numOk
    rw [List.all_cons, (dg_iff c).mpr ⟨h0, h1⟩]
    simp
  rw [show (⟨#[c]⟩ : Str).cps.toList = [c] from rfl, if_pos ok]
  show some (0 * 10 + (c - 48)) = _
  rw [Nat.zero_mul, Nat.zero_add]
theorem val_ge (cs : List Nat) : ∀ acc : Nat, acc ≤ cs.foldl (fun acc c => acc * 10 + (c - 48)) acc := by
  induction cs with
  | nil => exact fun _ => Nat.le_refl _
  | cons c r ih =>
    intro acc
    exact Nat.le_trans (by omega) (ih (acc * 10 + (c - 48)))
theorem num_small {b : Str} {n : Nat} (h : numIn b.cps.toList = some n) (hn : n ≤ 9) : ∃ c, 48 ≤ c ∧ c ≤ 57 ∧ b = ⟨#[c]⟩ ∧ n = c - 48 := by
  unfold numIn at h
  by_cases ok : numOk b.cps.toList = true
  · rw [if_pos ok] at h
    have hv := Option.some.inj h
    obtain ⟨⟨cs⟩⟩ := b
    have e0 : (⟨⟨cs⟩⟩ : Str).cps.toList = cs := rfl
    rw [e0] at ok hv
    unfold numOk at ok
    obtain ⟨o1, o2⟩ := Bool.and_eq_true_iff.mp ok
    obtain ⟨o3, o4⟩ := Bool.and_eq_true_iff.mp o2
    obtain ⟨o5, _⟩ := Bool.and_eq_true_iff.mp o1
    match cs, o3, o4, o5, hv with
    | [], _, _, o5, _ => cases o5
    | [c], o3, _, _, hv =>
      have hc := (dg_iff c).mp (List.all_eq_true.mp o3 c (by simp))
      refine ⟨c, hc.1, hc.2, rfl, ?_⟩
      rw [← hv]
      show 0 * 10 + (c - 48) = _
      omega
    | c :: d :: r, o3, o4, _, hv =>
      have hc := (dg_iff c).mp (List.all_eq_true.mp o3 c (by simp))
      have c0 : c ≠ 48 := fun z => by
        subst z
        have e1 : decide ((48 :: d :: r).head? = some 48) = true := decide_eq_true rfl
        have e2 : decide (1 < (((48 :: d :: r).length : Nat) : Int)) = true := decide_eq_true (by rw [List.length_cons, List.length_cons]; omega)
        rw [e1, e2] at o4
        cases o4
      have g := val_ge r ((0 * 10 + (c - 48)) * 10 + (d - 48))
      have hv : r.foldl (fun acc c => acc * 10 + (c - 48)) ((0 * 10 + (c - 48)) * 10 + (d - 48)) = n := hv
      omega
  · rw [if_neg ok] at h
    cases h
theorem nine_many {b : Str} (h : nineF b = false) : manyD (numD (numIn b.cps.toList)) = false := by
  cases e : numIn b.cps.toList with
  | none => rfl
  | some n =>
    show (decide (1 ≤ (n : Int)) && decide ((n : Int) ≤ 9)) = false
    by_cases h9 : n ≤ 9
    · obtain ⟨c, c0, c1, eb, en⟩ := num_small e h9
      by_cases hc : 49 ≤ c
      · rw [(nineF_iff b).mpr ⟨c, hc, c1, eb⟩] at h
        cases h
      · rw [decide_eq_false (show ¬ 1 ≤ (n : Int) by omega)]
        rfl
    · rw [decide_eq_false (show ¬ (n : Int) ≤ 9 by omega), Bool.and_false]
theorem seven_lot (b : Str) : lotD (lotO b) = sevenF b := by
  unfold lotO
  cases h : sevenF b with
  | true =>
    obtain ⟨c, c0, c1, rfl⟩ := (seven_iff b).mp h
    rw [num_one c0 (by omega)]
    show (decide (0 ≤ ((c - 48 : Nat) : Int)) && decide (((c - 48 : Nat) : Int) ≤ 7)) = true
    rw [decide_eq_true (by omega), decide_eq_true (by omega)]
    rfl
  | false =>
    cases e : numIn b.cps.toList with
    | none => rfl
    | some n =>
      show (decide (0 ≤ (n : Int)) && decide ((n : Int) ≤ 7)) = false
      by_cases h9 : n ≤ 7
      · obtain ⟨c, c0, c1, eb, en⟩ := num_small e (by omega)
        rw [(seven_iff b).mpr ⟨c, c0, by omega, eb⟩] at h
        cases h
      · rw [decide_eq_false (show ¬ (n : Int) ≤ 7 by omega), Bool.and_false]
theorem int_one {c : Nat} (h0 : 48 ≤ c) (h1 : c ≤ 57) : PySem.intText? (⟨#[c]⟩ : Str) = some ((c - 48 : Nat) : Int) := by
  have e := intText_digits (x := ⟨#[c]⟩) (fun d hd => by
    have : d = c := List.mem_singleton.mp hd
    omega) (fun z => nomatch z) (show (1 : Nat) ≤ 4300 by decide)
  rw [e]
  show some (((0 * 10 + (c - 48) : Nat)) : Int) = _
  rw [Nat.zero_mul, Nat.zero_add]
/-- the law's own reading of the words -/
def entLw : List Str → List PyData
  | a :: b :: r => .str a :: (if (goSpy a && nineF b) = true then numD (numIn b.cps.toList) else .str b) :: r.map PyData.str
  | ws => ws.map PyData.str
theorem go_no {a : Str} (h : goSpy a = true) : a = PySem.Str.ofString "go" ∨ a = PySem.Str.ofString "spy" := by
  obtain ⟨s, hs, e⟩ := List.any_eq_true.mp (show (wGS.map V.str).any (fun y => eqV y (.str a)) = true from h)
  obtain ⟨x, hx, rfl⟩ := List.mem_map.mp hs
  have e2 : x = a := beq_iff_eq.mp (show (x == a) = true from e)
  subst e2
  simpa [wGS] using hx
theorem ent_at1 {a : Str} {x y : PyData} {r : List PyData} (h : goSpy a = true) (hx : manyD x = false) (hy : manyD y = false) : entL (.str a :: x :: r) = false := by
  rcases go_no h with rfl | rfl
  · match r with
    | [] => exact hx
    | [_] => rfl
    | _ :: _ :: _ => rfl
  · match r with
    | [] => rfl
    | [c] => show (eqS (.str (PySem.Str.ofString "spy")) (PySem.Str.ofString "spy") && (manyD x && sgD c)) = false; rw [hx, Bool.false_and, Bool.and_false]
    | _ :: _ :: _ => rfl
theorem ent_two (ws : List Str) : entL (entLw ws) = entL (entDs ws) ∧ (entL (entDs ws) = true → entLw ws = entDs ws) := by
  match ws with
  | [] => exact ⟨rfl, fun _ => rfl⟩
  | [a] => exact ⟨rfl, fun _ => rfl⟩
  | a :: b :: r =>
    have e1 : entLw (a :: b :: r) = .str a :: (if (goSpy a && nineF b) = true then numD (numIn b.cps.toList) else .str b) :: r.map PyData.str := rfl
    have e2 : entDs (a :: b :: r) = .str a :: (if goSpy a = true then numD (numIn b.cps.toList) else .str b) :: r.map PyData.str := rfl
    rw [e1, e2]
    cases h : goSpy a with
    | false => exact ⟨rfl, fun _ => rfl⟩
    | true =>
      cases h2 : nineF b with
      | true => exact ⟨rfl, fun _ => rfl⟩
      | false =>
        have f1 : entL (.str a :: PyData.str b :: r.map PyData.str) = false := ent_at1 (y := .none) h rfl rfl
        have f2 : entL (.str a :: numD (numIn b.cps.toList) :: r.map PyData.str) = false := ent_at1 (y := .none) h (nine_many h2) rfl
        exact ⟨f1.trans f2.symm, fun z => absurd (f2.symm.trans z) Bool.false_ne_true⟩
theorem entO_law (z : Str) : entO z = if entL (entLw (wordsT z)) = true then .tuple (entLw (wordsT z)) else .none := by
  obtain ⟨h1, h2⟩ := ent_two (wordsT z)
  unfold entO
  rw [h1]
  by_cases h : entL (entDs (wordsT z)) = true
  · rw [if_pos h, if_pos h, h2 h]
  · rw [if_neg h, if_neg h]
theorem lws_len : ∀ ws : List Str, (entLw ws).length = ws.length
  | [] => rfl
  | [a] => rfl
  | a :: b :: r => by
    show (r.map PyData.str).length + 1 + 1 = r.length + 1 + 1
    rw [List.length_map]
theorem lws_gp {ws : List Str} (h : ∀ x ∈ ws, x.length ≤ 1000) : ∀ d ∈ entLw ws, gp d = true := by
  have hs : ∀ ws : List Str, (∀ x ∈ ws, x.length ≤ 1000) → ∀ d ∈ ws.map PyData.str, gp d = true := fun ws h d hd => by
    obtain ⟨x, hx, rfl⟩ := List.mem_map.mp hd
    exact decide_eq_true (h x hx)
  match ws, h with
  | [], h => exact hs _ h
  | [a], h => exact hs _ h
  | a :: b :: r, h =>
    intro d hd
    rcases List.mem_cons.mp hd with hd | hd
    · rw [hd]
      exact decide_eq_true (h a (by simp))
    rcases List.mem_cons.mp hd with hd | hd
    · rw [hd]
      split
      · exact numD_gp _
      · exact decide_eq_true (h b (by simp))
    · exact hs r (fun x hx => h x (List.mem_cons_of_mem _ (List.mem_cons_of_mem _ hx))) d hd
/-- what is due, as data -/
def dueR : Rd → PyData
  | .told d => .tuple [.str "told", d]
  | .bad i => .tuple [.str "NoText", .int (i : Int)]
def rdOf (way : Nat) : Str → Rd := if way = 0 then rdEnt else if way = 1 then rdLog else rdDeal
theorem ents_ok (ws : List Str) (h : ws.length ≤ 1000) : okD 1 (.tuple (entDs ws)) = true := by
  refine Bool.and_eq_true_iff.mpr ⟨decide_eq_true (by rw [ents_len]; exact h), List.all_eq_true.mpr fun d hd => ?_⟩
  have := ents_flat ws d hd
  cases d <;> first | rfl | cases this
theorem okD_mono : ∀ {n : Nat} {d : PyData}, okD n d = true → okD (n + 1) d = true
  | n, .none, _ => by cases n <;> rfl
  | n, .bool _, _ => by cases n <;> rfl
  | n, .int _, _ => by cases n <;> rfl
  | n, .str _, _ => by cases n <;> rfl
  | n + 1, .tuple ds, h => by
    obtain ⟨h1, h2⟩ := Bool.and_eq_true_iff.mp (show (decide (ds.length ≤ 1000) && ds.all fun d => okD n d) = true from h)
    exact Bool.and_eq_true_iff.mpr ⟨h1, List.all_eq_true.mpr fun d hd => okD_mono (List.all_eq_true.mp h2 d hd)⟩
  | 0, .tuple ds, h => by cases h
  | n, .list ds, h => by cases n <;> cases h
  | n, .dict ds, h => by cases n <;> cases h
theorem entO_ok {z : Str} (h : z.length ≤ 900) : okD 1 (entO z) = true := by
  unfold entO
  split
  · exact ents_ok _ (words_len h).1
  · rfl
theorem told_ok {n : Nat} {d : PyData} (h : okD n d = true) : okD (n + 1) (dueR (.told d)) = true := by
  show (decide (2 ≤ 1000) && (okD n (.str "told") && (okD n d && true))) = true
  rw [h]
  cases n <;> rfl
theorem bad_ok (n : Nat) (i : Nat) : okD (n + 1) (dueR (.bad i)) = true := by
  cases n <;> rfl
theorem due_ok {way : Nat} {z : Str} (h : z.length ≤ 900) : okD 3 (dueR (rdOf way z)) = true := by
  have cnt := split_cnt (z := z) (m := semi) (by decide +kernel)
  obtain ⟨w1, w2⟩ := words_len h
  unfold rdOf
  split
  · unfold rdEnt
    split
    · exact told_ok (okD_mono (ents_ok _ w1))
    · exact bad_ok 2 0
  split
  · unfold rdLog
    split
    · exact told_ok (n := 2) rfl
    split
    · refine told_ok (n := 2) (Bool.and_eq_true_iff.mpr ⟨decide_eq_true ?_, List.all_eq_true.mpr fun d hd => ?_⟩)
      · unfold partsO
        rw [List.length_map]
        omega
      · unfold partsO at hd
        obtain ⟨x, hx, rfl⟩ := List.mem_map.mp hd
        exact entO_ok (by have := split_mem hx; omega)
    · exact bad_ok 2 _
  · unfold rdDeal
    split
    · exact told_ok (n := 2) rfl
    split
    · refine told_ok (n := 2) (Bool.and_eq_true_iff.mpr ⟨decide_eq_true ?_, List.all_eq_true.mpr fun d hd => ?_⟩)
      · unfold lotsO
        rw [List.length_map]
        exact w1
      · unfold lotsO at hd
        obtain ⟨x, hx, rfl⟩ := List.mem_map.mp hd
        unfold lotO
        cases numIn x.cps.toList <;> rfl
    · exact bad_ok 2 _
--@@SPLIT
/-! ### the law's own reading of names and signs -/
theorem ok_Lis_name (T : Top w K mg) : FnOk P w K mg base CX0 1 T.a_Lis_name T.fd_Lis_name ["_law_thing"] (spIsV K nmV) := by
  refine T.F_Lis_name.ok sc_Lis_name (fun vs H Q E h => ?_) (fun cdv A outer s H vs Q E hr h => ?_)
  · obtain ⟨v, rfl, _⟩ := h
    rfl
  · obtain ⟨v, rfl, hv, q⟩ := h
    refine ⟨_, (pss_cons (ps_if (PW.pt (pw_or (pt_not (pt_val (pe_callB call_isi (by rfl) T.m_isinstance (by decide +kernel) (pa_cons (pv 0) (pa_cons (pe_bltn (v := .ty "str") (by rfl) T.m_str (by decide +kernel) rfl) pa_nil))))) (pw_or1 (pt_not (pt_chain op_lt op_lt pe_int (pe_callB call_len_str (by rfl) T.m_len (by decide +kernel) (pa_cons (pv 0) pa_nil)) pe_int))))) (pss_one (ps_ret pe_bl)) pss_nil)
      (pss_one (ps_ret (pe_callB (cr_all rfl) (by rfl) T.m_all (by decide +kernel) (pa_cons (pe_lc (own := [("_law_letter", 1)]) (g := gName 1) (by rfl) sc_Lis_name.nd (pi_str (pv 0)) (blkOk_by (own := [("_law_letter", 1)]) (N := ["_law_thing", "_law_letter"]) (sc := defScope s_Lis_name) (by decide +kernel)) (fun _ _ _ _ _ => (pg_name (i := 1) sc_Lis_name.nd rfl (Or.inl rfl))) (fun _ _ _ _ _ => pts_nil) (fun _ _ _ _ _ => (pe_cmpR op_in_sign (pv 1) pe_str (by rfl)))) pa_nil))))), ?_⟩
    rcases hv with ⟨z, rfl, hz⟩ | ⟨no, t, ty, k⟩
    · refine ⟨.str z, rfl, _, _, _, _, true, rfl, .ty _, .base (.str z), kit_ty (by decide +kernel), _, rfl, iteF ?_⟩
      have e0 : shV (.str z) = (decide (0 < (z.length : Int)) && decide ((z.length : Int) < 9)) := by
        show (decide (1 ≤ (z.cps.toList.length : Int)) && decide ((z.cps.toList.length : Int) ≤ 8)) = _
        rw [len_toList]
        by_cases h1 : 0 < (z.length : Int)
        · rw [decide_eq_true h1, decide_eq_true (show 1 ≤ (z.length : Int) by omega)]
          by_cases h2 : (z.length : Int) < 9
          · rw [decide_eq_true h2, decide_eq_true (show (z.length : Int) ≤ 8 by omega)]
          · rw [decide_eq_false h2, decide_eq_false (show ¬ (z.length : Int) ≤ 8 by omega)]
        · rw [decide_eq_false h1, decide_eq_false (show ¬ 1 ≤ (z.length : Int) by omega)]
          rfl
      have no : shV (.str z) = false → Q (.bl false) H := fun e => by
        have h := q H (Same.refl H)
        rw [show nmV (.str z) = false by show (shV (.str z) && z.cps.toList.all smC) = _; rw [e]; rfl] at h
        exact h
      refine ⟨.str z, rfl, z, rfl, thou hz, _, _, rfl, rfl, _, rfl, ite2 (fun e => ?_) (fun e => ?_)⟩
      · refine ⟨_, _, rfl, rfl, _, rfl, ?_⟩
        by_cases h2 : (z.length : Int) < 9
        · refine iteDN (by rw [decide_eq_true h2]; rfl) ?_
          refine ⟨.str z, rfl, z, rfl, fun D hD => lc_it walk_str (fun i H' => Same H H' ∧ H' D = some (.lst (((z.cps.toList.take i).map smC).map V.bl))) ⟨same_upd hD, upd_same⟩ (fun _ _ _ _ => trivial) ?_ ?_⟩
          · rintro i x H1 H2 hi ⟨sm, eD⟩ ⟨rfl, c, hc, rfl⟩
            refine ⟨rfl, ?_⟩
            refine ⟨_, rfl, c, _, rfl, rfl, _, eD, ?_, ?_, ?_⟩
            · rw [List.length_map, List.length_map, List.length_take, len_toList]
              exact small1000 (by omega)
            · exact fun b' o e => by
                rw [upd_ne (ne_of_none e hD)]
                exact sm _ _ e
            · rw [upd_same, List.take_add_one, Array.getElem?_toList, hc, List.map_append, List.map_append]
              rfl
          · rintro H1 ⟨sm, eD⟩
            have e2 : z.cps.toList.take z.cps.size = z.cps.toList := List.take_of_length_le (by rw [Array.length_toList]; exact Nat.le_refl _)
            rw [e2] at eD
            refine ⟨_, z.cps.toList.map smC, rfl, .inl (.inl eD), ?_⟩
            rw [all_map]
            have h := q _ sm
            rw [show nmV (.str z) = z.cps.toList.all smC by show (shV (.str z) && z.cps.toList.all smC) = _; rw [e0, e, decide_eq_true h2]; rfl] at h
            exact h
        · refine iteDY (by rw [decide_eq_false h2]; rfl) (no ?_)
          rw [e0, decide_eq_false h2, Bool.and_false]
      · refine ⟨_, rfl, no ?_⟩
        rw [e0, Bool.eq_false_iff.mpr e]
        rfl
    · have h := q H (Same.refl H)
      rw [(nmV_no no).1] at h
      exact ⟨v, rfl, _, _, _, _, false, rfl, .ty _, ty, kit_ty k, _, rfl, iteT h⟩
theorem app_one (c : Nat) (r : List Nat) : (⟨#[c]⟩ : Str) ++ (⟨⟨r⟩⟩ : Str) = ⟨⟨c :: r⟩⟩ := by
  show (⟨#[c] ++ (⟨r⟩ : Array Nat)⟩ : Str) = ⟨⟨c :: r⟩⟩
  rw [show (#[c] ++ (⟨r⟩ : Array Nat)) = ⟨c :: r⟩ from Array.ext' (by rw [Array.toList_append]; rfl)]
theorem sm97 : smC 97 = true := by decide +kernel
theorem gr_sm : ∀ c, grC c = true → smC c = false := by
  intro c h
  have h1 : c ∈ GREATs.cps.toList := of_decide_eq_true h
  have h2 : ∀ x ∈ GREATs.cps.toList, smC x = false := by decide +kernel
  exact h2 c h1
theorem sg_cons (c : Nat) (r : List Nat) : (nmL (c :: r) || loL (c :: r)) = nmL ((if grC c = true then 97 else c) :: r) := by
  show (shL (c :: r) && (c :: r).all smC || shL (c :: r) && (grC c && r.all smC)) = (shL ((if grC c = true then 97 else c) :: r) && ((if grC c = true then 97 else c) :: r).all smC)
  by_cases h : grC c = true
  · rw [if_pos h, List.all_cons, List.all_cons, gr_sm c h, sm97, h]
    rw [Bool.false_and, Bool.and_false, Bool.false_or]
    rfl
  · rw [if_neg h, Bool.eq_false_iff.mpr h, Bool.false_and, Bool.and_false, Bool.or_false]
theorem sA : PySem.Str.ofString "a" = (⟨#[97]⟩ : Str) := by decide +kernel
theorem ok_Lis_sign (T : Top w K mg) : FnOk P w K mg base CX0 2 T.a_Lis_sign T.fd_Lis_sign ["_law_thing"] (spIsV K sgV) := by
  have G_Lis_name := ok_Lis_name (P := P) (w := w) (base := base) T
  refine T.F_Lis_sign.ok sc_Lis_sign (fun vs H Q E h => ?_) (fun cdv A outer s H vs Q E hr h => ?_)
  · obtain ⟨v, rfl, _⟩ := h
    rfl
  · obtain ⟨v, rfl, hv, q⟩ := h
    refine ⟨_, (pss_cons (ps_if (PW.pt (pw_or (pt_not (pt_val (pe_callB call_isi (by rfl) T.m_isinstance (by decide +kernel) (pa_cons (pv 0) (pa_cons (pe_bltn (v := .ty "str") (by rfl) T.m_str (by decide +kernel) rfl) pa_nil))))) (pw_or1 (pt_cmpR op_eq (pv 0) pe_str (nomark _))))) (pss_one (ps_ret pe_bl)) pss_nil)
      (pss_cons (ps_set (i := 1) sc_Lis_sign.nd rfl (.inl rfl) (pe_ix ix_str (pv 0) pe_int (fun _ _ => rfl)))
      (pss_cons (ps_if (pt_cmpR op_in_sign (pv 1) pe_str (by rfl)) (pss_one (ps_set (i := 1) sc_Lis_sign.nd rfl (.inl rfl) pe_str)) pss_nil)
      (pss_one (ps_ret (pe_call G_Lis_name hr (by rfl) T.g_Lis_name T.F_Lis_name.kp T.b_Lis_name .nil pass0 (pa_cons (pe_op op_add_str (pv 1) (pe_slice sl_str (pv 0) (po_some pe_int) po_none)) pa_nil))))))), ?_⟩
    rcases hv with ⟨⟨⟨cs⟩⟩, rfl, hz⟩ | ⟨no, t, ty, k⟩
    · refine ⟨_, rfl, _, _, _, _, true, rfl, .ty _, .base (.str _), kit_ty (by decide +kernel), _, rfl, iteF ?_⟩
      refine ⟨_, rfl, rfl, _, rfl, ?_⟩
      match cs, hz, q with
      | [], _, q =>
        refine iteDY (by rw [s0]; exact decide_eq_true rfl) (q H (Same.refl H))
      | c :: r, hz, q =>
        have hz2 : r.length + 1 ≤ 1000 := hz
        refine iteDN (decide_eq_false (by rw [s0]; intro z; cases z)) ?_
        refine ⟨_, rfl, _, 0, c, rfl, rfl, thou hz, atI_nat (j := 0) rfl, ?_⟩
        have fin : ∀ (d : Nat) (H' : Hp), Same H H' → d = (if grC c = true then 97 else c) → Q (.bl (nmL (d :: r))) H' := fun d H' sm e => by
          have h := q H' sm
          rw [show sgV (.str ⟨⟨c :: r⟩⟩) = nmL (d :: r) by rw [e]; exact sg_cons c r] at h
          exact h
        refine ⟨_, rfl, c, _, rfl, rfl, _, rfl, ite2 (fun e => ?_) (fun e => ?_)⟩
        · rw [sA]
          refine ⟨_, rfl, _, rfl, 1, rfl, _, rfl, thou hz, ?_⟩
          rw [cut_tail]
          refine ⟨_, _, rfl, rfl, thou (by show 1 + r.length ≤ 1000; omega), _, rfl, .inl ⟨_, rfl, by rw [app_one]; exact hz⟩, fun H' sm => ?_⟩
          rw [app_one]
          exact fin 97 H' sm (if_pos e).symm
        · refine ⟨_, rfl, _, rfl, 1, rfl, _, rfl, thou hz, ?_⟩
          rw [cut_tail]
          refine ⟨_, _, rfl, rfl, thou (by show 1 + r.length ≤ 1000; omega), _, rfl, .inl ⟨_, rfl, by rw [app_one]; exact hz⟩, fun H' sm => ?_⟩
          rw [app_one]
          exact fin c H' sm (if_neg e).symm
    · have h := q H (Same.refl H)
      rw [show sgV v = false by unfold sgV; rw [(nmV_no no).1, (nmV_no no).2.1]; rfl] at h
      exact ⟨v, rfl, _, _, _, _, false, rfl, .ty _, ty, kit_ty k, _, rfl, iteT h⟩
/-! ### the law's reading of an entry -/
theorem ok_LwholeD (T : Top w K mg) : FnOk P w K mg base CX0 1 T.a_Lwhole T.fd_Lwhole ["_law_thing"] (spWholeD K) := by
  refine T.F_Lwhole.ok sc_Lwhole (fun vs H Q E h => ?_) (fun cdv A outer s H vs Q E hr h => ?_)
  · obtain ⟨v, d, rfl, _⟩ := h
    rfl
  · obtain ⟨v, d, rfl, hd, q⟩ := h
    refine ⟨_, (pss_one (ps_ret (pe_and (pe_callB call_isi (by rfl) T.m_isinstance (by decide +kernel) (pa_cons (pv 0) (pa_cons (pe_bltn (v := .ty "int") (by rfl) T.m_int (by decide +kernel) rfl) pa_nil))) (pe_one (pe_not (pe_callB call_isi (by rfl) T.m_isinstance (by decide +kernel) (pa_cons (pv 0) (pa_cons (pe_bltn (v := .ty "bool") (by rfl) T.m_bool (by decide +kernel) rfl) pa_nil)))))))), ?_⟩
    cases hd with
    | non => exact ⟨.non, rfl, _, _, _, _, false, rfl, .ty _, .base .non, kit_ty (by decide +kernel), _, rfl, iteF q⟩
    | bl b => exact ⟨.bl b, rfl, _, _, _, _, true, rfl, .ty _, .base (.bl b), kit_ty (by decide +kernel), _, rfl, iteT ⟨.bl b, rfl, _, _, _, _, true, rfl, .ty _, .base (.bl b), kit_ty (by decide +kernel), _, rfl, q⟩⟩
    | int i => exact ⟨.int i, rfl, _, _, _, _, true, rfl, .ty _, .base (.int i), kit_ty (by decide +kernel), _, rfl, iteT ⟨.int i, rfl, _, _, _, _, false, rfl, .ty _, .base (.int i), kit_ty (by decide +kernel), _, rfl, q⟩⟩
    | str z => exact ⟨.str z, rfl, _, _, _, _, false, rfl, .ty _, .base (.str z), kit_ty (by decide +kernel), _, rfl, iteF q⟩
    | lst h _ => exact ⟨_, rfl, _, _, _, _, false, rfl, .ty _, ty_lst h, kit_ty (by decide +kernel), _, rfl, iteF q⟩
    | tup h _ => exact ⟨_, rfl, _, _, _, _, false, rfl, .ty _, ty_tup h, kit_ty (by decide +kernel), _, rfl, iteF q⟩
theorem many10 (i : Int) : manyD (.int i) = (decide (0 < i) && decide (i < 10)) := by
  show (decide (1 ≤ i) && decide (i ≤ 9)) = _
  by_cases h : i < 10
  · rw [decide_eq_true h, decide_eq_true (show i ≤ 9 by omega)]
    by_cases h2 : 0 < i
    · rw [decide_eq_true h2, decide_eq_true (show 1 ≤ i by omega)]
    · rw [decide_eq_false h2, decide_eq_false (show ¬ 1 ≤ i by omega)]
  · rw [decide_eq_false h, decide_eq_false (show ¬ i ≤ 9 by omega), Bool.and_false, Bool.and_false]
theorem ok_Lis_many (T : Top w K mg) : FnOk P w K mg base CX0 2 T.a_Lis_many T.fd_Lis_many ["_law_thing"] (spPart K manyD) := by
  have G_Lwhole := ok_LwholeD (P := P) (w := w) (base := base) T
  refine T.F_Lis_many.ok sc_Lis_many (fun vs H Q E h => ?_) (fun cdv A outer s H vs Q E hr h => ?_)
  · obtain ⟨v, d, rfl, _⟩ := h
    rfl
  · obtain ⟨v, d, rfl, g, hd, q⟩ := h
    refine ⟨_, (pss_one (ps_ret (pe_and (pe_call G_Lwhole hr (by rfl) T.g_Lwhole T.F_Lwhole.kp T.b_Lwhole .nil pass0 (pa_cons (pv 0) pa_nil)) (pe_one (pe_chain op_lt op_lt pe_int (pv 0) pe_int))))), ?_⟩
    refine ⟨v, rfl, v, d, rfl, hd, _, rfl, ?_⟩
    have q := q H (Same.refl H)
    cases hd with
    | int i =>
      rw [many10] at q
      refine iteT ⟨.int i, rfl, _, _, rfl, rfl, _, rfl, ite2 (fun e => ?_) (fun e => ?_)⟩
      · refine ⟨_, _, rfl, rfl, ?_⟩
        rw [e] at q
        exact q
      · rw [Bool.eq_false_iff.mpr e] at q
        exact q
    | non => exact iteF q
    | bl b => exact iteF q
    | str z => exact iteF q
    | lst h _ => exact iteF q
    | tup h _ => exact iteF q
--@@SPLIT
theorem inW_str {z : Str} {ws : List Str} (h : inW (.str z) ws = true) : z ∈ ws := by
  obtain ⟨s, hs, e⟩ := List.any_eq_true.mp h
  have e2 : s = z := beq_iff_eq.mp e
  subst e2
  exact hs
theorem eqS_str {d : PyData} {s : Str} (h : eqS d s = true) : d = .str s := by
  cases d with
  | str z =>
    have e2 : s = z := beq_iff_eq.mp h
    rw [e2]
  | _ => cases h
theorem alone_no {a : PyData} (h : inW a wAlone = true) : eqS a "face" = false ∧ eqS a "go" = false ∧ eqS a "sign" = false ∧ eqS a "spy" = false := by
  cases a with
  | str z =>
    have all : ∀ z ∈ wAlone, eqS (.str z) "face" = false ∧ eqS (.str z) "go" = false ∧ eqS (.str z) "sign" = false ∧ eqS (.str z) "spy" = false := by decide +kernel
    exact all z (inW_str h)
  | _ => exact ⟨rfl, rfl, rfl, rfl⟩
def at1 (f : PyData → Bool) : List PyData → Bool
  | [_, b] => f b
  | _ => false
def at12 (f g : PyData → Bool) : List PyData → Bool
  | [_, b, c] => f b && g c
  | _ => false
def lawE (a : PyData) (ds : List PyData) : Bool :=
  if inW a wAlone = true then decide (V.int (ds.length : Int) = V.int 1) else if eqS a "face" = true then at1 letD ds else if eqS a "go" = true then at1 manyD ds else if eqS a "sign" = true then at1 sgD ds else eqS a "spy" && at12 manyD sgD ds
theorem ent_law (a : PyData) (r : List PyData) : entL (a :: r) = lawE a (a :: r) := by
  unfold lawE
  by_cases h0 : inW a wAlone = true
  · obtain ⟨n1, n2, n3, n4⟩ := alone_no h0
    rw [if_pos h0]
    match r with
    | [] => exact h0
    | [b] => show pairD a b = false; unfold pairD; rw [n1, n2, n3]; rfl
    | [b, c] => show (eqS a "spy" && _) = false; rw [n4]; rfl
    | b :: c :: d :: e =>
      show false = _
      rw [decide_eq_false]
      intro z
      have := V.int.inj z
      simp at this
      omega
  · rw [if_neg h0]
    by_cases h1 : eqS a "face" = true
    · rw [if_pos h1]
      have e := eqS_str h1
      subst e
      match r with
      | [] => exact Bool.eq_false_iff.mpr h0
      | [b] => rfl
      | [b, c] => rfl
      | b :: c :: d :: e => rfl
    · rw [if_neg h1]
      by_cases h2 : eqS a "go" = true
      · rw [if_pos h2]
        have e := eqS_str h2
        subst e
        match r with
        | [] => exact Bool.eq_false_iff.mpr h0
        | [b] => rfl
        | [b, c] => rfl
        | b :: c :: d :: e => rfl
      · rw [if_neg h2]
        by_cases h3 : eqS a "sign" = true
        · rw [if_pos h3]
          have e := eqS_str h3
          subst e
          match r with
          | [] => exact Bool.eq_false_iff.mpr h0
          | [b] => rfl
          | [b, c] => rfl
          | b :: c :: d :: e => rfl
        · rw [if_neg h3]
          match r with
          | [] => show inW a wAlone = (eqS a "spy" && false); rw [Bool.eq_false_iff.mpr h0, Bool.and_false]
          | [b] => show pairD a b = (eqS a "spy" && false); unfold pairD; rw [Bool.eq_false_iff.mpr h1, Bool.eq_false_iff.mpr h2, Bool.eq_false_iff.mpr h3, Bool.and_false]; rfl
          | [b, c] => rfl
          | b :: c :: d :: e => show false = (eqS a "spy" && false); rw [Bool.and_false]
theorem ent_nostr {a : PyData} {r : List PyData} (h : strD a = false) : entL (a :: r) = false := by
  rw [ent_law]
  have n : ∀ s, eqS a s = false := fun s => by cases a <;> first | rfl | cases h
  have i : inW a wAlone = false := by
    show (eqS a _ || (eqS a _ || (eqS a _ || (eqS a _ || (eqS a _ || (eqS a _ || false)))))) = false
    rw [n, n, n, n, n, n]
    rfl
  unfold lawE
  rw [i, n, n, n, n]
  rfl
theorem let_str {b : PyData} (h : strD b = false) : letD b = false := by
  cases b <;> first | rfl | cases h
theorem ok_Lis_entry (T : Top w K mg) : FnOk P w K mg base CX0 3 T.a_Lis_entry T.fd_Lis_entry ["_law_thing"] (spEntry K) := by
  have G_Lis_many := ok_Lis_many (P := P) (w := w) (base := base) T
  have G_Lis_sign := ok_Lis_sign (P := P) (w := w) (base := base) T
  refine T.F_Lis_entry.ok sc_Lis_entry (fun vs H Q E h => ?_) (fun cdv A outer s H vs Q E hr h => ?_)
  · obtain ⟨v, d, rfl, _⟩ := h
    rfl
  · obtain ⟨v, d, rfl, g, hd, q⟩ := h
    refine ⟨_, (pss_cons (ps_if (PW.pt (pw_or (pt_not (pt_val (pe_callB call_isiT (by rfl) T.m_isinstance (by decide +kernel) (pa_cons (pv 0) (pa_cons (pe_tup (pa_cons (pe_bltn (v := .ty "tuple") (by rfl) T.m_tuple (by decide +kernel) rfl) (pa_cons (pe_bltn (v := .ty "list") (by rfl) T.m_list (by decide +kernel) rfl) pa_nil))) pa_nil))))) (pw_or (pt_cmpR op_eq (pe_callB call_len_seq (by rfl) T.m_len (by decide +kernel) (pa_cons (pv 0) pa_nil)) pe_int (nomark _)) (pw_or1 (pt_not (pt_val (pe_callB call_isi (by rfl) T.m_isinstance (by decide +kernel) (pa_cons (pe_ix ix_seq (pv 0) pe_int (fun _ _ => rfl)) (pa_cons (pe_bltn (v := .ty "str") (by rfl) T.m_str (by decide +kernel) rfl) pa_nil))))))))) (pss_one (ps_ret pe_bl)) pss_nil)
      (pss_cons (ps_if (pt_cmpR (op_inA (units65 hr)) (pe_ix ix_seq (pv 0) pe_int (fun _ _ => rfl)) (pe_tup (pa_cons pe_str (pa_cons pe_str (pa_cons pe_str (pa_cons pe_str (pa_cons pe_str (pa_cons pe_str pa_nil))))))) (by rfl)) (pss_one (ps_ret (pe_cmpR op_eq (pe_callB call_len_seq (by rfl) T.m_len (by decide +kernel) (pa_cons (pv 0) pa_nil)) pe_int (nomark _)))) pss_nil)
      (pss_cons (ps_if (pt_cmpR (op_eqA hr.units) (pe_ix ix_seq (pv 0) pe_int (fun _ _ => rfl)) pe_str (nomark _)) (pss_one (ps_ret (pe_and (pe_cmpR op_eq (pe_callB call_len_seq (by rfl) T.m_len (by decide +kernel) (pa_cons (pv 0) pa_nil)) pe_int (nomark _)) (pe_and (pe_callB call_isi (by rfl) T.m_isinstance (by decide +kernel) (pa_cons (pe_ix ix_seq (pv 0) pe_int (fun _ _ => rfl)) (pa_cons (pe_bltn (v := .ty "str") (by rfl) T.m_str (by decide +kernel) rfl) pa_nil))) (pe_one (pe_cmpR (op_inA (units65 hr)) (pe_ix ix_seq (pv 0) pe_int (fun _ _ => rfl)) (pe_tup (pa_cons pe_str (pa_cons pe_str (pa_cons pe_str (pa_cons pe_str pa_nil))))) (by rfl))))))) pss_nil)
      (pss_cons (ps_if (pt_cmpR (op_eqA hr.units) (pe_ix ix_seq (pv 0) pe_int (fun _ _ => rfl)) pe_str (nomark _)) (pss_one (ps_ret (pe_and (pe_cmpR op_eq (pe_callB call_len_seq (by rfl) T.m_len (by decide +kernel) (pa_cons (pv 0) pa_nil)) pe_int (nomark _)) (pe_one (pe_call G_Lis_many hr (by rfl) T.g_Lis_many T.F_Lis_many.kp T.b_Lis_many .nil pass0 (pa_cons (pe_ix ix_seq (pv 0) pe_int (fun _ _ => rfl)) pa_nil)))))) pss_nil)
      (pss_cons (ps_if (pt_cmpR (op_eqA hr.units) (pe_ix ix_seq (pv 0) pe_int (fun _ _ => rfl)) pe_str (nomark _)) (pss_one (ps_ret (pe_and (pe_cmpR op_eq (pe_callB call_len_seq (by rfl) T.m_len (by decide +kernel) (pa_cons (pv 0) pa_nil)) pe_int (nomark _)) (pe_one (pe_call G_Lis_sign hr (by rfl) T.g_Lis_sign T.F_Lis_sign.kp T.b_Lis_sign .nil pass0 (pa_cons (pe_ix ix_seq (pv 0) pe_int (fun _ _ => rfl)) pa_nil)))))) pss_nil)
      (pss_one (ps_ret (pe_and (pe_cmpR (op_eqA hr.units) (pe_ix ix_seq (pv 0) pe_int (fun _ _ => rfl)) pe_str (nomark _)) (pe_and (pe_cmpR op_eq (pe_callB call_len_seq (by rfl) T.m_len (by decide +kernel) (pa_cons (pv 0) pa_nil)) pe_int (nomark _)) (pe_and (pe_call G_Lis_many hr (by rfl) T.g_Lis_many T.F_Lis_many.kp T.b_Lis_many .nil pass0 (pa_cons (pe_ix ix_seq (pv 0) pe_int (fun _ _ => rfl)) pa_nil)) (pe_one (pe_call G_Lis_sign hr (by rfl) T.g_Lis_sign T.F_Lis_sign.kp T.b_Lis_sign .nil pass0 (pa_cons (pe_ix ix_seq (pv 0) pe_int (fun _ _ => rfl)) pa_nil))))))))))))), ?_⟩
    obtain ⟨x, y, k1, k2, exy⟩ := kit_seq d
    refine ⟨v, rfl, by show 2 ≤ sizeLine; decide, fun tp np => ⟨v, tp, _, _, _, _, rfl, upd_same, .cons (.ty _) (.cons (.ty _) .nil), ty_dp (dp_same (same_upd np) d v hd), kit_any2 k1 k2, _, rfl, ?_⟩⟩
    rw [exy]
    have s0 := same_upd (o := .tup [.ty "tuple", .ty "list"]) np
    have hd0 := dp_same s0 d v hd
    cases e : seqD d with
    | none =>
      rw [show entD d = false by unfold entD; rw [e]] at q
      exact iteT (q _ s0)
    | some ds =>
      rw [show entD d = entL ds by unfold entD; rw [e]] at q
      refine iteF ?_
      obtain ⟨hlen, hgp⟩ := ge_parts g e
      cases ds with
      | nil =>
        obtain ⟨a, xs, rfl, hs, ha⟩ := seq_dp hd0 e
        cases ha
        exact ⟨.ref a, rfl, a, _, rfl, hs, rfl, _, rfl, iteDY (decide_eq_true rfl) (q _ s0)⟩
      | cons a r =>
        obtain ⟨p, x1, xs, rfl, hs, h1, ha⟩ := seq_head hd0 e
        have lx := dpa_len _ _ ha
        have ga := hgp a (by simp)
        refine ⟨.ref p, rfl, p, _, rfl, hs, rfl, _, rfl, iteDN (decide_eq_false (fun z => by have := V.int.inj z; simp at this; omega)) ?_⟩
        refine ⟨.ref p, rfl, ixA (j := 0) hs rfl ⟨_, _, _, _, _, rfl, .ty _, ty_dp h1, kit_ty (kit_str a), _, rfl, ?_⟩⟩
        cases hst : strD a with
        | false =>
          rw [ent_nostr hst] at q
          exact iteT (q _ s0)
        | true =>
          refine iteF ?_
          rw [ent_law] at q
          unfold lawE at q
          have rl : ∀ r : List PyData, ¬ (a :: r).length = 2 → ∀ f, at1 f (a :: r) = false := fun r h f => by
            match r, h with
            | [], _ => rfl
            | [_], h => exact absurd rfl h
            | _ :: _ :: _, _ => rfl
          refine ⟨.ref p, rfl, ixA (j := 0) hs rfl ⟨by show 6 ≤ sizeLine; decide, fun t1 n1 => ?_⟩⟩
          have s1 := same_upd (o := .tup (wAlone.map V.str)) n1
          have s01 := s0.trans s1
          have hs := hs.same s1
          have h1 := dp_same s1 _ _ h1
          have ha := dpa_same s1 _ _ ha
          refine inA_of (ws := wAlone) h1 ga (.inl (.inl upd_same)) (by decide +kernel) ⟨_, rfl, ite2 (fun e0 => ?_) (fun e0 => ?_)⟩
          · rw [if_pos e0, ← lx] at q
            exact ⟨.ref p, rfl, p, _, rfl, hs, rfl, q _ s01⟩
          rw [if_neg e0] at q
          refine ⟨.ref p, rfl, ixA (j := 0) hs rfl (eqA_of h1 ga (by decide +kernel) ⟨_, rfl, ite2 (fun e1 => ?_) (fun e1 => ?_)⟩)⟩
          · rw [if_pos e1] at q
            refine ⟨.ref p, rfl, p, _, rfl, hs, rfl, _, rfl, ?_⟩
            by_cases n2 : (a :: r).length = 2
            · obtain ⟨a', b, eab⟩ := len2 _ n2
              cases eab
              obtain ⟨x', y', exy2, _, hb⟩ := dpa2 ha
              cases exy2
              have gb := hgp b (by simp)
              refine iteDY (decide_eq_true rfl) ⟨.ref p, rfl, ixA (j := 1) hs rfl ⟨_, _, _, _, _, rfl, .ty _, ty_dp hb, kit_ty (kit_str b), _, rfl, ?_⟩⟩
              cases hsb : strD b with
              | false =>
                rw [show at1 letD [a, b] = letD b from rfl, let_str hsb] at q
                exact iteF (q _ s01)
              | true =>
                refine iteT ⟨.ref p, rfl, ixA (j := 1) hs rfl ⟨by show 4 ≤ sizeLine; decide, fun t2 n2 => ?_⟩⟩
                have s2 := same_upd (o := .tup (lets.map V.str)) n2
                exact inA_of (ws := lets) (dp_same s2 _ _ hb) gb (.inl (.inl upd_same)) (by decide +kernel) (q _ (s01.trans s2))
            · rw [rl r n2] at q
              exact iteDN (decide_eq_false (fun z => n2 (by have := V.int.inj z; rw [lx] at this; omega))) (q _ s01)
          rw [if_neg e1] at q
          refine ⟨.ref p, rfl, ixA (j := 0) hs rfl (eqA_of h1 ga (by decide +kernel) ⟨_, rfl, ite2 (fun e2 => ?_) (fun e2 => ?_)⟩)⟩
          · rw [if_pos e2] at q
            refine ⟨.ref p, rfl, p, _, rfl, hs, rfl, _, rfl, ?_⟩
            by_cases n2 : (a :: r).length = 2
            · obtain ⟨a', b, eab⟩ := len2 _ n2
              cases eab
              obtain ⟨x', y', exy2, _, hb⟩ := dpa2 ha
              cases exy2
              exact iteDY (decide_eq_true rfl) ⟨.ref p, rfl, ixA (j := 1) hs rfl ⟨y', b, rfl, hgp b (by simp), hb, fun H' sm => q _ (s01.trans sm)⟩⟩
            · rw [rl r n2] at q
              exact iteDN (decide_eq_false (fun z => n2 (by have := V.int.inj z; rw [lx] at this; omega))) (q _ s01)
          rw [if_neg e2] at q
          refine ⟨.ref p, rfl, ixA (j := 0) hs rfl (eqA_of h1 ga (by decide +kernel) ⟨_, rfl, ite2 (fun e3 => ?_) (fun e3 => ?_)⟩)⟩
          · rw [if_pos e3] at q
            refine ⟨.ref p, rfl, p, _, rfl, hs, rfl, _, rfl, ?_⟩
            by_cases n2 : (a :: r).length = 2
            · obtain ⟨a', b, eab⟩ := len2 _ n2
              cases eab
              obtain ⟨x', y', exy2, _, hb⟩ := dpa2 ha
              cases exy2
              refine iteDY (decide_eq_true rfl) ⟨.ref p, rfl, ixA (j := 1) hs rfl ⟨y', rfl, th_dp hb (hgp b (by simp)), fun H' sm => ?_⟩⟩
              rw [sg_dp hb]
              exact q _ (s01.trans sm)
            · rw [rl r n2] at q
              exact iteDN (decide_eq_false (fun z => n2 (by have := V.int.inj z; rw [lx] at this; omega))) (q _ s01)
          rw [if_neg e3] at q
          refine ⟨.ref p, rfl, ixA (j := 0) hs rfl (eqA_of h1 ga (by decide +kernel) ⟨_, rfl, ite2 (fun e4 => ?_) (fun e4 => ?_)⟩)⟩
          · rw [e4, Bool.true_and] at q
            refine ⟨.ref p, rfl, p, _, rfl, hs, rfl, _, rfl, ?_⟩
            by_cases n3 : (a :: r).length = 3
            · obtain ⟨a', b, c, eab⟩ := len3 _ n3
              cases eab
              obtain ⟨x', y', z', exy2, _, hb, hc⟩ := dpa3 ha
              cases exy2
              have q : ∀ H', Same H H' → Q (.bl (manyD b && sgD c)) H' := q
              refine iteDY (decide_eq_true rfl) ⟨.ref p, rfl, ixA (j := 1) hs rfl ⟨y', b, rfl, hgp b (by simp), hb, fun H2 s2 => ⟨_, rfl, ite2 (fun e5 => ?_) (fun e5 => ?_)⟩⟩⟩
              · rw [e5, Bool.true_and] at q
                refine ⟨.ref p, rfl, ixA (j := 2) (hs.same s2) rfl ⟨z', rfl, th_dp (dp_same s2 _ _ hc) (hgp c (by simp)), fun H' sm => ?_⟩⟩
                rw [sg_dp hc]
                exact q _ ((s01.trans s2).trans sm)
              · rw [Bool.eq_false_iff.mpr e5, Bool.false_and] at q
                exact q _ (s01.trans s2)
            · have e12 : at12 manyD sgD (a :: r) = false := by
                match r, n3 with
                | [], _ => rfl
                | [_], _ => rfl
                | [_, _], h => exact absurd rfl h
                | _ :: _ :: _ :: _, _ => rfl
              rw [e12] at q
              exact iteDN (decide_eq_false (fun z => n3 (by have := V.int.inj z; rw [lx] at this; omega))) (q _ s01)
          · rw [Bool.eq_false_iff.mpr e4, Bool.false_and] at q
            exact q _ s01
--@@SPLIT
/-! ### the first thing amiss, by the law's own reading -/
def spBadAt (K : PySem.W.Frag) : Sp := fun vs H Q _ => ∃ (e : Addr) (xs : List V) (ds : List PyData), vs = [.ref e] ∧ SqL K H e xs ∧ DpAll K H xs ds ∧ (∀ d ∈ ds, ge d = true) ∧ ds.length ≤ 901 ∧
  ∀ H', Same H H' → Q (match badAt false 0 ds with | some i => .int (i : Nat) | none => .non) H'
theorem face_no {a : PyData} (h : eqS a "face" = true) : inW a wFace = false := by
  rw [eqS_str h]
  decide +kernel
theorem ok_Lbad_at (T : Top w K mg) : FnOk P w K mg base CX0 4 T.a_Lbad_at T.fd_Lbad_at ["_law_entries"] (spBadAt K) := by
  have G_Lis_entry := ok_Lis_entry (P := P) (w := w) (base := base) T
  refine T.F_Lbad_at.ok sc_Lbad_at (fun vs H Q E h => ?_) (fun cdv A outer s H vs Q E hr h => ?_)
  · obtain ⟨e, xs, ds, rfl, _⟩ := h
    rfl
  · obtain ⟨e, xs, ds, rfl, hs, ha, hge, hlen, q⟩ := h
    have lx := dpa_len ds xs ha
    refine ⟨_, (pss_cons (ps_set (i := 1) sc_Lbad_at.nd rfl (.inl rfl) pe_bl)
      (pss_cons (ps_for PassesOwn.never rfl (pi_enum (by rfl) T.m_enumerate (pa_cons (pv 0) pa_nil)) (pg_tup rfl (pgs_cons (pg_name (i := 2) sc_Lbad_at.nd rfl (.inl rfl)) (pgs_cons (pg_name (i := 3) sc_Lbad_at.nd rfl (.inl rfl)) pgs_nil))) (pss_cons (ps_if (pt_not (pt_val (pe_call G_Lis_entry hr (by rfl) T.g_Lis_entry T.F_Lis_entry.kp T.b_Lis_entry .nil pass0 (pa_cons (pv 3) pa_nil)))) (pss_one (ps_ret (pv 2))) pss_nil)
      (Evl.pss_cut (ps_set (i := 1) sc_Lbad_at.nd rfl (.inl rfl) (pe_or (pv 1) (pe_one (pe_cmpR (op_eqA hr.units) (pe_ix ix_seq (pv 3) pe_int (fun _ _ => rfl)) pe_str (nomark _)))))
      (pss_one (ps_if (PW.pt (pw_and (pt_not (pt_val (pv 1))) (pw_and1 (pt_cmpR (op_inA (units65 hr)) (pe_ix ix_seq (pv 3) pe_int (fun _ _ => rfl)) (pe_tup (pa_cons pe_str (pa_cons pe_str (pa_cons pe_str (pa_cons pe_str (pa_cons pe_str (pa_cons pe_str pa_nil))))))) (by rfl))))) (pss_one (ps_ret (pv 2))) pss_nil)))))
      (pss_one (ps_ret pe_non)))), ?_⟩
    refine ⟨.ref e, rfl, e, xs, rfl, hs, for_it (walk_enum (xs := xs)) (fun i σ H' => Same H H' ∧ ∃ y2 y3, σ = [some (.ref e), some (.bl ((ds.take i).any fcD)), y2, y3] ∧ badAt false 0 ds = badAt ((ds.take i).any fcD) i (ds.drop i)) ⟨Same.refl _, none, none, rfl, rfl⟩ (fun i σ H' _ h => h.1.seq hs) ?_ ?_⟩
    · rintro i v σ H1 H2 hi ⟨sm, y2, y3, rfl, hb⟩ ⟨t, u1, u2, rfl, nt, rfl, e1, e2⟩
      cases e1
      obtain ⟨d, fd, gd⟩ := dpa_at ds xs ha i u2 e2
      have hgd := hge d (List.mem_of_getElem? fd)
      rw [drop_at fd] at hb
      have st := same_upd (o := .tup [.int (i : Nat), u2]) nt
      have sm2 := sm.trans st
      refine ⟨t, _, rfl, .inl (.inl upd_same), rfl, _, _, rfl, _, _, rfl, rfl, ?_⟩
      refine ⟨u2, rfl, u2, d, rfl, hgd, dp_same sm2 d u2 gd, fun H3 s3 => ⟨_, rfl, ?_⟩⟩
      have sm3 := sm2.trans s3
      cases he : entD d with
      | false =>
        have hbi : badAt false 0 ds = some i := by
          rw [hb]
          show (if entD d = false then _ else _) = _
          rw [if_pos he]
        rw [hbi] at q
        exact iteT ⟨_, rfl, q _ sm3⟩
      | true =>
        refine iteF ?_
        obtain ⟨a, r, es⟩ := ent_seq he
        obtain ⟨p, x, xs2, rfl, hsq, hx, hall⟩ := seq_head (dp_same sm3 d u2 gd) es
        have ga : gp a = true := (ge_parts hgd es).2 a (by simp)
        have hb2 : badAt false 0 ds = if (ndD d && !((ds.take i).any fcD)) = true then some i else badAt ((ds.take i).any fcD || fcD d) (i + 1) (ds.drop (i + 1)) := by
          rw [hb]
          show (if entD d = false then _ else _) = _
          rw [if_neg (by rw [he]; decide)]
        have hnd : ndD d = inW a wFace := by unfold ndD; rw [head_eq es]
        have hfc : fcD d = eqS a "face" := by unfold fcD; rw [head_eq es]
        refine ⟨fun σ H' => H3 = H' ∧ σ = [some (.ref e), some (.bl ((ds.take i).any fcD || fcD d)), some (.int (i : Nat)), some (.ref p)], ?_, ?_⟩
        · refine ⟨_, rfl, _, rfl, ?_⟩
          cases hf : (ds.take i).any fcD with
          | true => exact iteT ⟨rfl, by rw [Bool.true_or]; rfl⟩
          | false =>
            refine iteF ⟨.ref p, rfl, ixA (j := 0) hsq rfl (eqA_of hx ga (by decide +kernel) ⟨rfl, ?_⟩)⟩
            rw [hfc, Bool.false_or]
            rfl
        rintro σ H4 ⟨rfl, rfl⟩
        refine ⟨_, rfl, _, rfl, ?_⟩
        cases hg : ((ds.take i).any fcD || fcD d) with
        | true =>
          refine iteF (ite2 (fun z => nomatch z) (fun _ => ⟨sm3, _, _, by rw [any_more fd, hg], ?_⟩))
          rw [any_more fd, hb2]
          rw [if_neg]
          intro z
          obtain ⟨z1, z2⟩ := Bool.and_eq_true_iff.mp z
          rw [hnd] at z1
          have zf : (ds.take i).any fcD = false := by
            cases hq : (ds.take i).any fcD with
            | false => rfl
            | true => rw [hq] at z2; cases z2
          rw [zf, Bool.false_or, hfc] at hg
          rw [face_no hg] at z1
          cases z1
        | false =>
          obtain ⟨g1, g2⟩ := Bool.or_eq_false_iff.mp hg
          refine iteT ⟨.ref p, rfl, ixA (j := 0) hsq rfl ⟨by show 6 ≤ sizeLine; decide, fun t2 n2 => ?_⟩⟩
          have s2 := same_upd (o := .tup (wFace.map V.str)) n2
          refine inA_of (ws := wFace) (dp_same s2 _ _ hx) ga (.inl (.inl upd_same)) (by decide +kernel) ⟨_, rfl, ite2 (fun e5 => ?_) (fun e5 => ?_)⟩
          · have hbi : badAt false 0 ds = some i := by
              rw [hb2, hnd, e5, g1]
              rfl
            rw [hbi] at q
            exact ⟨_, rfl, q _ (sm3.trans s2)⟩
          · refine ⟨sm3.trans s2, _, _, by rw [any_more fd, hg], ?_⟩
            rw [any_more fd, hb2, hnd, Bool.eq_false_iff.mpr e5, Bool.false_and, if_neg Bool.false_ne_true]
    · rintro σ H1 ⟨sm, y2, y3, rfl, hb⟩
      rw [lx, List.drop_length] at hb
      rw [hb] at q
      exact q _ sm
--@@SPLIT
/-! ### an entry drawn -/
/-- places that are left out of sight: the spring is one, all of them are known -/
def HX (p : Addr) (X : Addr → Prop) (H : Hp) : Prop := X p ∧ ∀ b, X b → H b ≠ none
theorem HX.same {p : Addr} {X : Addr → Prop} {H H' : Hp} (x : HX p X H) (e : Same H H') : HX p X H' := ⟨x.1, fun b h => by
  cases o : H b with
  | none => exact absurd o (x.2 b h)
  | some o' => rw [e b o' o]; exact fun z => nomatch z⟩
theorem Pool.known {H : Hp} {p : Addr} (h : Pool H p) : H p ≠ none := by
  obtain ⟨l, c, k, n, h0, h1⟩ := h
  rw [h1]
  exact fun z => nomatch z
theorem HX.but {p : Addr} {X : Addr → Prop} {H H' : Hp} (x : HX p X H) (e : But p H H') (hp : Pool H' p) : HX p X H' := ⟨x.1, fun b h => by
  by_cases eb : b = p
  · rw [eb]
    exact hp.known
  · cases o : H b with
    | none => exact absurd o (x.2 b h)
    | some o' => rw [e b o' eb o]; exact fun z => nomatch z⟩
theorem HX.fresh {p t : Addr} {X : Addr → Prop} {H : Hp} (x : HX p X H) (n : H t = none) : ¬ X t := fun z => x.2 t z n
theorem But.wo {p : Addr} {X : Addr → Prop} {H H' : Hp} (xp : X p) (e : But p H H') : Same (M.wo H X) (M.wo H' X) := fun b o h => by
  have h2 := wo_some h
  rw [wo_in (X := X) h2.1]
  exact e _ _ (fun z => h2.1 (z ▸ xp)) h2.2
theorem tupW {K : PySem.W.Frag} {H : Hp} {p t : Addr} {X : Addr → Prop} {vs : List V} {ds : List PyData} (x : HX p X H) (nt : H t = none) (h : DpAll K (wo H X) vs ds) : Dp K (wo (upd H t (.tup vs)) X) (.ref t) (.tuple ds) :=
  .tup (.inl (.inl ((wo_in (X := X) (x.fresh nt)).trans upd_same))) (dpa_same ((But.of (same_upd nt)).wo x.1) ds vs h)
theorem lstW {K : PySem.W.Frag} {H : Hp} {p t : Addr} {X : Addr → Prop} {vs : List V} {ds : List PyData} (x : HX p X H) (nt : H t = none) (h : DpAll K (wo H X) vs ds) : Dp K (wo (upd H t (.lst vs)) X) (.ref t) (.list ds) :=
  .lst (.inl (.inl ((wo_in (X := X) (x.fresh nt)).trans upd_same))) (dpa_same ((But.of (same_upd nt)).wo x.1) ds vs h)
theorem nesw_lt {r : Int} (h0 : 0 ≤ r) (h1 : r < 4) : ∃ l : Fin 4, atI (PySem.Str.ofString "nesw").cps.toList r = some (cd l) := by
  obtain rfl | rfl | rfl | rfl : r = 0 ∨ r = 1 ∨ r = 2 ∨ r = 3 := by omega
  · exact ⟨0, by decide +kernel⟩
  · exact ⟨1, by decide +kernel⟩
  · exact ⟨2, by decide +kernel⟩
  · exact ⟨3, by decide +kernel⟩
theorem nine {r : Int} (h0 : 0 ≤ r) (h1 : r < 9) : ∃ n : Fin 9, 1 + r = ((n.val : Nat) : Int) + 1 := ⟨⟨r.toNat, by omega⟩, by show 1 + r = ((r.toNat : Nat) : Int) + 1; omega⟩
def spAnyEntry (K : PySem.W.Frag) : Sp := fun vs H Q _ => ∃ (p : Addr) (b : Bool) (X : Addr → Prop), vs = [.ref p, .bl b] ∧ Pool H p ∧ HX p X H ∧ ∀ H' t e, But p H H' → Pool H' p → Dp K (wo H' X) (.ref t) (Ent.tup e) → e.ok → (e.need = true → b = true) → Q (.ref t) H'
theorem ok_Lany_entry (T : Top w K mg) : FnOk P w K mg base CX0 4 T.a_Lany_entry T.fd_Lany_entry ["_law_pool_here", "_law_looks"] (spAnyEntry K) := by
  have G_Ltake := ok_Ltake (P := P) (w := w) (base := base) T
  have G_Lsign := ok_Lsign (P := P) (w := w) (base := base) T
  refine T.F_Lany_entry.ok sc_Lany_entry (fun vs H Q E h => ?_) (fun cdv A outer s H vs Q E hr h => ?_)
  · obtain ⟨p, b, X, rfl, _⟩ := h
    rfl
  · obtain ⟨p, b, X, rfl, hp, x, q⟩ := h
    refine ⟨_, (pss_cons (ps_set (i := 2) sc_Lany_entry.nd rfl (.inl rfl) (pe_call G_Ltake (hr.mono (by decide)) (by rfl) T.g_Ltake T.F_Ltake.kp T.b_Ltake .nil pass0 (pa_cons (pv 0) (pa_cons pe_int pa_nil))))
      (pss_cons (ps_set (i := 3) sc_Lany_entry.nd rfl (.inl rfl) (pe_call G_Lsign hr (by rfl) T.g_Lsign T.F_Lsign.kp T.b_Lsign .nil pass0 (pa_cons (pv 0) (pa_cons (pe_cmpR op_eq (pe_call G_Ltake (hr.mono (by decide)) (by rfl) T.g_Ltake T.F_Ltake.kp T.b_Ltake .nil pass0 (pa_cons (pv 0) (pa_cons pe_int pa_nil))) pe_int (nomark _)) pa_nil))))
      (Evl.pss_cut (ps_if (PW.pt (pw_and (pt_not (pt_val (pv 1))) (pw_and1 (pt_cmpR op_gt (pv 2) pe_int (nomark _))))) (pss_one (ps_set (i := 2) sc_Lany_entry.nd rfl (.inl rfl) (pe_op op_mod (pv 2) pe_int))) pss_nil)
      (pss_cons (ps_if (PW.pt (pw_or (pt_cmpR op_eq (pv 2) pe_int (nomark _)) (pw_or1 (pt_cmpR op_gt (pv 2) pe_int (nomark _))))) (pss_one (ps_ret (pe_tup (pa_cons pe_str (pa_cons (pe_ix ix_str pe_str (pe_call G_Ltake (hr.mono (by decide)) (by rfl) T.g_Ltake T.F_Ltake.kp T.b_Ltake .nil pass0 (pa_cons (pv 0) (pa_cons pe_int pa_nil))) (fun _ _ => rfl)) pa_nil))))) pss_nil)
      (pss_cons (ps_if (pt_cmpR op_lt (pv 2) pe_int (nomark _)) (pss_one (ps_ret (pe_ix ix_tup (pe_tup (pa_cons (pe_tup (pa_cons pe_str (pa_cons (pv 3) pa_nil))) (pa_cons (pe_tup (pa_cons pe_str pa_nil)) (pa_cons (pe_tup (pa_cons pe_str pa_nil)) pa_nil)))) (pe_op op_sub (pv 2) pe_int) (fun _ _ => rfl)))) pss_nil)
      (pss_cons (ps_if (pt_cmpR op_eq (pv 2) pe_int (nomark _)) (pss_one (ps_ret (pe_ix ix_tup (pe_tup (pa_cons (pe_tup (pa_cons pe_str pa_nil)) (pa_cons (pe_tup (pa_cons pe_str pa_nil)) (pa_cons (pe_tup (pa_cons pe_str pa_nil)) pa_nil)))) (pe_call G_Ltake (hr.mono (by decide)) (by rfl) T.g_Ltake T.F_Ltake.kp T.b_Ltake .nil pass0 (pa_cons (pv 0) (pa_cons pe_int pa_nil))) (fun _ _ => rfl)))) pss_nil)
      (pss_cons (ps_if (pt_cmpR op_eq (pv 2) pe_int (nomark _)) (pss_one (ps_ret (pe_tup (pa_cons pe_str pa_nil)))) pss_nil)
      (pss_cons (ps_if (pt_cmpR op_eq (pv 2) pe_int (nomark _)) (pss_one (ps_ret (pe_tup (pa_cons pe_str (pa_cons (pe_op op_add pe_int (pe_call G_Ltake (hr.mono (by decide)) (by rfl) T.g_Ltake T.F_Ltake.kp T.b_Ltake .nil pass0 (pa_cons (pv 0) (pa_cons pe_int pa_nil)))) (pa_cons (pv 3) pa_nil)))))) pss_nil)
      (pss_one (ps_ret (pe_tup (pa_cons pe_str (pa_cons (pe_op op_add pe_int (pe_call G_Ltake (hr.mono (by decide)) (by rfl) T.g_Ltake T.F_Ltake.kp T.b_Ltake .nil pass0 (pa_cons (pv 0) (pa_cons pe_int pa_nil)))) pa_nil))))))))))))), ?_⟩
    refine ⟨.ref p, rfl, p, 12, rfl, by decide, by decide, hp, fun H1 k b1 hp1 k0 k1 => ?_⟩
    refine ⟨.ref p, rfl, .ref p, rfl, p, 2, rfl, by decide, by decide, hp1, fun H2 j b2 hp2 _ _ => ?_⟩
    refine ⟨rfl, p, _, rfl, hp2, fun H3 z b3 hp3 hz hk => ?_⟩
    have bt := (b1.trans b2).trans b3
    have x3 := x.but bt hp3
    refine ⟨fun σ H' => H3 = H' ∧ ∃ k : Int, 0 ≤ k ∧ k ≤ 11 ∧ (3 < k → b = true) ∧ σ = [some (.ref p), some (.bl b), some (.int k), some (.str z)], ?_, ?_⟩
    · refine ⟨.bl b, rfl, b, rfl, ?_⟩
      cases b with
      | true => exact ite2 (fun z => nomatch z) (fun _ => ⟨rfl, k, k0, by omega, fun _ => rfl, rfl⟩)
      | false =>
        refine iteT ⟨.int k, rfl, _, _, rfl, rfl, _, rfl, ite2 (fun e => ?_) (fun e => ?_)⟩
        · have := Int.emod_lt_of_pos k (show (0 : Int) < 4 by decide)
          exact ⟨.int k, rfl, _, _, rfl, rfl, (by show (0 : Int) < 4; decide), rfl, k % 4, Int.emod_nonneg k (by decide), by omega, fun z => by omega, rfl⟩
        · have : ¬ 3 < k := fun z => e (decide_eq_true z)
          exact ⟨rfl, k, k0, by omega, fun z => absurd z this, rfl⟩
    rintro σ H4 ⟨rfl, k, k0, k1, kb, rfl⟩
    have face : ∀ H5 (r : Int), But p H3 H5 → Pool H5 p → 0 ≤ r → r < 4 → ∃ c, atI (PySem.Str.ofString "nesw").cps.toList r = some c ∧ ∀ t, H5 t = none → Q (.ref t) (upd H5 t (.tup [.str "face", .str ⟨#[c]⟩])) := fun H5 r b5 hp5 r0 r1 => by
      obtain ⟨l, hc⟩ := nesw_lt r0 r1
      exact ⟨cd l, hc, fun t nt => q _ t (.face l) ((bt.trans b5).trans (But.of (same_upd nt))) (hp5.upd (hp5.ne_new nt)) (tupW (x.but (bt.trans b5) hp5) nt (.cons (.str _) (.cons (.str _) .nil))) trivial (fun z => nomatch z)⟩
    refine ⟨.int k, rfl, rfl, _, rfl, ite2 (fun e => ?_) (fun e => ?_)⟩
    · refine iteT ⟨.ref p, rfl, p, 4, rfl, by decide, by decide, hp3, fun H5 r b5 hp5 r0 r1 => ?_⟩
      obtain ⟨c, hc, qq⟩ := face H5 r b5 hp5 r0 r1
      exact ⟨_, r, c, rfl, rfl, by decide +kernel, hc, by show 2 ≤ sizeLine; decide, qq⟩
    refine ⟨.int k, rfl, _, _, rfl, rfl, _, rfl, ite2 (fun e2 => ?_) (fun e2 => ?_)⟩
    · refine ⟨.ref p, rfl, p, 4, rfl, by decide, by decide, hp3, fun H5 r b5 hp5 r0 r1 => ?_⟩
      obtain ⟨c, hc, qq⟩ := face H5 r b5 hp5 r0 r1
      exact ⟨_, r, c, rfl, rfl, by decide +kernel, hc, by show 2 ≤ sizeLine; decide, qq⟩
    have kn : k ≠ 0 := fun z => e (by rw [z]; exact decide_eq_true rfl)
    refine ⟨.int k, rfl, _, _, rfl, rfl, _, rfl, ite2 (fun e3 => ?_) (fun e3 => ?_)⟩
    · have k4 : k < 4 := of_decide_eq_true e3
      refine ⟨.str z, rfl, by show 2 ≤ sizeLine; decide, fun m1 n1 => ⟨by show 1 ≤ sizeLine; decide, fun m2 n2 => ⟨by show 1 ≤ sizeLine; decide, fun m3 n3 => ⟨by show 3 ≤ sizeLine; decide, fun t nt => ?_⟩⟩⟩⟩
      have s1 := same_upd (o := .tup [.str "sign", .str z]) n1
      have s2 := same_upd (o := .tup [.str "bare"]) n2
      have s3 := same_upd (o := .tup [.str "swap"]) n3
      have s4 := same_upd (o := .tup [.ref m1, .ref m2, .ref m3]) nt
      have d1 := tupW (K := K) (vs := [.str "sign", .str z]) (ds := [.str "sign", .str z]) x3 n1 (.cons (.str _) (.cons (.str _) .nil))
      have p1 := hp3.same s1
      have d2 := tupW (K := K) (vs := [.str "bare"]) (ds := [.str "bare"]) (x3.same s1) n2 (.cons (.str _) .nil)
      have p2 := p1.same s2
      have d3 := tupW (K := K) (vs := [.str "swap"]) (ds := [.str "swap"]) ((x3.same s1).same s2) n3 (.cons (.str _) .nil)
      have p3 := p2.same s3
      have p4 := p3.same s4
      have bz := bt.trans (But.of (((s1.trans s2).trans s3).trans s4))
      obtain rfl | rfl | rfl : k = 1 ∨ k = 2 ∨ k = 3 := by omega
      · exact ⟨_, rfl, _, _, rfl, rfl, t, _, 0, _, rfl, rfl, .inl (.inl upd_same), rfl, q _ m1 (.sign z) bz p4 (dp_same ((But.of ((s2.trans s3).trans s4)).wo x.1) _ _ d1) ⟨hz, hk⟩ (fun z => nomatch z)⟩
      · exact ⟨_, rfl, _, _, rfl, rfl, t, _, 1, _, rfl, rfl, .inl (.inl upd_same), rfl, q _ m2 .bare bz p4 (dp_same ((But.of (s3.trans s4)).wo x.1) _ _ d2) trivial (fun z => nomatch z)⟩
      · exact ⟨_, rfl, _, _, rfl, rfl, t, _, 2, _, rfl, rfl, .inl (.inl upd_same), rfl, q _ m3 .swap bz p4 (dp_same ((But.of s4).wo x.1) _ _ d3) trivial (fun z => nomatch z)⟩
    have kb := kb (by have : ¬ k < 4 := fun z => e3 (decide_eq_true z)
                      omega)
    refine ⟨.int k, rfl, rfl, _, rfl, ite2 (fun e4 => ?_) (fun e4 => ?_)⟩
    · refine ⟨by show 1 ≤ sizeLine; decide, fun m1 n1 => ⟨by show 1 ≤ sizeLine; decide, fun m2 n2 => ⟨by show 1 ≤ sizeLine; decide, fun m3 n3 => ⟨by show 3 ≤ sizeLine; decide, fun t nt => ?_⟩⟩⟩⟩
      have s1 := same_upd (o := .tup [.str "left"]) n1
      have s2 := same_upd (o := .tup [.str "right"]) n2
      have s3 := same_upd (o := .tup [.str "back"]) n3
      have s4 := same_upd (o := .tup [.ref m1, .ref m2, .ref m3]) nt
      have d1 := tupW (K := K) (vs := [.str "left"]) (ds := [.str "left"]) x3 n1 (.cons (.str _) .nil)
      have p1 := hp3.same s1
      have d2 := tupW (K := K) (vs := [.str "right"]) (ds := [.str "right"]) (x3.same s1) n2 (.cons (.str _) .nil)
      have p2 := p1.same s2
      have d3 := tupW (K := K) (vs := [.str "back"]) (ds := [.str "back"]) ((x3.same s1).same s2) n3 (.cons (.str _) .nil)
      have p3 := p2.same s3
      have p4 := p3.same s4
      refine ⟨.ref p, rfl, p, 3, rfl, by decide, by decide, p4, fun H5 r b5 hp5 r0 r1 => ?_⟩
      have et := b5 _ _ (p3.ne_new nt) upd_same
      have bz := (bt.trans (But.of (((s1.trans s2).trans s3).trans s4))).trans b5
      obtain rfl | rfl | rfl : r = 0 ∨ r = 1 ∨ r = 2 := by omega
      · exact ⟨t, _, 0, _, rfl, rfl, .inl (.inl et), rfl, q _ m1 (.turn 0) bz hp5 (dp_same (((But.of ((s2.trans s3).trans s4)).trans b5).wo x.1) _ _ d1) trivial (fun _ => kb)⟩
      · exact ⟨t, _, 1, _, rfl, rfl, .inl (.inl et), rfl, q _ m2 (.turn 1) bz hp5 (dp_same (((But.of (s3.trans s4)).trans b5).wo x.1) _ _ d2) trivial (fun _ => kb)⟩
      · exact ⟨t, _, 2, _, rfl, rfl, .inl (.inl et), rfl, q _ m3 (.turn 2) bz hp5 (dp_same (((But.of s4).trans b5).wo x.1) _ _ d3) trivial (fun _ => kb)⟩
    refine ⟨.int k, rfl, rfl, _, rfl, ite2 (fun e5 => ?_) (fun e5 => ?_)⟩
    · exact ⟨by show 1 ≤ sizeLine; decide, fun t nt => q _ t .bump (bt.trans (But.of (same_upd nt))) (hp3.upd (hp3.ne_new nt)) (tupW x3 nt (.cons (.str _) .nil)) trivial (fun _ => kb)⟩
    refine ⟨.int k, rfl, rfl, _, rfl, ite2 (fun e6 => ?_) (fun e6 => ?_)⟩
    · refine ⟨.ref p, rfl, p, 9, rfl, by decide, by decide, hp3, fun H5 r b5 hp5 r0 r1 => ⟨_, _, rfl, rfl, .str z, rfl, by show 3 ≤ sizeLine; decide, fun t nt => ?_⟩⟩
      obtain ⟨n, hn⟩ := nine r0 r1
      have ed : Ent.tup (.spy n z) = .tuple [.str "spy", .int (1 + r), .str z] := by rw [hn]; rfl
      exact q _ t (.spy n z) ((bt.trans b5).trans (But.of (same_upd nt))) (hp5.upd (hp5.ne_new nt)) (by rw [ed]; exact tupW (x.but (bt.trans b5) hp5) nt (.cons (.str _) (.cons (.int _) (.cons (.str _) .nil)))) ⟨hz, hk⟩ (fun _ => kb)
    refine ⟨.ref p, rfl, p, 9, rfl, by decide, by decide, hp3, fun H5 r b5 hp5 r0 r1 => ⟨_, _, rfl, rfl, by show 2 ≤ sizeLine; decide, fun t nt => ?_⟩⟩
    obtain ⟨n, hn⟩ := nine r0 r1
    have ed : Ent.tup (.go n) = .tuple [.str "go", .int (1 + r)] := by rw [hn]; rfl
    exact q _ t (.go n) ((bt.trans b5).trans (But.of (same_upd nt))) (hp5.upd (hp5.ne_new nt)) (by rw [ed]; exact tupW (x.but (bt.trans b5) hp5) nt (.cons (.str _) (.cons (.int _) .nil))) trivial (fun _ => kb)
--@@SPLIT
/-! ### a log drawn -/
theorem dpa_len2 {K : PySem.W.Frag} {H : Hp} {ds : List PyData} {vs : List V} (h : DpAll K H vs ds) : vs.length = ds.length := dpa_len ds vs h
theorem tup_at {K : PySem.W.Frag} {H : Hp} {t : Addr} {e : Ent} (h : Dp K H (.ref t) (Ent.tup e)) : ∃ xs, SqT K H t (.str (ws e.kind) :: xs) ∧ DpAll K H xs e.rest := by
  cases h with
  | @tup _ ys _ hs ha =>
    cases ha with
    | cons h1 h2 =>
      cases h1
      exact ⟨_, hs, h2⟩
theorem HX.or {p D : Addr} {X : Addr → Prop} {H : Hp} (x : HX p X H) (h : H D ≠ none) : HX p (fun b => X b ∨ b = D) H := ⟨.inl x.1, fun c z => z.elim (x.2 c) (fun e => by rw [e]; exact h)⟩
theorem some_ne {H : Hp} {b : Addr} {o : HO} (h : H b = some o) : H b ≠ none := by rw [h]; exact fun z => nomatch z
theorem wo_less {H : Hp} {X Y : Addr → Prop} (h : ∀ b, X b → Y b) : Same (wo H Y) (wo H X) := fun c o z => by
  have h2 := wo_some z
  rw [wo_in (X := X) (fun z => h2.1 (h c z))]
  exact h2.2
theorem wo_mut {H : Hp} {X : Addr → Prop} {D : Addr} {o : HO} (h : X D) : Same (wo H X) (wo (upd H D o) X) := fun c u z => by
  have h2 := wo_some z
  rw [wo_in (X := X) h2.1, upd_ne (fun z : c = D => h2.1 (by rw [z]; exact h))]
  exact h2.2
def spAnyLog (K : PySem.W.Frag) : Sp := fun vs H Q _ => ∃ (p : Addr) (m s : Int) (X : Addr → Prop), vs = [.ref p, .int m, .int s] ∧ 0 ≤ m ∧ m ≤ 100 ∧ Pool H p ∧ HX p X H ∧ ∀ H' t xs es, But p H H' → Pool H' p → H t = none → SqT K (wo H' X) t xs → DpAll K (wo H' X) xs (es.map Ent.tup) → (es.length : Int) = m → (∀ e ∈ es, e.ok) → Right es → ((swaps es : Int) ≤ s ∨ s < 0) → Q (.ref t) H'
theorem ok_Lany_log (T : Top w K mg) : FnOk P w K mg base CX0 5 T.a_Lany_log T.fd_Lany_log ["_law_pool_here", "_law_many", "_law_swaps"] (spAnyLog K) := by
  have G_Lany_entry := ok_Lany_entry (P := P) (w := w) (base := base) T
  refine T.F_Lany_log.ok sc_Lany_log (fun vs H Q E h => ?_) (fun cdv A outer s H vs Q E hr h => ?_)
  · obtain ⟨p, m, s, X, rfl, _⟩ := h
    rfl
  · obtain ⟨p, m, sw, X, rfl, m0, m1, hp, x, q⟩ := h
    refine ⟨_, (pss_cons (ps_set (i := 3) sc_Lany_log.nd rfl (.inl rfl) (pe_lst pa_nil))
      (pss_cons (ps_set (i := 4) sc_Lany_log.nd rfl (.inl rfl) pe_bl)
      (pss_cons (ps_set (i := 5) sc_Lany_log.nd rfl (.inl rfl) (pv 2))
      (pss_cons (ps_for PassesOwn.never rfl (pi_range1 (by rfl) T.m_range (pa_cons (pv 1) pa_nil)) (pg_name (i := 6) sc_Lany_log.nd rfl (.inl rfl)) (pss_cons (ps_set (i := 7) sc_Lany_log.nd rfl (.inl rfl) (pe_call G_Lany_entry hr (by rfl) T.g_Lany_entry T.F_Lany_entry.kp T.b_Lany_entry .nil pass0 (pa_cons (pv 0) (pa_cons (pv 4) pa_nil))))
      (Evl.pss_cut (ps_if (PW.pt (pw_and (pt_cmpR op_eq (pe_ix ix_tup (pv 7) pe_int (fun _ _ => rfl)) pe_str (nomark _)) (pw_and1 (pt_cmpR op_eq (pv 5) pe_int (nomark _))))) (pss_one (ps_set (i := 7) sc_Lany_log.nd rfl (.inl rfl) (pe_tup (pa_cons pe_str pa_nil)))) pss_nil)
      (Evl.pss_cut (ps_set (i := 5) sc_Lany_log.nd rfl (.inl rfl) (pe_op op_sub (pv 5) (pe_callTy call_int1 (by rfl) T.m_int (by decide +kernel) (pa_cons (pe_cmpR op_eq (pe_ix ix_tup (pv 7) pe_int (fun _ _ => rfl)) pe_str (nomark _)) pa_nil))))
      (Evl.pss_cut (ps_set (i := 4) sc_Lany_log.nd rfl (.inl rfl) (pe_or (pv 4) (pe_one (pe_cmpR op_eq (pe_ix ix_tup (pv 7) pe_int (fun _ _ => rfl)) pe_str (nomark _)))))
      (pss_one (ps_expr (pe_bm PySem.F.plainAttrs_list PySem.F.slot_list_append PySem.F.type_list_append mt_append (pv 3) (pa_cons (pv 7) pa_nil)))))))))
      (pss_one (ps_ret (pe_callTy call_tuple_of (by rfl) T.m_tuple (by decide +kernel) (pa_cons (pv 3) pa_nil)))))))), ?_⟩
    refine ⟨Nat.zero_le _, fun L nL => ?_⟩
    have nLp : L ≠ p := hp.ne_new nL
    have s0 := same_upd (o := .lst []) nL
    obtain ⟨n, rfl⟩ : ∃ n : Nat, m = n := ⟨m.toNat, by omega⟩
    refine ⟨_, rfl, .int n, rfl, n, rfl, by omega, by omega, for_range (n := n) (fun i σ H' => But p H H' ∧ Pool H' p ∧ ∃ (l : Int) (y6 y7 : Option V) (ys : List V) (es : List Ent), σ = [some (.ref p), some (.int n), some (.int sw), some (.ref L), some (.bl (es.any Ent.isFace)), some (.int l), y6, y7] ∧ H' L = some (.lst ys) ∧ es.length = i ∧ DpAll K (wo H' (fun b => X b ∨ b = L)) ys (es.map Ent.tup) ∧ (∀ e ∈ es, e.ok) ∧ Right es ∧ l = sw - swaps es ∧ (0 ≤ l ∨ sw < 0))
      ⟨But.of s0, hp.same s0, sw, none, none, [], [], rfl, upd_same, rfl, .nil, (fun d h => nomatch h), Right.nil, by show sw = sw - ((0 : Nat) : Int); omega, by omega⟩ ?_ ?_⟩
    · rintro i σ H1 hi ⟨b1, hp1, l, y6, y7, ys, es, rfl, eL, hl, ha, hg, hR, hl1, hl2⟩
      have x1 : HX p (fun b => X b ∨ b = L) H1 := (x.but b1 hp1).or (some_ne eL)
      refine ⟨.ref p, rfl, .bl _, rfl, p, _, _, rfl, hp1, x1, fun H2 t e b2 hp2 hd gd hn => ?_⟩
      have eL2 := b2 _ _ nLp eL
      have x2 := x1.but b2 hp2
      refine ⟨fun σ H' => Same H2 H' ∧ ∃ (y6 : Option V) (t : Addr) (e : Ent), σ = [some (.ref p), some (.int n), some (.int sw), some (.ref L), some (.bl (es.any Ent.isFace)), some (.int l), y6, some (.ref t)] ∧ Dp K (wo H' (fun b => X b ∨ b = L)) (.ref t) (Ent.tup e) ∧ e.ok ∧ (e.need = true → es.any Ent.isFace = true) ∧ (e.isSwap = true → l ≠ 0), ?_, ?_⟩
      · obtain ⟨us, hs, _⟩ := tup_at hd
        refine ⟨.ref t, rfl, t, _, 0, _, rfl, rfl, sqt_same wo_same hs, atI_nat (j := 0) rfl, rfl, _, rfl, ?_⟩
        have dw : decide (V.str (ws e.kind) = V.str (PySem.Str.ofString "swap")) = e.isSwap := (wsd e.kind 9).trans e.swap_iff.symm
        rw [dw]
        refine ite2 (fun e1 => ?_) (fun e1 => ?_)
        · refine ⟨.int l, rfl, rfl, _, rfl, ite2 (fun e2 => ?_) (fun e2 => ?_)⟩
          · exact ⟨by show 1 ≤ sizeLine; decide, fun t2 n2 => ⟨same_upd n2, _, t2, .bare, rfl, tupW x2 n2 (.cons (.str "bare") .nil), trivial, (fun z => nomatch z), fun z => nomatch z⟩⟩
          · exact ⟨Same.refl _, _, t, e, rfl, hd, gd, hn, fun _ z => e2 (by rw [z]; exact decide_eq_true rfl)⟩
        · exact ite2 (fun z => nomatch z) (fun _ => ⟨Same.refl _, _, t, e, rfl, hd, gd, hn, fun z => absurd z e1⟩)
      rintro σ H3 ⟨s3, y6, t, e, rfl, hd, gd, hn, hsw⟩
      obtain ⟨us, hs, _⟩ := tup_at hd
      have hs3 := sqt_same wo_same hs
      have dw : decide (V.str (ws e.kind) = V.str (PySem.Str.ofString "swap")) = e.isSwap := (wsd e.kind 9).trans e.swap_iff.symm
      have df : decide (V.str (ws e.kind) = V.str (PySem.Str.ofString "face")) = e.isFace := (wsd e.kind 0).trans e.face_iff.symm
      refine ⟨fun σ H' => H3 = H' ∧ σ = [some (.ref p), some (.int n), some (.int sw), some (.ref L), some (.bl (es.any Ent.isFace)), some (.int (l - (if e.isSwap = true then 1 else 0))), y6, some (.ref t)], ?_, ?_⟩
      · refine ⟨.int l, rfl, .ref t, rfl, t, _, 0, _, rfl, rfl, hs3, atI_nat (j := 0) rfl, rfl, .inr ⟨_, rfl, _, _, rfl, rfl, rfl, ?_⟩⟩
        show _ = _
        rw [dw]
        cases e.isSwap <;> rfl
      rintro σ H4 ⟨rfl, rfl⟩
      refine ⟨fun σ H' => H3 = H' ∧ σ = [some (.ref p), some (.int n), some (.int sw), some (.ref L), some (.bl ((es ++ [e]).any Ent.isFace)), some (.int (l - (if e.isSwap = true then 1 else 0))), y6, some (.ref t)], ?_, ?_⟩
      · have ea : (es ++ [e]).any Ent.isFace = (es.any Ent.isFace || e.isFace) := by
          rw [List.any_append]
          show (_ || (e.isFace || false)) = _
          rw [Bool.or_false]
        refine ⟨_, rfl, _, rfl, ?_⟩
        cases eb : es.any Ent.isFace with
        | true =>
          rw [ea, eb]
          exact iteT ⟨rfl, rfl⟩
        | false =>
          rw [ea, eb]
          refine iteF ⟨.ref t, rfl, t, _, 0, _, rfl, rfl, hs3, atI_nat (j := 0) rfl, rfl, rfl, ?_⟩
          show _ = _
          rw [df]
          rfl
      rintro σ H4 ⟨rfl, rfl⟩
      have eL3 := s3 _ _ eL2
      have lx := dpa_len2 ha
      rw [List.length_map] at lx
      refine ⟨.ref L, rfl, .inl ⟨rfl, _, .inl (.inl eL3)⟩, .ref t, rfl, L, ys, _, rfl, rfl, eL3, small1000 (by omega), ?_⟩
      have b3 := b2.trans (But.of s3)
      have m6 : Same (wo H3 (fun b => X b ∨ b = L)) (wo (upd H3 L (.lst (ys ++ [.ref t]))) (fun b => X b ∨ b = L)) := wo_mut (.inr rfl)
      refine ⟨(b1.trans b3).mut nL, (hp2.same s3).upd nLp, _, _, _, ys ++ [.ref t], es ++ [e], rfl, upd_same, ?_, ?_, ?_, hR.snoc hn, ?_, ?_⟩
      · rw [List.length_append, hl]
        rfl
      · rw [List.map_append]
        exact dpa_snoc (dp_same m6 _ _ hd) _ _ (dpa_same ((b3.wo (.inl x.1)).trans m6) _ _ ha)
      · intro d h
        rcases List.mem_append.mp h with h | h
        · exact hg d h
        · rw [List.mem_singleton.mp h]
          exact gd
      · rw [swaps_snoc]
        split <;> omega
      · cases es1 : e.isSwap with
        | false => rw [if_neg Bool.false_ne_true]; omega
        | true =>
          have := hsw es1
          rw [if_pos rfl]
          omega
    · rintro σ H1 ⟨b1, hp1, l, y6, y7, ys, es, rfl, eL, hl, ha, hg, hR, hl1, hl2⟩
      refine ⟨.ref L, rfl, L, ys, rfl, .inl ⟨.inl (.inl eL), fun r nr => ?_⟩⟩
      have x1 := x.but b1 hp1
      have sr := same_upd (o := .tup ys) nr
      have nr0 : H r = none := by
        cases e : H r with
        | none => rfl
        | some o =>
          by_cases z : r = p
          · rw [z] at nr
            exact absurd nr hp1.known
          · rw [b1 r o z e] at nr
            cases nr
      exact q _ r ys es (b1.trans (But.of sr)) (hp1.same sr) nr0 (.inl (.inl ((wo_in (X := X) (x1.fresh nr)).trans upd_same))) (dpa_same ((wo_less (fun b z => .inl z)).trans ((But.of sr).wo x.1)) _ _ ha) (by rw [hl]) hg hR (by omega)
/-! ### a text spoilt, that can still be laid -/
theorem op_mulT {X : Cx} : OpR X (binaryOp .Mult) (fun x y H Q => ∃ (z : Str) (n : Int), x = .str z ∧ y = .int n ∧ z.length ≤ 16 ∧ 0 ≤ n ∧ n ≤ 1048576 ∧ Q (.str (Txt.mul z n)) H) := by
  intro pins s σ H x y v u Q I rx ry h
  obtain ⟨z, n, rfl, rfl, hz, h0, h1, q⟩ := h
  obtain ⟨t, rfl⟩ := rx
  obtain ⟨t', rfl⟩ := ry
  exact PySem.W.KXi.mul rfl hz (by omega) (by omega) fun t' k _ _ => ⟨.str _, H, I.tok _, ⟨_, rfl⟩, q⟩
theorem mul_one (c : Nat) {n : Int} (h : 0 ≤ n) : ((Txt.mul ⟨#[c]⟩ n).length : Int) = n ∧ ∀ y ∈ (Txt.mul ⟨#[c]⟩ n).cps.toList, y = c := by
  have h1 := mul_one_list c n
  refine ⟨?_, fun y hy => by rw [h1] at hy; exact (List.mem_replicate.mp hy).2⟩
  have h2 := congrArg List.length h1
  rw [len_toList, List.length_replicate] at h2
  omega
theorem cut_lo (z : Str) (k : Nat) : (cutS z none (some (k : Int))).length ≤ k := by
  show (((z.cps.toList.drop (HT.sIx z.length 0 none)).take (HT.sIx z.length z.length (some (k : Int)) - HT.sIx z.length 0 none)).toArray).size ≤ k
  rw [List.size_toArray, List.length_take, HT.sIx_nat]
  omega
theorem cut_hi (z : Str) (k : Nat) : (cutS z (some (k : Int)) none).length ≤ z.length - k := by
  show (((z.cps.toList.drop (HT.sIx z.length 0 (some (k : Int)))).take (HT.sIx z.length z.length none - HT.sIx z.length 0 (some (k : Int)))).toArray).size ≤ z.length - k
  rw [List.size_toArray, List.length_take, List.length_drop, len_toList, HT.sIx_nat]
  omega
def spSpoilt : Sp := fun vs H Q _ => ∃ (p : Addr) (z : Str), vs = [.ref p, .str z] ∧ z.length ≤ 700 ∧ Pool H p ∧ ∀ H' (z' : Str), But p H H' → Pool H' p → z'.length ≤ z.length + 10 → (∀ c ∈ z'.cps.toList, c ∈ z.cps.toList ∨ 32 ≤ c) → Q (.str z') H'
theorem ok_Lspoilt_text (T : Top w K mg) : FnOk P w K mg base CX0 2 T.a_Lspoilt_text T.fd_Lspoilt_text ["_law_pool_here", "_law_text"] spSpoilt := by
  have G_Ltake := ok_Ltake (P := P) (w := w) (base := base) T
  refine T.F_Lspoilt_text.ok sc_Lspoilt_text (fun vs H Q E h => ?_) (fun cdv A outer s H vs Q E hr h => ?_)
  · obtain ⟨p, z, rfl, _⟩ := h
    rfl
  · obtain ⟨p, z, rfl, hz, hp, q⟩ := h
    refine ⟨_, (pss_cons (ps_set (i := 2) sc_Lspoilt_text.nd rfl (.inl rfl) pe_str)
      (pss_cons (ps_set (i := 3) sc_Lspoilt_text.nd rfl (.inl rfl) (pe_ix ix_str (pv 2) (pe_call G_Ltake hr (by rfl) T.g_Ltake T.F_Ltake.kp T.b_Ltake .nil pass0 (pa_cons (pv 0) (pa_cons (pe_callB call_len_str (by rfl) T.m_len (by decide +kernel) (pa_cons (pv 2) pa_nil)) pa_nil))) (fun _ _ => rfl)))
      (pss_cons (ps_set (i := 4) sc_Lspoilt_text.nd rfl (.inl rfl) (pe_call G_Ltake hr (by rfl) T.g_Ltake T.F_Ltake.kp T.b_Ltake .nil pass0 (pa_cons (pv 0) (pa_cons (pe_op op_add (pe_callB call_len_str (by rfl) T.m_len (by decide +kernel) (pa_cons (pv 1) pa_nil)) pe_int) pa_nil))))
      (pss_cons (ps_set (i := 5) sc_Lspoilt_text.nd rfl (.inl rfl) (pe_call G_Ltake hr (by rfl) T.g_Ltake T.F_Ltake.kp T.b_Ltake .nil pass0 (pa_cons (pv 0) (pa_cons pe_int pa_nil))))
      (pss_cons (ps_if (pt_cmpR op_eq (pv 5) pe_int (nomark _)) (pss_one (ps_ret (pe_op op_add_str (pe_op op_add_str (pe_slice sl_str (pv 1) po_none (po_some (pv 4))) (pv 3)) (pe_slice sl_str (pv 1) (po_some (pv 4)) po_none)))) pss_nil)
      (pss_cons (ps_if (pt_cmpR op_eq (pv 5) pe_int (nomark _)) (pss_one (ps_ret (pe_op op_add_str (pe_op op_add_str (pe_slice sl_str (pv 1) po_none (po_some (pv 4))) (pv 3)) (pe_slice sl_str (pv 1) (po_some (pe_op op_add (pv 4) pe_int)) po_none)))) pss_nil)
      (pss_cons (ps_if (pt_cmpR op_eq (pv 5) pe_int (nomark _)) (pss_one (ps_ret (pe_op op_add_str (pe_slice sl_str (pv 1) po_none (po_some (pv 4))) (pe_slice sl_str (pv 1) (po_some (pe_op op_add (pv 4) pe_int)) po_none)))) pss_nil)
      (pss_one (ps_ret (pe_op op_add_str (pv 1) (pe_op op_mulT pe_str (pe_op op_add pe_int (pe_call G_Ltake hr (by rfl) T.g_Ltake T.F_Ltake.kp T.b_Ltake .nil pass0 (pa_cons (pv 0) (pa_cons pe_int pa_nil))))))))))))))), ?_⟩
    generalize hS : (PySem.Str.ofString " !\"#$&'()*+,-./0123456789:;<=>?@ABCDEFGHIJKLMNOPQRSTUVWXYZ[\\]^_`abcdefghijklmnopqrstuvwxyz{|}~") = S
    have lS : S.length = 94 ∧ ∀ c ∈ S.cps.toList, 32 ≤ c := by
      rw [← hS]
      decide +kernel
    refine ⟨_, rfl, .ref p, rfl, _, rfl, S, rfl, thou (by omega), p, _, rfl, by omega, by omega, hp, fun H1 r b1 hp1 r0 r1 => ?_⟩
    obtain ⟨c, hc⟩ := str_at (z := S) r0 r1
    have oc : ∀ y ∈ (⟨#[c]⟩ : Str).cps.toList, y ∈ z.cps.toList ∨ 32 ≤ y := fun y hy => by
      rw [List.mem_singleton.mp hy]
      exact .inr (lS.2 c (at_mem hc))
    refine ⟨S, r, c, rfl, rfl, thou (by omega), hc, ?_⟩
    refine ⟨.ref p, rfl, .str z, rfl, z, rfl, thou (by omega), _, _, rfl, rfl, p, _, rfl, by omega, by omega, hp1, fun H2 k b2 hp2 k0 k1 => ?_⟩
    refine ⟨.ref p, rfl, p, 4, rfl, by decide, by decide, hp2, fun H3 i b3 hp3 i0 i1 => ?_⟩
    have bt := (b1.trans b2).trans b3
    have c1 : (⟨#[c]⟩ : Str).length = 1 := rfl
    obtain ⟨kk, rfl⟩ : ∃ kk : Nat, k = kk := ⟨k.toNat, by omega⟩
    have l1 := cut_lo z kk
    have l2 := cut_hi z kk
    have l3 : (cutS z (some ((kk : Int) + 1)) none).length ≤ z.length - (kk + 1) := cut_hi z (kk + 1)
    have o1 : ∀ lo hi, ∀ y ∈ (cutS z lo hi).cps.toList, y ∈ z.cps.toList ∨ 32 ≤ y := fun _ _ y hy => .inl (cut_mem hy)
    have oa : ∀ {a b : Str}, (∀ y ∈ a.cps.toList, y ∈ z.cps.toList ∨ 32 ≤ y) → (∀ y ∈ b.cps.toList, y ∈ z.cps.toList ∨ 32 ≤ y) → ∀ y ∈ (a ++ b).cps.toList, y ∈ z.cps.toList ∨ 32 ≤ y := fun ha hb y hy => (app_mem hy).elim (ha y) (hb y)
    refine ⟨.int i, rfl, rfl, _, rfl, ite2 (fun e => ?_) (fun e => ?_)⟩
    · refine ⟨.str z, rfl, .int kk, rfl, kk, rfl, z, rfl, thou (by omega), .str _, rfl, _, _, rfl, rfl, thou (by omega), .str z, rfl, .int kk, rfl, kk, rfl, z, rfl, thou (by omega), _, _, rfl, rfl, thou (by rw [app_len]; omega), ?_⟩
      exact q H3 _ bt hp3 (by rw [app_len, app_len]; omega) (oa (oa (o1 _ _) oc) (o1 _ _))
    refine ⟨.int i, rfl, rfl, _, rfl, ite2 (fun e => ?_) (fun e => ?_)⟩
    · refine ⟨.str z, rfl, .int kk, rfl, kk, rfl, z, rfl, thou (by omega), .str _, rfl, _, _, rfl, rfl, thou (by omega), .str z, rfl, .int kk, rfl, kk, 1, rfl, rfl, kk + 1, rfl, z, rfl, thou (by omega), _, _, rfl, rfl, thou (by rw [app_len]; omega), ?_⟩
      exact q H3 _ bt hp3 (by rw [app_len, app_len]; omega) (oa (oa (o1 _ _) oc) (o1 _ _))
    refine ⟨.int i, rfl, rfl, _, rfl, ite2 (fun e => ?_) (fun e => ?_)⟩
    · refine ⟨.str z, rfl, .int kk, rfl, kk, rfl, z, rfl, thou (by omega), .str z, rfl, .int kk, rfl, kk, 1, rfl, rfl, kk + 1, rfl, z, rfl, thou (by omega), _, _, rfl, rfl, thou (by omega), ?_⟩
      exact q H3 _ bt hp3 (by rw [app_len]; omega) (oa (o1 _ _) (o1 _ _))
    refine ⟨.str z, rfl, .ref p, rfl, p, 9, rfl, by decide, by decide, hp3, fun H4 j b4 hp4 j0 j1 => ?_⟩
    have hm := mul_one 97 (n := 1 + j) (by omega)
    rw [show PySem.Str.ofString "a" = ⟨#[97]⟩ from by decide +kernel]
    refine ⟨1, j, rfl, rfl, _, 1 + j, rfl, rfl, by decide, by omega, by omega, z, _, rfl, rfl, thou (by have := hm.1; omega), ?_⟩
    exact q H4 _ (bt.trans b4) hp4 (by rw [app_len]; have := hm.1; omega) (oa (fun y hy => .inl hy) fun y hy => .inr (by rw [hm.2 y hy]; decide))
--@@SPLIT
/-! ### the law's own reading of texts -/
theorem cut_2 (xs : List V) (h : 2 ≤ xs.length) : cutV xs (some 2) none = xs.drop 2 := by
  unfold cutV
  have e1 : HT.sIx xs.length 0 (some (2 : Int)) = 2 := by
    unfold HT.sIx
    simp only []
    split <;> omega
  have e2 : HT.sIx xs.length xs.length none = xs.length := rfl
  rw [e1, e2, List.take_of_length_le (by rw [List.length_drop]; exact Nat.le_refl _)]
def spEntOf (K : PySem.W.Frag) : Sp := fun vs H Q _ => ∃ z : Str, vs = [.str z] ∧ z.length ≤ 900 ∧ ∀ H' v, Same H H' → (∀ H'', Same H' H'' → Dp K H'' v (entO z)) → (∀ X : Addr → Prop, (∀ c, X c → H c ≠ none) → Dp K (wo H' X) v (entO z)) → Q v H'
theorem ok_Lentry_of (T : Top w K mg) : FnOk P w K mg base CX0 4 T.a_Lentry_of T.fd_Lentry_of ["_law_text"] (spEntOf K) := by
  have G_Lis_entry := ok_Lis_entry (P := P) (w := w) (base := base) T
  refine T.F_Lentry_of.ok sc_Lentry_of (fun vs H Q E h => ?_) (fun cdv A outer s H vs Q E hr h => ?_)
  · obtain ⟨z, rfl, _⟩ := h
    rfl
  · obtain ⟨z, rfl, hz, q⟩ := h
    refine ⟨_, (pss_cons (ps_set (i := 1) sc_Lentry_of.nd rfl (.inl rfl) (pe_bm PySem.F.plainAttrs_str PySem.F.slot_str_split PySem.F.type_str_split mt_split (pv 0) (pa_cons pe_str pa_nil)))
      (pss_cons (ps_set (i := 2) sc_Lentry_of.nd rfl (.inl rfl) (pe_callTy call_tuple_of (by rfl) T.m_tuple (by decide +kernel) (pa_cons (pv 1) pa_nil)))
      (Evl.pss_cut (ps_if (PW.pt (pw_and (pt_cmpR op_gt (pe_callB call_len_seq (by rfl) T.m_len (by decide +kernel) (pa_cons (pv 1) pa_nil)) pe_int (nomark _)) (pw_and (pt_cmpR op_in_seq (pe_ix ix_list (pv 1) pe_int (fun _ _ => rfl)) (pe_tup (pa_cons pe_str (pa_cons pe_str pa_nil))) (by rfl)) (pw_and1 (pt_cmpR op_in_seq (pe_ix ix_list (pv 1) pe_int (fun _ _ => rfl)) (pe_callTy (LsT.call_listS rfl) (by rfl) T.m_list (by decide +kernel) (pa_cons pe_str pa_nil)) (by rfl)))))) (pss_one (ps_set (i := 2) sc_Lentry_of.nd rfl (.inl rfl) (pe_op op_catT (pe_tup (pa_cons (pe_ix ix_list (pv 1) pe_int (fun _ _ => rfl)) (pa_cons (pe_callTy call_int_str (by rfl) T.m_int (by decide +kernel) (pa_cons (pe_ix ix_list (pv 1) pe_int (fun _ _ => rfl)) pa_nil)) pa_nil))) (pe_callTy call_tuple_of (by rfl) T.m_tuple (by decide +kernel) (pa_cons (pe_slice sl_list (pv 1) (po_some pe_int) po_none) pa_nil))))) pss_nil)
      (pss_one (ps_ret (pe_ifExp (pt_val (pe_call G_Lis_entry hr (by rfl) T.g_Lis_entry T.F_Lis_entry.kp T.b_Lis_entry .nil pass0 (pa_cons (pv 2) pa_nil))) (pv 2) pe_non)))))), ?_⟩
    obtain ⟨w1, w2⟩ := words_len hz
    refine ⟨_, rfl, rfl, _, _, rfl, rfl, by decide +kernel, Nat.le_trans (show z.length + 2 ≤ 1000 by omega) (by decide), fun W nW => ?_⟩
    rw [show Txt.split z (PySem.Str.ofString " ") = wordsT z from rfl]
    have q : ∀ H' v, Same H H' → (∀ H'', Same H' H'' → Dp K H'' v (if entL (entLw (wordsT z)) = true then .tuple (entLw (wordsT z)) else .none)) → (∀ X : Addr → Prop, (∀ c, X c → H c ≠ none) → Dp K (wo H' X) v (if entL (entLw (wordsT z)) = true then .tuple (entLw (wordsT z)) else .none)) → Q v H' := fun H' v s1 h1 h2 => q H' v s1 (by rw [entO_law]; exact h1) (by rw [entO_law]; exact h2)
    have nz : wordsT z ≠ [] := split_ne z
    generalize wordsT z = ws at w1 w2 q nz ⊢
    have sW := same_upd (o := .lst (ws.map V.str)) nW
    have eW : upd H W (.lst (ws.map V.str)) W = some (.lst (ws.map V.str)) := upd_same
    generalize upd H W (.lst (ws.map V.str)) = H1 at sW eW ⊢
    refine ⟨.ref W, rfl, W, _, rfl, .inl ⟨.inl (.inl eW), fun t nt => ?_⟩⟩
    have st := same_upd (o := .tup (ws.map V.str)) nt
    have eW2 := st _ _ eW
    have et : upd H1 t (.tup (ws.map V.str)) t = some (.tup (ws.map V.str)) := upd_same
    have nt0 : H t = none := sW.free nt
    have s2 := sW.trans st
    generalize upd H1 t (.tup (ws.map V.str)) = H2 at st eW2 et s2 ⊢
    refine ⟨fun σ H' => Same H H' ∧ ∃ t xs, σ = [some (.str z), some (.ref W), some (.ref t)] ∧ H t = none ∧ H' t = some (.tup xs) ∧ ∀ H'', DpAll K H'' xs (entLw ws), ?_, ?_⟩
    · have plain : (∀ (a b : Str) (r : List Str), ws = a :: b :: r → (goSpy a && nineF b) = false) → ∀ H'', DpAll K H'' (ws.map V.str) (entLw ws) := fun h H'' => by
        match ws, h with
        | [], _ => exact .nil
        | [a], _ => exact strs_dp _
        | a :: b :: r, h =>
          have e1 : entLw (a :: b :: r) = (a :: b :: r).map PyData.str := by
            show .str a :: (if (goSpy a && nineF b) = true then _ else PyData.str b) :: _ = _
            rw [h a b r rfl]
            rfl
          rw [e1]
          exact strs_dp _
      refine ⟨.ref W, rfl, W, _, rfl, .inl (.inl (.inl eW2)), _, _, rfl, rfl, _, rfl, ite2 (fun e1 => ?_) (fun e1 => ?_)⟩
      · obtain ⟨a, b, r, rfl⟩ : ∃ a b r, ws = a :: b :: r := by
          match ws, e1 with
          | [], e1 => cases e1
          | [_], e1 => cases e1
          | a :: b :: r, _ => exact ⟨a, b, r, rfl⟩
        refine ⟨.ref W, rfl, W, _, 0, .str a, rfl, rfl, .inl (.inl eW2), atI_nat (j := 0) rfl, by show 2 ≤ sizeLine; decide, fun tp np => ⟨tp, wGS.map V.str, rfl, .inr (.inl (.inl upd_same)), rfl, by decide +kernel, _, rfl, ?_⟩⟩
        have s3 := same_upd (o := .tup [V.str (PySem.Str.ofString "go"), V.str (PySem.Str.ofString "spy")]) np
        have no : (goSpy a && nineF b) = false → ∀ H', Same H2 H' → (Same H H' ∧ ∃ t' xs, [some (V.str z), some (.ref W), some (.ref t)] = [some (.str z), some (.ref W), some (.ref t')] ∧ H t' = none ∧ H' t' = some (.tup xs) ∧ ∀ H'', DpAll K H'' xs (entLw (a :: b :: r))) := fun hn H' s' => ⟨s2.trans s', t, _, rfl, nt0, s' _ _ et, plain fun a' b' r' e => by cases e; exact hn⟩
        show if goSpy a = true then _ else _
        refine ite2 (fun e2 => ?_) (fun e2 => ite2 (fun z => nomatch z) (fun _ => no (by rw [Bool.eq_false_iff.mpr e2]; rfl) _ s3))
        refine ⟨.ref W, rfl, W, _, 1, .str b, rfl, rfl, .inl (.inl (s3 _ _ eW2)), atI_nat (j := 1) rfl, N19, rfl, by decide +kernel, fun l nl => ⟨l, LsT.sgs N19.cps.toList, rfl, .inl (.inl (.inl upd_same)), rfl, sgs_flat _, _, rfl, ?_⟩⟩
        have s4 := s3.trans (same_upd (o := .lst (LsT.sgs N19.cps.toList)) nl)
        show if nineF b = true then _ else _
        refine ite2 (fun e3 => ?_) (fun e3 => no (by rw [Bool.eq_false_iff.mpr e3, Bool.and_false]) _ s4)
        obtain ⟨c, c0, c1, eb⟩ := (nineF_iff b).mp e3
        generalize upd (upd H2 tp (.tup [V.str (PySem.Str.ofString "go"), V.str (PySem.Str.ofString "spy")])) l (.lst (LsT.sgs N19.cps.toList)) = H4 at s4 ⊢
        have eW4 := s4 _ _ eW2
        refine ⟨.ref W, rfl, W, _, 0, .str a, rfl, rfl, .inl (.inl eW4), atI_nat (j := 0) rfl, .ref W, rfl, W, _, 1, .str b, rfl, rfl, .inl (.inl eW4), atI_nat (j := 1) rfl, b, ((c - 48 : Nat) : Int), rfl, by rw [eb]; exact int_one (by omega) c1, by rw [eb]; exact (by decide : (1 : Nat) ≤ 640), by show 2 ≤ sizeLine; decide, fun t1 n1 => ?_⟩
        have s5 := same_upd (o := .tup [.str a, .int ((c - 48 : Nat) : Int)]) n1
        have d1 : ∀ H'', DpAll K H'' (V.str a :: .int ((c - 48 : Nat) : Int) :: r.map V.str) (entLw (a :: b :: r)) := fun H'' => by
          show DpAll K H'' _ (.str a :: (if (goSpy a && nineF b) = true then numD (numIn b.cps.toList) else .str b) :: r.map PyData.str)
          rw [e2, e3, if_pos (show (true && true) = true from rfl), eb, num_one (by omega) c1]
          exact .cons (.str _) (.cons (.int _) (strs_dp r))
        have n10 : H t1 = none := (s2.trans s4).free n1
        refine ⟨.ref W, rfl, 2, rfl, W, _, rfl, .inl (.inl (s5 _ _ eW4)), fun cc nc => ⟨cc, _, rfl, .inl ⟨.inl (.inl upd_same), fun t2 n2 => ?_⟩⟩⟩
        rw [cut_2 _ (by rw [List.length_map, List.length_cons, List.length_cons]; omega)] at n2 ⊢
        have s6 := s5.trans (same_upd (o := .lst (((a :: b :: r).map V.str).drop 2)) nc)
        have s7 := s6.trans (same_upd (o := .tup (((a :: b :: r).map V.str).drop 2)) n2)
        have et1 : upd (upd (upd H4 t1 (.tup [.str a, .int ((c - 48 : Nat) : Int)])) cc (.lst (((a :: b :: r).map V.str).drop 2))) t2 (.tup (((a :: b :: r).map V.str).drop 2)) t1 = some (.tup [.str a, .int ((c - 48 : Nat) : Int)]) := same_upd n2 _ _ (same_upd nc _ _ upd_same)
        refine ⟨t1, t2, _, _, rfl, rfl, .inl (.inl et1), .inl (.inl upd_same), (fun z => nomatch z), ?_, fun er => ?_, fun er p np => ?_⟩
        · show 2 + (r.map V.str).length ≤ sizeLine
          rw [List.length_map, Nat.add_comm]
          exact Nat.le_trans w1 (by decide)
        · refine ⟨(s2.trans s4).trans s7, t1, _, rfl, n10, et1, fun H'' => ?_⟩
          have er : r.map V.str = [] := er
          have d2 := d1 H''
          rw [er] at d2
          exact d2
        · refine ⟨((s2.trans s4).trans s7).trans (same_upd np), p, _, rfl, ((s2.trans s4).trans s7).free np, upd_same, fun H'' => d1 H''⟩
      · refine ite2 (fun z => nomatch z) (fun _ => ⟨s2, t, _, rfl, nt0, et, plain fun a b r e => ?_⟩)
        subst e
        exact absurd (decide_eq_true (by rw [List.length_map, List.length_cons, List.length_cons]; omega)) e1
    rintro σ H3 ⟨s3, t3, xs, rfl, n3, e3, hd⟩
    refine ⟨.ref t3, rfl, .ref t3, .tuple (entLw ws), rfl, ?_, .tup (.inl (.inl e3)) (hd _), fun H4 s4 => ⟨_, rfl, ?_⟩⟩
    · show (decide ((entLw ws).length ≤ 1000) && (entLw ws).all gp) = true
      rw [decide_eq_true (by rw [lws_len]; exact w1), List.all_eq_true.mpr (lws_gp w2)]
      rfl
    show if entL (entLw ws) = true then _ else _
    refine ite2 (fun e => ⟨.ref t3, rfl, q _ _ (s3.trans s4) (fun H'' s'' => ?_) (fun X hX => ?_)⟩) (fun e => q _ _ (s3.trans s4) (fun H'' s'' => ?_) (fun X hX => ?_))
    · rw [if_pos e]
      exact .tup (.inl (.inl (s'' _ _ (s4 _ _ e3)))) (hd _)
    · rw [if_pos e]
      exact .tup (.inl (.inl ((wo_in (X := X) (fun z => hX t3 z n3)).trans (s4 _ _ e3)))) (hd _)
    · rw [if_neg e]
      exact .non
    · rw [if_neg e]
      exact .non
--@@SPLIT
theorem log_rows {K : PySem.W.Frag} {H : Hp} {v : V} {r : Row} (h : Dp K H v (logD r)) : ∃ a xs, v = .ref a ∧ SqT K H a xs ∧ Rows K H xs r.2 := by
  cases h with
  | tup hs ha => exact ⟨_, _, rfl, hs, rows_tup ha⟩
def spLegs (K : PySem.W.Frag) : Sp := fun vs H Q _ => ∃ (e : Addr) (xs : List V) (es : List Ent), vs = [.ref e] ∧ SqA K H e xs ∧ Rows K H xs es ∧ es.length ≤ 200 ∧ ∀ H', Same H H' → Q (.int (1 + (swaps es : Int))) H'
theorem swaps_at {es : List Ent} {i : Nat} {e : Ent} (h : es[i]? = some e) : swaps (es.take (i + 1)) = swaps (es.take i) + (if e.isSwap = true then 1 else 0) := by
  rw [List.take_add_one, h]
  exact swaps_snoc _ _
theorem isw (e : Ent) : decide (V.str (ws e.kind) = V.str (PySem.Str.ofString "swap")) = e.isSwap := (wsd e.kind 9).trans e.swap_iff.symm
theorem ok_Llegs (T : Top w K mg) : FnOk P w K mg base CX0 1 T.a_Llegs T.fd_Llegs ["_law_log"] (spLegs K) := by
  refine T.F_Llegs.ok sc_Llegs (fun vs H Q E h => ?_) (fun cdv A outer s H vs Q E hr h => ?_)
  · obtain ⟨e, xs, es, rfl, _⟩ := h
    rfl
  · obtain ⟨e, xs, es, rfl, hs, ha, hlen, q⟩ := h
    have lx := ha.len
    refine ⟨_, (pss_one (ps_ret (pe_op op_add pe_int (pe_callB call_len_seq (by rfl) T.m_len (by decide +kernel) (pa_cons (pe_lc (own := [("_law_entry", 1)]) (g := gName 1) (by rfl) sc_Llegs.nd (SeqW.pi_seq (pv 0)) (blkOk_by (own := [("_law_entry", 1)]) (N := ["_law_log", "_law_entry"]) (sc := defScope s_Llegs) (by decide +kernel)) (fun _ _ _ _ _ => (pg_name (i := 1) sc_Llegs.nd rfl (Or.inl rfl))) (fun _ _ _ _ _ => (pts_one (pt_cmpR op_eq (pe_ix (r := rIx K) (SeqW.ix_seqK rfl) (pv 1) pe_int (fun _ _ => rfl)) pe_str (nomark _)))) (fun _ _ _ _ _ => (pv 1))) pa_nil))))), ?_⟩
    refine ⟨.ref e, rfl, e, xs, rfl, (fun H' => Same H H'), kpA hs, Same.refl _, fun J G wk hG D hD => lc_it wk (fun i H' => Same H H' ∧ ∃ ys : List V, ys.length = swaps (es.take i) ∧ H' D = some (.lst ys)) ⟨same_upd hD, [], rfl, upd_same⟩ (fun i H' _ h => hG _ h.1) ?_ ?_⟩
    · rintro i v H1 H2 hi ⟨sm, ys, ly, eD⟩ ⟨rfl, hx⟩
      obtain ⟨en, fe, a, us, rfl, hq, _⟩ := (ha.same sm).at_ hx
      have lg := swaps_le (es.take i)
      rw [List.length_take] at lg
      refine ⟨rfl, .ref a, rfl, ixA (j := 0) hq rfl ⟨rfl, _, rfl, ?_⟩⟩
      rw [isw]
      refine ite2 (fun e1 => ⟨.ref a, rfl, ys, eD, small1000 (by omega), (fun b o h => ?_), _, ?_, upd_same⟩) (fun e1 => ⟨sm, ys, ?_, eD⟩)
      · rw [upd_ne (ne_of_none h hD)]
        exact sm _ _ h
      · rw [List.length_append, ly, swaps_at fe, if_pos e1]
        rfl
      · rw [ly, swaps_at fe, if_neg e1]
        rfl
    · rintro H1 ⟨sm, ys, ly, eD⟩
      rw [lx, List.take_length] at ly
      refine ⟨D, ys, rfl, .inl (.inl (.inl eD)), _, _, rfl, rfl, ?_⟩
      rw [ly]
      exact q _ sm
/-! ### small logs, rows, boxes drawn -/
theorem dpa_tp {K : PySem.W.Frag} {H H' : Hp} {n : Nat} (e : Tp H H') {ds : List PyData} {vs : List V} (ho : ∀ d ∈ ds, okD n d = true) (h : DpAll K H vs ds) : DpAll K H' vs ds := dpa_kpA (P := fun d => okD n d = true) (fun d v o h => dp_kp e n d v o h) ds vs ho h
theorem Tp.of {H H' : Hp} (s : Same H H') : Tp H H' := fun b o _ h => s b o h
theorem Tp.trans {H H1 H2 : Hp} (a : Tp H H1) (b : Tp H1 H2) : Tp H H2 := fun c o z h => b c o z (a c o z h)
theorem Tp.but {H H' : Hp} {p : Addr} (hp : Pool H p) (b : But p H H') : Tp H H' := (Kp.but hp b).tp
theorem Tp.lst {H : Hp} {a : Addr} {xs ys : List V} (e : H a = some (.lst xs)) : Tp H (L2.upd H a (.lst ys)) := (Kp.upd e rfl).tp
theorem tups_ok (es : List Ent) : ∀ d ∈ es.map Ent.tup, okD 1 d = true := fun d hd => by
  obtain ⟨e, _, rfl⟩ := List.mem_map.mp hd
  exact ent_okT e
def shrN (n : Fin 9) : Fin 9 := ⟨(n.val + 1) % 3, by omega⟩
def shr : Ent → Ent
  | .go n => .go (shrN n)
  | .spy n z => .spy (shrN n) z
  | e => e
theorem shr_need (e : Ent) : (shr e).need = e.need := by cases e <;> rfl
theorem shr_face (e : Ent) : (shr e).isFace = e.isFace := by cases e <;> rfl
theorem shr_swap (e : Ent) : (shr e).isSwap = e.isSwap := by cases e <;> rfl
theorem shr_ok {e : Ent} (h : e.ok) : (shr e).ok := by cases e <;> exact h
theorem shr_any (es : List Ent) : (es.map shr).any Ent.isFace = es.any Ent.isFace := by
  rw [List.any_map]
  exact congrArg (fun f => es.any f) (funext fun e => shr_face e)
theorem shr_right {es : List Ent} (h : Right es) : Right (es.map shr) := fun i e he hn => by
  rw [List.getElem?_map] at he
  cases e1 : es[i]? with
  | none => rw [e1] at he; cases he
  | some x =>
    rw [e1] at he
    cases he
    rw [← List.map_take, shr_any]
    exact h i x e1 (by rw [← shr_need]; exact hn)
theorem shr_swaps (es : List Ent) : swaps (es.map shr) = swaps es := by
  unfold swaps
  rw [List.filter_map, List.length_map]
  exact congrArg (fun f => (es.filter f).length) (funext fun e => shr_swap e)
theorem shr_int (n : Fin 9) : (1 + ((n.val : Int) + 1) % 3) = ((shrN n).val : Int) + 1 := by
  show _ = (((n.val + 1) % 3 : Nat) : Int) + 1
  omega
theorem gs_in : ∀ i : Fin 10, inV (.str (ws i)) ([PySem.Str.ofString "go", PySem.Str.ofString "spy"].map V.str) = decide (i = 4 ∨ i = 8) := by decide +kernel
theorem tup_atT {K : PySem.W.Frag} {H : Hp} {t : Addr} {e : Ent} (h : Dp K H (.ref t) (Ent.tup e)) : ∃ xs, SqT K H t (.str (ws e.kind) :: xs) ∧ DpAll K H xs e.rest := by
  cases h with
  | @tup _ ys _ hs ha =>
    cases ha with
    | cons h1 h2 =>
      cases h1
      exact ⟨_, hs, h2⟩
theorem dp_ref {K : PySem.W.Frag} {H : Hp} {v : V} {e : Ent} (h : Dp K H v (Ent.tup e)) : ∃ t, v = .ref t := by
  cases h with
  | tup hs ha => exact ⟨_, rfl⟩
theorem cut2 (a b : V) (r : List V) : cutV (a :: b :: r) (some 2) none = r := by
  show ((a :: b :: r).drop (HT.sIx (a :: b :: r).length 0 (some 2))).take (HT.sIx (a :: b :: r).length (a :: b :: r).length none - HT.sIx (a :: b :: r).length 0 (some 2)) = r
  have e1 : HT.sIx (a :: b :: r).length 0 (some 2) = 2 := by
    unfold HT.sIx
    rw [List.length_cons, List.length_cons]
    simp
  rw [e1]
  show r.take _ = r
  exact List.take_of_length_le (by show r.length ≤ (r.length + 1 + 1) - 2; omega)
def spSmallLog (K : PySem.W.Frag) : Sp := fun vs H Q _ => ∃ (p : Addr) (m s : Int), vs = [.ref p, .int m, .int s] ∧ 0 ≤ m ∧ m ≤ 100 ∧ Pool H p ∧ ∀ H' t es, But p H H' → Pool H' p → Dp K H' (.ref t) (.tuple (es.map Ent.tup)) → (es.length : Int) = m → (∀ e ∈ es, e.ok) → Right es → ((swaps es : Int) ≤ s ∨ s < 0) → Q (.ref t) H'
theorem ok_Lsmall_log (T : Top w K mg) : FnOk P w K mg base CX0 6 T.a_Lsmall_log T.fd_Lsmall_log ["_law_pool_here", "_law_many", "_law_swaps"] (spSmallLog K) := by
  have G_Lany_log := ok_Lany_log (P := P) (w := w) (base := base) T
  refine T.F_Lsmall_log.ok sc_Lsmall_log (fun vs H Q E h => ?_) (fun cdv A outer s H vs Q E hr h => ?_)
  · obtain ⟨p, m, s, rfl, _⟩ := h
    rfl
  · obtain ⟨p, m, sw, rfl, m0, m1, hp, q⟩ := h
    refine ⟨_, (pss_cons (ps_set (i := 3) sc_Lsmall_log.nd rfl (.inl rfl) (pe_lst pa_nil))
      (pss_cons (ps_for PassesOwn.never rfl (pi_tup (pe_call G_Lany_log hr (by rfl) T.g_Lany_log T.F_Lany_log.kp T.b_Lany_log .nil pass0 (pa_cons (pv 0) (pa_cons (pv 1) (pa_cons (pv 2) pa_nil))))) (pg_name (i := 4) sc_Lsmall_log.nd rfl (.inl rfl)) (Evl.pss_cut (ps_if (pt_cmpR op_in_seq (pe_ix ix_tup (pv 4) pe_int (fun _ _ => rfl)) (pe_tup (pa_cons pe_str (pa_cons pe_str pa_nil))) (by rfl)) (pss_one (ps_set (i := 4) sc_Lsmall_log.nd rfl (.inl rfl) (pe_op op_catT (pe_tup (pa_cons (pe_ix ix_tup (pv 4) pe_int (fun _ _ => rfl)) (pa_cons (pe_op op_add pe_int (pe_op op_mod (pe_ix ix_tup (pv 4) pe_int (fun _ _ => rfl)) pe_int)) pa_nil))) (pe_slice sl_tup (pv 4) (po_some pe_int) po_none)))) pss_nil)
      (pss_one (ps_expr (pe_bm PySem.F.plainAttrs_list PySem.F.slot_list_append PySem.F.type_list_append mt_append (pv 3) (pa_cons (pv 4) pa_nil))))))
      (pss_one (ps_ret (pe_callTy call_tuple_of (by rfl) T.m_tuple (by decide +kernel) (pa_cons (pv 3) pa_nil)))))), ?_⟩
    refine ⟨Nat.zero_le _, fun L nL => ?_⟩
    have nLp : L ≠ p := hp.ne_new nL
    have s0 := same_upd (o := .lst []) nL
    have hp0 := hp.same s0
    refine ⟨.ref p, rfl, .int m, rfl, .int sw, rfl, p, m, sw, (fun b => b = p), rfl, m0, m1, hp0, ⟨rfl, fun b h => by rw [h]; exact hp0.known⟩, fun H1 t xs es b1 hp1 _ hs ha len ok R hsw => ?_⟩
    have hs1 := sqt_same wo_same hs
    have ha1 := dpa_same wo_same _ _ ha
    have lx := dpa_len2 ha1
    rw [List.length_map] at lx
    have eL1 := b1 _ _ nLp (upd_same (H := H) (a := L) (o := .lst []))
    refine ⟨t, rfl, ⟨xs, hs1⟩, for_it (walk_tup (xs := xs)) (fun i σ H' => But p H H' ∧ Pool H' p ∧ Tp H1 H' ∧ ∃ y4 ys, σ = [some (.ref p), some (.int m), some (.int sw), some (.ref L), y4] ∧ H' L = some (.lst ys) ∧ ys.length = i ∧ DpAll K H' ys (((es.map shr).take i).map Ent.tup)) ⟨(But.of s0).trans b1, hp1, Tp.of (Same.refl _), _, [], rfl, eL1, rfl, .nil⟩ (fun i σ H' _ h => sqt_kp h.2.2.1 hs1) ?_ ?_⟩
    · rintro i v σ H2 H3 hi ⟨b3, hp3, t3, y4, ys, rfl, eL, ly, hy⟩ ⟨rfl, hv⟩
      obtain ⟨d, fd, gd⟩ := dpa_at _ xs ha1 i v hv
      rw [List.getElem?_map] at fd
      obtain ⟨e, fe, rfl⟩ : ∃ e, es[i]? = some e ∧ Ent.tup e = d := by
        cases e1 : es[i]? with
        | none => rw [e1] at fd; cases fd
        | some e => rw [e1] at fd; exact ⟨e, rfl, Option.some.inj fd⟩
      have gd3 := dp_kp t3 1 _ _ (ent_okT e) gd
      obtain ⟨u, rfl⟩ := dp_ref gd3
      obtain ⟨us, hu, hrest⟩ := tup_atT gd3
      refine ⟨fun σ H' => Same H3 H' ∧ ∃ u, σ = [some (.ref p), some (.int m), some (.int sw), some (.ref L), some (.ref u)] ∧ Dp K H' (.ref u) (Ent.tup (shr e)), ?_, ?_⟩
      · refine ⟨.ref u, rfl, u, _, 0, _, rfl, rfl, hu, atI_nat (j := 0) rfl, by show 2 ≤ sizeLine; decide, fun tp ntp => ⟨tp, _, rfl, .inr (.inl (.inl upd_same)), rfl, by decide +kernel, _, rfl, ?_⟩⟩
        have s4 := same_upd (o := .tup ([PySem.Str.ofString "go", PySem.Str.ofString "spy"].map V.str)) ntp
        show if inV (.str (ws e.kind)) ([PySem.Str.ofString "go", PySem.Str.ofString "spy"].map V.str) = true then _ else _
        rw [gs_in]
        refine ite2 (fun e1 => ?_) (fun e1 => ?_)
        · have hk := of_decide_eq_true e1
          obtain ⟨n, us2, eus, hus2, epar⟩ : ∃ (n : Fin 9) (us2 : List V), us = .int ((n.val : Int) + 1) :: us2 ∧ (∃ ds2, DpAll K H3 us2 ds2 ∧ us2.length ≤ 1 ∧ (shr e).parts = .str (ws e.kind) :: .int (((shrN n).val : Int) + 1) :: ds2) ∧ True := by
            cases e with
            | go n =>
              cases hrest with
              | cons h1 h2 => cases h1; cases h2; exact ⟨n, [], rfl, ⟨[], .nil, by decide, rfl⟩, trivial⟩
            | spy n z =>
              cases hrest with
              | cons h1 h2 =>
                cases h1
                cases h2 with
                | cons h3 h4 => cases h3; cases h4; exact ⟨n, [.str z], rfl, ⟨[.str z], .cons (.str _) .nil, Nat.le_refl 1, rfl⟩, trivial⟩
            | turn q => exact absurd hk (by have : ∀ q : Fin 3, ¬ ((Ent.turn q).kind = 4 ∨ (Ent.turn q).kind = 8) := by decide
                                            exact this q)
            | face l => exact absurd hk (show ¬ ((0 : Fin 10) = 4 ∨ (0 : Fin 10) = 8) by decide)
            | bump => exact absurd hk (by decide)
            | sign z => exact absurd hk (show ¬ ((6 : Fin 10) = 4 ∨ (6 : Fin 10) = 8) by decide)
            | bare => exact absurd hk (by decide)
            | swap => exact absurd hk (by decide)
          subst eus
          obtain ⟨ds2, hds2, lus, epar⟩ := hus2
          have hu4 := sqt_same s4 hu
          refine ⟨.ref u, rfl, u, _, 0, _, rfl, rfl, hu4, atI_nat (j := 0) rfl, .ref u, rfl, u, _, 1, _, rfl, rfl, hu4, atI_nat (j := 1) rfl, _, _, rfl, rfl, (by show (0 : Int) < 3; decide), _, _, rfl, rfl, by show 2 ≤ sizeLine; decide, fun a na => ?_⟩
          have s5 := same_upd (o := .tup [.str (ws e.kind), .int (1 + ((n.val : Int) + 1) % 3)]) na
          refine ⟨.ref u, rfl, 2, rfl, u, _, rfl, sqt_same s5 hu4, ?_, fun c nc => ?_⟩
          · intro z
            have z1 := z.1
            unfold HT.sIx at z1
            rw [List.length_cons, List.length_cons] at z1
            simp at z1
          rw [cut2]
          have s6 := same_upd (o := .tup us2) nc
          have s36 := (s4.trans s5).trans s6
          have ea := s6 _ _ (upd_same (a := a) (o := .tup [.str (ws e.kind), .int (1 + ((n.val : Int) + 1) % 3)]))
          have hsh : Ent.tup (shr e) = .tuple (.str (ws e.kind) :: .int (1 + ((n.val : Int) + 1) % 3) :: ds2) := by
            unfold Ent.tup
            rw [epar, shr_int]
          refine ⟨a, c, _, us2, rfl, rfl, .inl (.inl ea), .inl (.inl upd_same), (fun h => nomatch h), ?_, fun h0 => ?_, fun h0 v nv => ?_⟩
          · show 2 + us2.length ≤ sizeLine
            exact thou (by omega)
          · subst h0
            cases hds2
            refine ⟨s36, a, rfl, ?_⟩
            rw [hsh]
            exact .tup (.inl (.inl ea)) (.cons (.str _) (.cons (.int _) .nil))
          · have s7 := same_upd (o := .tup ([.str (ws e.kind), .int (1 + ((n.val : Int) + 1) % 3)] ++ us2)) nv
            refine ⟨s36.trans s7, v, rfl, ?_⟩
            rw [hsh]
            exact .tup (.inl (.inl upd_same)) (.cons (.str _) (.cons (.int _) (dpa_same (s36.trans s7) _ _ hds2)))
        · refine ⟨s4, u, rfl, ?_⟩
          have esh : shr e = e := by
            cases e with
            | go n => exact absurd (decide_eq_true (.inl rfl)) e1
            | spy n z => exact absurd (decide_eq_true (.inr rfl)) e1
            | _ => rfl
          rw [esh]
          exact dp_same s4 _ _ gd3
      rintro σ H4 ⟨s4, u, rfl, hdu⟩
      have eL4 := s4 _ _ eL
      refine ⟨.ref L, rfl, .inl ⟨rfl, _, .inl (.inl eL4)⟩, .ref u, rfl, L, ys, _, rfl, rfl, eL4, small1000 (by omega), ?_⟩
      have tu : Tp H4 (upd H4 L (.lst (ys ++ [.ref u]))) := Tp.lst eL4
      refine ⟨(b3.trans (But.of s4)).mut nL, (hp3.same s4).upd nLp, (t3.trans (Tp.of s4)).trans tu, _, _, rfl, upd_same, ?_, ?_⟩
      · rw [List.length_append, ly]
        rfl
      · have e1 : ((es.map shr).take (i + 1)).map Ent.tup = ((es.map shr).take i).map Ent.tup ++ [Ent.tup (shr e)] := by
          rw [List.take_add_one, List.getElem?_map, fe, List.map_append]
          rfl
        rw [e1]
        exact dpa_snoc (dp_kp tu 1 _ _ (ent_okT _) hdu) _ _ (dpa_tp ((Tp.of s4).trans tu) (tups_ok _) hy)
    · rintro σ H2 ⟨b3, hp3, t3, y4, ys, rfl, eL, ly, hy⟩
      have lsh : (es.map shr).length = es.length := List.length_map _
      rw [lx, ← lsh, List.take_length] at hy
      refine ⟨.ref L, rfl, L, ys, rfl, .inl ⟨.inl (.inl eL), fun r nr => ?_⟩⟩
      have sr := same_upd (o := .tup ys) nr
      refine q _ r (es.map shr) (b3.trans (But.of sr)) (hp3.same sr) (.tup (.inl (.inl upd_same)) (dpa_same sr _ _ hy)) (by rw [lsh]; exact len) (fun e he => ?_) (shr_right R) (by rw [shr_swaps]; exact hsw)
      obtain ⟨x, hx, rfl⟩ := List.mem_map.mp he
      exact shr_ok (ok x hx)
/-- a row of rows: a tuple of a name and a log -/
def RowAt (K : PySem.W.Frag) (H : Hp) (v : V) (r : Row) : Prop := ∃ t l, v = .ref t ∧ H t = some (.tup [.str r.1, .ref l]) ∧ Dp K H (.ref l) (logD r)
theorem RowAt.tp {K : PySem.W.Frag} {H H' : Hp} {v : V} {r : Row} (h : RowAt K H v r) (hl : r.2.length ≤ 1000) (e : Tp H H') : RowAt K H' v r := by
  obtain ⟨t, l, rfl, h1, h2⟩ := h
  exact ⟨t, l, rfl, e _ _ rfl h1, dp_kp e 2 _ _ (log_okD hl) h2⟩
inductive RowsAt (K : PySem.W.Frag) (H : Hp) : List V → List Row → Prop
  | nil : RowsAt K H [] []
  | cons {v : V} {r : Row} {vs : List V} {rs : List Row} : RowAt K H v r → RowsAt K H vs rs → RowsAt K H (v :: vs) (r :: rs)
theorem RowsAt.tp {K : PySem.W.Frag} {H H' : Hp} {vs : List V} {rs : List Row} (h : RowsAt K H vs rs) (hl : ∀ r ∈ rs, r.2.length ≤ 1000) (e : Tp H H') : RowsAt K H' vs rs := by
  induction h with
  | nil => exact .nil
  | cons h1 _ ih => exact .cons (h1.tp (hl _ List.mem_cons_self) e) (ih fun r hr => hl r (List.mem_cons_of_mem _ hr))
theorem RowsAt.len {K : PySem.W.Frag} {H : Hp} {vs : List V} {rs : List Row} (h : RowsAt K H vs rs) : vs.length = rs.length := by
  induction h with
  | nil => rfl
  | cons _ _ ih => rw [List.length_cons, List.length_cons, ih]
theorem RowsAt.at_ {K : PySem.W.Frag} {H : Hp} {vs : List V} {rs : List Row} (h : RowsAt K H vs rs) : ∀ {i : Nat} {v : V}, vs[i]? = some v → ∃ r, rs[i]? = some r ∧ RowAt K H v r := by
  induction h with
  | nil => exact fun h => by cases h
  | cons h1 _ ih =>
    intro i v hv
    cases i with
    | zero => cases hv; exact ⟨_, rfl, h1⟩
    | succ i => exact ih hv
theorem RowsAt.snoc {K : PySem.W.Frag} {H : Hp} {vs : List V} {rs : List Row} {v : V} {r : Row} (h : RowsAt K H vs rs) (h1 : RowAt K H v r) : RowsAt K H (vs ++ [v]) (rs ++ [r]) := by
  induction h with
  | nil => exact .cons h1 .nil
  | cons h2 _ ih => exact .cons h2 ih
theorem dpa_appT {K : PySem.W.Frag} {H : Hp} : ∀ {ds es : List PyData} {xs ys : List V}, DpAll K H xs ds → DpAll K H ys es → DpAll K H (xs ++ ys) (ds ++ es)
  | [], _, _, _, h, g => by cases h; exact g
  | d :: ds, es, _, ys, h, g => by
    cases h with
    | cons h1 h2 => exact .cons h1 (dpa_appT h2 g)
/-! ### the legs that are due -/
def rowD (r : Row) : PyData := .tuple [.str r.1, logD r]
theorem RowAt.same {K : PySem.W.Frag} {H H' : Hp} {v : V} {r : Row} (h : RowAt K H v r) (s : Same H H') : RowAt K H' v r := by
  obtain ⟨t, l, rfl, h1, h2⟩ := h
  exact ⟨t, l, rfl, s _ _ h1, dp_same s _ _ h2⟩
def legsSum (rs : List Row) : Nat := (rs.map fun r => 1 + swaps r.2).sum
def spSmallRows (K : PySem.W.Frag) : Sp := fun vs H Q _ => ∃ (p : Addr) (m : Nat), vs = [.ref p, .int (m : Nat)] ∧ m ≤ 6 ∧ Pool H p ∧ ∀ H' L xs rs, But p H H' → Pool H' p → H L = none → H' L = some (.lst xs) → RowsAt K H' xs rs → rs.length = m → (nms rs).Nodup → (∀ r ∈ rs, RowOk r) → (∀ r ∈ rs, r.2.length ≤ 8) → legsSum rs ≤ 6 → Q (.ref L) H'
theorem ok_Lsmall_rows (T : Top w K mg) : FnOk P w K mg base CX0 7 T.a_Lsmall_rows T.fd_Lsmall_rows ["_law_pool_here", "_law_walkers"] (spSmallRows K) := by
  have G_Ltake := ok_Ltake (P := P) (w := w) (base := base) T
  have G_Lnames := ok_Lnames (P := P) (w := w) (base := base) T
  have G_Lsmall_log := ok_Lsmall_log (P := P) (w := w) (base := base) T
  have G_Llegs := ok_Llegs (P := P) (w := w) (base := base) T
  refine T.F_Lsmall_rows.ok sc_Lsmall_rows (fun vs H Q E h => ?_) (fun cdv A outer s H vs Q E hr h => ?_)
  · obtain ⟨p, m, rfl, _⟩ := h
    rfl
  · obtain ⟨p, m, rfl, hm, hp, q⟩ := h
    refine ⟨_, (pss_cons (ps_set (i := 2) sc_Lsmall_rows.nd rfl (.inl rfl) (pe_lst pa_nil))
      (pss_cons (ps_set (i := 3) sc_Lsmall_rows.nd rfl (.inl rfl) (pe_op op_sub pe_int (pv 1)))
      (pss_cons (ps_for PassesOwn.never rfl (pi_list (pe_call G_Lnames (hr.mono (by decide)) (by rfl) T.g_Lnames T.F_Lnames.kp T.b_Lnames .nil pass0 (pa_cons (pv 0) (pa_cons (pv 1) pa_nil)))) (pg_name (i := 4) sc_Lsmall_rows.nd rfl (.inl rfl)) (pss_cons (ps_set (i := 5) sc_Lsmall_rows.nd rfl (.inl rfl) (pe_call G_Lsmall_log hr (by rfl) T.g_Lsmall_log T.F_Lsmall_log.kp T.b_Lsmall_log .nil pass0 (pa_cons (pv 0) (pa_cons (pe_call G_Ltake (hr.mono (by decide)) (by rfl) T.g_Ltake T.F_Ltake.kp T.b_Ltake .nil pass0 (pa_cons (pv 0) (pa_cons pe_int pa_nil))) (pa_cons (pv 3) pa_nil)))))
      (pss_cons (ps_set (i := 3) sc_Lsmall_rows.nd rfl (.inl rfl) (pe_op op_sub (pv 3) (pe_op op_sub (pe_call G_Llegs (hr.mono (by decide)) (by rfl) T.g_Llegs T.F_Llegs.kp T.b_Llegs .nil pass0 (pa_cons (pv 5) pa_nil)) pe_int)))
      (pss_one (ps_expr (pe_bm PySem.F.plainAttrs_list PySem.F.slot_list_append PySem.F.type_list_append mt_append (pv 2) (pa_cons (pe_tup (pa_cons (pv 4) (pa_cons (pv 5) pa_nil))) pa_nil)))))))
      (pss_one (ps_ret (pv 2)))))), ?_⟩
    refine ⟨Nat.zero_le _, fun L nL => ?_⟩
    have nLp : L ≠ p := hp.ne_new nL
    have s0 := same_upd (o := .lst []) nL
    refine ⟨.int m, rfl, _, _, rfl, rfl, .ref p, rfl, .int m, rfl, p, m, rfl, by omega, hp.same s0, fun H1 N zs b1 hp1 nN eN lz nd hz => ?_⟩
    have eL1 := b1 _ _ nLp (upd_same (H := H) (a := L) (o := .lst []))
    have nNL : N ≠ L := fun z => by rw [z, upd_same] at nN; cases nN
    have nNp : N ≠ p := (hp.same s0).ne_new nN
    have nN0 : H N = none := s0.free nN
    refine ⟨N, rfl, ⟨_, .inl (.inl eN)⟩, for_it (walk_list (xs := zs.map V.str)) (fun i σ H' => But p H H' ∧ Pool H' p ∧ H' N = some (.lst (zs.map V.str)) ∧ ∃ (left : Int) (y4 y5 : Option V) (xs : List V) (rs : List Row), σ = [some (.ref p), some (.int (m : Nat)), some (.ref L), some (.int left), y4, y5] ∧ H' L = some (.lst xs) ∧ RowsAt K H' xs rs ∧ nms rs = zs.take i ∧ (∀ r ∈ rs, RowOk r) ∧ (∀ r ∈ rs, r.2.length ≤ 8) ∧ left = 6 - (m : Int) - ((legsSum rs : Int) - (rs.length : Int)) ∧ 0 ≤ left) ⟨(But.of s0).trans b1, hp1, eN, _, _, _, [], [], rfl, eL1, .nil, rfl, (fun _ h => nomatch h), (fun _ h => nomatch h), by show 6 - (m : Int) = 6 - (m : Int) - (((0 : Nat) : Int) - ((0 : Nat) : Int)); omega, by omega⟩ (fun i σ H' _ h => .inl (.inl h.2.2.1)) ?_ ?_⟩
    · rintro i v σ H2 H3 hi ⟨b3, hp3, eN3, left, y4, y5, xs, rs, rfl, eL, hrs, enm, rok, r8, hleft, l0⟩ ⟨rfl, hv⟩
      rw [List.getElem?_map] at hv
      obtain ⟨z, fz, rfl⟩ : ∃ z, zs[i]? = some z ∧ V.str z = v := by
        cases e1 : zs[i]? with
        | none => rw [e1] at hv; cases hv
        | some z => rw [e1] at hv; exact ⟨z, rfl, Option.some.inj hv⟩
      have hil : i < zs.length := (List.getElem?_eq_some_iff.mp fz).1
      have lrs : rs.length = i := by
        have := congrArg List.length enm
        unfold nms at this
        rw [List.length_map, List.length_take] at this
        omega
      refine ⟨.ref p, rfl, .ref p, rfl, p, 9, rfl, by decide, by decide, hp3, fun H4 k b4 hp4 k0 k1 => ?_⟩
      refine ⟨_, rfl, p, k, left, rfl, k0, by omega, hp4, fun H5 t es b5 hp5 hdt len ok R hsw => ?_⟩
      obtain ⟨a, ys, rfl', hsq, hrw⟩ := log_rows (r := (z, es)) hdt
      cases rfl'
      refine ⟨_, rfl, .ref t, rfl, t, ys, es, rfl, .inr hsq, hrw, by omega, fun H6 s6 => ⟨_, _, rfl, rfl, _, _, rfl, rfl, ?_⟩⟩
      have t36 : Tp H3 H6 := ((Tp.but hp3 b4).trans (Tp.but hp4 b5)).trans (Tp.of s6)
      have b36 := (b4.trans b5).trans (But.of s6)
      have hp6 := hp5.same s6
      refine ⟨.ref L, rfl, .inl ⟨rfl, _, .inl (.inl (b36 _ _ nLp eL))⟩, .str z, rfl, .ref t, rfl, by show 2 ≤ sizeLine; decide, fun u nu => ?_⟩
      have su := same_upd (o := .tup [.str z, .ref t]) nu
      have eL7 := su _ _ (b36 _ _ nLp eL)
      have tu : Tp (upd H6 u (.tup [.str z, .ref t])) (upd (upd H6 u (.tup [.str z, .ref t])) L (.lst (xs ++ [.ref u]))) := Tp.lst eL7
      have lxs := hrs.len
      have hsl := swaps_le es
      have r1000 : ∀ r ∈ rs, r.2.length ≤ 1000 := fun r hr => by have := r8 r hr; omega
      refine ⟨L, xs, _, rfl, rfl, eL7, small1000 (by omega), ((b3.trans b36).trans (But.of su)).mut nL, (hp6.same su).upd nLp, ?_, _, _, _, _, rs ++ [(z, es)], rfl, upd_same, ?_, ?_, ?_, ?_, ?_, ?_⟩
      · rw [upd_ne nNL]
        exact su _ _ (b36 _ _ nNp eN3)
      · refine (hrs.tp r1000 ((t36.trans (Tp.of su)).trans tu)).snoc ⟨u, t, rfl, tu _ _ rfl upd_same, dp_kp (((Tp.of s6).trans (Tp.of su)).trans tu) 2 _ _ (log_okD (r := (z, es)) (show es.length ≤ 1000 by omega)) hdt⟩
      · rw [List.take_add_one, fz, ← enm]
        unfold nms
        rw [List.map_append]
        rfl
      · intro r hr
        rcases List.mem_append.mp hr with h | h
        · exact rok r h
        · rw [List.mem_singleton.mp h]
          exact ⟨hz z (List.mem_of_getElem? fz), ok, R, show es.length ≤ 100 by omega⟩
      · intro r hr
        rcases List.mem_append.mp hr with h | h
        · exact r8 r h
        · rw [List.mem_singleton.mp h]
          show es.length ≤ 8
          omega
      · have e1 : legsSum (rs ++ [(z, es)]) = legsSum rs + (1 + swaps es) := by
          unfold legsSum
          rw [List.map_append, List.sum_append]
          rfl
        rw [e1, List.length_append, hleft]
        show _ = 6 - (m : Int) - (((legsSum rs + (1 + swaps es) : Nat) : Int) - ((rs.length + 1 : Nat) : Int))
        omega
      · omega
    · rintro σ H2 ⟨b3, hp3, eN3, left, y4, y5, xs, rs, rfl, eL, hrs, enm, rok, r8, hleft, l0⟩
      rw [List.length_map, List.take_length] at enm
      have lrs : rs.length = m := by
        have := congrArg List.length enm
        unfold nms at this
        rw [List.length_map] at this
        omega
      exact ⟨.ref L, rfl, q H2 L xs rs b3 hp3 nL eL hrs lrs (by rw [enm]; exact nd) rok r8 (by omega)⟩
def nmAt (H : Hp) (v : V) : Str := match v with
  | .ref t => match H t with
    | some (.tup (.str z :: _)) => z
    | _ => ⟨#[]⟩
  | _ => ⟨#[]⟩
def lgAt (H : Hp) (v : V) : Addr := match v with
  | .ref t => match H t with
    | some (.tup [_, .ref l]) => l
    | _ => 0
  | _ => 0
theorem RowAt.nm {K : PySem.W.Frag} {H : Hp} {v : V} {r : Row} (h : RowAt K H v r) : nmAt H v = r.1 ∧ ∃ t, v = .ref t ∧ H t = some (.tup [.str (nmAt H v), .ref (lgAt H v)]) := by
  obtain ⟨t, l, rfl, h1, h2⟩ := h
  have e1 : nmAt H (.ref t) = r.1 := by unfold nmAt; simp only [h1]
  have e2 : lgAt H (.ref t) = l := by unfold lgAt; simp only [h1]
  refine ⟨e1, t, rfl, ?_⟩
  rw [e1, e2]
  exact h1
theorem RowsAt.zip {K : PySem.W.Frag} {H : Hp} {vs : List V} {rs : List Row} (h : RowsAt K H vs rs) : ∃ zs : List (V × Row), vs = zs.map (·.1) ∧ rs = zs.map (·.2) ∧ ∀ z ∈ zs, RowAt K H z.1 z.2 := by
  induction h with
  | nil => exact ⟨[], rfl, rfl, fun _ h => nomatch h⟩
  | @cons v r vs rs h1 _ ih =>
    obtain ⟨zs, e1, e2, h2⟩ := ih
    refine ⟨(v, r) :: zs, by rw [e1]; rfl, by rw [e2]; rfl, fun z hz => ?_⟩
    rcases List.mem_cons.mp hz with e | hz
    · rw [e]; exact h1
    · exact h2 z hz
theorem RowsAt.unzip {K : PySem.W.Frag} {H : Hp} : ∀ {zs : List (V × Row)}, (∀ z ∈ zs, RowAt K H z.1 z.2) → RowsAt K H (zs.map (·.1)) (zs.map (·.2))
  | [], _ => .nil
  | z :: zs, h => .cons (h z List.mem_cons_self) (RowsAt.unzip fun y hy => h y (List.mem_cons_of_mem _ hy))
theorem RowsAt.perm {K : PySem.W.Frag} {H : Hp} {vs ys : List V} {rs : List Row} (h : RowsAt K H vs rs) (p : ys.Perm vs) : ∃ rs', RowsAt K H ys rs' ∧ rs'.Perm rs := by
  obtain ⟨zs, e1, e2, hz⟩ := h.zip
  rw [e1] at p
  obtain ⟨zs', p', e⟩ := perm_lift (f := fun z : V × Row => z.1) p
  refine ⟨zs'.map (·.2), ?_, ?_⟩
  · rw [← e]
    exact RowsAt.unzip fun z hz' => hz z (p'.mem_iff.mp hz')
  · rw [e2]
    exact p'.map _
theorem RowsAt.same {K : PySem.W.Frag} {H H' : Hp} {vs : List V} {rs : List Row} (h : RowsAt K H vs rs) (s : Same H H') : RowsAt K H' vs rs := by
  induction h with
  | nil => exact .nil
  | cons h1 _ ih => exact .cons (h1.same s) ih
theorem RowsAt.nms {K : PySem.W.Frag} {H : Hp} {vs : List V} {rs : List Row} (h : RowsAt K H vs rs) : vs.map (nmAt H) = M.nms rs := by
  induction h with
  | nil => rfl
  | cons h1 _ ih =>
    show _ :: _ = _ :: _
    rw [h1.nm.1]
    exact congrArg _ ih
theorem RowsAt.apart {K : PySem.W.Frag} {H : Hp} {xs : List V} {rs : List Row} (h : RowsAt K H xs rs) (nd : (M.nms rs).Nodup) : ∀ u ∈ xs, ∀ v ∈ xs, nmAt H u = nmAt H v → lgAt H u = lgAt H v := fun u hu v hv e => by
  obtain ⟨i, hi⟩ := List.mem_iff_getElem?.mp hu
  obtain ⟨j, hj⟩ := List.mem_iff_getElem?.mp hv
  obtain ⟨r1, f1, h1⟩ := h.at_ hi
  obtain ⟨r2, f2, h2⟩ := h.at_ hj
  have e1 : (M.nms rs)[i]? = some (nmAt H u) := by unfold M.nms; rw [List.getElem?_map, f1, h1.nm.1]; rfl
  have e2 : (M.nms rs)[j]? = some (nmAt H v) := by unfold M.nms; rw [List.getElem?_map, f2, h2.nm.1]; rfl
  have i1 := List.getElem?_eq_some_iff.mp e1
  have j1 := List.getElem?_eq_some_iff.mp e2
  have eij : i = j := by
    rcases Nat.lt_trichotomy i j with h | h | h
    · exact absurd (i1.2.trans (e.trans j1.2.symm)) ((List.pairwise_iff_getElem.mp nd) i j i1.1 j1.1 h)
    · exact h
    · exact absurd (j1.2.trans (e.symm.trans i1.2.symm)) ((List.pairwise_iff_getElem.mp nd) j i j1.1 i1.1 h)
  subst eij
  rw [Option.some.inj (hi.symm.trans hj)]
theorem RowsAt.keyed {K : PySem.W.Frag} {H : Hp} {xs : List V} {rs : List Row} (h : RowsAt K H xs rs) : ∀ v ∈ xs, ∃ t, v = .ref t ∧ H t = some (.tup [.str (nmAt H v), .ref (lgAt H v)]) := fun v hv => by
  obtain ⟨i, hi⟩ := List.mem_iff_getElem?.mp hv
  obtain ⟨r, _, hr'⟩ := h.at_ hi
  exact hr'.nm.2
theorem RowsAt.sorted {K : PySem.W.Frag} {H : Hp} {xs ys : List V} {rs : List Row} (h : RowsAt K H xs rs) (nd : (M.nms rs).Nodup) (srt : SrtO.Srtd (fun x y => SrtSP.ltS (nmAt H x) (nmAt H y)) ys) (prm : ys.Perm xs) : ∃ rs2, RowsAt K H ys rs2 ∧ rs2.Perm rs ∧ Srt rs2 := by
  obtain ⟨rs2, hrs2, p2⟩ := h.perm prm
  refine ⟨rs2, hrs2, p2, srt_of ((show (M.nms rs2).Perm (M.nms rs) from p2.map _).nodup_iff.mpr nd) ?_⟩
  rw [← hrs2.nms]
  exact List.pairwise_map.mpr (srt.imp fun {a b} h z => by
    have h : SrtSP.ltS (nmAt H b) (nmAt H a) = false := h
    have this : SrtSP.ltS (nmAt H b) (nmAt H a) = true := decide_eq_true z
    rw [h] at this
    cases this)
--@@SPLIT
def spSmallBox (K : PySem.W.Frag) : Sp := fun vs H Q _ => ∃ (p : Addr) (n : Int), vs = [.ref p, .int n] ∧ Pool H p ∧ ∀ H' t (box : List Nat), But p H H' → Pool H' p → H t = none → H' t = some (.tup (boxV box)) → box.length = 8 → Q (.ref t) H'
theorem box_set {box : List Nat} {j n : Nat} (h : box[j]? = some n) : (boxV box).set j (.int ((n : Int) + 1)) = boxV (box.set j (n + 1)) := by
  unfold boxV
  rw [List.map_set]
  congr 1
theorem ok_Lsmall_box (T : Top w K mg) : FnOk P w K mg base CX0 2 T.a_Lsmall_box T.fd_Lsmall_box ["_law_pool_here", "_law_legs_here"] (spSmallBox K) := by
  have G_Ltake := ok_Ltake (P := P) (w := w) (base := base) T
  refine T.F_Lsmall_box.ok sc_Lsmall_box (fun vs H Q E h => ?_) (fun cdv A outer s H vs Q E hr h => ?_)
  · obtain ⟨p, n, rfl, _⟩ := h
    rfl
  · obtain ⟨p, n, rfl, hp, q⟩ := h
    refine ⟨_, (pss_cons (ps_set (i := 2) sc_Lsmall_box.nd rfl (.inl rfl) (pe_op op_rep (pe_lst (pa_cons pe_int pa_nil)) pe_int))
      (pss_cons (ps_set (i := 3) sc_Lsmall_box.nd rfl (.inl rfl) (pe_op op_add pe_int (pe_call G_Ltake hr (by rfl) T.g_Ltake T.F_Ltake.kp T.b_Ltake .nil pass0 (pa_cons (pv 0) (pa_cons pe_int pa_nil)))))
      (pss_cons (ps_for PassesOwn.never rfl (pi_range1 (by rfl) T.m_range (pa_cons (pe_call G_Ltake hr (by rfl) T.g_Ltake T.F_Ltake.kp T.b_Ltake .nil pass0 (pa_cons (pv 0) (pa_cons (pe_op op_sub pe_int (pe_op op_mul pe_int (pe_callTy call_int1 (by rfl) T.m_int (by decide +kernel) (pa_cons (pe_cmpR op_gt (pv 1) pe_int (nomark _)) pa_nil)))) pa_nil))) pa_nil)) (pg_name (i := 4) sc_Lsmall_box.nd rfl (.inl rfl)) (pss_one (ps_augS (pv 2) (pe_call G_Ltake hr (by rfl) T.g_Ltake T.F_Ltake.kp T.b_Ltake .nil pass0 (pa_cons (pv 0) (pa_cons (pv 3) pa_nil))) SeqW.get_list pe_int ip_add set_list)))
      (pss_one (ps_ret (pe_callTy call_tuple_of (by rfl) T.m_tuple (by decide +kernel) (pa_cons (pv 2) pa_nil))))))), ?_⟩
    refine ⟨by show 1 ≤ sizeLine; decide, fun l nl => ⟨l, 8, _, rfl, rfl, upd_same, by decide, by decide, by show 1 * 8 ≤ sizeLine; decide, fun L nL => ?_⟩⟩
    have sl := same_upd (o := .lst [.int 0]) nl
    have sL := same_upd (o := .lst (boxV [0, 0, 0, 0, 0, 0, 0, 0])) nL
    have hp2 := (hp.same sl).same sL
    have nLp : L ≠ p := (hp.same sl).ne_new nL
    have nL0 : H L = none := sl.free nL
    have b2 : But p H (upd (upd H l (.lst [.int 0])) L (.lst (boxV [0, 0, 0, 0, 0, 0, 0, 0]))) := But.of (sl.trans sL)
    refine ⟨.ref p, rfl, p, 8, rfl, by decide, by decide, hp2, fun H3 k b3 hp3 k0 k1 => ⟨_, _, rfl, rfl, ?_⟩⟩
    have eL3 := b3 _ _ nLp (upd_same (a := L) (o := .lst (boxV [0, 0, 0, 0, 0, 0, 0, 0])))
    have hm : ∀ b : Bool, 0 < (9 : Int) - 2 * (if b then 1 else 0) ∧ (9 : Int) - 2 * (if b then 1 else 0) < 100 := by decide
    refine ⟨.ref p, rfl, .int n, rfl, _, _, rfl, rfl, .inr ⟨_, rfl, _, _, rfl, rfl, .inl ⟨by decide, by decide⟩, _, _, rfl, rfl, p, _, rfl, (hm _).1, Int.lt_trans (hm _).2 (by decide), hp3, fun H4 r b4 hp4 r0 r1 => ?_⟩⟩
    have r100 := Int.lt_trans r1 (hm _).2
    refine ⟨r, rfl, by omega, by omega, for_range (n := r.toNat) (fun i σ H' => But p H H' ∧ Pool H' p ∧ ∃ y4 box, σ = [some (.ref p), some (.int n), some (.ref L), some (.int (1 + k)), y4] ∧ H' L = some (.lst (boxV box)) ∧ box.length = 8) ⟨(b2.trans b3).trans b4, hp4, _, _, rfl, b4 _ _ nLp eL3, rfl⟩ ?_ ?_⟩
    · rintro i σ H5 hi ⟨b5, hp5, y4, box, rfl, eL, lb⟩
      refine ⟨.ref L, rfl, .ref p, rfl, .int (1 + k), rfl, p, 1 + k, rfl, by omega, by omega, hp5, fun H6 j b6 hp6 j0 j1 => ?_⟩
      obtain ⟨j, rfl⟩ : ∃ jj : Nat, j = jj := ⟨j.toNat, by omega⟩
      have hj : j < box.length := by omega
      have eb : box[j]? = some box[j] := List.getElem?_eq_getElem hj
      have eL6 := b6 _ _ nLp eL
      have lbv : (boxV box).length = box.length := List.length_map _
      refine ⟨L, boxV box, j, .int (box[j] : Nat), rfl, rfl, .inl (.inl eL6), by unfold boxV; rw [List.getElem?_map, eb]; rfl, _, _, rfl, rfl, L, boxV box, j, j, rfl, rfl, eL6, Evl.ixN_nat (by omega), ?_⟩
      refine ⟨(b5.trans b6).mut nL0, hp6.upd nLp, _, box.set j (box[j] + 1), rfl, ?_, by rw [List.length_set]; exact lb⟩
      rw [upd_same, box_set eb]
    · rintro σ H5 ⟨b5, hp5, y4, box, rfl, eL, lb⟩
      refine ⟨.ref L, rfl, L, _, rfl, .inl ⟨.inl (.inl eL), fun t nt => ?_⟩⟩
      have st := same_upd (o := .tup (boxV box)) nt
      exact q _ t box (b5.trans (But.of st)) (hp5.same st) (b5.free (hp5.ne_new nt) nt) upd_same lb
/-! ### a box drawn, and how many lots it holds -/
def spSmallBoxS (K : PySem.W.Frag) : Sp := fun vs H Q _ => ∃ (p : Addr) (n : Int), vs = [.ref p, .int n] ∧ Pool H p ∧ ∀ H' t (box : List Nat), But p H H' → Pool H' p → H t = none → H' t = some (.tup (boxV box)) → box.length = 8 → box.sum ≤ 100 → Q (.ref t) H'
theorem sum_set : ∀ (l : List Nat) (j n : Nat), l[j]? = some n → (l.set j (n + 1)).sum = l.sum + 1
  | [], _, _, h => by cases h
  | x :: l, 0, n, h => by
    cases h
    show (x + 1) + l.sum = x + l.sum + 1
    omega
  | x :: l, j + 1, n, h => by
    show x + (l.set j (n + 1)).sum = x + l.sum + 1
    rw [sum_set l j n h]
    omega
theorem ok_Lsmall_boxS (T : Top w K mg) : FnOk P w K mg base CX0 2 T.a_Lsmall_box T.fd_Lsmall_box ["_law_pool_here", "_law_legs_here"] (spSmallBoxS K) := by
  have G_Ltake := ok_Ltake (P := P) (w := w) (base := base) T
  refine T.F_Lsmall_box.ok sc_Lsmall_box (fun vs H Q E h => ?_) (fun cdv A outer s H vs Q E hr h => ?_)
  · obtain ⟨p, n, rfl, _⟩ := h
    rfl
  · obtain ⟨p, n, rfl, hp, q⟩ := h
    refine ⟨_, (pss_cons (ps_set (i := 2) sc_Lsmall_box.nd rfl (.inl rfl) (pe_op op_rep (pe_lst (pa_cons pe_int pa_nil)) pe_int))
      (pss_cons (ps_set (i := 3) sc_Lsmall_box.nd rfl (.inl rfl) (pe_op op_add pe_int (pe_call G_Ltake hr (by rfl) T.g_Ltake T.F_Ltake.kp T.b_Ltake .nil pass0 (pa_cons (pv 0) (pa_cons pe_int pa_nil)))))
      (pss_cons (ps_for PassesOwn.never rfl (pi_range1 (by rfl) T.m_range (pa_cons (pe_call G_Ltake hr (by rfl) T.g_Ltake T.F_Ltake.kp T.b_Ltake .nil pass0 (pa_cons (pv 0) (pa_cons (pe_op op_sub pe_int (pe_op op_mul pe_int (pe_callTy call_int1 (by rfl) T.m_int (by decide +kernel) (pa_cons (pe_cmpR op_gt (pv 1) pe_int (nomark _)) pa_nil)))) pa_nil))) pa_nil)) (pg_name (i := 4) sc_Lsmall_box.nd rfl (.inl rfl)) (pss_one (ps_augS (pv 2) (pe_call G_Ltake hr (by rfl) T.g_Ltake T.F_Ltake.kp T.b_Ltake .nil pass0 (pa_cons (pv 0) (pa_cons (pv 3) pa_nil))) SeqW.get_list pe_int ip_add set_list)))
      (pss_one (ps_ret (pe_callTy call_tuple_of (by rfl) T.m_tuple (by decide +kernel) (pa_cons (pv 2) pa_nil))))))), ?_⟩
    refine ⟨by show 1 ≤ sizeLine; decide, fun l nl => ⟨l, 8, _, rfl, rfl, upd_same, by decide, by decide, by show 1 * 8 ≤ sizeLine; decide, fun L nL => ?_⟩⟩
    have sl := same_upd (o := .lst [.int 0]) nl
    have sL := same_upd (o := .lst (boxV [0, 0, 0, 0, 0, 0, 0, 0])) nL
    have hp2 := (hp.same sl).same sL
    have nLp : L ≠ p := (hp.same sl).ne_new nL
    have nL0 : H L = none := sl.free nL
    have b2 : But p H (upd (upd H l (.lst [.int 0])) L (.lst (boxV [0, 0, 0, 0, 0, 0, 0, 0]))) := But.of (sl.trans sL)
    refine ⟨.ref p, rfl, p, 8, rfl, by decide, by decide, hp2, fun H3 k b3 hp3 k0 k1 => ⟨_, _, rfl, rfl, ?_⟩⟩
    have eL3 := b3 _ _ nLp (upd_same (a := L) (o := .lst (boxV [0, 0, 0, 0, 0, 0, 0, 0])))
    have hm : ∀ b : Bool, 0 < (9 : Int) - 2 * (if b then 1 else 0) ∧ (9 : Int) - 2 * (if b then 1 else 0) < 100 := by decide
    refine ⟨.ref p, rfl, .int n, rfl, _, _, rfl, rfl, .inr ⟨_, rfl, _, _, rfl, rfl, .inl ⟨by decide, by decide⟩, _, _, rfl, rfl, p, _, rfl, (hm _).1, Int.lt_trans (hm _).2 (by decide), hp3, fun H4 r b4 hp4 r0 r1 => ?_⟩⟩
    have r100 := Int.lt_trans r1 (hm _).2
    refine ⟨r, rfl, by omega, by omega, for_range (n := r.toNat) (fun i σ H' => But p H H' ∧ Pool H' p ∧ ∃ y4 box, σ = [some (.ref p), some (.int n), some (.ref L), some (.int (1 + k)), y4] ∧ H' L = some (.lst (boxV box)) ∧ box.length = 8 ∧ box.sum = i) ⟨(b2.trans b3).trans b4, hp4, _, _, rfl, b4 _ _ nLp eL3, rfl, rfl⟩ ?_ ?_⟩
    · rintro i σ H5 hi ⟨b5, hp5, y4, box, rfl, eL, lb, sb⟩
      refine ⟨.ref L, rfl, .ref p, rfl, .int (1 + k), rfl, p, 1 + k, rfl, by omega, by omega, hp5, fun H6 j b6 hp6 j0 j1 => ?_⟩
      obtain ⟨j, rfl⟩ : ∃ jj : Nat, j = jj := ⟨j.toNat, by omega⟩
      have hj : j < box.length := by omega
      have eb : box[j]? = some box[j] := List.getElem?_eq_getElem hj
      have eL6 := b6 _ _ nLp eL
      have lbv : (boxV box).length = box.length := List.length_map _
      refine ⟨L, boxV box, j, .int (box[j] : Nat), rfl, rfl, .inl (.inl eL6), by unfold boxV; rw [List.getElem?_map, eb]; rfl, _, _, rfl, rfl, L, boxV box, j, j, rfl, rfl, eL6, Evl.ixN_nat (by omega), ?_⟩
      refine ⟨(b5.trans b6).mut nL0, hp6.upd nLp, _, box.set j (box[j] + 1), rfl, ?_, by rw [List.length_set]; exact lb, by rw [sum_set box j _ eb, sb]⟩
      rw [upd_same, box_set eb]
    · rintro σ H5 ⟨b5, hp5, y4, box, rfl, eL, lb, sb⟩
      refine ⟨.ref L, rfl, L, _, rfl, .inl ⟨.inl (.inl eL), fun t nt => ?_⟩⟩
      have st := same_upd (o := .tup (boxV box)) nt
      exact q _ t box (b5.trans (But.of st)) (hp5.same st) (b5.free (hp5.ne_new nt) nt) upd_same lb (by omega)
--@@SPLIT
/-! ### a box, a row, an atlas: read, or refused -/
theorem cut_first {y : V} {zs : List V} : cutV (y :: zs) (some 1) none = zs := by
  show ((y :: zs).drop (HT.sIx (y :: zs).length 0 (some 1))).take (HT.sIx (y :: zs).length (y :: zs).length none - HT.sIx (y :: zs).length 0 (some 1)) = zs
  have e1 : HT.sIx (y :: zs).length 0 (some 1) = 1 := by
    unfold HT.sIx
    rw [List.length_cons]
    simp
  have e2 : HT.sIx (y :: zs).length (y :: zs).length none = zs.length + 1 := rfl
  rw [e1, e2]
  exact List.take_of_length_le (by show zs.length ≤ _; omega)
theorem at0 {α : Type} {v : α} {xs : List α} : atI (v :: xs) 0 = some v := by
  unfold atI ixN
  rw [List.length_cons]
  have h : (0 : Int) < ((xs.length + 1 : Nat) : Int) := by omega
  simp [h]
theorem atI_last {α : Type} {us : List α} {v : α} (h : us[us.length - 1]? = some v) : atI us (-1) = some v := by
  have hl := (List.getElem?_eq_some_iff.mp h).1
  unfold atI ixN
  rw [if_neg (by decide), if_pos (by omega)]
  show us[(-1 + (us.length : Int)).toNat]? = _
  rw [show (-1 + (us.length : Int)).toNat = us.length - 1 by omega]
  exact h
/-! ### logs that are right are told to be so -/
theorem ent_tup (e : Ent) (h : e.ok) : entD e.tup = true := by
  have face : ∀ l : Fin 4, entD (Ent.face l).tup = true := by decide +kernel
  have go : ∀ n : Fin 9, entD (Ent.go n).tup = true := by decide +kernel
  have turn : ∀ q : Fin 3, entD (Ent.turn q).tup = true := by decide +kernel
  have many : ∀ n : Fin 9, manyD (.int ((n.val : Int) + 1)) = true := by decide +kernel
  cases e with
  | face l => exact face l
  | go n => exact go n
  | turn q => exact turn q
  | bump => exact (by decide +kernel : entD Ent.bump.tup = true)
  | bare => exact (by decide +kernel : entD Ent.bare.tup = true)
  | swap => exact (by decide +kernel : entD Ent.swap.tup = true)
  | sign z =>
    show (if eqS (.str "sign") "face" = true then letD (.str z) else if eqS (.str "sign") "go" = true then manyD (.str z) else eqS (.str "sign") "sign" && sgD (.str z)) = true
    rw [if_neg (by decide +kernel), if_neg (by decide +kernel)]
    exact Bool.and_eq_true_iff.mpr ⟨by decide +kernel, h.2.2⟩
  | spy n z =>
    have a : eqS (.str (ws 8)) "spy" = true := by decide +kernel
    show (eqS (.str (ws 8)) "spy" && (manyD (.int ((n.val : Int) + 1)) && sgD (.str z))) = true
    rw [a, many n]
    exact h.2.2
theorem bad_ents : ∀ (es : List Ent) (f : Bool) (i : Nat), (∀ e ∈ es, e.ok) → (∀ (j : Nat) (e : Ent), es[j]? = some e → e.need = true → (f || (es.take j).any Ent.isFace) = true) → badAt f i (es.map Ent.tup) = none
  | [], _, _, _, _ => rfl
  | e :: es, f, i, ok, far => by
    obtain ⟨hf, hn⟩ := ent_fc (d := e.tup) (e := e) rfl
    show (if entD e.tup = false then some i else if (ndD e.tup && !f) = true then some i else badAt (f || fcD e.tup) (i + 1) (es.map Ent.tup)) = none
    rw [if_neg (by rw [ent_tup e (ok e List.mem_cons_self)]; decide), hn, hf]
    rw [if_neg (fun z => by
      obtain ⟨z1, z2⟩ := Bool.and_eq_true_iff.mp z
      have := far 0 e rfl z1
      rw [List.take_zero, List.any_nil, Bool.or_false] at this
      rw [this] at z2
      cases z2)]
    refine bad_ents es _ _ (fun x hx => ok x (List.mem_cons_of_mem _ hx)) fun j x hj hx => ?_
    have := far (j + 1) x hj hx
    rw [List.take_succ_cons, List.any_cons, ← Bool.or_assoc] at this
    exact this
theorem name_nmD {r : Row} (h : RowOk r) : nameD (.str r.1) = some r.1 := if_pos h.nm
theorem rows_made : ∀ (ks : List Row) (ns : List Str) (rest : List (PyData × List PyData)), (∀ r ∈ ks, RowOk r) → (nms ks).Nodup → (∀ r ∈ ks, ¬ r.1 ∈ ns) → rowsR ns (ks.map rowQ ++ rest) = rowsR (ns ++ nms ks) rest
  | [], ns, rest, _, _, _ => by
    show rowsR ns rest = rowsR (ns ++ []) rest
    rw [List.append_nil]
  | r :: ks, ns, rest, ok, nd, out => by
    have h := ok r List.mem_cons_self
    obtain ⟨h1, h2⟩ := List.nodup_cons.mp (show (r.1 :: nms ks).Nodup from nd)
    show rowsR ns ((.str r.1, r.2.map Ent.tup) :: (ks.map rowQ ++ rest)) = _
    rw [rows_go (name_nmD h) (out r List.mem_cons_self) (bad_ents r.2 _ _ h.ok fun j e hj hn => by rw [Bool.false_or]; exact h.right j e hj hn)]
    rw [rows_made ks (ns ++ [r.1]) rest (fun x hx => ok x (List.mem_cons_of_mem _ hx)) h2 fun x hx m => ?_]
    · rw [List.append_assoc]
      rfl
    · rcases List.mem_append.mp m with m | m
      · exact out x (List.mem_cons_of_mem _ hx) m
      · exact h1 (by rw [← List.mem_singleton.mp m]; exact List.mem_map.mpr ⟨x, hx, rfl⟩)
theorem ge_tup (e : Ent) (h : e.ok) : ge e.tup = true := by
  have face : ∀ l : Fin 4, ge (Ent.face l).tup = true := by decide +kernel
  have go : ∀ n : Fin 9, ge (Ent.go n).tup = true := by decide +kernel
  have turn : ∀ q : Fin 3, ge (Ent.turn q).tup = true := by decide +kernel
  have txt : ∀ z : Str, z.length ≤ 12 → gp (.str z) = true := fun z l => decide_eq_true (by omega)
  cases e with
  | face l => exact face l
  | go n => exact go n
  | turn q => exact turn q
  | bump => exact (by decide +kernel : ge Ent.bump.tup = true)
  | bare => exact (by decide +kernel : ge Ent.bare.tup = true)
  | swap => exact (by decide +kernel : ge Ent.swap.tup = true)
  | sign z =>
    show (true && (gp (.str (ws 6)) && (gp (.str z) && true))) = true
    rw [txt z h.1]
    decide +kernel
  | spy n z =>
    show (true && (gp (.str (ws 8)) && (true && (gp (.str z) && true)))) = true
    rw [txt z h.1]
    decide +kernel
theorem ent_inj {e f : Ent} (h : e.tup = f.tup) : e = f := by
  obtain ⟨h1, h2⟩ := List.cons.inj (show (PyData.str (ws e.kind) :: e.rest) = .str (ws f.kind) :: f.rest from PyData.tuple.inj h)
  have inj : ∀ a b : Fin 10, ws a = ws b → a = b := by decide +kernel
  have far : ∀ a b : Fin 4, Lt a = Lt b → a = b := by decide +kernel
  have hk := congrArg Fin.val (inj _ _ (PyData.str.inj h1))
  cases e <;> cases f
  all_goals first
    | rfl
    | (exfalso; simp [Ent.kind] at hk; done)
    | (exfalso; simp [Ent.kind] at hk; omega)
    | (simp [Ent.kind] at hk; congr 1; omega)
    | (simp [Ent.rest] at h2; simp [h2]; done)
    | (simp [Ent.rest] at h2; congr 1; omega; done)
    | (congr 1; exact far _ _ (by simpa [Ent.rest] using h2))
    | (simp [Ent.rest] at h2; obtain ⟨h2, h3⟩ := h2; subst h3; congr 1; omega)
theorem rowQ_inj {a b : Row} (h : rowQ a = rowQ b) : a = b := by
  obtain ⟨h1, h2⟩ := Prod.mk.inj h
  refine Prod.ext (PyData.str.inj h1) ?_
  exact List.map_inj_right (fun _ _ => ent_inj) |>.mp h2
theorem tup_rowQ (r : Row) : tupQ (rowQ r) = rowQ r := by
  unfold tupQ rowQ
  refine Prod.ext rfl ?_
  show (r.2.map Ent.tup).map tupD = _
  rw [List.map_map]
  rfl
theorem rows_eq {a b : List Row} (h : a.map rowQ = (b.map rowQ).map tupQ) : a = b := by
  rw [List.map_map, show tupQ ∘ rowQ = rowQ from funext tup_rowQ] at h
  exact List.map_inj_right (fun _ _ => rowQ_inj) |>.mp h
theorem dpa_ints {K : PySem.W.Frag} {H : Hp} : ∀ box : List Nat, DpAll K H (boxV box) (box.map fun n : Nat => PyData.int (n : Nat))
  | [] => .nil
  | n :: r => .cons (.int _) (dpa_ints r)
theorem ints_inj {a b : List Nat} (h : (a.map fun n : Nat => PyData.int (n : Nat)) = b.map fun n : Nat => PyData.int (n : Nat)) : a = b :=
  List.map_inj_right (fun x y e => by have := PyData.int.inj e; omega) |>.mp h
theorem nm_len {r : Row} (h : RowOk r) : r.1.length ≤ 8 := by
  have h1 := (Bool.and_eq_true_iff.mp (show (shL r.1.cps.toList && r.1.cps.toList.all smC) = true from h.nm)).1
  have := of_decide_eq_true (Bool.and_eq_true_iff.mp h1).2
  have hl := len_toList r.1
  omega
theorem ok_QOk {r : Row} (h : RowOk r) : QOk (rowQ r) where
  nm := decide_eq_true (by have := nm_len h; omega)
  sz := siz_str _
  lg := fun d hd => by
    obtain ⟨e, he, rfl⟩ := List.mem_map.mp hd
    exact ge_tup e (h.ok e he)
  len := by show (r.2.map Ent.tup).length ≤ 100; rw [List.length_map]; exact h.len
theorem logD_ref {K : PySem.W.Frag} {H : Hp} {v : V} {r : Row} (h : Dp K H v (logD r)) : ∃ l xs, v = .ref l ∧ SqT K H l xs ∧ DpAll K H xs (r.2.map Ent.tup) := by
  cases h with
  | tup h a => exact ⟨_, _, rfl, h, a⟩
theorem badB_ints : ∀ (box : List Nat) (i : Nat), badB i (box.map fun n : Nat => PyData.int (n : Nat)) = none
  | [], _ => rfl
  | n :: r, i => (if_pos (decide_eq_true (Int.natCast_nonneg n))).trans (badB_ints r (i + 1))
theorem boxR_ok {box : List Nat} (h : box.length = 8) : boxR (box.map fun n : Nat => PyData.int (n : Nat)) = none :=
  (if_pos (by rw [List.length_map]; exact h)).trans (badB_ints box 0)
theorem row_pair {K : PySem.W.Frag} {H : Hp} {v : V} {r : Row} (h : RowAt K H v r) : PairD K H v (rowQ r) := by
  obtain ⟨t, l, rfl, h1, h2⟩ := h
  obtain ⟨l', xs, e, hx, ha⟩ := logD_ref h2
  cases e
  exact ⟨t, .str r.1, l, xs, rfl, .inr (.inl (.inl h1)), .str _, .inr hx, ha⟩
theorem rows_pairs {K : PySem.W.Frag} {H : Hp} {vs : List V} {rs : List Row} (h : RowsAt K H vs rs) : PairsD K H vs (rs.map rowQ) :=
  ⟨by rw [List.length_map]; exact h.len, fun i v hv => let ⟨r, fr, hr⟩ := h.at_ hv; ⟨rowQ r, by rw [List.getElem?_map, fr]; rfl, row_pair hr⟩⟩
theorem made_of {box : List Nat} {rs : List Row} (h8 : box.length = 8) (ok : ∀ r ∈ rs, RowOk r) (nd : (nms rs).Nodup) : atlasR (box.map fun n : Nat => PyData.int (n : Nat)) (rs.map rowQ) = .made := by
  unfold atlasR
  rw [boxR_ok h8]
  have := rows_made rs [] [] ok nd fun _ _ h => nomatch h
  rw [List.append_nil] at this
  exact this
abbrev nl : Str := PySem.Str.ofString "\n"
abbrev colon : Str := PySem.Str.ofString ": "
abbrev boxW : Str := PySem.Str.ofString "box"
abbrev linesT (z : Str) : List Str := Txt.split z nl
def nameP (l : Str) : Str := (Txt.partition l colon).1
def textP (l : Str) : Str := (Txt.partition l colon).2.2
def boxNs (l : Str) : List (Option Nat) := (wordsT l).tail.map fun x => numIn x.cps.toList
def boxOk (l : Str) : Bool := decide ((wordsT l).head? = some boxW) && (decide ((boxNs l).length = 8) && (boxNs l).all Option.isSome)
def boxO (l : Str) : Option (List Nat) := if boxOk l = true then some ((boxNs l).map fun n => n.getD 0) else none
abbrev DRow := Str × List PyData
def logO (z : Str) : Option (List PyData) := if z = stroke then some [] else if badAt false 0 (partsO z) = none then some (partsO z) else none
def rowO (l : Str) : Option DRow := if nmL (nameP l).cps.toList = true then (logO (textP l)).map fun ds => (nameP l, ds) else none
def stepO (acc : List DRow) (l : Str) : Option DRow := match rowO l with
  | none => none
  | some q => match acc.getLast? with
    | none => some q
    | some p => if p.1.cps.toList < q.1.cps.toList then some q else none
def rowsO : List DRow → List Str → Sum Nat (List DRow)
  | acc, [] => .inr acc
  | acc, l :: r => match stepO acc l with
    | none => .inl (acc.length + 1)
    | some q => rowsO (acc ++ [q]) r
def readA (z : Str) : Sum Nat (List Nat × List DRow) := match linesT z with
  | [] => .inl 0
  | b :: ls => match boxO b with
    | none => .inl 0
    | some box => match rowsO [] ls with
      | .inl i => .inl i
      | .inr qs => .inr (box, qs)
def dRow (r : Row) : DRow := (r.1, r.2.map Ent.tup)
theorem sub_len (z : Str) (i j : Nat) : (Builtin.Str.strSub z i j).length ≤ z.length := by
  show (z.cps.extract i j).size ≤ z.cps.size
  rw [Array.size_extract]
  omega
theorem partL (l : Str) : (nameP l).length ≤ l.length ∧ (textP l).length ≤ l.length := by
  unfold nameP textP Txt.partition
  cases Builtin.Str.occurrences l colon 0 l.length 1 with
  | nil => exact ⟨Nat.le_refl _, Nat.zero_le _⟩
  | cons i r => exact ⟨sub_len _ _ _, sub_len _ _ _⟩
theorem rd_log_some {z : Str} {ds : List PyData} (h : logO z = some ds) : rdLog z = .told (.tuple ds) := by
  unfold logO at h
  unfold rdLog
  by_cases e : z = stroke
  · rw [if_pos e] at h ⊢
    cases h
    rfl
  rw [if_neg e] at h ⊢
  by_cases e2 : badAt false 0 (partsO z) = none
  · rw [if_pos e2] at h
    cases h
    rw [e2]
  · rw [if_neg e2] at h
    cases h
theorem rd_log_none {z : Str} (h : logO z = none) : ∃ i, rdLog z = .bad i := by
  unfold logO at h
  unfold rdLog
  by_cases e : z = stroke
  · rw [if_pos e] at h
    cases h
  rw [if_neg e] at h ⊢
  cases e2 : badAt false 0 (partsO z) with
  | none => rw [if_pos e2] at h; cases h
  | some i => exact ⟨i, rfl⟩
theorem wsl : ∀ i : Fin 10, (i ≠ 4 ∧ i ≠ 8 → 4 ≤ (ws i).length) ∧ 2 ≤ (ws i).length := by decide +kernel
theorem ws8 : (ws 8).length = 3 := by decide +kernel
/-- an entry's text has four signs at the least -/
theorem ent4 {x : Str} (h : entL (entDs (wordsT x)) = true) : 4 ≤ x.length := by
  have sm := split_sum x blank
  rw [show blank.length = 1 by decide +kernel] at sm
  have sm : ((wordsT x).map (·.length)).sum + ((wordsT x).length - 1) * 1 = x.length := sm
  generalize wordsT x = vs at h sm
  obtain ⟨e, he, ok⟩ := ent_of (d := .tuple (entDs vs)) h
  have he : entDs vs = e.parts := Option.some.inj he
  obtain ⟨a, r, rfl, ea⟩ : ∃ a r, vs = a :: r ∧ a = ws e.kind := by
    match vs, he with
    | [], he => cases he
    | [a], he => exact ⟨a, [], rfl, PyData.str.inj (List.cons.inj (show PyData.str a :: [] = .str (ws e.kind) :: e.rest from he)).1⟩
    | a :: b :: r, he => exact ⟨a, b :: r, rfl, PyData.str.inj (List.cons.inj (show PyData.str a :: _ = .str (ws e.kind) :: e.rest from he)).1⟩
  have hl : r.length + 1 = e.parts.length := by
    rw [← he, ents_len]
    rfl
  rw [List.map_cons, List.sum_cons, List.length_cons] at sm
  have la : a.length = (ws e.kind).length := by rw [ea]
  by_cases k : e.kind ≠ 4 ∧ e.kind ≠ 8
  · have := (wsl e.kind).1 k
    omega
  cases e with
  | go n =>
    have hl : r.length + 1 = 2 := hl
    match r, hl with
    | [b], _ =>
      have hb : [PyData.str a, if goSpy a = true then numD (numIn b.cps.toList) else .str b] = [.str (ws 4), .int ((n.val : Int) + 1)] := he
      have hb := (List.cons.inj (List.cons.inj hb).2).1
      have b1 : 1 ≤ b.length := by
        split at hb
        · cases e1 : numIn b.cps.toList with
          | none => rw [e1] at hb; cases hb
          | some m =>
            unfold numIn at e1
            split at e1
            · rename_i h1
              obtain ⟨h2, _⟩ := Bool.and_eq_true_iff.mp (show ((decide (1 ≤ (b.cps.toList.length : Int)) && decide ((b.cps.toList.length : Int) ≤ 30)) && _) = true from h1)
              have := of_decide_eq_true (Bool.and_eq_true_iff.mp h2).1
              rw [len_toListN] at this
              omega
            · cases e1
        · cases hb
      have := (wsl 4).2
      have la : a.length = (ws 4).length := la
      rw [List.map_cons, List.sum_cons] at sm
      have : [b].length = 1 := rfl
      omega
  | spy n z =>
    have hl : r.length + 1 = 3 := hl
    have la : a.length = (ws 8).length := la
    have := ws8
    omega
  | face l => exact absurd (show (0 : Fin 10) ≠ 4 ∧ (0 : Fin 10) ≠ 8 by decide) k
  | turn q =>
    have : ∀ q : Fin 3, (Ent.turn q).kind ≠ 4 ∧ (Ent.turn q).kind ≠ 8 := by decide
    exact absurd (this q) k
  | bump => exact absurd ⟨by decide, by decide⟩ k
  | sign z => exact absurd (show (6 : Fin 10) ≠ 4 ∧ (6 : Fin 10) ≠ 8 by decide) k
  | bare => exact absurd ⟨by decide, by decide⟩ k
  | swap => exact absurd ⟨by decide, by decide⟩ k
theorem sum_ge {k : Nat} : ∀ ts : List Str, (∀ t ∈ ts, k ≤ t.length) → k * ts.length ≤ (ts.map (·.length)).sum
  | [], _ => Nat.zero_le _
  | t :: r, h => by
    rw [List.map_cons, List.sum_cons, List.length_cons, Nat.mul_succ]
    have h1 := h t List.mem_cons_self
    have h2 := sum_ge r fun x hx => h x (List.mem_cons_of_mem _ hx)
    omega
theorem row_good {l : Str} {q : DRow} (h : rowO l = some q) (hl : l.length ≤ 560) : ∃ r, RowOk r ∧ q = dRow r := by
  unfold rowO at h
  by_cases hn : nmL (nameP l).cps.toList = true
  · rw [if_pos hn] at h
    obtain ⟨ds, h1, rfl⟩ := Option.map_eq_some_iff.mp h
    have lz := (partL l).2
    generalize textP l = z at h1 lz
    unfold logO at h1
    by_cases e : z = stroke
    · rw [if_pos e] at h1
      cases h1
      exact ⟨(nameP l, []), ⟨hn, (fun _ h => nomatch h), (fun i e h => by cases h), Nat.zero_le _⟩, rfl⟩
    rw [if_neg e] at h1
    by_cases e2 : badAt false 0 (partsO z) = none
    · rw [if_pos e2] at h1
      cases h1
      obtain ⟨es, a1, a2, a3⟩ := log_ents e2
      rw [tupD_parts] at a1
      refine ⟨(nameP l, es), ⟨hn, a2, a3, ?_⟩, by unfold dRow; rw [← a1]⟩
      have four : ∀ x ∈ Txt.split z semi, 4 ≤ x.length := fun x hx => by
        have hm : entO x ∈ es.map Ent.tup := by
          rw [← a1]
          exact List.mem_map.mpr ⟨x, hx, rfl⟩
        obtain ⟨e', _, e3⟩ := List.mem_map.mp hm
        unfold entO at e3
        by_cases h4 : entL (entDs (wordsT x)) = true
        · exact ent4 h4
        · rw [if_neg h4] at e3
          cases e3
      have s1 := sum_ge _ four
      have s2 := split_sum z semi
      rw [semi_len] at s2
      have l1 : es.length = (Txt.split z semi).length := by
        have := congrArg List.length a1
        unfold partsO at this
        rw [List.length_map, List.length_map] at this
        exact this.symm
      show es.length ≤ 100
      omega
    · rw [if_neg e2] at h1
      cases h1
  · rw [if_neg hn] at h
    cases h
theorem nl_tl : nl.cps.toList = [10] := by decide +kernel
theorem linesT_ne (z : Str) : linesT z ≠ [] := fun h => by
  have e := TL.split_spl z nl (by rw [show TL.tl nl = [10] from nl_tl]; exact fun y => nomatch y) (TL.kind_ok (by decide +kernel))
  rw [show Txt.split z nl = [] from h] at e
  exact spl_ne _ _ _ _ e.symm
/-! ### the program's own readers -/
theorem nums_none (ns : List (Option Nat)) : ((ns.map numD).any fun z => PyData.eqv z .none) = !(ns.all Option.isSome) := by
  induction ns with
  | nil => rfl
  | cons n r ih =>
    rw [List.map_cons, List.any_cons, ih, List.all_cons]
    cases n <;> simp [PyData.eqv, numD]
theorem nums_lay : ∀ ns : List (Option Nat), PyData.canLayAll0 (ns.map numD) = true ∧ PyData.depthAll (ns.map numD) ≤ 10
  | [] => ⟨rfl, Nat.zero_le _⟩
  | n :: r => by
    obtain ⟨i1, i2⟩ := nums_lay r
    cases n with
    | none => exact ⟨Bool.and_eq_true_iff.mpr ⟨rfl, i1⟩, Nat.max_le.mpr ⟨Nat.zero_le 10, i2⟩⟩
    | some n => exact ⟨Bool.and_eq_true_iff.mpr ⟨rfl, i1⟩, Nat.max_le.mpr ⟨Nat.zero_le 10, i2⟩⟩
theorem nums_some {ns : List (Option Nat)} (h : ns.all Option.isSome = true) : ns.map numV = boxV (ns.map fun n => n.getD 0) := by
  induction ns with
  | nil => rfl
  | cons n r ih =>
    obtain ⟨h1, h2⟩ := Bool.and_eq_true_iff.mp (show (n.isSome && r.all Option.isSome) = true from h)
    cases n with
    | none => cases h1
    | some n =>
      show numV (some n) :: r.map numV = _
      rw [ih h2]
      rfl
theorem nums_dpO {K : PySem.W.Frag} {H : Hp} : ∀ ns : List (Option Nat), DpAll K H (ns.map numV) (ns.map numD)
  | [] => .nil
  | n :: r => .cons (numV_dp n) (nums_dpO r)
def spBoxR (K : PySem.W.Frag) : Sp := fun vs H Q _ => ∃ l : Str, vs = [.str l] ∧ l.length ≤ 900 ∧ (∀ box, boxO l = some box → ∀ H' D, Same H H' → H D = none → H' D = some (.lst (boxV box)) → Q (.ref D) H') ∧ (boxO l = none → ∀ H', Same H H' → Q .non H')
theorem ok_box_in (T : Top w K mg) : FnOk P w K mg base CX0 2 T.a_box_in T.fd_box_in ["line"] (spBoxR K) := by
  have G_number_in := ok_number_in (P := P) (w := w) (base := base) T
  refine T.F_box_in.ok sc_box_in (fun vs H Q E h => ?_) (fun cdv A outer s H vs Q E hr h => ?_)
  · obtain ⟨l, rfl, _⟩ := h
    rfl
  · obtain ⟨l, rfl, hl, yes, no⟩ := h
    refine ⟨_, (pss_cons (ps_set (i := 1) sc_box_in.nd rfl (.inl rfl) (pe_bm PySem.F.plainAttrs_str PySem.F.slot_str_split PySem.F.type_str_split mt_split (pv 0) (pa_cons pe_str pa_nil)))
      (pss_cons (ps_setLc (i := 2) (own := [("word", 3)]) (g := gName 3) (by rfl) sc_box_in.nd rfl rfl (sw_true rfl rfl rfl (by decide +kernel)) (pi_list (pe_slice sl_list (pv 1) (po_some pe_int) po_none)) (blkOk_by (own := [("word", 3)]) (N := ["line", "words", "box", "word"]) (sc := defScope s_box_in) (by decide +kernel)) (fun _ _ _ _ _ => (pg_name (i := 3) sc_box_in.nd rfl (Or.inl rfl))) (fun _ _ _ _ _ => pts_nil) (fun _ _ _ _ _ => (pe_call G_number_in hr (by rfl) T.g_number_in T.F_number_in.kp T.b_number_in .nil pass0 (pa_cons (pv 3) pa_nil))))
      (pss_one (ps_ret (pe_ifExp (PW.pt (pw_and (pt_cmpR op_eq (pe_ix ix_list (pv 1) pe_int (fun _ _ => rfl)) pe_str (nomark _)) (pw_and (pt_cmpR op_eq (pe_callB call_len_seq (by rfl) T.m_len (by decide +kernel) (pa_cons (pv 2) pa_nil)) (pe_glob (v := .int 8) (by rfl) T.g_HOW_MANY_LOTS.choose_spec ⟨_, rfl⟩) (nomark _)) (pw_and1 (pt_cmpR (op_notInD (units65 hr)) pe_non (pv 2) (by rfl)))))) (pv 2) pe_non))))), ?_⟩
    obtain ⟨w1, w2⟩ := words_len hl
    refine ⟨_, rfl, rfl, _, _, rfl, rfl, by decide +kernel, Nat.le_trans (show l.length + 2 ≤ 1000 by omega) (by decide), fun W nW => ?_⟩
    rw [show Txt.split l (PySem.Str.ofString " ") = wordsT l from rfl]
    unfold boxO boxOk boxNs at yes no
    have nz : wordsT l ≠ [] := split_ne l
    generalize wordsT l = vs at w1 w2 yes no nz ⊢
    obtain ⟨a, r, rfl⟩ : ∃ a r, vs = a :: r := by
      cases vs with
      | nil => exact absurd rfl nz
      | cons a r => exact ⟨a, r, rfl⟩
    have sW := same_upd (o := .lst ((a :: r).map V.str)) nW
    have eW : upd H W (.lst ((a :: r).map V.str)) W = some (.lst ((a :: r).map V.str)) := upd_same
    generalize upd H W (.lst ((a :: r).map V.str)) = H1 at sW eW ⊢
    refine ⟨.ref W, rfl, 1, rfl, W, _, rfl, .inl (.inl eW), fun S nS => ?_⟩
    rw [show cutV ((a :: r).map V.str) (some 1) none = r.map V.str from cut_first]
    have sS := same_upd (o := .lst (r.map V.str)) nS
    have eS : upd H1 S (.lst (r.map V.str)) S = some (.lst (r.map V.str)) := upd_same
    generalize upd H1 S (.lst (r.map V.str)) = H2 at sS eS ⊢
    have lr : r.length ≤ 1000 := by rw [List.length_cons] at w1; omega
    refine ⟨S, rfl, ⟨_, .inl (.inl eS)⟩, fun D hD => lc_it (walk_list (xs := r.map V.str)) (fun i H' => Same H2 H' ∧ H' D = some (.lst (((r.take i).map fun x => numIn x.cps.toList).map numV))) ⟨same_upd hD, upd_same⟩ (fun i H' _ h => .inl (.inl (h.1 _ _ eS))) ?_ ?_⟩
    · rintro i v H3 H4 hi ⟨sm, eD⟩ ⟨rfl, hx⟩
      rw [List.getElem?_map] at hx
      obtain ⟨x, fx, rfl⟩ : ∃ x, r[i]? = some x ∧ V.str x = v := by
        cases e1 : r[i]? with
        | none => rw [e1] at hx; cases hx
        | some x => rw [e1] at hx; exact ⟨x, rfl, Option.some.inj hx⟩
      have lx := w2 x (List.mem_cons_of_mem _ (List.mem_of_getElem? fx))
      refine ⟨rfl, _, rfl, x, rfl, by omega, fun H5 s5 => ⟨_, s5 _ _ eD, ?_, fun c o h => (upd_ne (ne_of_none h hD)).trans (s5 _ _ (sm _ _ h)), ?_⟩⟩
      · rw [List.length_map, List.length_map, List.length_take]
        exact small1001 (by omega)
      · rw [upd_same, List.take_add_one, fx, List.map_append, List.map_append]
        rfl
    rintro H3 ⟨s3, eD⟩
    rw [List.length_map, List.take_length] at eD
    simp only [List.tail_cons, List.head?_cons] at yes no
    have yes : ∀ ns : List (Option Nat), ns = (r.map fun x => numIn x.cps.toList) → ∀ box, (if (decide (some a = some boxW) && (decide (ns.length = 8) && ns.all Option.isSome)) = true then some (ns.map fun n => n.getD 0) else none) = some box → ∀ H' D, Same H H' → H D = none → H' D = some (.lst (boxV box)) → Q (.ref D) H' := fun ns e => by rw [e]; exact yes
    have no : ∀ ns : List (Option Nat), ns = (r.map fun x => numIn x.cps.toList) → (if (decide (some a = some boxW) && (decide (ns.length = 8) && ns.all Option.isSome)) = true then some (ns.map fun n => n.getD 0) else none) = none → ∀ H', Same H H' → Q .non H' := fun ns e => by rw [e]; exact no
    obtain ⟨ns, hns⟩ : ∃ ns : List (Option Nat), ns = (r.map fun x => numIn x.cps.toList) := ⟨_, rfl⟩
    have yes := yes ns hns
    have no := no ns hns
    rw [← hns] at eD
    have s13 := sS.trans s3
    have s03 := sW.trans s13
    refine ⟨.ref W, rfl, W, _, 0, .str a, rfl, rfl, .inl (.inl (s13 _ _ eW)), at0, rfl, _, rfl, ?_⟩
    by_cases ha : a = boxW
    rotate_left
    · refine iteDN (decide_eq_false fun z => ha (V.str.inj z)) ?_
      exact iteF (no (by rw [decide_eq_false (fun z => ha (Option.some.inj z))]; rfl) _ s03)
    subst ha
    refine iteDY (decide_eq_true rfl) ⟨.ref D, rfl, D, _, rfl, .inl (.inl (.inl eD)), rfl, _, rfl, ?_⟩
    rw [List.length_map]
    by_cases h8 : ns.length = 8
    rotate_left
    · refine iteDN (decide_eq_false fun z => h8 (by have := V.int.inj z; omega)) ?_
      exact iteF (no (by rw [decide_eq_false h8]; simp) _ s03)
    refine iteDY (decide_eq_true (by rw [h8]; rfl)) ?_
    refine ⟨.ref D, rfl, .none, ns.map numD, .non, .lst (.inl (.inl eD)) (nums_dpO ns), rfl, ?_, _, rfl, ?_⟩
    · refine Bool.and_eq_true_iff.mpr ⟨(nums_lay ns).1, decide_eq_true ?_⟩
      have := (nums_lay ns).2
      show PyData.depthAll _ + 1 ≤ 64
      omega
    rw [nums_none]
    cases hs : ns.all Option.isSome with
    | false => exact iteF (no (by rw [hs]; simp) _ s03)
    | true =>
      refine iteT ⟨.ref D, rfl, yes _ (if_pos (by rw [hs, decide_eq_true h8, decide_eq_true rfl]; rfl)) _ D s03 ((sW.trans sS).free hD) ?_⟩
      rw [← nums_some hs]
      exact eD
def spPairR (K : PySem.W.Frag) : Sp := fun vs H Q _ => ∃ l : Str, vs = [.str l] ∧ l.length ≤ 560 ∧ (∀ r, rowO l = some (dRow r) → RowOk r → ∀ H' v, Same H H' → RowAt K H' v r → (∀ t, v = .ref t → H t = none) → Q v H') ∧ (rowO l = none → ∀ H', Same H H' → Q .non H')
theorem ok_pair_in (T : Top w K mg) : FnOk P w K mg base CX0 10 T.a_pair_in T.fd_pair_in ["line"] (spPairR K) := by
  have G_is_name := ok_is_name (P := P) (w := w) (base := base) T
  have G_read_log := ok_read_log (P := P) (w := w) (base := base) T
  refine T.F_pair_in.ok sc_pair_in (fun vs H Q E h => ?_) (fun cdv A outer s H vs Q E hr h => ?_)
  · obtain ⟨l, rfl, _⟩ := h
    rfl
  · obtain ⟨l, rfl, hl, yes, no⟩ := h
    refine ⟨_, (pss_cons (ps_asg (pe_bm PySem.F.plainAttrs_str PySem.F.slot_str_partition PySem.F.type_str_partition mt_partition (pv 0) (pa_cons pe_str pa_nil)) (pg_tup rfl (pgs_cons (pg_name (i := 1) sc_pair_in.nd rfl (.inl rfl)) (pgs_cons (pg_name (i := 2) sc_pair_in.nd rfl (.inl rfl)) (pgs_cons (pg_name (i := 3) sc_pair_in.nd rfl (.inl rfl)) pgs_nil)))))
      (pss_cons (ps_if (pt_not (pt_val (pe_call G_is_name (hr.mono (by decide)) (by rfl) T.g_is_name T.F_is_name.kp T.b_is_name .nil pass0 (pa_cons (pv 1) pa_nil)))) (pss_one (ps_ret pe_non)) pss_nil)
      (pss_one (ps_try_only rfl rfl ⟨rfl, by decide, .inl T.g_NoText⟩ takes0 (fun W pn xe tk _ => (pss_one (ps_ret (pe_tup (pa_cons (pv 1) (pa_cons (pe_callS G_read_log hr (by rfl) T.g_read_log T.F_read_log.kp T.b_read_log (fun σ => passAt tk σ) (pa_cons (pv 3) pa_nil)) pa_nil)))))) (fun a oe cls d pn _ _ => (pss_one (ps_ret pe_non))))))), ?_⟩
    obtain ⟨p1, p2⟩ := partL l
    have good := fun q (h : rowO l = some q) => row_good h hl
    refine ⟨_, rfl, rfl, _, _, rfl, rfl, by decide +kernel, Nat.le_trans hl (by decide), fun p np => ?_⟩
    rw [show (Txt.partition l (PySem.Str.ofString ": ")).1 = nameP l from rfl, show (Txt.partition l (PySem.Str.ofString ": ")).2.2 = textP l from rfl]
    have sp := same_upd (o := .tup [.str (nameP l), .str (Txt.partition l (PySem.Str.ofString ": ")).2.1, .str (textP l)]) np
    refine ⟨p, _, rfl, .inl (.inl upd_same), rfl, _, _, rfl, _, _, rfl, _, _, rfl, rfl, ?_⟩
    refine ⟨_, rfl, .str (nameP l), rfl, th_dp (.str _) (decide_eq_true (by omega)), fun H4 s4 => ⟨_, rfl, ?_⟩⟩
    unfold rowO at yes no good
    rw [show nmV (.str (nameP l)) = nmL (nameP l).cps.toList from rfl]
    cases hn : nmL (nameP l).cps.toList with
    | false =>
      rw [hn] at no
      exact iteT (no rfl _ (sp.trans s4))
    | true =>
      rw [hn] at yes no good
      refine iteF ⟨_, rfl, _, rfl, textP l, rfl, by omega, fun d hd H5 v s5 hv => ?_, fun i hi H5 dd s5 nd ed => ?_⟩
      · cases hlo : logO (textP l) with
        | none =>
          obtain ⟨i, e⟩ := rd_log_none hlo
          rw [e] at hd
          cases hd
        | some ds =>
          rw [rd_log_some hlo] at hd
          cases hd
          obtain ⟨r, ro, er⟩ := good (nameP l, ds) (by rw [hlo]; rfl)
          obtain ⟨e1, e2⟩ := Prod.mk.inj er
          have hv : Dp K H5 v (logD r) := by rw [e2] at hv; exact hv
          obtain ⟨lg, xs, rfl, _, _⟩ := logD_ref hv
          refine ⟨by show 2 ≤ sizeLine; decide, fun t nt => ?_⟩
          have st := same_upd (o := .tup [.str (nameP l), .ref lg]) nt
          have s05 := (sp.trans s4).trans s5
          refine yes r (by rw [hlo]; exact congrArg some er) ro _ _ (s05.trans st) ⟨t, lg, rfl, ?_, dp_same st _ _ hv⟩ (fun t' e => by cases e; exact s05.free nt)
          rw [← e1]
          exact upd_same
      · have hno : logO (textP l) = none := by
          cases hlo : logO (textP l) with
          | none => rfl
          | some ds => rw [rd_log_some hlo] at hi; cases hi
        exact ⟨true, T.exm_NoText, (fun _ a0 _ => no (by rw [hno]; rfl) _ ((sp.trans s4).trans s5)), fun y => Bool.noConfusion y⟩
theorem box8 {l : Str} {box : List Nat} (h : boxO l = some box) : box.length = 8 := by
  unfold boxO at h
  by_cases e : boxOk l = true
  · rw [if_pos e] at h
    cases h
    obtain ⟨_, h2⟩ := Bool.and_eq_true_iff.mp (show (decide ((wordsT l).head? = some boxW) && (decide ((boxNs l).length = 8) && (boxNs l).all Option.isSome)) = true from e)
    rw [List.length_map]
    exact of_decide_eq_true (Bool.and_eq_true_iff.mp h2).1
  · rw [if_neg e] at h
    cases h
theorem srt_snoc {rs : List Row} {r : Row} (h : Srt rs) (l : ∀ p, rs.getLast? = some p → ltN p.1 r.1) : Srt (rs ++ [r]) := by
  refine List.pairwise_append.mpr ⟨h, List.pairwise_singleton _ _, fun a ha b hb => ?_⟩
  rw [List.mem_singleton.mp hb]
  rcases List.eq_nil_or_concat rs with rfl | ⟨qs, p, rfl⟩
  · cases ha
  · rw [List.concat_eq_append] at h l ha
    have lp := l p (by rw [List.getLast?_append]; rfl)
    rcases List.mem_append.mp ha with ha | ha
    · exact List.lt_trans ((List.pairwise_append.mp h).2.2 a ha p (List.mem_singleton.mpr rfl)) lp
    · rw [List.mem_singleton.mp ha]
      exact lp
theorem last_map (rs : List Row) : (rs.map dRow).getLast? = rs.getLast?.map dRow := List.getLast?_map
structure Lines (z : Str) : Prop where
  few : (linesT z).length ≤ 20
  short : ∀ l ∈ linesT z, l.length ≤ 560
  len : z.length ≤ 20000
def spReadR (K : PySem.W.Frag) (T : Top w K mg) : Sp := fun vs H Q E => ∃ z : Str, vs = [.str z] ∧ Lines z ∧ (∀ box rs, readA z = .inr (box, rs.map dRow) → (∀ r ∈ rs, RowOk r) → box.length = 8 → rs.length ≤ 20 → ∀ H' x, Same H H' → AtlasAt K T.a_Atlas H' x box rs → Q (.ref x) H') ∧ (∀ i : Nat, readA z = .inl i → RaV T.a_NoText H [("at", .int (i : Int))] E)
theorem ok_read_atlas (T : Top w K mg) : FnOk P w K mg base (L2.CX P w) 12 T.a_read_atlas T.fd_read_atlas ["text"] (spReadR K T) := by
  have G_box_in := ok_box_in (P := P) (w := w) (base := base) T
  have G_pair_in := ok_pair_in (P := P) (w := w) (base := base) T
  have G_Atlas_init := ok_Atlas_init (P := P) (w := w) (base := base) T
  have G_init_NoText := ok_init_NoText (P := P) (w := w) (base := base) T
  refine T.F_read_atlas.okX sc_read_atlas (fun vs H Q E h => ?_) (fun cdv A outer s H vs Q E hr h => ?_)
  · obtain ⟨z, rfl, _⟩ := h
    rfl
  · obtain ⟨z, rfl, ⟨few, short, hz⟩, q, bad⟩ := h
    refine ⟨_, (pss_cons (ps_set (i := 1) sc_read_atlas.nd rfl (.inl rfl) (pe_bm PySem.F.plainAttrs_str PySem.F.slot_str_split PySem.F.type_str_split mt_split (pv 0) (pa_cons pe_str pa_nil)))
      (pss_cons (ps_set (i := 2) sc_read_atlas.nd rfl (.inl rfl) (pe_call G_box_in (hr.mono (by decide)) (by rfl) T.g_box_in T.F_box_in.kp T.b_box_in .nil pass0 (pa_cons (pe_ix ix_list (pv 1) pe_int (fun _ _ => rfl)) pa_nil)))
      (pss_cons (ps_if (pt_cmpR op_isN (pv 2) pe_non (nomark _)) (pss_one (ps_raise rfl (takes_of rfl rfl rfl rfl) (pmk_oex T.oex_NoText T.iC_NoText T.tI_NoText G_init_NoText (hr.mono (by decide)) T.b_init_NoText .nil pass0 (by rfl) T.g_NoText (pa_cons pe_int pa_nil)))) pss_nil)
      (pss_cons (ps_set (i := 3) sc_read_atlas.nd rfl (.inl rfl) (pe_lst pa_nil))
      (pss_cons (ps_for (passes_of rfl) rfl (Enum1.pi_enumS (by rfl) T.m_enumerate (pa_cons (pe_slice sl_list (pv 1) (po_some pe_int) po_none) pa_nil)) (pg_tup rfl (pgs_cons (pg_name (i := 4) sc_read_atlas.nd rfl (.inl rfl)) (pgs_cons (pg_name (i := 5) sc_read_atlas.nd rfl (.inl rfl)) pgs_nil))) (pss_cons (ps_set (i := 6) sc_read_atlas.nd rfl (.inl rfl) (pe_call G_pair_in (hr.mono (by decide)) (by rfl) T.g_pair_in T.F_pair_in.kp T.b_pair_in .nil pass0 (pa_cons (pv 5) pa_nil)))
      (pss_cons (ps_if (PW.pt (pw_or (pt_cmpR op_isN (pv 6) pe_non (nomark _)) (pw_or1 (PW.pt (pw_and (pt_truth (pv 3) (by intro _; rfl)) (pw_and1 (pt_cmpR op_le_str (pe_ix (r := rIx K) (SeqW.ix_seqK rfl) (pv 6) pe_int (fun _ _ => rfl)) (pe_ix (r := rIx K) (SeqW.ix_seqK rfl) (pe_ix ix_list (pv 3) (pe_un un_neg pe_int) (fun _ _ => rfl)) pe_int (fun _ _ => rfl)) (nomark _)))))))) (pss_one (ps_raise rfl (takes_of rfl rfl rfl rfl) (pmk_oex T.oex_NoText T.iC_NoText T.tI_NoText G_init_NoText (hr.mono (by decide)) T.b_init_NoText .nil pass0 (by rfl) T.g_NoText (pa_cons (pv 4) pa_nil)))) pss_nil)
      (pss_one (ps_expr (pe_bm PySem.F.plainAttrs_list PySem.F.slot_list_append PySem.F.type_list_append mt_append (pv 3) (pa_cons (pv 6) pa_nil)))))))
      (pss_one (ps_ret (pe_make T.mk_Atlas G_Atlas_init hr (by rfl) T.g_Atlas T.b_Atlas_init .nil (passes_call (takes_of rfl rfl rfl rfl) (fun _ _ _ _ h => h)) (pa_cons (pv 2) (pa_cons (pv 3) pa_nil)))))))))), ?_⟩
    refine ⟨_, rfl, rfl, _, _, rfl, rfl, by decide +kernel, Nat.le_trans (show z.length + 2 ≤ 2000000 by omega) (by decide), fun W nW => ?_⟩
    rw [show Txt.split z (PySem.Str.ofString "\n") = linesT z from rfl]
    obtain ⟨b, ls, ez⟩ : ∃ b ls, linesT z = b :: ls := by
      cases e : linesT z with
      | nil => exact absurd e (linesT_ne z)
      | cons b ls => exact ⟨b, ls, rfl⟩
    have rd : readA z = (match boxO b with | none => .inl 0 | some box => match rowsO [] ls with | .inl i => .inl i | .inr qs => .inr (box, qs)) := by unfold readA; rw [ez]
    rw [rd] at bad
    have q := fun box rs => q box rs
    rw [rd] at q
    rw [ez] at few short ⊢
    have sW := same_upd (o := .lst ((b :: ls).map V.str)) nW
    have eW : upd H W (.lst ((b :: ls).map V.str)) W = some (.lst ((b :: ls).map V.str)) := upd_same
    generalize upd H W (.lst ((b :: ls).map V.str)) = H1 at sW eW ⊢
    have lb := short b List.mem_cons_self
    refine ⟨.ref W, rfl, W, _, 0, .str b, rfl, rfl, .inl (.inl eW), at0, b, rfl, by omega, fun box hbox H2 D s2 nD eD => ?_, fun hno H2 s2 => ?_⟩
    rotate_left
    · refine ⟨.non, rfl, rfl, _, rfl, iteDY (decide_eq_true rfl) ⟨by show 1 ≤ 1000; decide, fun a na => ?_⟩⟩
      exact raise1 ⟨0, rfl⟩ ((bad 0 (by rw [hno])).same (sW.trans s2)) a na
    rw [hbox] at bad q
    have bad : ∀ i : Nat, rowsO [] ls = .inl i → RaV T.a_NoText H [("at", .int (i : Int))] E := fun i h => bad i (by rw [h])
    refine ⟨.ref D, rfl, rfl, _, rfl, iteDN (decide_eq_false (fun z => nomatch z)) ?_⟩
    refine ⟨Nat.zero_le _, fun P0 nP => ?_⟩
    have sP := same_upd (o := .lst []) nP
    have s13 := s2.trans sP
    refine ⟨.ref W, rfl, 1, rfl, W, _, rfl, .inl (.inl (s13 _ _ eW)), fun S nS => ?_⟩
    rw [show cutV ((b :: ls).map V.str) (some 1) none = ls.map V.str from cut_first]
    have sS := same_upd (o := .lst (ls.map V.str)) nS
    have nSP : S ≠ P0 := fun z => by rw [z, upd_same] at nS; cases nS
    have nP2 : H2 P0 = none := nP
    have ePS : upd (upd H2 P0 (.lst [])) S (.lst (ls.map V.str)) P0 = some (.lst []) := sS _ _ upd_same
    have eS : upd (upd H2 P0 (.lst [])) S (.lst (ls.map V.str)) S = some (.lst (ls.map V.str)) := upd_same
    have lls : ls.length ≤ 20 := by rw [List.length_cons] at few; omega
    refine ⟨S, _, rfl, .inl (.inl eS), for_it Enum1.walk_enumS (fun i σ H' => Same H2 H' ∧ H' S = some (.lst (ls.map V.str)) ∧ ∃ ps y4 y5 y6 rs, σ = [some (.str z), some (.ref W), some (.ref D), some (.ref P0), y4, y5, y6] ∧ H' P0 = some (.lst ps) ∧ RowsAt K H' ps rs ∧ rs.length = i ∧ (∀ r ∈ rs, RowOk r) ∧ Srt rs ∧ rowsO [] ls = rowsO (rs.map dRow) (ls.drop i)) ⟨sP.trans sS, eS, [], _, _, _, [], rfl, ePS, .nil, rfl, (fun _ h => nomatch h), .nil, rfl⟩ (fun i σ H' _ h => .inl (.inl h.2.1)) ?_ ?_⟩
    · rintro i v σ H3 H4 hi ⟨s4, eS4, ps, y4, y5, y6, rs, rfl, eP, hps, lrs, rok, srt, hrow⟩ ⟨t, u1, u2, rfl, nt, rfl, e1, e2⟩
      cases e1
      have e2 : (ls.map V.str)[i]? = some u2 := e2
      rw [List.getElem?_map] at e2
      obtain ⟨l, fl, rfl⟩ : ∃ l, ls[i]? = some l ∧ V.str l = u2 := by
        cases e1 : ls[i]? with
        | none => rw [e1] at e2; cases e2
        | some l => rw [e1] at e2; exact ⟨l, rfl, Option.some.inj e2⟩
      have st := same_upd (o := .tup [.int ((i : Int) + 1), .str l]) nt
      have lps := hps.len
      obtain ⟨il, gl⟩ := List.getElem?_eq_some_iff.mp fl
      have dr : ls.drop i = l :: ls.drop (i + 1) := by rw [List.drop_eq_getElem_cons il, gl]
      rw [dr] at hrow
      have hrow : rowsO [] ls = (match stepO (rs.map dRow) l with | none => .inl ((rs.map dRow).length + 1) | some q => rowsO (rs.map dRow ++ [q]) (ls.drop (i + 1))) := hrow
      have s02 := sW.trans s2
      have badI : stepO (rs.map dRow) l = none → ∀ H5, Same H2 H5 → RaV T.a_NoText H5 [("at", .int ((i : Int) + 1))] E := fun e H5 s5 => by
        have := (bad (i + 1) (by rw [hrow, e, List.length_map, lrs])).same (s02.trans s5)
        exact this
      refine ⟨t, _, rfl, .inl (.inl upd_same), rfl, _, _, rfl, _, _, rfl, rfl, ?_⟩
      refine ⟨_, rfl, l, rfl, short l (List.mem_cons_of_mem _ (List.mem_of_getElem? fl)), fun r hr1 ro H5 v s5 hv _ => ?_, fun hno H5 s5 => ?_⟩
      rotate_left
      · refine ⟨.non, rfl, rfl, _, rfl, iteDY (decide_eq_true rfl) ⟨_, rfl, by show 1 ≤ 1000; decide, fun a na => ?_⟩⟩
        exact raise1 ⟨_, rfl⟩ (badI (by unfold stepO; rw [hno]) _ ((s4.trans st).trans s5)) a na
      have hv0 := hv
      obtain ⟨tv, lg, rfl, etv, hlg⟩ := hv0
      have s45 := st.trans s5
      have eP5 := s45 _ _ eP
      have r1000 : ∀ r ∈ rs, r.2.length ≤ 1000 := fun r hr => by have := (rok r hr).len; omega
      have hps5 := hps.tp r1000 (Tp.of s45)
      have rok' : ∀ x ∈ rs ++ [r], RowOk x := fun x hx => by
        rcases List.mem_append.mp hx with h | h
        · exact rok x h
        · rw [List.mem_singleton.mp h]
          exact ro
      have put : (∀ p, rs.getLast? = some p → ltN p.1 r.1) → ∃ l' ys' b', V.ref P0 = .ref l' ∧ [V.ref tv] = [b'] ∧ H5 l' = some (.lst ys') ∧ ys'.length < sizeLine ∧ Same H2 (upd H5 l' (.lst (ys' ++ [b']))) ∧ upd H5 l' (.lst (ys' ++ [b'])) S = some (.lst (ls.map V.str)) ∧ (∃ zs, upd H5 l' (.lst (ys' ++ [b'])) P0 = some (.lst zs) ∧ RowsAt K (upd H5 l' (.lst (ys' ++ [b']))) zs (rs ++ [r])) ∧ rowsO [] ls = rowsO ((rs ++ [r]).map dRow) (ls.drop (i + 1)) ∧ Srt (rs ++ [r]) := fun lt => by
        refine ⟨P0, ps, .ref tv, rfl, rfl, eP5, small1000 (by omega), fun c o h => ?_, ?_, ⟨ps ++ [.ref tv], upd_same, ?_⟩, ?_, srt_snoc srt lt⟩
        · rw [upd_ne (ne_of_none h nP2)]
          exact s45 _ _ (s4 _ _ h)
        · rw [upd_ne nSP]
          exact s45 _ _ eS4
        · refine (hps5.snoc hv).tp (fun x hx => ?_) (Tp.lst eP5)
          have := (rok' x hx).len
          omega
        · have so : stepO (rs.map dRow) l = some (dRow r) := by
            unfold stepO
            rw [hr1, last_map]
            cases e : rs.getLast? with
            | none => rfl
            | some p => exact if_pos (lt p e)
          rw [hrow, so, List.map_append]
          rfl
      refine ⟨.ref tv, rfl, rfl, _, rfl, iteDN (decide_eq_false (fun z => nomatch z)) ?_⟩
      rcases List.eq_nil_or_concat rs with rfl | ⟨rs0, p, rfl⟩
      · have p0 : ps = [] := List.eq_nil_of_length_eq_zero lps
        subst p0
        refine ⟨.ref P0, rfl, false, .inl ⟨_, .inl (.inl eP5), rfl⟩, iteF (iteF ⟨.ref P0, rfl, .inl ⟨rfl, _, .inl (.inl eP5)⟩, _, rfl, ?_⟩)⟩
        obtain ⟨l', ys', b', g1, g2, g3, g4, g5, g6, ⟨zs, g7, g8⟩, g9, g10⟩ := put fun p e => nomatch e
        exact ⟨l', ys', b', g1, g2, g3, g4, g5, g6, zs, _, _, _, _, rfl, g7, g8, by rw [List.length_append, lrs]; rfl, rok', g10, g9⟩
      · rw [List.concat_eq_append] at *
        have lp : rs0.length + 1 = i := by rw [← lrs, List.length_append]; rfl
        have hj : i - 1 < ps.length := by rw [lps, lrs]; omega
        obtain ⟨rj, frj, hrj⟩ := hps5.at_ (List.getElem?_eq_getElem hj)
        have erj : rj = p := by
          rw [List.getElem?_append_right (by omega), show i - 1 - rs0.length = 0 by omega] at frj
          exact (Option.some.inj frj).symm
        subst erj
        obtain ⟨tj, lj, ej, etj, _⟩ := hrj
        have last : atI ps (-1) = some (.ref tj) := by
          refine atI_last ?_
          rw [show ps.length - 1 = i - 1 by rw [lps, lrs], List.getElem?_eq_getElem hj, ej]
        have ne0 : true = !ps.isEmpty := by
          cases ps with
          | nil => exact absurd hj (Nat.not_lt_zero _)
          | cons _ _ => rfl
        have gl : (rs0 ++ [rj]).getLast? = some rj := by rw [List.getLast?_append]; rfl
        refine ⟨.ref P0, rfl, true, .inl ⟨_, .inl (.inl eP5), ne0⟩, iteT ?_⟩
        refine ⟨.ref tv, rfl, ixA (j := 0) (.inr (.inl (.inl etv))) rfl ⟨.ref P0, rfl, _, rfl, P0, ps, -1, _, rfl, rfl, .inl (.inl eP5), last, ixA (j := 0) (.inr (.inl (.inl etj))) rfl ⟨_, _, rfl, rfl, _, rfl, ?_⟩⟩⟩
        by_cases lt : rj.1.cps.toList < r.1.cps.toList
        · refine iteDN (by rw [decide_eq_true lt]; rfl) ?_
          obtain ⟨l', ys', b', g1, g2, g3, g4, g5, g6, ⟨zs, g7, g8⟩, g9, g10⟩ := put fun p e => by rw [gl] at e; cases e; exact lt
          exact ⟨.ref P0, rfl, .inl ⟨rfl, _, .inl (.inl eP5)⟩, _, rfl, l', ys', b', g1, g2, g3, g4, g5, g6, zs, _, _, _, _, rfl, g7, g8, by rw [List.length_append, lrs]; rfl, rok', g10, g9⟩
        · refine iteDY (by rw [decide_eq_false lt]; rfl) ⟨_, rfl, by show 1 ≤ 1000; decide, fun a na => ?_⟩
          refine raise1 ⟨_, rfl⟩ (badI ?_ _ (s4.trans s45)) a na
          unfold stepO
          rw [hr1, last_map, gl]
          exact if_neg lt
    · rintro σ H3 ⟨s3, eS3, ps, y4, y5, y6, rs, rfl, eP, hps, lrs, rok, srt, hrow⟩
      rw [List.length_map] at lrs hrow
      have hrow : rowsO [] ls = .inr (rs.map dRow) := by
        rw [hrow, List.drop_length]
        rfl
      have h8 := box8 hbox
      refine ⟨.ref D, rfl, .ref P0, rfl, fun x dx nx ndx nedx => ?_⟩
      have s9 : Same H3 (upd (upd H3 dx (.own x)) x (.ins T.a_Atlas dx [])) := fun b o h => by
        rw [upd_ne (ne_of_none h nx), upd_ne (ne_of_none h ndx)]
        exact h
      have nd := srt.nodup
      have er := made_of h8 rok nd
      refine ⟨x, dx, D, P0, boxV box, _, ps, rs.map rowQ, rfl, upd_same, .inl (.inl (.inl (s9 _ _ (s3 _ _ eD)))), dpa_ints box, by rw [List.length_map]; omega, .inl (.inl (.inl (s9 _ _ eP))), rows_pairs (hps.same s9), fun qq hqq => ?_, by rw [List.length_map]; omega, fun _ H9 box' rs1 rs' b9 eb _ em _ _ prm srt' hA => ⟨rfl, ?_⟩, fun i hi => by (rw [er] at hi; cases hi), fun i hi => by (rw [er] at hi; cases hi), fun i hi => by (rw [er] at hi; cases hi), fun z i hi => by (rw [er] at hi; cases hi)⟩
      · obtain ⟨r, hr, rfl⟩ := List.mem_map.mp hqq
        exact ok_QOk (rok r hr)
      cases ints_inj eb
      cases rows_eq em
      have e : rs' = rs := srt_uniq prm srt' srt
      subst e
      exact q box rs' (by rw [hrow]) rok h8 (by omega) _ x (fun b o h => b9 _ _ (ne_of_none (s3 _ _ (s2 _ _ (sW _ _ h))) nx) (s9 _ _ (s3 _ _ (s2 _ _ (sW _ _ h))))) hA
--@@SPLIT
/-! ### the law's own readers of lines -/
theorem find_part (l : Str) : (Txt.find l colon = -1 ∧ textP l = Str.empty) ∨ ∃ i : Nat, Txt.find l colon = (i : Int) ∧ i + 2 ≤ l.length ∧ nameP l = cutS l none (some (i : Int)) ∧ textP l = cutS l (some ((i : Int) + 2)) none := by
  unfold nameP textP Txt.find Txt.partition
  have sp := PySem.StrLaws.occ_spec l colon 0 l.length 1
  have c2 : colon.length = 2 := by decide +kernel
  cases e : Builtin.Str.occurrences l colon 0 l.length 1 with
  | nil => exact .inl ⟨rfl, rfl⟩
  | cons i r =>
    have h := (sp i (by rw [e]; exact List.mem_cons_self)).1
    rw [c2] at h
    refine .inr ⟨i, rfl, h, ?_, ?_⟩
    · refine str_inj ?_
      unfold cutS
      rw [HT.sIx_nat, HT.sIx_none, Nat.min_eq_left (by omega)]
      show (l.cps.extract 0 i).toList = _
      simp
    · refine str_inj ?_
      have e1 : HT.sIx l.length 0 (some ((i : Int) + 2)) = i + 2 := by
        have := HT.sIx_nat l.length 0 (i + 2)
        rw [Nat.min_eq_left h] at this
        exact this
      unfold cutS
      rw [e1, HT.sIx_none, c2]
      show (l.cps.extract (i + 2) l.length).toList = _
      simp
theorem none_empty : logO Str.empty = none := by
  have h : (logO Str.empty).isNone = true := by decide +kernel
  exact Option.isNone_iff_eq_none.mp h
theorem ok_Lrow_of (T : Top w K mg) : FnOk P w K mg base CX0 5 T.a_Lrow_of T.fd_Lrow_of ["_law_line"] (spPairR K) := by
  have G_Lis_name := ok_Lis_name (P := P) (w := w) (base := base) T
  have G_Lentry_of := ok_Lentry_of (P := P) (w := w) (base := base) T
  have G_Lbad_at := ok_Lbad_at (P := P) (w := w) (base := base) T
  refine T.F_Lrow_of.ok sc_Lrow_of (fun vs H Q E h => ?_) (fun cdv A outer s H vs Q E hr h => ?_)
  · obtain ⟨l, rfl, _⟩ := h
    rfl
  · obtain ⟨l, rfl, hl, yes, no⟩ := h
    refine ⟨_, (pss_cons (ps_set (i := 1) sc_Lrow_of.nd rfl (.inl rfl) (pe_bm PySem.F.plainAttrs_str PySem.F.slot_str_find PySem.F.type_str_find mt_find (pv 0) (pa_cons pe_str pa_nil)))
      (pss_cons (ps_if (PW.pt (pw_or (pt_cmpR op_lt (pv 1) pe_int (nomark _)) (pw_or1 (pt_not (pt_val (pe_call G_Lis_name (hr.mono (by decide)) (by rfl) T.g_Lis_name T.F_Lis_name.kp T.b_Lis_name .nil pass0 (pa_cons (pe_slice sl_str (pv 0) po_none (po_some (pv 1))) pa_nil))))))) (pss_one (ps_ret pe_non)) pss_nil)
      (pss_cons (ps_if (pt_cmpR op_eq (pe_slice sl_str (pv 0) (po_some (pe_op op_add (pv 1) pe_int)) po_none) pe_str (nomark _)) (pss_one (ps_ret (pe_tup (pa_cons (pe_slice sl_str (pv 0) po_none (po_some (pv 1))) (pa_cons (pe_tup pa_nil) pa_nil))))) pss_nil)
      (pss_cons (ps_setLc (i := 2) (own := [("_law_part", 3)]) (g := gName 3) (by rfl) sc_Lrow_of.nd rfl rfl (sw_true rfl rfl rfl (by decide +kernel)) (pi_list (pe_bm PySem.F.plainAttrs_str PySem.F.slot_str_split PySem.F.type_str_split mt_split (pe_slice sl_str (pv 0) (po_some (pe_op op_add (pv 1) pe_int)) po_none) (pa_cons pe_str pa_nil))) (blkOk_by (own := [("_law_part", 3)]) (N := ["_law_line", "_law_at", "_law_log", "_law_part"]) (sc := defScope s_Lrow_of) (by decide +kernel)) (fun _ _ _ _ _ => (pg_name (i := 3) sc_Lrow_of.nd rfl (Or.inl rfl))) (fun _ _ _ _ _ => pts_nil) (fun _ _ _ _ _ => (pe_call G_Lentry_of hr (by rfl) T.g_Lentry_of T.F_Lentry_of.kp T.b_Lentry_of .nil pass0 (pa_cons (pv 3) pa_nil))))
      (pss_one (ps_ret (pe_ifExp (pt_cmpR op_isN (pe_call G_Lbad_at hr (by rfl) T.g_Lbad_at T.F_Lbad_at.kp T.b_Lbad_at .nil pass0 (pa_cons (pv 2) pa_nil)) pe_non (nomark _)) (pe_tup (pa_cons (pe_slice sl_str (pv 0) po_none (po_some (pv 1))) (pa_cons (pe_callTy call_tuple_of (by rfl) T.m_tuple (by decide +kernel) (pa_cons (pv 2) pa_nil)) pa_nil))) pe_non))))))), ?_⟩
    have good := fun q (h : rowO l = some q) => row_good h hl
    have l0 : l.length ≤ sizeLine := Nat.le_trans hl (by decide)
    refine ⟨_, rfl, rfl, _, _, rfl, rfl, ?_⟩
    rw [show Txt.find l (PySem.Str.ofString ": ") = Txt.find l colon from rfl]
    unfold rowO at yes no good
    rcases find_part l with ⟨ef, et⟩ | ⟨i, ef, hi, en, et⟩
    · rw [ef]
      rw [et, none_empty] at no
      exact ⟨_, rfl, _, _, rfl, rfl, _, rfl, iteDY (by decide) (iteT (no (by split <;> rfl) _ (Same.refl _)))⟩
    · rw [ef]
      refine ⟨_, rfl, _, _, rfl, rfl, _, rfl, iteDN (decide_eq_false (by omega)) ?_⟩
      have pl := partL l
      refine ⟨.str l, rfl, .int (i : Int), rfl, i, rfl, l, rfl, l0, _, rfl, th_dp (.str _) (decide_eq_true (by rw [← en]; omega)), fun H4 s4 => ⟨_, rfl, ?_⟩⟩
      rw [← en, show nmV (.str (nameP l)) = nmL (nameP l).cps.toList from rfl]
      cases hn : nmL (nameP l).cps.toList with
      | false =>
        rw [hn] at no
        exact iteT (no rfl _ s4)
      | true =>
        rw [hn] at yes no good
        refine iteF ?_
        refine ⟨.str l, rfl, .int (i : Int), rfl, i, 2, rfl, rfl, (i : Int) + 2, rfl, l, rfl, l0, rfl, _, rfl, ?_⟩
        rw [← et]
        have cont : ∀ (ds : List PyData), logO (textP l) = some ds → ∀ H5, Same H H5 → ∀ lg, Dp K H5 (.ref lg) (.tuple ds) → ∀ t, H5 t = none → Q (.ref t) (upd H5 t (.tup [.str (nameP l), .ref lg])) := fun ds hlo H5 s5 lg hv t nt => by
          obtain ⟨r, ro, er⟩ := good (nameP l, ds) (by rw [hlo]; rfl)
          obtain ⟨e1, e2⟩ := Prod.mk.inj er
          have st := same_upd (o := .tup [.str (nameP l), .ref lg]) nt
          refine yes r (by rw [hlo]; exact congrArg some er) ro _ _ (s5.trans st) ⟨t, lg, rfl, ?_, ?_⟩ (fun t' e => by cases e; exact s5.free nt)
          · rw [← e1]
            exact upd_same
          · rw [e2] at hv
            exact dp_same st _ _ hv
        by_cases e0 : textP l = stroke
        · refine iteDY (decide_eq_true (congrArg V.str e0)) ⟨.str l, rfl, .int (i : Int), rfl, i, rfl, l, rfl, l0, Nat.zero_le _, fun t0 n0 => ⟨by show 2 ≤ sizeLine; decide, fun t nt => ?_⟩⟩
          rw [← en]
          exact cont [] (if_pos e0) _ (s4.trans (same_upd n0)) t0 (.tup (.inl (.inl upd_same)) .nil) t nt
        · refine iteDN (decide_eq_false fun y => e0 (V.str.inj y)) ?_
          have tl := pl.2
          have lo : logO (textP l) = if badAt false 0 (partsO (textP l)) = none then some (partsO (textP l)) else none := if_neg e0
          refine ⟨.str l, rfl, .int (i : Int), rfl, i, 2, rfl, rfl, (i : Int) + 2, rfl, l, rfl, l0, ?_⟩
          rw [← et]
          generalize textP l = z at lo cont no tl ⊢
          have cnt := split_cnt (z := z) (m := semi) (by decide +kernel)
          refine ⟨rfl, _, _, rfl, rfl, by decide +kernel, Nat.le_trans (show z.length + 2 ≤ 1000 by omega) (by decide), fun W nW => ?_⟩
          have sW := same_upd (o := .lst ((Txt.split z semi).map V.str)) nW
          have eW : upd H4 W (.lst ((Txt.split z semi).map V.str)) W = some (.lst ((Txt.split z semi).map V.str)) := upd_same
          generalize upd H4 W (.lst ((Txt.split z semi).map V.str)) = H1 at sW eW ⊢
          refine ⟨W, rfl, ⟨_, .inl (.inl eW)⟩, fun D hD => lc_it (walk_list (xs := (Txt.split z semi).map V.str)) (fun i H' => Same H1 H' ∧ ∃ ys, H' D = some (.lst ys) ∧ DpAll K (wo H' (fun c => c = D)) ys ((partsO z).take i)) ⟨same_upd hD, [], upd_same, .nil⟩ (fun i H' _ h => .inl (.inl (h.1 _ _ eW))) ?_ ?_⟩
          · rintro i v H2 H3 hi ⟨sm, ys, eD, hy⟩ ⟨rfl, hx⟩
            rw [List.getElem?_map] at hx
            obtain ⟨x, fx, rfl⟩ : ∃ x, (Txt.split z semi)[i]? = some x ∧ V.str x = v := by
              cases e1 : (Txt.split z semi)[i]? with
              | none => rw [e1] at hx; cases hx
              | some x => rw [e1] at hx; exact ⟨x, rfl, Option.some.inj hx⟩
            have lx := split_mem (List.mem_of_getElem? fx)
            have ly := dpa_len _ _ hy
            rw [List.length_take] at ly
            have fp : (partsO z)[i]? = some (entO x) := by unfold partsO; rw [List.getElem?_map, fx]; rfl
            have lp : (partsO z).length = (Txt.split z semi).length := List.length_map _
            refine ⟨rfl, _, rfl, x, rfl, by omega, fun H4 v s4 _ hv => ⟨ys, s4 _ _ eD, small1000 (by omega), fun c o h => (upd_ne (ne_of_none h hD)).trans (s4 _ _ (sm _ _ h)), _, upd_same, ?_⟩⟩
            have m5 : Same (wo H3 (fun c => c = D)) (wo (upd H4 D (.lst (ys ++ [v]))) (fun c => c = D)) := fun c o h => by
              have h2 := wo_some h
              rw [wo_in (X := fun c => c = D) h2.1, upd_ne h2.1]
              exact s4 _ _ h2.2
            have m6 : Same (wo H4 (fun c => c = D)) (wo (upd H4 D (.lst (ys ++ [v]))) (fun c => c = D)) := fun c o h => by
              have h2 := wo_some h
              rw [wo_in (X := fun c => c = D) h2.1, upd_ne h2.1]
              exact h2.2
            rw [List.take_add_one, fp]
            exact dpa_snoc (dp_same m6 _ _ (hv (fun c => c = D) (fun c hc => by rw [hc, eD]; exact fun y => nomatch y))) _ _ (dpa_same m5 _ _ hy)
          rintro H2 ⟨sm, ys, eD, hy⟩
          have lp : (partsO z).length = (Txt.split z semi).length := List.length_map _
          rw [List.length_map, ← lp, List.take_length] at hy
          have hy2 := dpa_same wo_same _ _ hy
          refine ⟨.ref D, rfl, D, ys, partsO z, rfl, .inl (.inl eD), hy2, fun d hd => ?_, by omega, fun H3 s3 => ?_⟩
          · unfold partsO at hd
            obtain ⟨x, hx, rfl⟩ := List.mem_map.mp hd
            exact entO_ge (by have := split_mem hx; omega)
          have s03 := ((s4.trans sW).trans sm).trans s3
          cases eb : badAt false 0 (partsO z) with
          | none =>
            refine ⟨rfl, _, rfl, iteDY (decide_eq_true rfl) ⟨.str l, rfl, .int (i : Int), rfl, i, rfl, l, rfl, l0, .ref D, rfl, D, ys, rfl, .inl ⟨.inl (.inl (s3 _ _ eD)), fun t nt => ⟨by show 2 ≤ sizeLine; decide, fun r nr => ?_⟩⟩⟩⟩
            have st := same_upd (o := .tup ys) nt
            rw [← en]
            exact cont _ (by rw [lo, if_pos eb]) _ (s03.trans st) t (.tup (.inl (.inl upd_same)) (dpa_same (s3.trans st) _ _ hy2)) r nr
          | some j =>
            exact ⟨rfl, _, rfl, iteDN (decide_eq_false fun y => nomatch y) (no (by rw [lo, eb]; rfl) _ s03)⟩
/-- a word's figures, by the law's own look -/
theorem sp_zero : (PySem.Str.ofString "0") = ⟨#[48]⟩ := by decide +kernel
theorem num_bad {x : Str} (h : ¬ (1 ≤ x.length ∧ x.length ≤ 30 ∧ x.cps.toList.all dgC = true)) : numIn x.cps.toList = none := by
  unfold numIn
  refine if_neg fun ok => h ?_
  obtain ⟨h1, h2⟩ := Bool.and_eq_true_iff.mp (show ((decide (1 ≤ (x.cps.toList.length : Int)) && decide ((x.cps.toList.length : Int) ≤ 30)) && (x.cps.toList.all dgC && _)) = true from ok)
  obtain ⟨h3, h4⟩ := Bool.and_eq_true_iff.mp h1
  have h3 := of_decide_eq_true h3
  have h4 := of_decide_eq_true h4
  rw [len_toListN] at h3 h4
  exact ⟨by omega, by omega, (Bool.and_eq_true_iff.mp h2).1⟩
theorem num_lead {x : Str} (h0 : x.cps.toList.head? = some 48) (h1 : 1 < x.length) : numIn x.cps.toList = none := by
  unfold numIn
  refine if_neg fun ok => ?_
  obtain ⟨_, h2⟩ := Bool.and_eq_true_iff.mp (show ((_ && _) && (x.cps.toList.all dgC && !(decide (x.cps.toList.head? = some 48) && decide (1 < (x.cps.toList.length : Int))))) = true from ok)
  have h3 := (Bool.and_eq_true_iff.mp h2).2
  rw [decide_eq_true h0, decide_eq_true (by rw [len_toListN]; omega)] at h3
  cases h3
theorem num_good {x : Str} (h1 : 1 ≤ x.length) (h2 : x.length ≤ 30) (h3 : x.cps.toList.all dgC = true) (h4 : ¬ (x.cps.toList.head? = some 48 ∧ 1 < x.length)) : numIn x.cps.toList = some (NumText.digitsVal x.cps.toList) ∧ PySem.intText? x = some ((NumText.digitsVal x.cps.toList : Nat) : Int) := by
  refine ⟨?_, ?_⟩
  · unfold numIn
    refine if_pos ?_
    unfold numOk
    rw [len_toListN, decide_eq_true (show (1 : Int) ≤ (x.length : Int) by omega), decide_eq_true (show (x.length : Int) ≤ 30 by omega), h3]
    cases e : (decide (x.cps.toList.head? = some 48) && decide (1 < (x.length : Int))) with
    | false => rfl
    | true =>
      obtain ⟨a, b⟩ := Bool.and_eq_true_iff.mp e
      have b := of_decide_eq_true b
      exact absurd ⟨of_decide_eq_true a, by omega⟩ h4
  · exact intText_digits (num_all h3) (fun e => by rw [← len_toListN, e] at h1; cases h1) (by omega)
def spBoxL (K : PySem.W.Frag) : Sp := fun vs H Q _ => ∃ l : Str, vs = [.str l] ∧ l.length ≤ 900 ∧ (∀ box, boxO l = some box → ∀ H' t, Same H H' → H' t = some (.tup (boxV box)) → Q (.ref t) H') ∧ (boxO l = none → ∀ H', Same H H' → Q .non H')
theorem ok_Lbox_of (T : Top w K mg) : FnOk P w K mg base CX0 1 T.a_Lbox_of T.fd_Lbox_of ["_law_line"] (spBoxL K) := by
  refine T.F_Lbox_of.ok sc_Lbox_of (fun vs H Q E h => ?_) (fun cdv A outer s H vs Q E hr h => ?_)
  · obtain ⟨l, rfl, _⟩ := h
    rfl
  · obtain ⟨l, rfl, hl, yes, no⟩ := h
    refine ⟨_, (pss_cons (ps_set (i := 1) sc_Lbox_of.nd rfl (.inl rfl) (pe_bm PySem.F.plainAttrs_str PySem.F.slot_str_split PySem.F.type_str_split mt_split (pv 0) (pa_cons pe_str pa_nil)))
      (pss_cons (ps_for PassesOwn.never rfl (pi_list (pe_slice sl_list (pv 1) (po_some pe_int) po_none)) (pg_name (i := 2) sc_Lbox_of.nd rfl (.inl rfl)) (Evl.pss_cut (ps_set (i := 3) sc_Lbox_of.nd rfl (.inl rfl) (pe_and (pe_chain op_lt op_le pe_int (pe_callB call_len_str (by rfl) T.m_len (by decide +kernel) (pa_cons (pv 2) pa_nil)) pe_int) (pe_one (pe_callB (cr_all rfl) (by rfl) T.m_all (by decide +kernel) (pa_cons (pe_lc (own := [("_law_sign_here", 4)]) (g := gName 4) (by rfl) sc_Lbox_of.nd (pi_str (pv 2)) (blkOk_by (own := [("_law_sign_here", 4)]) (N := ["_law_line", "_law_words", "_law_word", "_law_figures", "_law_sign_here"]) (sc := defScope s_Lbox_of) (by decide +kernel)) (fun _ _ _ _ _ => (pg_name (i := 4) sc_Lbox_of.nd rfl (Or.inl rfl))) (fun _ _ _ _ _ => pts_nil) (fun _ _ _ _ _ => (pe_cmpR op_in_sign (pv 4) pe_str (by rfl)))) pa_nil)))))
      (pss_one (ps_if (PW.pt (pw_or (pt_not (pt_val (pv 3))) (pw_or1 (PW.pt (pw_and (pt_cmpR op_ne (pv 2) pe_str (nomark _)) (pw_and1 (pt_cmpR op_eq (pe_ix ix_str (pv 2) pe_int (fun _ _ => rfl)) pe_str (nomark _)))))))) (pss_one (ps_ret pe_non)) pss_nil))))
      (pss_cons (ps_if (PW.pt (pw_or (pt_cmpR op_ne (pe_ix ix_list (pv 1) pe_int (fun _ _ => rfl)) pe_str (nomark _)) (pw_or1 (pt_cmpR op_ne (pe_callB call_len_seq (by rfl) T.m_len (by decide +kernel) (pa_cons (pv 1) pa_nil)) pe_int (nomark _))))) (pss_one (ps_ret pe_non)) pss_nil)
      (pss_one (ps_ret (pe_callTy call_tuple_of (by rfl) T.m_tuple (by decide +kernel) (pa_cons (pe_lc (own := [("_law_word", 2)]) (g := gName 2) (by rfl) sc_Lbox_of.nd (pi_list (pe_slice sl_list (pv 1) (po_some pe_int) po_none)) (blkOk_by (own := [("_law_word", 2)]) (N := ["_law_line", "_law_words", "_law_word", "_law_figures", "_law_sign_here"]) (sc := defScope s_Lbox_of) (by decide +kernel)) (fun _ _ _ _ _ => (pg_name (i := 2) sc_Lbox_of.nd rfl (Or.inl rfl))) (fun _ _ _ _ _ => pts_nil) (fun _ _ _ _ _ => (pe_callTy call_int_str (by rfl) T.m_int (by decide +kernel) (pa_cons (pv 2) pa_nil)))) pa_nil))))))), ?_⟩
    obtain ⟨w1, w2⟩ := words_len hl
    refine ⟨_, rfl, rfl, _, _, rfl, rfl, by decide +kernel, Nat.le_trans (show l.length + 2 ≤ 1000 by omega) (by decide), fun W nW => ?_⟩
    rw [show Txt.split l (PySem.Str.ofString " ") = wordsT l from rfl]
    unfold boxO boxOk boxNs at yes no
    have nz : wordsT l ≠ [] := split_ne l
    generalize wordsT l = vs at w1 w2 yes no nz ⊢
    obtain ⟨a, r, rfl⟩ : ∃ a r, vs = a :: r := by
      cases vs with
      | nil => exact absurd rfl nz
      | cons a r => exact ⟨a, r, rfl⟩
    have sW := same_upd (o := .lst ((a :: r).map V.str)) nW
    have eW : upd H W (.lst ((a :: r).map V.str)) W = some (.lst ((a :: r).map V.str)) := upd_same
    generalize upd H W (.lst ((a :: r).map V.str)) = H1 at sW eW ⊢
    refine ⟨.ref W, rfl, 1, rfl, W, _, rfl, .inl (.inl eW), fun S nS => ?_⟩
    rw [show cutV ((a :: r).map V.str) (some 1) none = r.map V.str from cut_first]
    have sS := same_upd (o := .lst (r.map V.str)) nS
    have eS : upd H1 S (.lst (r.map V.str)) S = some (.lst (r.map V.str)) := upd_same
    generalize upd H1 S (.lst (r.map V.str)) = H2 at sS eS ⊢
    have lr : r.length ≤ 1000 := by rw [List.length_cons] at w1; omega
    have yes : ∀ box, (if (decide (some a = some boxW) && (decide ((r.map fun x => numIn x.cps.toList).length = 8) && (r.map fun x => numIn x.cps.toList).all Option.isSome)) = true then some ((r.map fun x => numIn x.cps.toList).map fun n => n.getD 0) else none) = some box → ∀ H' t, Same H H' → H' t = some (.tup (boxV box)) → Q (.ref t) H' := yes
    have no : (if (decide (some a = some boxW) && (decide ((r.map fun x => numIn x.cps.toList).length = 8) && (r.map fun x => numIn x.cps.toList).all Option.isSome)) = true then some ((r.map fun x => numIn x.cps.toList).map fun n => n.getD 0) else none) = none → ∀ H', Same H H' → Q .non H' := no
    have s2 := sW.trans sS
    refine ⟨S, rfl, ⟨_, .inl (.inl eS)⟩, for_it (walk_list (xs := r.map V.str)) (fun i σ H' => Same H2 H' ∧ (∀ x ∈ r.take i, (numIn x.cps.toList).isSome = true) ∧ ∃ y2 y3 y4, σ = [some (.str l), some (.ref W), y2, y3, y4]) ⟨Same.refl _, (fun _ h => nomatch h), _, _, _, rfl⟩ (fun i σ H' _ h => .inl (.inl (h.1 _ _ eS))) ?_ ?_⟩
    · rintro i v σ H3 H4 hi ⟨sm, all, y2, y3, y4, rfl⟩ ⟨rfl, hx⟩
      rw [List.getElem?_map] at hx
      obtain ⟨x, fx, rfl⟩ : ∃ x, r[i]? = some x ∧ V.str x = v := by
        cases e1 : r[i]? with
        | none => rw [e1] at hx; cases hx
        | some x => rw [e1] at hx; exact ⟨x, rfl, Option.some.inj hx⟩
      have lx := w2 x (List.mem_cons_of_mem _ (List.mem_of_getElem? fx))
      have dr : ∀ n : Option Nat, numIn x.cps.toList = n → n = none → ∀ H', Same H2 H' → Q .non H' := fun n e1 e2 H' s' => no (if_neg fun z => by
        obtain ⟨_, z2⟩ := Bool.and_eq_true_iff.mp z
        have := List.all_eq_true.mp (Bool.and_eq_true_iff.mp z2).2 (numIn x.cps.toList) (List.mem_map.mpr ⟨x, List.mem_of_getElem? fx, rfl⟩)
        rw [e1, e2] at this
        cases this) _ (s2.trans s')
      refine ⟨fun σ H' => Same H2 H' ∧ ∃ y4, σ = [some (.str l), some (.ref W), some (.str x), some (.bl (decide (1 ≤ x.length ∧ x.length ≤ 30 ∧ x.cps.toList.all dgC = true))), y4], ?_, ?_⟩
      · have xs : x.length ≤ sizeLine := Nat.le_trans lx (by decide)
        have lz : x.cps.toList.length = x.length := len_toListN x
        have fin : ∀ b : Bool, b = decide (1 ≤ x.length ∧ x.length ≤ 30 ∧ x.cps.toList.all dgC = true) → ∀ H', Same H2 H' → (Same H2 H' ∧ ∃ y4', [some (V.str l), some (V.ref W), some (V.str x), some (V.bl b), y4] = [some (V.str l), some (V.ref W), some (V.str x), some (V.bl (decide (1 ≤ x.length ∧ x.length ≤ 30 ∧ x.cps.toList.all dgC = true))), y4']) := fun b e H' s' => ⟨s', y4, by rw [e]⟩
        refine ⟨_, rfl, x, rfl, xs, _, _, rfl, rfl, _, rfl, ite2 (fun e1 => ?_) (fun e1 => ?_)⟩
        rotate_left
        · refine ⟨false, rfl, iteF (fin _ ?_ _ sm)⟩
          refine (decide_eq_false fun z => e1 (decide_eq_true ?_)).symm
          have := z.1
          omega
        refine ⟨_, _, rfl, rfl, _, rfl, ?_⟩
        by_cases h30 : x.length ≤ 30
        rotate_left
        · refine iteDN (decide_eq_false (by omega)) (fin _ ?_ _ sm)
          exact (decide_eq_false fun z => h30 z.2.1).symm
        refine iteDY (decide_eq_true (by omega)) ?_
        refine ⟨.str x, rfl, x, rfl, fun D hD => lc_it walk_str (fun i H' => Same H4 H' ∧ H' D = some (.lst (((x.cps.toList.take i).map dgC).map V.bl))) ⟨same_upd hD, upd_same⟩ (fun _ _ _ _ => trivial) ?_ ?_⟩
        · rintro i v H1' H2' hi' ⟨sm', eD⟩ ⟨rfl, c, hc, rfl⟩
          refine ⟨rfl, ?_⟩
          refine ⟨_, rfl, c, _, rfl, rfl, _, eD, ?_, ?_, ?_⟩
          · rw [List.length_map, List.length_map, List.length_take, lz]
            exact small1000 (by omega)
          · exact fun b' o e => by
              rw [upd_ne (ne_of_none e hD)]
              exact sm' _ _ e
          · rw [upd_same, List.take_add_one, Array.getElem?_toList, hc, List.map_append, List.map_append]
            rfl
        rintro H1' ⟨sm', eD⟩
        rw [show x.cps.toList.take x.cps.size = x.cps.toList from List.take_of_length_le (by rw [Array.length_toList]; exact Nat.le_refl _)] at eD
        refine ⟨_, x.cps.toList.map dgC, rfl, .inl (.inl eD), ?_⟩
        rw [all_mapN]
        refine fin _ ?_ _ (sm.trans sm')
        have e1 := of_decide_eq_true e1
        cases ha : x.cps.toList.all dgC with
        | true => exact (decide_eq_true ⟨by omega, h30, rfl⟩).symm
        | false => exact (decide_eq_false fun z => Bool.false_ne_true z.2.2).symm
      · rintro σ H5 ⟨s5, y4, rfl⟩
        have xs : x.length ≤ sizeLine := Nat.le_trans lx (by decide)
        by_cases hg : 1 ≤ x.length ∧ x.length ≤ 30 ∧ x.cps.toList.all dgC = true
        rotate_left
        · refine ⟨_, rfl, _, rfl, iteDY (by rw [decide_eq_false hg]; rfl) (dr _ rfl (num_bad hg) _ s5)⟩
        obtain ⟨g1, g2, g3⟩ := hg
        obtain ⟨c, cs, ez⟩ : ∃ c cs, x.cps.toList = c :: cs := by
          cases h : x.cps.toList with
          | nil => rw [← len_toListN, h] at g1; cases g1
          | cons c cs => exact ⟨c, cs, rfl⟩
        have go : ¬ (x.cps.toList.head? = some 48 ∧ 1 < x.length) → (Same H2 H5 ∧ (∀ y ∈ r.take (i + 1), (numIn y.cps.toList).isSome = true) ∧ ∃ y2 y3 y4', [some (V.str l), some (V.ref W), some (V.str x), some (V.bl (decide (1 ≤ x.length ∧ x.length ≤ 30 ∧ x.cps.toList.all dgC = true))), y4] = [some (V.str l), some (V.ref W), y2, y3, y4']) := fun h => ⟨s5, fun y hy => by
          rw [List.take_add_one, fx] at hy
          rcases List.mem_append.mp hy with hy | hy
          · exact all y hy
          · rw [List.mem_singleton.mp hy, (num_good g1 g2 g3 h).1]
            rfl, _, _, _, rfl⟩
        refine ⟨_, rfl, _, rfl, iteDN (by rw [decide_eq_true (show 1 ≤ x.length ∧ x.length ≤ 30 ∧ x.cps.toList.all dgC = true from ⟨g1, g2, g3⟩)]; rfl) ?_⟩
        refine ⟨_, rfl, rfl, _, rfl, ?_⟩
        by_cases hz : x = ⟨#[48]⟩
        · refine iteDN (by rw [hz, sp_zero, decide_eq_true rfl]; rfl) ?_
          refine iteF (go fun z => ?_)
          rw [hz] at z
          exact absurd z.2 (by decide)
        · refine iteDY (by rw [sp_zero, decide_eq_false (fun y => hz (V.str.inj y))]; rfl) ?_
          refine ⟨.str x, rfl, x, 0, c, rfl, rfl, xs, by rw [ez]; exact atI_nat (j := 0) rfl, rfl, _, rfl, ?_⟩
          by_cases hc : c = 48
          · subst hc
            refine iteDY (by decide +kernel) (dr _ rfl (num_lead (by rw [ez]; rfl) ?_) _ s5)
            refine Nat.lt_of_le_of_ne g1 fun e => hz ?_
            have : cs = [] := by
              have := len_toListN x
              rw [ez, ← e, List.length_cons] at this
              exact List.eq_nil_of_length_eq_zero (by omega)
            refine str_inj ?_
            rw [ez, this]
          · refine iteDN (decide_eq_false fun y => hc ?_) (go fun z => ?_)
            · have y2 := congrArg (fun s : Str => s.cps.toList) (V.str.inj y)
              rw [sp_zero] at y2
              exact (List.cons.inj y2).1
            · rw [ez] at z
              exact hc (Option.some.inj z.1)
    rintro σ H3 ⟨sm, all, y2, y3, y4, rfl⟩
    rw [List.length_map, List.take_length] at all
    have eW3 := (sS.trans sm) _ _ eW
    refine ⟨.ref W, rfl, W, _, 0, .str a, rfl, rfl, .inl (.inl eW3), at0, rfl, _, rfl, ?_⟩
    have hs : ((r.map fun x => numIn x.cps.toList).all Option.isSome) = true := List.all_eq_true.mpr fun n hn => by
      obtain ⟨x, hx, rfl⟩ := List.mem_map.mp hn
      exact all x hx
    by_cases ha : a = boxW
    rotate_left
    · exact iteDY (by rw [decide_eq_false (fun z => ha (V.str.inj z))]; rfl) (iteT (no (by rw [decide_eq_false (fun z => ha (Option.some.inj z))]; rfl) _ (s2.trans sm)))
    subst ha
    refine iteDN (by rw [decide_eq_true rfl]; rfl) ⟨.ref W, rfl, W, _, rfl, .inl (.inl (.inl eW3)), rfl, _, rfl, ?_⟩
    rw [List.length_map, List.length_cons]
    by_cases h8 : r.length = 8
    rotate_left
    · refine iteDY (by rw [decide_eq_false (fun z => h8 (by have := V.int.inj z; omega))]; rfl) (no ?_ _ (s2.trans sm))
      rw [List.length_map, decide_eq_false h8]
      simp
    refine iteDN (by rw [h8, decide_eq_true (show V.int ((8 + 1 : Nat) : Int) = .int 9 from rfl)]; rfl) ?_
    have yes := yes _ (if_pos (by rw [List.length_map, hs, decide_eq_true h8, decide_eq_true rfl]; rfl))
    refine ⟨.ref W, rfl, 1, rfl, W, _, rfl, .inl (.inl eW3), fun S2 nS2 => ?_⟩
    rw [show cutV ((boxW :: r).map V.str) (some 1) none = r.map V.str from cut_first]
    have sS2 := same_upd (o := .lst (r.map V.str)) nS2
    have eS2 : upd H3 S2 (.lst (r.map V.str)) S2 = some (.lst (r.map V.str)) := upd_same
    generalize upd H3 S2 (.lst (r.map V.str)) = H4 at sS2 eS2 ⊢
    refine ⟨S2, rfl, ⟨_, .inl (.inl eS2)⟩, fun D hD => lc_it (walk_list (xs := r.map V.str)) (fun i H' => Same H4 H' ∧ H' D = some (.lst (boxV (((r.take i).map fun x => numIn x.cps.toList).map fun n => n.getD 0)))) ⟨same_upd hD, upd_same⟩ (fun i H' _ h => .inl (.inl (h.1 _ _ eS2))) ?_ ?_⟩
    · rintro i v H5 H6 hi ⟨sm5, eD⟩ ⟨rfl, hx⟩
      rw [List.getElem?_map] at hx
      obtain ⟨x, fx, rfl⟩ : ∃ x, r[i]? = some x ∧ V.str x = v := by
        cases e1 : r[i]? with
        | none => rw [e1] at hx; cases hx
        | some x => rw [e1] at hx; exact ⟨x, rfl, Option.some.inj hx⟩
      have hx := all x (List.mem_of_getElem? fx)
      have hb : 1 ≤ x.length ∧ x.length ≤ 30 ∧ x.cps.toList.all dgC = true := Classical.byContradiction fun h => by rw [num_bad h] at hx; cases hx
      have hl : ¬ (x.cps.toList.head? = some 48 ∧ 1 < x.length) := fun h => by rw [num_lead h.1 h.2] at hx; cases hx
      obtain ⟨n1, n2⟩ := num_good hb.1 hb.2.1 hb.2.2 hl
      refine ⟨rfl, _, rfl, x, _, rfl, n2, by have := hb.2.1; omega, _, eD, ?_, fun c o h => (upd_ne (ne_of_none h hD)).trans (sm5 _ _ h), ?_⟩
      · unfold boxV
        rw [List.length_map, List.length_map, List.length_map, List.length_take]
        exact small1000 (by omega)
      · unfold boxV
        rw [upd_same, List.take_add_one, fx, List.map_append, List.map_append, List.map_append]
        show _ = some (HO.lst (_ ++ [V.int (((numIn x.cps.toList).getD 0 : Nat) : Int)]))
        rw [n1]
        rfl
    rintro H5 ⟨sm5, eD⟩
    rw [List.length_map, List.take_length] at eD
    refine ⟨D, _, rfl, .inl ⟨.inl (.inl eD), fun t nt => yes _ t ((((s2.trans sm).trans sS2).trans sm5).trans (same_upd nt)) upd_same⟩⟩
/-! ### what is due, what is read -/
def boxPD (box : List Nat) : PyData := .tuple (box.map fun n : Nat => PyData.int (n : Nat))
def toldD (box : List Nat) (rs : List Row) : PyData := .tuple [.str "told", boxPD box, .tuple ((nms rs).map PyData.str), .tuple (rs.map logD)]
def noD (i : Nat) : PyData := .tuple [.str "NoText", .int (i : Int)]
/-- what the law wishes of a text: told, or refused -/
def WishR (K : PySem.W.Frag) (z : Str) (H : Hp) (Q : VK) : Prop := (∀ box rs, readA z = .inr (box, rs.map dRow) → (∀ r ∈ rs, RowOk r) → box.length = 8 → rs.length ≤ 20 → ∀ H' v, Same H H' → Dp K H' v (toldD box rs) → Q v H') ∧ (∀ i : Nat, readA z = .inl i → ∀ H' v, Same H H' → Dp K H' v (noD i) → Q v H')
def spReadL (K : PySem.W.Frag) : Sp := fun vs H Q _ => ∃ z : Str, vs = [.str z] ∧ Lines z ∧ WishR K z H Q
theorem ok_Ldue (T : Top w K mg) : FnOk P w K mg base CX0 6 T.a_Ldue T.fd_Ldue ["_law_text"] (spReadL K) := by
  have G_Lbox_of := ok_Lbox_of (P := P) (w := w) (base := base) T
  have G_Lrow_of := ok_Lrow_of (P := P) (w := w) (base := base) T
  refine T.F_Ldue.ok sc_Ldue (fun vs H Q E h => ?_) (fun cdv A outer s H vs Q E hr h => ?_)
  · obtain ⟨z, rfl, _⟩ := h
    rfl
  · obtain ⟨z, rfl, ⟨few, short, hz⟩, q, bad⟩ := h
    refine ⟨_, (pss_cons (ps_set (i := 1) sc_Ldue.nd rfl (.inl rfl) (pe_bm PySem.F.plainAttrs_str PySem.F.slot_str_split PySem.F.type_str_split mt_split (pv 0) (pa_cons pe_str pa_nil)))
      (pss_cons (ps_set (i := 2) sc_Ldue.nd rfl (.inl rfl) (pe_call G_Lbox_of (hr.mono (by decide)) (by rfl) T.g_Lbox_of T.F_Lbox_of.kp T.b_Lbox_of .nil pass0 (pa_cons (pe_ix ix_list (pv 1) pe_int (fun _ _ => rfl)) pa_nil)))
      (pss_cons (ps_if (pt_cmpR op_isN (pv 2) pe_non (nomark _)) (pss_one (ps_ret (pe_tup (pa_cons pe_str (pa_cons pe_int pa_nil))))) pss_nil)
      (pss_cons (ps_set (i := 3) sc_Ldue.nd rfl (.inl rfl) (pe_lst pa_nil))
      (pss_cons (ps_for PassesOwn.never rfl (pi_enum (by rfl) T.m_enumerate (pa_cons (pe_slice sl_list (pv 1) (po_some pe_int) po_none) pa_nil)) (pg_tup rfl (pgs_cons (pg_name (i := 4) sc_Ldue.nd rfl (.inl rfl)) (pgs_cons (pg_name (i := 5) sc_Ldue.nd rfl (.inl rfl)) pgs_nil))) (pss_cons (ps_set (i := 6) sc_Ldue.nd rfl (.inl rfl) (pe_call G_Lrow_of hr (by rfl) T.g_Lrow_of T.F_Lrow_of.kp T.b_Lrow_of .nil pass0 (pa_cons (pv 5) pa_nil)))
      (pss_cons (ps_if (PW.pt (pw_or (pt_cmpR op_isN (pv 6) pe_non (nomark _)) (pw_or1 (PW.pt (pw_and (pt_cmpR op_gt (pe_callB call_len_seq (by rfl) T.m_len (by decide +kernel) (pa_cons (pv 3) pa_nil)) pe_int (nomark _)) (pw_and1 (pt_cmpR op_le_str (pe_ix (r := rIx K) (SeqW.ix_seqK rfl) (pv 6) pe_int (fun _ _ => rfl)) (pe_ix (r := rIx K) (SeqW.ix_seqK rfl) (pe_ix ix_list (pv 3) (pe_un un_neg pe_int) (fun _ _ => rfl)) pe_int (fun _ _ => rfl)) (nomark _)))))))) (pss_one (ps_ret (pe_tup (pa_cons pe_str (pa_cons (pe_op op_add (pv 4) pe_int) pa_nil))))) pss_nil)
      (pss_one (ps_expr (pe_bm PySem.F.plainAttrs_list PySem.F.slot_list_append PySem.F.type_list_append mt_append (pv 3) (pa_cons (pv 6) pa_nil)))))))
      (pss_one (ps_ret (pe_tup (pa_cons pe_str (pa_cons (pv 2) (pa_cons (pe_callTy call_tuple_of (by rfl) T.m_tuple (by decide +kernel) (pa_cons (pe_lc (own := [("_law_row", 6)]) (g := gName 6) (by rfl) sc_Ldue.nd (pi_list (pv 3)) (blkOk_by (own := [("_law_row", 6)]) (N := ["_law_text", "_law_lines", "_law_box", "_law_rows", "_law_at", "_law_line", "_law_row"]) (sc := defScope s_Ldue) (by decide +kernel)) (fun _ _ _ _ _ => (pg_name (i := 6) sc_Ldue.nd rfl (Or.inl rfl))) (fun _ _ _ _ _ => pts_nil) (fun _ _ _ _ _ => (pe_ix (r := rIx K) (SeqW.ix_seqK rfl) (pv 6) pe_int (fun _ _ => rfl)))) pa_nil)) (pa_cons (pe_callTy call_tuple_of (by rfl) T.m_tuple (by decide +kernel) (pa_cons (pe_lc (own := [("_law_row", 6)]) (g := gName 6) (by rfl) sc_Ldue.nd (pi_list (pv 3)) (blkOk_by (own := [("_law_row", 6)]) (N := ["_law_text", "_law_lines", "_law_box", "_law_rows", "_law_at", "_law_line", "_law_row"]) (sc := defScope s_Ldue) (by decide +kernel)) (fun _ _ _ _ _ => (pg_name (i := 6) sc_Ldue.nd rfl (Or.inl rfl))) (fun _ _ _ _ _ => pts_nil) (fun _ _ _ _ _ => (pe_ix (r := rIx K) (SeqW.ix_seqK rfl) (pv 6) pe_int (fun _ _ => rfl)))) pa_nil)) pa_nil)))))))))))), ?_⟩
    refine ⟨_, rfl, rfl, _, _, rfl, rfl, by decide +kernel, Nat.le_trans (show z.length + 2 ≤ 2000000 by omega) (by decide), fun W nW => ?_⟩
    rw [show Txt.split z (PySem.Str.ofString "\n") = linesT z from rfl]
    obtain ⟨b, ls, ez⟩ : ∃ b ls, linesT z = b :: ls := by
      cases e : linesT z with
      | nil => exact absurd e (linesT_ne z)
      | cons b ls => exact ⟨b, ls, rfl⟩
    have rd : readA z = (match boxO b with | none => .inl 0 | some box => match rowsO [] ls with | .inl i => .inl i | .inr qs => .inr (box, qs)) := by unfold readA; rw [ez]; all_goals rfl
    rw [rd] at q bad
    rw [ez] at few short ⊢
    have sW := same_upd (o := .lst ((b :: ls).map V.str)) nW
    have eW : upd H W (.lst ((b :: ls).map V.str)) W = some (.lst ((b :: ls).map V.str)) := upd_same
    generalize upd H W (.lst ((b :: ls).map V.str)) = H1 at sW eW ⊢
    have lb := short b List.mem_cons_self
    refine ⟨.ref W, rfl, W, _, 0, .str b, rfl, rfl, .inl (.inl eW), at0, b, rfl, by omega, fun box hbox H2 B s2 eB => ?_, fun hno H2 s2 => ?_⟩
    rotate_left
    · refine ⟨.non, rfl, rfl, _, rfl, iteDY (decide_eq_true rfl) ⟨by show 2 ≤ sizeLine; decide, fun t nt => ?_⟩⟩
      exact bad 0 (by rw [hno]) _ _ ((sW.trans s2).trans (same_upd nt)) (.tup (.inl (.inl upd_same)) (.cons (.str _) (.cons (.int _) .nil)))
    rw [hbox] at bad q
    have bad : ∀ i : Nat, rowsO [] ls = .inl i → ∀ H' v, Same H H' → Dp K H' v (noD i) → Q v H' := fun i h => bad i (by rw [h])
    refine ⟨.ref B, rfl, rfl, _, rfl, iteDN (decide_eq_false (fun z => nomatch z)) ?_⟩
    refine ⟨Nat.zero_le _, fun P0 nP => ?_⟩
    have sP := same_upd (o := .lst []) nP
    have s13 := s2.trans sP
    refine ⟨.ref W, rfl, 1, rfl, W, _, rfl, .inl (.inl (s13 _ _ eW)), fun S nS => ?_⟩
    rw [show cutV ((b :: ls).map V.str) (some 1) none = ls.map V.str from cut_first]
    have sS := same_upd (o := .lst (ls.map V.str)) nS
    have nSP : S ≠ P0 := fun z => by rw [z, upd_same] at nS; cases nS
    have nP2 : H2 P0 = none := nP
    have ePS : upd (upd H2 P0 (.lst [])) S (.lst (ls.map V.str)) P0 = some (.lst []) := sS _ _ upd_same
    have eS : upd (upd H2 P0 (.lst [])) S (.lst (ls.map V.str)) S = some (.lst (ls.map V.str)) := upd_same
    have lls : ls.length ≤ 20 := by rw [List.length_cons] at few; omega
    refine ⟨S, _, rfl, .inl (.inl eS), for_it (walk_enum (xs := ls.map V.str)) (fun i σ H' => Same H2 H' ∧ H' S = some (.lst (ls.map V.str)) ∧ ∃ ps y4 y5 y6 rs, σ = [some (.str z), some (.ref W), some (.ref B), some (.ref P0), y4, y5, y6] ∧ H' P0 = some (.lst ps) ∧ RowsAt K H' ps rs ∧ rs.length = i ∧ (∀ r ∈ rs, RowOk r) ∧ Srt rs ∧ rowsO [] ls = rowsO (rs.map dRow) (ls.drop i)) ⟨sP.trans sS, eS, [], _, _, _, [], rfl, ePS, .nil, rfl, (fun _ h => nomatch h), .nil, rfl⟩ (fun i σ H' _ h => .inl (.inl h.2.1)) ?_ ?_⟩
    · rintro i v σ H3 H4 hi ⟨s4, eS4, ps, y4, y5, y6, rs, rfl, eP, hps, lrs, rok, srt, hrow⟩ ⟨t, u1, u2, rfl, nt, rfl, e1, e2⟩
      cases e1
      have e2 : (ls.map V.str)[i]? = some u2 := e2
      rw [List.getElem?_map] at e2
      obtain ⟨l, fl, rfl⟩ : ∃ l, ls[i]? = some l ∧ V.str l = u2 := by
        cases e1 : ls[i]? with
        | none => rw [e1] at e2; cases e2
        | some l => rw [e1] at e2; exact ⟨l, rfl, Option.some.inj e2⟩
      have st := same_upd (o := .tup [.int (i : Nat), .str l]) nt
      have lps := hps.len
      obtain ⟨il, gl⟩ := List.getElem?_eq_some_iff.mp fl
      have dr : ls.drop i = l :: ls.drop (i + 1) := by rw [List.drop_eq_getElem_cons il, gl]
      rw [dr] at hrow
      have hrow : rowsO [] ls = (match stepO (rs.map dRow) l with | none => .inl ((rs.map dRow).length + 1) | some q => rowsO (rs.map dRow ++ [q]) (ls.drop (i + 1))) := hrow
      have s02 := sW.trans s2
      have stop : stepO (rs.map dRow) l = none → ∀ H5, Same H2 H5 → ∀ t, H5 t = none → Q (.ref t) (upd H5 t (.tup [.str "NoText", .int ((i : Int) + 1)])) := fun e H5 s5 t nt =>
        bad (i + 1) (by rw [hrow, e, List.length_map, lrs]) _ _ ((s02.trans s5).trans (same_upd nt)) (.tup (.inl (.inl upd_same)) (.cons (.str _) (.cons (.int _) .nil)))
      refine ⟨t, _, rfl, .inl (.inl upd_same), rfl, _, _, rfl, _, _, rfl, rfl, ?_⟩
      refine ⟨_, rfl, l, rfl, short l (List.mem_cons_of_mem _ (List.mem_of_getElem? fl)), fun r hr1 ro H5 v s5 hv _ => ?_, fun hno H5 s5 => ?_⟩
      rotate_left
      · refine ⟨.non, rfl, rfl, _, rfl, iteDY (decide_eq_true rfl) ⟨_, rfl, _, _, rfl, rfl, by show 2 ≤ sizeLine; decide, fun t nt => ?_⟩⟩
        exact stop (by unfold stepO; rw [hno]) _ ((s4.trans st).trans s5) t nt
      have hv0 := hv
      obtain ⟨tv, lg, rfl, etv, hlg⟩ := hv0
      have s45 := st.trans s5
      have eP5 := s45 _ _ eP
      have r1000 : ∀ r ∈ rs, r.2.length ≤ 1000 := fun r hr => by have := (rok r hr).len; omega
      have hps5 := hps.tp r1000 (Tp.of s45)
      have rok' : ∀ x ∈ rs ++ [r], RowOk x := fun x hx => by
        rcases List.mem_append.mp hx with h | h
        · exact rok x h
        · rw [List.mem_singleton.mp h]
          exact ro
      have put : (∀ p, rs.getLast? = some p → ltN p.1 r.1) → ∃ l' ys' b', V.ref P0 = .ref l' ∧ [V.ref tv] = [b'] ∧ H5 l' = some (.lst ys') ∧ ys'.length < sizeLine ∧ Same H2 (upd H5 l' (.lst (ys' ++ [b']))) ∧ upd H5 l' (.lst (ys' ++ [b'])) S = some (.lst (ls.map V.str)) ∧ (∃ zs, upd H5 l' (.lst (ys' ++ [b'])) P0 = some (.lst zs) ∧ RowsAt K (upd H5 l' (.lst (ys' ++ [b']))) zs (rs ++ [r])) ∧ rowsO [] ls = rowsO ((rs ++ [r]).map dRow) (ls.drop (i + 1)) ∧ Srt (rs ++ [r]) := fun lt => by
        refine ⟨P0, ps, .ref tv, rfl, rfl, eP5, small1000 (by omega), fun c o h => ?_, ?_, ⟨ps ++ [.ref tv], upd_same, ?_⟩, ?_, srt_snoc srt lt⟩
        · rw [upd_ne (ne_of_none h nP2)]
          exact s45 _ _ (s4 _ _ h)
        · rw [upd_ne nSP]
          exact s45 _ _ eS4
        · refine (hps5.snoc hv).tp (fun x hx => ?_) (Tp.lst eP5)
          have := (rok' x hx).len
          omega
        · have so : stepO (rs.map dRow) l = some (dRow r) := by
            unfold stepO
            rw [hr1, last_map]
            cases e : rs.getLast? with
            | none => rfl
            | some p => exact if_pos (lt p e)
          rw [hrow, so, List.map_append]
          rfl
      refine ⟨.ref tv, rfl, rfl, _, rfl, iteDN (decide_eq_false (fun z => nomatch z)) ?_⟩
      refine ⟨.ref P0, rfl, P0, _, rfl, .inl (.inl (.inl eP5)), _, _, rfl, rfl, _, rfl, ?_⟩
      rcases List.eq_nil_or_concat rs with rfl | ⟨rs0, p, rfl⟩
      · have p0 : ps = [] := List.eq_nil_of_length_eq_zero lps
        subst p0
        refine iteDN (by decide) (iteF ⟨.ref P0, rfl, .inl ⟨rfl, _, .inl (.inl eP5)⟩, _, rfl, ?_⟩)
        obtain ⟨l', ys', b', g1, g2, g3, g4, g5, g6, ⟨zs, g7, g8⟩, g9, g10⟩ := put fun p e => nomatch e
        exact ⟨l', ys', b', g1, g2, g3, g4, g5, g6, zs, _, _, _, _, rfl, g7, g8, by rw [List.length_append, lrs]; rfl, rok', g10, g9⟩
      · rw [List.concat_eq_append] at *
        have lp : rs0.length + 1 = i := by rw [← lrs, List.length_append]; rfl
        have hj : i - 1 < ps.length := by rw [lps, lrs]; omega
        obtain ⟨rj, frj, hrj⟩ := hps5.at_ (List.getElem?_eq_getElem hj)
        have erj : rj = p := by
          rw [List.getElem?_append_right (by omega), show i - 1 - rs0.length = 0 by omega] at frj
          exact (Option.some.inj frj).symm
        subst erj
        obtain ⟨tj, lj, ej, etj, _⟩ := hrj
        have last : atI ps (-1) = some (.ref tj) := by
          refine atI_last ?_
          rw [show ps.length - 1 = i - 1 by rw [lps, lrs], List.getElem?_eq_getElem hj, ej]
        have gl : (rs0 ++ [rj]).getLast? = some rj := by rw [List.getLast?_append]; rfl
        refine iteDY (decide_eq_true (by omega)) ?_
        refine ⟨.ref tv, rfl, ixA (j := 0) (.inr (.inl (.inl etv))) rfl ⟨.ref P0, rfl, _, rfl, P0, ps, -1, _, rfl, rfl, .inl (.inl eP5), last, ixA (j := 0) (.inr (.inl (.inl etj))) rfl ⟨_, _, rfl, rfl, _, rfl, ?_⟩⟩⟩
        by_cases lt : rj.1.cps.toList < r.1.cps.toList
        · refine iteDN (by rw [decide_eq_true lt]; rfl) ?_
          obtain ⟨l', ys', b', g1, g2, g3, g4, g5, g6, ⟨zs, g7, g8⟩, g9, g10⟩ := put fun p e => by rw [gl] at e; cases e; exact lt
          exact ⟨.ref P0, rfl, .inl ⟨rfl, _, .inl (.inl eP5)⟩, _, rfl, l', ys', b', g1, g2, g3, g4, g5, g6, zs, _, _, _, _, rfl, g7, g8, by rw [List.length_append, lrs]; rfl, rok', g10, g9⟩
        · refine iteDY (by rw [decide_eq_false lt]; rfl) ⟨_, rfl, _, _, rfl, rfl, by show 2 ≤ sizeLine; decide, fun t nt => ?_⟩
          refine stop ?_ _ (s4.trans s45) t nt
          unfold stepO
          rw [hr1, last_map, gl]
          exact if_neg lt
    · rintro σ H3 ⟨s3, eS3, ps, y4, y5, y6, rs, rfl, eP, hps, lrs, rok, srt, hrow⟩
      rw [List.length_map] at lrs hrow
      have hrow : rowsO [] ls = .inr (rs.map dRow) := by
        rw [hrow, List.drop_length]
        rfl
      have h8 := box8 hbox
      have lps := hps.len
      have lnm : (nms rs).length = rs.length := List.length_map _
      have wlk : ∀ {H' : Hp} {v : V} {i : Nat}, ps[i]? = some v → Same H3 H' → ∃ r tv l, rs[i]? = some r ∧ v = .ref tv ∧ H' tv = some (.tup [.str r.1, .ref l]) ∧ Dp K H3 (.ref l) (logD r) := fun hv s' => by
        obtain ⟨r, fr, tv, l, e, h1, h2⟩ := hps.at_ hv
        exact ⟨r, tv, l, fr, e, s' _ _ h1, h2⟩
      refine ⟨.ref B, rfl, .ref P0, rfl, P0, rfl, ⟨ps, .inl (.inl eP)⟩, fun D hD => lc_it (walk_list (xs := ps)) (fun i H' => Same H3 H' ∧ H' D = some (.lst (((nms rs).take i).map V.str))) ⟨same_upd hD, upd_same⟩ (fun i H' _ h => .inl (.inl (h.1 _ _ eP))) ?_ ?_⟩
      · rintro i v H4 H5 hi ⟨sm, eD⟩ ⟨rfl, hv⟩
        obtain ⟨r, tv, l, fr, rfl, h1, h2⟩ := wlk hv sm
        have fn : (nms rs)[i]? = some r.1 := by unfold nms; rw [List.getElem?_map, fr]; rfl
        refine ⟨rfl, .ref tv, rfl, ixA (j := 0) (.inr (.inl (.inl h1))) rfl ⟨_, eD, ?_, fun c o h => (upd_ne (ne_of_none h hD)).trans (sm _ _ h), ?_⟩⟩
        · rw [List.length_map, List.length_take]
          exact small1000 (by omega)
        · rw [upd_same, List.take_add_one, fn, List.map_append]
          rfl
      rintro H4 ⟨s4, eD⟩
      rw [lps, ← lnm, List.take_length] at eD
      refine ⟨D, _, rfl, .inl ⟨.inl (.inl eD), fun tn ntn => ?_⟩⟩
      have s5 := s4.trans (same_upd (o := .tup ((nms rs).map V.str)) ntn)
      have etn : upd H4 tn (.tup ((nms rs).map V.str)) tn = some (.tup ((nms rs).map V.str)) := upd_same
      generalize upd H4 tn (.tup ((nms rs).map V.str)) = H5 at s5 etn ⊢
      refine ⟨.ref P0, rfl, P0, rfl, ⟨ps, .inl (.inl (s5 _ _ eP))⟩, fun D2 hD2 => lc_it (walk_list (xs := ps)) (fun i H' => Same H5 H' ∧ ∃ ys, H' D2 = some (.lst ys) ∧ ys.length = i ∧ DpAll K H3 ys ((rs.take i).map logD)) ⟨same_upd hD2, [], upd_same, rfl, .nil⟩ (fun i H' _ h => .inl (.inl (h.1 _ _ (s5 _ _ eP)))) ?_ ?_⟩
      · rintro i v H6 H7 hi ⟨sm, ys, eD2, ly, hy⟩ ⟨rfl, hv⟩
        obtain ⟨r, tv, l, fr, rfl, h1, h2⟩ := wlk hv (s5.trans sm)
        have il := (List.getElem?_eq_some_iff.mp fr).1
        refine ⟨rfl, .ref tv, rfl, ixA (j := 1) (.inr (.inl (.inl h1))) rfl ⟨_, eD2, small1000 (by omega), fun c o h => (upd_ne (ne_of_none h hD2)).trans (sm _ _ h), _, upd_same, by rw [List.length_append, ly]; rfl, ?_⟩⟩
        rw [List.take_add_one, fr, List.map_append]
        exact dpa_snoc h2 _ _ hy
      rintro H6 ⟨s6, ys, eD2, ly, hy⟩
      rw [lps, List.take_length] at hy
      refine ⟨D2, ys, rfl, .inl ⟨.inl (.inl eD2), fun tl ntl => ⟨by show 4 ≤ sizeLine; decide, fun r nr => ?_⟩⟩⟩
      have s7 := same_upd (o := .tup ys) ntl
      have s8 := same_upd (o := .tup [.str "told", .ref B, .ref tn, .ref tl]) nr
      have s38 := ((s5.trans s6).trans s7).trans s8
      refine q box rs (by rw [hrow]) rok h8 (by omega) _ _ (((sW.trans s2).trans s3).trans s38) (.tup (.inl (.inl upd_same)) (.cons (.str _) (.cons (.tup (.inl (.inl (s38 _ _ (s3 _ _ eB)))) (dpa_ints box)) (.cons (.tup (.inl (.inl (((s6.trans s7).trans s8) _ _ etn))) (dpa_strs (nms rs))) (.cons (.tup (.inl (.inl (s8 _ _ upd_same))) (dpa_same s38 _ _ hy)) .nil)))))
theorem ok_Lread (T : Top w K mg) : FnOk P w K mg base CX0 13 T.a_Lread T.fd_Lread ["_law_text"] (spReadL K) := by
  have G_read_atlas := ok_read_atlas (P := P) (w := w) (base := base) T
  refine T.F_Lread.ok sc_Lread (fun vs H Q E h => ?_) (fun cdv A outer s H vs Q E hr h => ?_)
  · obtain ⟨z, rfl, _⟩ := h
    rfl
  · obtain ⟨z, rfl, hl, q, bad⟩ := h
    refine ⟨_, (pss_cons (ps_set (i := 1) sc_Lread.nd rfl (.inl rfl) (pe_tup (pa_cons pe_str pa_nil)))
      (pss_cons (ps_try_as (i := 3) rfl rfl sc_Lread.nd rfl rfl ⟨rfl, by decide, .inl T.g_NoText⟩ takes0 (fun W pn xe tk _ => (pss_cons (ps_set (i := 2) sc_Lread.nd rfl (.inl rfl) (pe_callS G_read_atlas hr (by rfl) T.g_read_atlas T.F_read_atlas.kp T.b_read_atlas (fun σ => passAt tk σ) (pa_cons (pv 0) pa_nil)))
      (pss_one (ps_set (i := 1) sc_Lread.nd rfl (.inl rfl) (pe_tup (pa_cons pe_str (pa_cons (FldK.pe_fldK (K := K) rfl (pv 2) rfl) (pa_cons (FldK.pe_fldK (K := K) rfl (pv 2) rfl) (pa_cons (FldK.pe_fldK (K := K) rfl (pv 2) rfl) pa_nil))))))))) (fun a oe cls d pn hz hf => (pss_one (ps_set (i := 1) sc_Lread.nd rfl (.inl rfl) (pe_tup (pa_cons pe_str (pa_cons (pe_xf T.xf_NoText T.no_NoText_at hz hf (pv 3)) pa_nil)))))))
      (pss_one (ps_ret (pv 1))))), ?_⟩
    refine ⟨by show 1 ≤ sizeLine; decide, fun t0 n0 => ?_⟩
    have s0 := same_upd (o := .tup [.str "odd"]) n0
    generalize upd H t0 (.tup [.str "odd"]) = H0 at s0 ⊢
    refine ⟨.str z, rfl, z, rfl, hl, fun box rs hrd rok h8 l20 H1 x s1 hA => ?_, fun i hi H1 dd s1 nd ed => ?_⟩
    · obtain ⟨dx, b, n, l, ls, on, po, h1, h2, hn, h4, h5⟩ := hA
      refine ⟨.ref x, rfl, x, T.a_Atlas, dx, _, _, rfl, h1, T.cl_Atlas, T.nf_Atlas_box, fl_box b n l, .ref x, rfl, x, T.a_Atlas, dx, _, _, rfl, h1, T.cl_Atlas, T.nf_Atlas_names, fl_names b n l, .ref x, rfl, x, T.a_Atlas, dx, _, _, rfl, h1, T.cl_Atlas, T.nf_Atlas_logs, fl_logs b n l, by show 4 ≤ sizeLine; decide, fun r nr => ?_⟩
      have sr := same_upd (o := .tup [.str "told", .ref b, .ref n, .ref l]) nr
      exact ⟨_, rfl, q box rs hrd rok h8 l20 _ _ ((s0.trans s1).trans sr) (.tup (.inl (.inl upd_same)) (.cons (.str _) (.cons (.tup (sqt_same sr h2) (dpa_ints box)) (.cons (.tup (.inl (.inr ⟨on, sr _ _ hn⟩)) (dpa_strs (nms rs))) (.cons (.tup (sqt_same sr h4) (dpa_same sr _ _ h5)) .nil)))))⟩
    · refine ⟨true, T.exm_NoText, (fun _ a0 _ => ⟨.ref a0, rfl, rfl, rfl, dd, _, .int (i : Nat), rfl, ed, by simp [List.lookup], by show 2 ≤ sizeLine; decide, fun r nr => ⟨_, rfl, ?_⟩⟩), fun y => Bool.noConfusion y⟩
      exact bad i hi _ _ ((s0.trans s1).trans (same_upd nr)) (.tup (.inl (.inl upd_same)) (.cons (.str _) (.cons (.int _) .nil)))
--@@SPLIT
/-! ### lines bent -/
abbrev strokeL : Str := PySem.Str.ofString "-"
def entTs (es : List Ent) : List Str := es.map fun e => entT e.parts
def logJ (es : List Ent) : Str := Txt.join semi (entTs es)
def logT (es : List Ent) : Str := if es.isEmpty = true then strokeL else logJ es
theorem joinL_mem {S : List Nat} {c : Nat} : ∀ ps : List (List Nat), c ∈ TL.joinL S ps → c ∈ S ∨ ∃ p ∈ ps, c ∈ p
  | [], h => nomatch h
  | [p], h => .inr ⟨p, List.mem_cons_self, h⟩
  | p :: q :: r, h => by
    rcases List.mem_append.mp (show c ∈ p ++ (S ++ TL.joinL S (q :: r)) from h) with h | h
    · exact .inr ⟨p, List.mem_cons_self, h⟩
    · rcases List.mem_append.mp h with h | h
      · exact .inl h
      · rcases joinL_mem (q :: r) h with h | ⟨x, hx, hc⟩
        · exact .inl h
        · exact .inr ⟨x, List.mem_cons_of_mem _ hx, hc⟩
theorem joinL_ge {S : List Nat} (p : List Nat) : ∀ ps : List (List Nat), p.length ≤ (TL.joinL S (p :: ps)).length
  | [] => Nat.le_refl _
  | q :: r => by
    show p.length ≤ (p ++ (S ++ TL.joinL S (q :: r))).length
    rw [List.length_append]
    omega
theorem joinL_le {S : List Nat} {n : Nat} : ∀ ps : List (List Nat), (∀ p ∈ ps, p.length ≤ n) → (TL.joinL S ps).length ≤ (n + S.length) * ps.length
  | [], _ => Nat.zero_le _
  | [p], h => by
    have := h p List.mem_cons_self
    show p.length ≤ (n + S.length) * 1
    omega
  | p :: q :: r, h => by
    have h1 := joinL_le (S := S) (q :: r) (fun x hx => h x (List.mem_cons_of_mem _ hx))
    have h2 := h p List.mem_cons_self
    show (p ++ (S ++ TL.joinL S (q :: r))).length ≤ (n + S.length) * ((q :: r).length + 1)
    rw [List.length_append, List.length_append, Nat.mul_add]
    omega
theorem tl_joinT (y : Str) (ws : List Str) : (Txt.join y ws).cps.toList = TL.joinL y.cps.toList (ws.map fun z => z.cps.toList) := by
  rw [TL.join_eq]
  exact TL.tl_join y ws
theorem sum_le {k : Nat} : ∀ ts : List Str, (∀ t ∈ ts, t.length ≤ k) → (ts.map (·.length)).sum ≤ k * ts.length
  | [], _ => Nat.zero_le _
  | t :: r, h => by
    rw [List.map_cons, List.sum_cons, List.length_cons, Nat.mul_succ]
    have h1 := h t List.mem_cons_self
    have h2 := sum_le r fun x hx => h x (List.mem_cons_of_mem _ hx)
    omega
theorem join_le {m : Str} {k : Nat} {ts : List Str} (h : ∀ t ∈ ts, t.length ≤ k) : (Txt.join m ts).length ≤ k * ts.length + ts.length * m.length := by
  rw [TL.join_eq, join_lenG]
  have h1 := sum_le ts h
  have h2 : (ts.length - 1) * m.length ≤ ts.length * m.length := Nat.mul_le_mul_right _ (Nat.sub_le _ _)
  omega
theorem ws12 : ∀ i : Fin 10, (ws i).length ≤ 12 := by decide +kernel
theorem lt12 : ∀ l : Fin 4, (Lt l).length ≤ 12 := by decide +kernel
theorem int12 : ∀ n : Fin 9, (partT (.int ((n.val : Int) + 1))).length ≤ 12 := by decide +kernel
theorem part12 {e : Ent} (ok : e.ok) : ∀ d ∈ e.parts, (partT d).length ≤ 12 ∧ ((∃ z, d = .str z) ∨ ∃ n : Nat, d = .int (n : Int) ∧ n ≤ 9) := by
  intro d hd
  rcases List.mem_cons.mp hd with hd | hd
  · rw [hd]
    exact ⟨ws12 _, .inl ⟨_, rfl⟩⟩
  have num : ∀ n : Fin 9, (partT (.int ((n.val : Int) + 1))).length ≤ 12 ∧ ((∃ z, PyData.int ((n.val : Int) + 1) = .str z) ∨ ∃ m : Nat, PyData.int ((n.val : Int) + 1) = .int (m : Int) ∧ m ≤ 9) := fun n => ⟨int12 n, .inr ⟨n.val + 1, by rw [Int.natCast_add]; rfl, by omega⟩⟩
  cases e with
  | face l => rw [List.mem_singleton.mp hd]; exact ⟨lt12 l, .inl ⟨_, rfl⟩⟩
  | go n => rw [List.mem_singleton.mp hd]; exact num n
  | sign z => rw [List.mem_singleton.mp hd]; exact ⟨ok.1, .inl ⟨_, rfl⟩⟩
  | spy n z =>
    rcases List.mem_cons.mp hd with hd | hd
    · rw [hd]; exact num n
    · rw [List.mem_singleton.mp hd]; exact ⟨ok.1, .inl ⟨_, rfl⟩⟩
  | turn q => cases hd
  | bump => cases hd
  | bare => cases hd
  | swap => cases hd
theorem three (e : Ent) : e.parts.length ≤ 3 := by
  cases e <;> first | exact (by decide : 1 ≤ 3) | exact (by decide : 2 ≤ 3) | exact (by decide : 3 ≤ 3)
theorem ent38 {e : Ent} (ok : e.ok) : (entT e.parts).length ≤ 39 := by
  have h := join_le (m := blank) (k := 12) (ts := e.parts.map partT) (fun t ht => by
    obtain ⟨d, hd, rfl⟩ := List.mem_map.mp ht
    exact (part12 ok d hd).1)
  rw [List.length_map, show blank.length = 1 by decide +kernel] at h
  have h3 := three e
  unfold entT
  omega
def NL (z : Str) : Prop := 10 ∉ z.cps.toList
theorem nl_app {a b : Str} (ha : NL a) (hb : NL b) : NL (a ++ b) := fun h => (app_mem h).elim ha hb
theorem nl_far {w z : Str} (hz : NL z) (h : ∀ c ∈ w.cps.toList, c ∈ z.cps.toList ∨ 32 ≤ c) : NL w := fun m => (h 10 m).elim hz (fun x => absurd x (by decide))
theorem join_memI {S : List Nat} {c : Nat} : ∀ {ps : List (List Nat)} {p : List Nat}, p ∈ ps → c ∈ p → c ∈ TL.joinL S ps
  | [q], p, hp, hc => by
    rw [List.mem_singleton.mp hp] at hc
    exact hc
  | q :: r :: ps, p, hp, hc => by
    show c ∈ q ++ (S ++ TL.joinL S (r :: ps))
    rcases List.mem_cons.mp hp with e | hp
    · rw [e] at hc
      exact List.mem_append.mpr (.inl hc)
    · exact List.mem_append.mpr (.inr (List.mem_append.mpr (.inr (join_memI hp hc))))
theorem nl_piece {z m w : Str} (hz : NL z) (h : w ∈ Txt.split z m) : NL w := fun hm => by
  have e := congrArg (fun s : Str => s.cps.toList) (StrLaws.join_split z m)
  refine hz ?_
  have e2 : (Txt.join m (Txt.split z m)).cps.toList = z.cps.toList := by rw [TL.join_eq]; exact e
  rw [← e2, tl_joinT]
  exact join_memI (List.mem_map.mpr ⟨w, h, rfl⟩) hm
theorem nl_join {m : Str} {ws : List Str} (hm : NL m) (h : ∀ w ∈ ws, NL w) : NL (Txt.join m ws) := fun hc => by
  rw [tl_joinT] at hc
  rcases joinL_mem _ hc with h1 | ⟨p, hp, hc⟩
  · exact hm h1
  · obtain ⟨w, hw, rfl⟩ := List.mem_map.mp hp
    exact h w hw hc
/-- lines, none longer than n -/
structure Ls (n m : Nat) (ws : List Str) : Prop where
  few : ws.length ≤ m
  short : ∀ w ∈ ws, w.length ≤ n
  nl : ∀ w ∈ ws, NL w
theorem Ls.mono {n m n' m' : Nat} {ws : List Str} (h : Ls n m ws) (a : n ≤ n') (b : m ≤ m') : Ls n' m' ws := ⟨Nat.le_trans h.few b, fun w hw => Nat.le_trans (h.short w hw) a, h.nl⟩
theorem Ls.set {n m : Nat} {ws : List Str} (h : Ls n m ws) {i : Nat} {x : Str} (hx : x.length ≤ n) (nx : NL x) : Ls n m (ws.set i x) := by
  refine ⟨by rw [List.length_set]; exact h.few, fun w hw => ?_, fun w hw => ?_⟩
  · rcases List.mem_or_eq_of_mem_set hw with hw | e
    · exact h.short w hw
    · rw [e]; exact hx
  · rcases List.mem_or_eq_of_mem_set hw with hw | e
    · exact h.nl w hw
    · rw [e]; exact nx
theorem Ls.sub {n m : Nat} {ws vs : List Str} (h : Ls n m ws) (hl : vs.length ≤ m) (hm : ∀ v ∈ vs, v ∈ ws) : Ls n m vs := ⟨hl, fun v hv => h.short v (hm v hv), fun v hv => h.nl v (hm v hv)⟩
theorem Ls.more {n m : Nat} {ws vs : List Str} {x : Str} (h : Ls n m ws) (hl : vs.length ≤ m + 1) (hx : x.length ≤ n) (nx : NL x) (hm : ∀ v ∈ vs, v = x ∨ v ∈ ws) : Ls n (m + 1) vs := ⟨hl, fun v hv => (hm v hv).elim (fun e => by rw [e]; exact hx) (h.short v), fun v hv => (hm v hv).elim (fun e => by rw [e]; exact nx) (h.nl v)⟩
theorem er_map {α β : Type} (f : α → β) : ∀ (l : List α) (i : Nat), (l.map f).eraseIdx i = (l.eraseIdx i).map f
  | [], _ => rfl
  | _ :: _, 0 => rfl
  | a :: l, i + 1 => congrArg (f a :: ·) (er_map f l i)
theorem cut_init (xs : List V) : cutV xs none (some (-1)) = xs.take (xs.length - 1) := by
  unfold cutV
  have e1 : HT.sIx xs.length 0 none = 0 := rfl
  have e2 : HT.sIx xs.length xs.length (some (-1)) = xs.length - 1 := by
    show (if (-1 : Int) < 0 then (-1 + (xs.length : Int)).toNat else min (-1 : Int).toNat xs.length) = _
    rw [if_pos (by decide)]
    omega
  rw [e1, e2]
  rfl
theorem sum_take (ys : List Str) (k : Nat) : ((ys.take k).map (·.length)).sum ≤ (ys.map (·.length)).sum := by
  have := congrArg (fun l : List Str => (l.map (·.length)).sum) (List.take_append_drop k ys)
  simp only [List.map_append, List.sum_append] at this
  omega
theorem NLd {z : Str} (h : decide (10 ∈ z.cps.toList) = false) : NL z := of_decide_eq_false h
def spBent : Sp := fun vs H Q _ => ∃ (p L : Addr) (ws : List Str) (n m : Nat), vs = [.ref p, .ref L] ∧ H L = some (.lst (ws.map V.str)) ∧ Pool H p ∧ ws ≠ [] ∧ Ls n m ws ∧ n ≤ 450 ∧ m ≤ 10 ∧ ∀ H' L' ws', But p H H' → Pool H' p → H' L' = some (.lst (ws'.map V.str)) → L' ≠ p → ws' ≠ [] → Ls (n + 100) (m + 1) ws' → Q (.ref L') H'
theorem ok_Lbent (T : Top w K mg) : FnOk P w K mg base CX0 3 T.a_Lbent T.fd_Lbent ["_law_pool_here", "_law_lines"] spBent := by
  have G_Ltake := ok_Ltake (P := P) (w := w) (base := base) T
  have G_Lspoilt_text := ok_Lspoilt_text (P := P) (w := w) (base := base) T
  refine T.F_Lbent.ok sc_Lbent (fun vs H Q E h => ?_) (fun cdv A outer s H vs Q E hr h => ?_)
  · obtain ⟨p, L, ws, n, m, rfl, _⟩ := h
    rfl
  · obtain ⟨p, L, ws, n, m, rfl, eL, hp, ne, hls, hn, hm, q⟩ := h
    refine ⟨_, (pss_cons (ps_set (i := 2) sc_Lbent.nd rfl (.inl rfl) (pe_call G_Ltake (hr.mono (by decide)) (by rfl) T.g_Ltake T.F_Ltake.kp T.b_Ltake .nil pass0 (pa_cons (pv 0) (pa_cons pe_int pa_nil))))
      (pss_cons (ps_par (i := 3) (j := 4) (by rfl) sc_Lbent.nd rfl rfl (by decide) rfl rfl (pa_cons (pe_call G_Ltake (hr.mono (by decide)) (by rfl) T.g_Ltake T.F_Ltake.kp T.b_Ltake .nil pass0 (pa_cons (pv 0) (pa_cons (pe_callB call_len_seq (by rfl) T.m_len (by decide +kernel) (pa_cons (pv 1) pa_nil)) pa_nil))) (pa_cons (pe_call G_Ltake (hr.mono (by decide)) (by rfl) T.g_Ltake T.F_Ltake.kp T.b_Ltake .nil pass0 (pa_cons (pv 0) (pa_cons (pe_callB call_len_seq (by rfl) T.m_len (by decide +kernel) (pa_cons (pv 1) pa_nil)) pa_nil))) pa_nil)) (by rfl))
      (pss_cons (ps_set (i := 1) sc_Lbent.nd rfl (.inl rfl) (pe_callTy call_list_of (by rfl) T.m_list (by decide +kernel) (pa_cons (pv 1) pa_nil)))
      (Evl.pss_cut (ps_if (pt_cmpR op_lt (pv 2) pe_int (nomark _)) (pss_one (ps_asg (pe_call G_Lspoilt_text hr (by rfl) T.g_Lspoilt_text T.F_Lspoilt_text.kp T.b_Lspoilt_text .nil pass0 (pa_cons (pv 0) (pa_cons (pe_ix ix_list (pv 1) (pv 3) (fun _ _ => rfl)) pa_nil))) (pg_sub (pv 1) (pv 3) set_list))) (pss_one (ps_if (pt_cmpR op_eq (pv 2) pe_int (nomark _)) (pss_one (ps_expr (pe_bm PySem.F.plainAttrs_list PySem.F.slot_list_pop PySem.F.type_list_pop mt_popAt (pv 1) (pa_cons (pv 3) pa_nil)))) (pss_one (ps_if (pt_cmpR op_eq (pv 2) pe_int (nomark _)) (pss_one (ps_expr (pe_bm PySem.F.plainAttrs_list PySem.F.slot_list_insert PySem.F.type_list_insert mt_insert (pv 1) (pa_cons (pv 4) (pa_cons (pe_ix ix_list (pv 1) (pv 3) (fun _ _ => rfl)) pa_nil))))) (pss_one (ps_if (pt_cmpR op_eq (pv 2) pe_int (nomark _)) (pss_one (ps_asg (pe_tup (pa_cons (pe_ix ix_list (pv 1) (pv 4) (fun _ _ => rfl)) (pa_cons (pe_ix ix_list (pv 1) (pv 3) (fun _ _ => rfl)) pa_nil))) (pg_tup rfl (pgs_cons (pg_sub (pv 1) (pv 3) set_list) (pgs_cons (pg_sub (pv 1) (pv 4) set_list) pgs_nil))))) (pss_one (ps_if (pt_cmpR op_eq (pv 2) pe_int (nomark _)) (pss_one (ps_expr (pe_bm PySem.F.plainAttrs_list PySem.F.slot_list_insert PySem.F.type_list_insert mt_insert (pv 1) (pa_cons (pe_op op_add (pv 3) (pe_call G_Ltake (hr.mono (by decide)) (by rfl) T.g_Ltake T.F_Ltake.kp T.b_Ltake .nil pass0 (pa_cons (pv 0) (pa_cons pe_int pa_nil)))) (pa_cons pe_str pa_nil))))) (pss_one (ps_if (pt_cmpR op_eq (pv 2) pe_int (nomark _)) (Evl.pss_cut (ps_asg (pe_op op_add_str (pe_ix ix_list (pv 1) pe_int (fun _ _ => rfl)) (pe_ix ix_tup (pe_tup (pa_cons pe_str (pa_cons pe_str (pa_cons (pe_op op_add_str pe_str (pe_op op_mulT pe_str pe_int)) (pa_cons pe_str pa_nil))))) (pe_call G_Ltake (hr.mono (by decide)) (by rfl) T.g_Ltake T.F_Ltake.kp T.b_Ltake .nil pass0 (pa_cons (pv 0) (pa_cons pe_int pa_nil))) (fun _ _ => rfl))) (pg_sub (pv 1) pe_int set_list))
      (pss_one (ps_if (pt_cmpR op_eq (pe_call G_Ltake (hr.mono (by decide)) (by rfl) T.g_Ltake T.F_Ltake.kp T.b_Ltake .nil pass0 (pa_cons (pv 0) (pa_cons pe_int pa_nil))) pe_int (nomark _)) (pss_one (ps_asg (pe_bm PySem.F.plainAttrs_str PySem.F.slot_str_join PySem.F.type_str_join mt_join pe_str (pa_cons (pe_op op_cat (pe_slice sl_list (pe_bm PySem.F.plainAttrs_str PySem.F.slot_str_split PySem.F.type_str_split mt_split (pe_ix ix_list (pv 1) pe_int (fun _ _ => rfl)) (pa_cons pe_str pa_nil)) po_none (po_some (pe_un un_neg pe_int))) (pe_lst (pa_cons (pe_op op_mulT pe_str (pe_op op_add pe_int (pe_call G_Ltake (hr.mono (by decide)) (by rfl) T.g_Ltake T.F_Ltake.kp T.b_Ltake .nil pass0 (pa_cons (pv 0) (pa_cons pe_int pa_nil))))) pa_nil))) pa_nil)) (pg_sub (pv 1) pe_int set_list))) pss_nil))) (pss_cons (ps_set (i := 5) sc_Lbent.nd rfl (.inl rfl) (pe_tup (pa_cons pe_str (pa_cons pe_str (pa_cons pe_str (pa_cons pe_str (pa_cons pe_str (pa_cons pe_str pa_nil))))))))
      (pss_one (ps_expr (pe_bm PySem.F.plainAttrs_list PySem.F.slot_list_append PySem.F.type_list_append mt_append (pv 1) (pa_cons (pe_ix ix_tup (pv 5) (pe_call G_Ltake (hr.mono (by decide)) (by rfl) T.g_Ltake T.F_Ltake.kp T.b_Ltake .nil pass0 (pa_cons (pv 0) (pa_cons pe_int pa_nil))) (fun _ _ => rfl)) pa_nil))))))))))))))))
      (pss_one (ps_ret (pe_ifExp (pt_cmpR op_gt (pe_callB call_len_seq (by rfl) T.m_len (by decide +kernel) (pa_cons (pv 1) pa_nil)) pe_int (nomark _)) (pv 1) (pe_lst (pa_cons pe_str pa_nil))))))))), ?_⟩
    have nLp : L ≠ p := fun z => by
      obtain ⟨_, _, _, _, _, hp1⟩ := hp
      rw [z, hp1] at eL
      cases ws with
      | nil => exact ne rfl
      | cons a r => cases eL
    have lp : 1 ≤ ws.length := List.length_pos_iff.mpr ne
    have few := hls.few
    refine ⟨.ref p, rfl, p, 9, rfl, by decide, by decide, hp, fun H1 k b1 hp1 k0 k1 => ?_⟩
    have eL1 := b1 _ _ nLp eL
    refine ⟨.ref p, rfl, .ref L, rfl, L, _, rfl, .inl (.inl (.inl eL1)), p, _, rfl, by rw [List.length_map]; omega, by rw [List.length_map]; omega, hp1, fun H2 ai b2 hp2 a0 a1 => ?_⟩
    have eL2 := b2 _ _ nLp eL1
    refine ⟨.ref p, rfl, .ref L, rfl, L, _, rfl, .inl (.inl (.inl eL2)), p, _, rfl, by rw [List.length_map]; omega, by rw [List.length_map]; omega, hp2, fun H3 ti b3 hp3 t0 t1 => ?_⟩
    have eL3 := b3 _ _ nLp eL2
    have b03 := (b1.trans b2).trans b3
    rw [List.length_map] at a1 t1
    obtain ⟨a, rfl⟩ : ∃ a : Nat, ai = a := ⟨ai.toNat, by omega⟩
    obtain ⟨t, rfl⟩ : ∃ t : Nat, ti = t := ⟨ti.toNat, by omega⟩
    obtain ⟨xa, fa⟩ : ∃ xa, ws[a]? = some xa := ⟨_, List.getElem?_eq_getElem (by omega)⟩
    obtain ⟨xt, ft⟩ : ∃ xt, ws[t]? = some xt := ⟨_, List.getElem?_eq_getElem (by omega)⟩
    have la := hls.short _ (List.mem_of_getElem? fa)
    have lt := hls.short _ (List.mem_of_getElem? ft)
    have na := hls.nl _ (List.mem_of_getElem? fa)
    have nt := hls.nl _ (List.mem_of_getElem? ft)
    have va : (ws.map V.str)[a]? = some (.str xa) := by rw [List.getElem?_map, fa]; rfl
    have vt : (ws.map V.str)[t]? = some (.str xt) := by rw [List.getElem?_map, ft]; rfl
    refine ⟨_, _, rfl, ?_⟩
    refine ⟨.ref L, rfl, L, _, rfl, .inl (.inl (.inl eL3)), fun B nB => ?_⟩
    have sB := same_upd (o := .lst (ws.map V.str)) nB
    have eB : upd H3 B (.lst (ws.map V.str)) B = some (.lst (ws.map V.str)) := upd_same
    have hpB := hp3.same sB
    have nBp : B ≠ p := hp3.ne_new nB
    have nB0 : H B = none := b03.free nBp nB
    have b04 := b03.trans (But.of sB)
    generalize upd H3 B (.lst (ws.map V.str)) = H4 at sB eB hpB b04 ⊢
    refine ⟨fun σ H' => But p H H' ∧ Pool H' p ∧ ∃ (y5 : Option V) (ws' : List Str), σ = [some (.ref p), some (.ref B), some (.int k), some (.int a), some (.int t), y5] ∧ H' B = some (.lst (ws'.map V.str)) ∧ Ls (n + 100) (m + 1) ws', ?_, ?_⟩
    rotate_left
    · rintro σ H5 ⟨b5, hp5, y5, ws', rfl, eB5, hls5⟩
      refine ⟨.ref B, rfl, B, _, rfl, .inl (.inl (.inl eB5)), _, _, rfl, rfl, _, rfl, ?_⟩
      rw [List.length_map]
      by_cases w0 : ws' = []
      · subst w0
        refine iteDN (decide_eq_false (by decide)) ⟨by show 1 ≤ sizeLine; decide, fun L2 nL2 => ?_⟩
        have s6 := same_upd (o := .lst [.str ""]) nL2
        exact q _ L2 [PySem.Str.ofString ""] (b5.trans (But.of s6)) (hp5.same s6) upd_same (hp5.ne_new nL2) (fun z => nomatch z) ⟨by show 1 ≤ m + 1; omega, fun w hw => by rw [List.mem_singleton.mp hw]; exact Nat.zero_le _, fun w hw => by rw [List.mem_singleton.mp hw]; exact NLd (by decide +kernel)⟩
      · have := List.length_pos_iff.mpr w0
        exact iteDY (decide_eq_true (by omega)) ⟨.ref B, rfl, q _ B ws' b5 hp5 eB5 nBp w0 hls5⟩
    · have fin : ∀ (H' : Hp) (y5 : Option V) (ws' : List Str), But p H H' → Pool H' p → H' B = some (.lst (ws'.map V.str)) → Ls (n + 100) (m + 1) ws' → (But p H H' ∧ Pool H' p ∧ ∃ (y5' : Option V) (ws' : List Str), [some (.ref p), some (.ref B), some (.int k), some (.int a), some (.int t), y5] = [some (.ref p), some (.ref B), some (.int k), some (.int a), some (.int t), y5'] ∧ H' B = some (.lst (ws'.map V.str)) ∧ Ls (n + 100) (m + 1) ws') := fun H' y5 ws' h1 h2 h3 h4 => ⟨h1, h2, y5, ws', rfl, h3, h4⟩
      have hls1 := hls.mono (Nat.le_add_right n 100) (Nat.le_succ m)
      refine ⟨.int k, rfl, _, _, rfl, rfl, _, rfl, ite2 (fun e => ?_) (fun e => ?_)⟩
      · refine ⟨.ref p, rfl, .ref B, rfl, .int a, rfl, B, _, _, .str xa, rfl, rfl, .inl (.inl eB), atI_nat va, p, xa, rfl, by omega, hpB, fun H5 w b5 hp5 lw cw => ?_⟩
        have eB5 := b5 _ _ nBp eB
        refine ⟨.ref B, rfl, .int a, rfl, B, _, _, a, rfl, rfl, eB5, Evl.ixN_nat (by rw [List.length_map]; omega), ?_⟩
        refine fin _ none (ws.set a w) ((b04.trans b5).mut nB0) (hp5.upd nBp) ?_ (hls1.set (by omega) (nl_far na cw))
        rw [upd_same, ← List.map_set]
      refine ⟨.int k, rfl, rfl, _, rfl, ite2 (fun e => ?_) (fun e => ?_)⟩
      · refine ⟨.ref B, rfl, .inl ⟨rfl, _, .inl (.inl eB)⟩, .int a, rfl, B, _, (a : Int), a, .str xa, rfl, rfl, eB, by omega, by omega, (seqIndex_of (k := (a : Int)) (by omega) (by rw [List.length_map]; omega)).trans (by rw [Int.toNat_natCast]), va, ?_⟩
        refine fin _ none (ws.eraseIdx a) (b04.mut nB0) (hpB.upd nBp) ?_ (hls1.sub (Nat.le_trans (List.length_eraseIdx_le _ _) (by omega)) fun v hv => List.mem_of_mem_eraseIdx hv)
        rw [upd_same, er_map]
      refine ⟨.int k, rfl, rfl, _, rfl, ite2 (fun e => ?_) (fun e => ?_)⟩
      · refine ⟨.ref B, rfl, .inl ⟨rfl, _, .inl (.inl eB)⟩, .int t, rfl, .ref B, rfl, .int a, rfl, B, _, _, .str xa, rfl, rfl, .inl (.inl eB), atI_nat va, B, _, _, _, rfl, rfl, eB, by rw [List.length_map]; exact small1000 (by omega), by omega, by omega, ?_⟩
        refine fin _ none (ws.take t ++ [xa] ++ ws.drop t) (b04.mut nB0) (hpB.upd nBp) ?_ ((hls.mono (Nat.le_add_right n 100) (Nat.le_refl m)).more ?_ (by omega) na fun v hv => ?_)
        · rw [upd_same, Int.toNat_natCast, List.map_append, List.map_append, List.map_take, List.map_drop]
          rfl
        · rw [List.length_append, List.length_append, List.length_take, List.length_drop]
          show min t ws.length + 1 + (ws.length - t) ≤ _
          omega
        · rcases List.mem_append.mp hv with hv | hv
          · rcases List.mem_append.mp hv with hv | hv
            · exact .inr (List.mem_of_mem_take hv)
            · exact .inl (List.mem_singleton.mp hv)
          · exact .inr (List.mem_of_mem_drop hv)
      refine ⟨.int k, rfl, rfl, _, rfl, ite2 (fun e => ?_) (fun e => ?_)⟩
      · refine ⟨.ref B, rfl, .int t, rfl, B, _, _, .str xt, rfl, rfl, .inl (.inl eB), atI_nat vt, .ref B, rfl, .int a, rfl, B, _, _, .str xa, rfl, rfl, .inl (.inl eB), atI_nat va, by show 2 ≤ sizeLine; decide, fun tt ntt => ?_⟩
        have stt := same_upd (o := .tup [.str xt, .str xa]) ntt
        have eB6 := stt _ _ eB
        have nBt : B ≠ tt := ne_of_none eB ntt
        refine ⟨tt, _, rfl, .inl (.inl upd_same), rfl, _, _, rfl, ?_⟩
        refine ⟨.ref B, rfl, .int a, rfl, B, _, _, a, rfl, rfl, eB6, Evl.ixN_nat (by rw [List.length_map]; omega), _, _, rfl, ?_⟩
        refine ⟨.ref B, rfl, .int t, rfl, B, _, _, t, rfl, rfl, upd_same, Evl.ixN_nat (by rw [List.length_set, List.length_map]; omega), rfl, ?_⟩
        refine fin _ none ((ws.set a xt).set t xa) (((b04.trans (But.of stt)).mut nB0).mut nB0) (((hpB.same stt).upd nBp).upd nBp) ?_ ((hls1.set (by omega) nt).set (by omega) na)
        rw [upd_same, List.map_set, List.map_set]
      refine ⟨.int k, rfl, rfl, _, rfl, ite2 (fun e => ?_) (fun e => ?_)⟩
      · refine ⟨.ref B, rfl, .inl ⟨rfl, _, .inl (.inl eB)⟩, .int a, rfl, .ref p, rfl, p, 2, rfl, by decide, by decide, hpB, fun H5 j b5 hp5 j0 j1 => ?_⟩
        have eB5 := b5 _ _ nBp eB
        obtain ⟨jj, rfl⟩ : ∃ jj : Nat, j = jj := ⟨j.toNat, by omega⟩
        refine ⟨_, _, rfl, rfl, B, _, _, _, rfl, rfl, eB5, by rw [List.length_map]; exact small1000 (by omega), by omega, by omega, ?_⟩
        refine fin _ none (ws.take (a + jj) ++ [PySem.Str.ofString ""] ++ ws.drop (a + jj)) ((b04.trans b5).mut nB0) (hp5.upd nBp) ?_ ((hls.mono (Nat.le_add_right n 100) (Nat.le_refl m)).more (x := PySem.Str.ofString "") ?_ (Nat.zero_le _) (NLd (by decide +kernel)) fun v hv => ?_)
        · rw [upd_same, show ((a : Int) + (jj : Int)).toNat = a + jj by omega, List.map_append, List.map_append, List.map_take, List.map_drop]
          rfl
        · rw [List.length_append, List.length_append, List.length_take, List.length_drop]
          show min (a + jj) ws.length + 1 + (ws.length - (a + jj)) ≤ _
          omega
        · rcases List.mem_append.mp hv with hv | hv
          · rcases List.mem_append.mp hv with hv | hv
            · exact .inr (List.mem_of_mem_take hv)
            · exact .inl (List.mem_singleton.mp hv)
          · exact .inr (List.mem_of_mem_drop hv)
      refine ⟨.int k, rfl, rfl, _, rfl, ite2 (fun e => ?_) (fun e => ?_)⟩
      · obtain ⟨x0, r, e0⟩ : ∃ x0 r, ws = x0 :: r := by
          cases ws with
          | nil => exact absurd rfl ne
          | cons x0 r => exact ⟨x0, r, rfl⟩
        have l0 := hls.short x0 (by rw [e0]; exact List.mem_cons_self)
        have n0 := hls.nl x0 (by rw [e0]; exact List.mem_cons_self)
        have v0 : ∀ {ys : List Str} {y : Str}, atI ((y :: ys).map V.str) 0 = some (.str y) := fun {ys y} => at0
        have hm1 := mul_one 49 (n := 40) (by decide)
        refine ⟨fun σ H' => But p H H' ∧ Pool H' p ∧ ∃ y r', σ = [some (.ref p), some (.ref B), some (.int k), some (.int a), some (.int t), none] ∧ H' B = some (.lst ((y :: r').map V.str)) ∧ y.length ≤ n + 41 ∧ NL y ∧ Ls (n + 41) m (y :: r'), ?_, ?_⟩
        · rw [show PySem.Str.ofString "1" = ⟨#[49]⟩ from by decide +kernel]
          refine ⟨.ref B, rfl, B, _, 0, .str x0, rfl, rfl, .inl (.inl eB), by rw [e0]; exact v0, _, _, rfl, rfl, by decide, by decide, by decide, _, _, rfl, rfl, ?_, by show 4 ≤ sizeLine; decide, fun tt ntt => ?_⟩
          · have := hm1.1
            rw [show (PySem.Str.ofString " ").length = 1 by decide +kernel]
            exact thou (by omega)
          have stt := same_upd (o := .tup [.str " 0", .str " 01", .str (PySem.Str.ofString " " ++ Txt.mul ⟨#[49]⟩ 40), .str ""]) ntt
          refine ⟨.ref p, rfl, p, 4, rfl, by decide, by decide, hpB.same stt, fun H5 j b5 hp5 j0 j1 => ?_⟩
          have ett := b5 _ _ (hpB.ne_new ntt) upd_same
          obtain ⟨y, ey, ly, ny⟩ : ∃ y : Str, atI [V.str " 0", .str " 01", .str (PySem.Str.ofString " " ++ Txt.mul ⟨#[49]⟩ 40), .str ""] j = some (.str y) ∧ y.length ≤ 41 ∧ NL y := by
            obtain rfl | rfl | rfl | rfl : j = 0 ∨ j = 1 ∨ j = 2 ∨ j = 3 := by omega
            · exact ⟨_, rfl, by decide +kernel, NLd (by decide +kernel)⟩
            · exact ⟨_, rfl, by decide +kernel, NLd (by decide +kernel)⟩
            · refine ⟨_, rfl, ?_, nl_app (NLd (by decide +kernel)) fun h => absurd (hm1.2 10 h) (by decide)⟩
              have := hm1.1
              rw [app_lenT, show (PySem.Str.ofString " ").length = 1 by decide +kernel]
              omega
            · exact ⟨_, rfl, by decide +kernel, NLd (by decide +kernel)⟩
          have eB5 := b5 _ _ nBp (stt _ _ eB)
          refine ⟨tt, _, j, .str y, rfl, rfl, .inl (.inl ett), ey, _, _, rfl, rfl, Nat.le_trans (show x0.length + y.length ≤ 1000 by omega) (by decide), .ref B, rfl, B, _, _, 0, rfl, rfl, eB5, Evl.ixN_nat (j := 0) (by rw [List.length_map]; exact lp), ?_⟩
          refine ⟨((b04.trans (But.of stt)).trans b5).mut nB0, hp5.upd nBp, x0 ++ y, r, rfl, ?_, by rw [app_lenT]; omega, nl_app n0 ny, ?_⟩
          · rw [upd_same, e0]
            rfl
          · rw [e0] at hls
            exact (hls.mono (Nat.le_add_right n 41) (Nat.le_refl m)).set (i := 0) (by rw [app_lenT]; omega) (nl_app n0 ny)
        rintro σ H5 ⟨b5, hp5, y, r', rfl, eB5, ly, ny, hls5⟩
        refine ⟨.ref p, rfl, p, 2, rfl, by decide, by decide, hp5, fun H6 j b6 hp6 j0 j1 => ⟨rfl, _, rfl, ite2 (fun e => ?_) (fun e => ?_)⟩⟩
        rotate_left
        · exact fin _ none (y :: r') (b5.trans b6) hp6 (b6 _ _ nBp eB5) (hls5.mono (by omega) (by omega))
        have eB6 := b6 _ _ nBp eB5
        refine ⟨rfl, .ref B, rfl, B, _, 0, .str y, rfl, rfl, .inl (.inl eB6), at0, rfl, _, _, rfl, rfl, by decide +kernel, Nat.le_trans (show y.length + 2 ≤ 1000 by omega) (by decide), fun W nW => ?_⟩
        have ssum := split_sum y blank
        have scnt := split_cnt (z := y) (m := blank) (by decide +kernel)
        rw [show blank.length = 1 by decide +kernel] at ssum
        have snl : ∀ v ∈ Txt.split y blank, NL v := fun v hv => nl_piece ny hv
        have hpW := hp6.same (same_upd (o := .lst ((Txt.split y blank).map V.str)) nW)
        have sW := same_upd (o := .lst ((Txt.split y blank).map V.str)) nW
        have eW : upd H6 W (.lst ((Txt.split y blank).map V.str)) W = some (.lst ((Txt.split y blank).map V.str)) := upd_same
        rw [show Txt.split y (PySem.Str.ofString " ") = Txt.split y blank from rfl]
        generalize Txt.split y blank = vs at ssum scnt snl hpW sW eW ⊢
        generalize upd H6 W (.lst (vs.map V.str)) = H7 at hpW sW eW ⊢
        refine ⟨1, rfl, -1, rfl, W, _, rfl, .inl (.inl eW), fun S nS => ?_⟩
        rw [cut_init, List.length_map, ← List.map_take]
        have sS := same_upd (o := .lst ((vs.take (vs.length - 1)).map V.str)) nS
        have eS : upd H7 S (.lst ((vs.take (vs.length - 1)).map V.str)) S = some (.lst ((vs.take (vs.length - 1)).map V.str)) := upd_same
        have hpS := hpW.same sS
        have nSp : S ≠ p := hpW.ne_new nS
        generalize upd H7 S (.lst ((vs.take (vs.length - 1)).map V.str)) = H8 at sS eS hpS ⊢
        rw [show PySem.Str.ofString "1" = ⟨#[49]⟩ from by decide +kernel]
        refine ⟨.ref p, rfl, p, 9, rfl, by decide, by decide, hpS, fun H9 i b9 hp9 i0 i1 => ?_⟩
        have hm2 := mul_one 49 (n := 31 + i) (by omega)
        refine ⟨31, i, rfl, rfl, _, 31 + i, rfl, rfl, by decide, by omega, by omega, by show 1 ≤ sizeLine; decide, fun L7 nL7 => ?_⟩
        generalize Txt.mul ⟨#[49]⟩ (31 + i) = num at hm2 nL7 ⊢
        have sL7 := same_upd (o := .lst [.str num]) nL7
        have ltk : (vs.take (vs.length - 1)).length ≤ vs.length := by rw [List.length_take]; omega
        refine ⟨S, L7, _, _, rfl, rfl, sL7 _ _ (b9 _ _ nSp eS), upd_same, ?_, fun C nC => ?_⟩
        · rw [List.length_map]
          show _ + 1 ≤ sizeLine
          exact thou (by omega)
        have sC := same_upd (o := .lst ((vs.take (vs.length - 1)).map V.str ++ [.str num])) nC
        have stk := sum_take vs (vs.length - 1)
        have hlen : (Txt.join (PySem.Str.ofString " ") (vs.take (vs.length - 1) ++ [num])).length ≤ y.length + 40 := by
          rw [TL.join_eq, join_lenG, List.map_append, List.sum_append, show (PySem.Str.ofString " ").length = 1 by decide +kernel, List.length_append, List.length_take]
          show _ + num.length + (min (vs.length - 1) vs.length + 1 - 1) * 1 ≤ _
          have := hm2.1
          omega
        refine ⟨PySem.Str.ofString " ", C, vs.take (vs.length - 1) ++ [num], rfl, rfl, .inl (.inl (.inl ?_)), ?_, ?_⟩
        · rw [List.map_append]
          exact upd_same
        · rw [List.map_append, List.sum_append, show (PySem.Str.ofString " ").length = 1 by decide +kernel, List.length_append, List.length_take]
          show _ + num.length + (min (vs.length - 1) vs.length + 1) * 1 ≤ _
          have := hm2.1
          omega
        have b6C : But p H6 (upd (upd H9 L7 (.lst [.str num])) C (.lst ((vs.take (vs.length - 1)).map V.str ++ [.str num]))) := ((((But.of sW).trans (But.of sS)).trans b9).trans (But.of sL7)).trans (But.of sC)
        have hnl : NL (Txt.join (PySem.Str.ofString " ") (vs.take (vs.length - 1) ++ [num])) := nl_join (NLd (by decide +kernel)) fun v hv => (List.mem_append.mp hv).elim (fun h => snl v (List.mem_of_mem_take h)) fun h => by
          rw [List.mem_singleton.mp h]
          exact fun h => absurd (hm2.2 10 h) (by decide)
        generalize Txt.join (PySem.Str.ofString " ") (vs.take (vs.length - 1) ++ [num]) = jo at hlen hnl ⊢
        refine ⟨.ref B, rfl, B, _, _, 0, rfl, rfl, b6C _ _ nBp eB6, Evl.ixN_nat (j := 0) (by rw [List.length_map]; exact Nat.succ_pos _), ?_⟩
        refine fin _ none (jo :: r') (((b5.trans b6).trans b6C).mut nB0) (((hp9.same sL7).same sC).upd nBp) (by rw [upd_same]; rfl) ((hls5.mono (show n + 41 ≤ n + 100 by omega) (Nat.le_succ m)).set (i := 0) (by omega) hnl)
      · have all : ∀ j : Int, 0 ≤ j → j < 6 → ∃ y : Str, atI [V.str "Oak: -", .str "zzzzzzzzz: -", .str "zzzzzzzz: -", .str "zzzzzzzz:-", .str "zzzzzzzz: left", .str "box 1"] j = some (.str y) ∧ y.length ≤ 20 ∧ NL y := fun j j0 j1 => by
          obtain rfl | rfl | rfl | rfl | rfl | rfl : j = 0 ∨ j = 1 ∨ j = 2 ∨ j = 3 ∨ j = 4 ∨ j = 5 := by omega
          all_goals exact ⟨_, rfl, by decide +kernel, NLd (by decide +kernel)⟩
        refine ⟨by show 6 ≤ sizeLine; decide, fun tt ntt => ?_⟩
        have stt := same_upd (o := .tup [.str "Oak: -", .str "zzzzzzzzz: -", .str "zzzzzzzz: -", .str "zzzzzzzz:-", .str "zzzzzzzz: left", .str "box 1"]) ntt
        refine ⟨.ref B, rfl, .inl ⟨rfl, _, .inl (.inl (stt _ _ eB))⟩, _, rfl, .ref p, rfl, p, 6, rfl, by decide, by decide, hpB.same stt, fun H5 j b5 hp5 j0 j1 => ?_⟩
        obtain ⟨y, ey, ly, ny⟩ := all j j0 j1
        have ett := b5 _ _ (hpB.ne_new ntt) upd_same
        have eB5 := b5 _ _ nBp (stt _ _ eB)
        refine ⟨tt, _, j, .str y, rfl, rfl, .inl (.inl ett), ey, B, _, _, rfl, rfl, eB5, by rw [List.length_map]; exact small1000 (by omega), ?_⟩
        refine ⟨((b04.trans (But.of stt)).trans b5).mut nB0, hp5.upd nBp, _, ws ++ [y], rfl, ?_, (hls.mono (Nat.le_add_right n 100) (Nat.le_refl m)).more (x := y) (by rw [List.length_append]; show _ + 1 ≤ _; omega) (by omega) ny fun v hv => (List.mem_append.mp hv).elim .inr fun h => .inl (List.mem_singleton.mp h)⟩
        rw [upd_same, List.map_append]
        rfl
--@@SPLIT
/-! ### the sum of a tuple of whole numbers -/
namespace SumT
open PySem PySem.Spec PyProof.Rows L2
theorem sum_of {prog : Program} {w : World} {A : Around} {E : Value → Shared → Prop} {s : Shared} {l : Addr} {its : List Value} {ns : List Int} {Q : Value → Shared → Prop} (calm : A.handled = none) (tup : s.heap.IsTuple l its.toArray) (are : IntsAre its ns)
    (q : ∀ h' tk t', (∀ b o, s.heap.get? b = some o → h'.get? b = some o) → Q (.int ns.sum t') { s with heap := h', toks := tk }) : wpAny (model prog w) A (call (.builtin "sum") [.ref l]) Q E s := by
  obtain ⟨zs, ez⟩ := are.allInts.items
  have en : numsOf (intItems zs).toList = ns := ez ▸ are.numsOf
  rw [nums_intItems] at en
  rw [ez] at tup
  have low : l < s.heap.objs.size := by
    obtain ⟨_, z, _⟩ := tup
    exact Heap.lt_size z
  refine call_sum_walkG (wpAny_pyIter_tuple tup ⟨_, [s.heap.objs.size, l], [s.heap.objs.size], _, _, _, numAt zs, rfl, Walks.tuple (A := A.in1) calm _ l (Nat.ne_of_lt low) (intItems zs), ⟨⟨_, Heap.get?_push_size _ rfl, rfl, rfl⟩, tup.push _⟩, fun b hb => ?_, (fun _ _ => intItems_at), fun h' tk t' hk => ?_⟩)
  · show b < (s.heap.push _).objs.size
    rw [Heap.size_push]
    simp only [List.mem_cons, List.not_mem_nil, or_false] at hb
    rcases hb with z | z <;> rw [z]
    · exact Nat.lt_succ_self _
    · exact Nat.lt_succ_of_lt low
  · have z := q h' tk t' fun b o e => hk b o (fun m => by rw [List.mem_singleton.mp m] at e; exact absurd (Heap.lt_size e) (Nat.lt_irrefl _)) (Heap.get?_push_of_some _ e)
    rw [preSum_eq, List.take_of_length_le (by simp [intItems]), en]
    exact z
def rSumT (K : PySem.W.Frag) : List V → Hp → VK → Prop := fun vs H Q => ∃ (a : Addr) (ns : List Int), vs = [V.ref a] ∧ SqT K H a (ns.map V.int) ∧ Q (.int ns.sum) H
theorem cr_sumT {X : Cx} (hc : X.calm = true) : CallR X (.builtin "sum") (rSumT X.K) := fun pins s σ H vs us Q I r h => by
  obtain ⟨a, ns, rfl, hs, q⟩ := h
  obtain ⟨its, rv, tup, _⟩ := I.tuple hs
  rw [Vals.ref1 r]
  exact sum_of (I.ok.hd hc) tup rv.ints fun h' tk t' hk => ⟨.int _, H, I.kept hk, ⟨_, rfl⟩, q⟩
end SumT
/-! ### the law -/
def dueD (z : Str) : PyData := match readA z with
  | .inl i => noD i
  | .inr (box, qs) => .tuple [.str "told", boxPD box, .tuple (qs.map fun q => PyData.str q.1), .tuple (qs.map fun q => PyData.tuple q.2)]
theorem told_due {z : Str} {box : List Nat} {rs : List Row} (h : readA z = .inr (box, rs.map dRow)) : toldD box rs = dueD z := by
  unfold dueD toldD nms
  rw [h]
  simp only [List.map_map]
  rfl
theorem no_due {z : Str} {i : Nat} (h : readA z = .inl i) : noD i = dueD z := by
  unfold dueD
  rw [h]
theorem toldD_ok {box : List Nat} {rs : List Row} (h8 : box.length = 8) (l : rs.length ≤ 20) (ok : ∀ r ∈ rs, RowOk r) : okD 4 (toldD box rs) = true := by
  have a : okD 3 (boxPD box) = true := Bool.and_eq_true_iff.mpr ⟨decide_eq_true (by rw [List.length_map]; omega), List.all_eq_true.mpr fun d hd => by obtain ⟨n, _, rfl⟩ := List.mem_map.mp hd; rfl⟩
  have b : okD 3 (.tuple ((nms rs).map PyData.str)) = true := Bool.and_eq_true_iff.mpr ⟨decide_eq_true (by unfold nms; rw [List.length_map, List.length_map]; omega), List.all_eq_true.mpr fun d hd => by obtain ⟨n, _, rfl⟩ := List.mem_map.mp hd; rfl⟩
  have c : okD 3 (.tuple (rs.map logD)) = true := Bool.and_eq_true_iff.mpr ⟨decide_eq_true (by rw [List.length_map]; omega), List.all_eq_true.mpr fun d hd => by obtain ⟨r, hr, rfl⟩ := List.mem_map.mp hd; exact log_okD (by have := (ok r hr).len; omega)⟩
  show (true && (okD 3 (.str "told") && (okD 3 (boxPD box) && (okD 3 (.tuple ((nms rs).map PyData.str)) && (okD 3 (.tuple (rs.map logD)) && true))))) = true
  rw [a, b, c]
  rfl
theorem lines_join {ws : List Str} {n m : Nat} (h : Ls n m ws) (hn : n ≤ 560) (hm : m ≤ 10) (ne : ws ≠ []) : Lines (Txt.join nl ws) := by
  have e : linesT (Txt.join nl ws) = ws := by
    cases ws with
    | nil => exact absurd rfl ne
    | cons w r => exact TL.split_join (s := 10) (S := []) nl_tl (by decide +kernel) (fun z => nomatch z) fun p hp => h.nl p hp
  have few := h.few
  have l := join_le (m := nl) h.short
  rw [show nl.length = 1 by decide +kernel] at l
  have m1 : n * ws.length ≤ 560 * 10 := Nat.mul_le_mul hn (by omega)
  exact ⟨by rw [e]; omega, fun w hw => by rw [e] at hw; exact Nat.le_trans (h.short w hw) hn, by omega⟩
theorem box_val {box : List Nat} {i : Nat} {v : V} (h : (boxV box)[i]? = some v) : ∃ m : Nat, box[i]? = some m ∧ v = .int (m : Nat) := by
  unfold boxV at h
  rw [List.getElem?_map] at h
  cases e : box[i]? with
  | none => rw [e] at h; cases h
  | some m => rw [e] at h; exact ⟨m, rfl, (Option.some.inj h).symm⟩
theorem sum_mem : ∀ {l : List Nat} {n : Nat}, n ∈ l → n ≤ l.sum
  | x :: r, n, h => by
    rw [List.sum_cons]
    rcases List.mem_cons.mp h with e | h
    · omega
    · have := sum_mem h
      omega
theorem fig_nl (n : Nat) : NL (figT n) := fun h => by
  rw [tl_fig] at h
  exact absurd h (TL.numL_free (by decide))
theorem fig30 {n : Nat} (h : n ≤ 100) : (figT n).length ≤ 30 := fig_len (Nat.lt_of_le_of_lt h (by decide +kernel))
theorem sm_10 : 10 ∉ SMALLs.cps.toList ∧ 10 ∉ GREATs.cps.toList := by decide +kernel
theorem ws_10 : ∀ i : Fin 10, 10 ∉ (ws i).cps.toList := by decide +kernel
theorem lt_10 : ∀ l : Fin 4, 10 ∉ (Lt l).cps.toList := by decide +kernel
theorem sg_10 {z : Str} (h : Ent.sgS z = true) : NL z := by
  rcases Bool.or_eq_true_iff.mp (show (nmL z.cps.toList || loL z.cps.toList) = true from h) with n | l
  · obtain ⟨_, h2⟩ := Bool.and_eq_true_iff.mp (show (shL z.cps.toList && z.cps.toList.all smC) = true from n)
    exact fun hm => sm_10.1 (of_decide_eq_true (List.all_eq_true.mp h2 10 hm))
  · have hz : ∀ cs : List Nat, loL cs = true → 10 ∉ cs := fun cs l => by
      cases cs with
      | nil => cases l
      | cons c r =>
        obtain ⟨_, h2⟩ := Bool.and_eq_true_iff.mp (show (shL (c :: r) && (grC c && r.all smC)) = true from l)
        obtain ⟨h3, h4⟩ := Bool.and_eq_true_iff.mp h2
        intro hm
        rcases List.mem_cons.mp hm with e | hm
        · rw [← e] at h3
          exact sm_10.2 (of_decide_eq_true h3)
        · exact sm_10.1 (of_decide_eq_true (List.all_eq_true.mp h4 10 hm))
    exact hz _ l
theorem part_nl {e : Ent} (h : e.ok) : ∀ d ∈ e.parts, NL (partT d) := by
  have num : ∀ n : Fin 9, NL (partT (.int ((n.val : Int) + 1))) := fun n => by
    have : ∀ n : Fin 9, decide (10 ∈ (partT (.int ((n.val : Int) + 1))).cps.toList) = false := by decide +kernel
    exact NLd (this n)
  intro d hd
  rcases List.mem_cons.mp hd with hd | hd
  · rw [hd]
    exact ws_10 _
  cases e with
  | face l => rw [List.mem_singleton.mp hd]; exact lt_10 l
  | go n => rw [List.mem_singleton.mp hd]; exact num n
  | sign z => rw [List.mem_singleton.mp hd]; exact sg_10 h.2.2
  | spy n z =>
    rcases List.mem_cons.mp hd with hd | hd
    · rw [hd]; exact num n
    · rw [List.mem_singleton.mp hd]; exact sg_10 h.2.2
  | turn q => cases hd
  | bump => cases hd
  | bare => cases hd
  | swap => cases hd
theorem nl_ent {e : Ent} (h : e.ok) : NL (entT e.parts) := nl_join (NLd (by decide +kernel)) fun w hw => by
  obtain ⟨d, hd, rfl⟩ := List.mem_map.mp hw
  exact part_nl h d hd
theorem entTs_snoc {es : List Ent} {i : Nat} {e : Ent} (h : es[i]? = some e) : entTs (es.take (i + 1)) = entTs (es.take i) ++ [entT e.parts] := by
  unfold entTs
  rw [List.take_add_one, h, List.map_append]
  rfl
theorem row_nm {r : Row} (h : RowOk r) : r.1.length ≤ 8 ∧ NL r.1 := ⟨nm_len h, by
  obtain ⟨_, h2⟩ := Bool.and_eq_true_iff.mp (show (shL r.1.cps.toList && r.1.cps.toList.all smC) = true from h.nm)
  exact fun hm => sm_10.1 (of_decide_eq_true (List.all_eq_true.mp h2 10 hm))⟩
theorem told_at {K : PySem.W.Frag} {H : Hp} {v : V} {box : List Nat} {rs : List Row} (h : Dp K H v (toldD box rs)) : ∃ t vb vn vl ls, v = .ref t ∧ SqT K H t [.str "told", .ref vb, .ref vn, .ref vl] ∧ SqT K H vb (boxV box) ∧ SqT K H vl ls ∧ DpAll K H ls (rs.map logD) := by
  cases h with
  | tup hs ha =>
    cases ha with
    | cons h1 ha =>
      cases h1
      cases ha with
      | cons h2 ha =>
        cases ha with
        | cons h3 ha =>
          cases ha with
          | cons h4 ha =>
            cases ha
            cases h2 with
            | tup hb hbv =>
              cases h3 with
              | tup _ _ =>
                cases h4 with
                | tup hl hls => exact ⟨_, _, _, _, _, rfl, hs, by rw [box_vals hbv] at hb; exact hb, hl, hls⟩
theorem no_at {K : PySem.W.Frag} {H : Hp} {v : V} {i : Nat} (h : Dp K H v (noD i)) : ∃ t, v = .ref t ∧ SqT K H t [.str "NoText", .int (i : Int)] := by
  cases h with
  | tup hs ha =>
    cases ha with
    | cons h1 ha =>
      cases h1
      cases ha with
      | cons h2 ha =>
        cases h2
        cases ha
        exact ⟨_, rfl, hs⟩
def spLaw (K : PySem.W.Frag) : Sp := fun vs H Q _ => ∃ (a : Addr) (ns : List Int), vs = [.ref a] ∧ SqL K H a (ns.map V.int) ∧ ns.length ≤ 63 ∧ ∀ H', Q (.bl true) H'
theorem ok_law (T : Top w K mg) : FnOk P w K mg base CX0 14 T.a_law T.fd_law ["_law_script"] (spLaw K) := by
  have G_Lpool := ok_Lpool (P := P) (w := w) (base := base) T
  have G_Ltake := ok_Ltake (P := P) (w := w) (base := base) T
  have G_Lsmall_rows := ok_Lsmall_rows (P := P) (w := w) (base := base) T
  have G_Lsmall_box := ok_Lsmall_boxS (P := P) (w := w) (base := base) T
  have G_Lbent := ok_Lbent (P := P) (w := w) (base := base) T
  have G_Ldue := ok_Ldue (P := P) (w := w) (base := base) T
  have G_Lread := ok_Lread (P := P) (w := w) (base := base) T
  have G_Llegs := ok_Llegs (P := P) (w := w) (base := base) T
  have G_Lsame := ok_Lsame (P := P) (w := w) (base := base) T 4
  refine T.F_law.ok sc_law (fun vs H Q E h => ?_) (fun cdv A outer s H vs Q E hr h => ?_)
  · obtain ⟨a, ns, rfl, _⟩ := h
    rfl
  · obtain ⟨a, ns, rfl, hS, hlen, q⟩ := h
    refine ⟨_, (pss_cons (ps_set (i := 1) sc_law.nd rfl (.inl rfl) (pe_call G_Lpool (hr.mono (by decide)) (by rfl) T.g_Lpool T.F_Lpool.kp T.b_Lpool .nil pass0 (pa_cons (pv 0) (pa_cons pe_int pa_nil))))
      (pss_cons (ps_set (i := 2) sc_law.nd rfl (.inl rfl) (pe_call G_Lsmall_rows (hr.mono (by decide)) (by rfl) T.g_Lsmall_rows T.F_Lsmall_rows.kp T.b_Lsmall_rows .nil pass0 (pa_cons (pv 1) (pa_cons (pe_call G_Ltake (hr.mono (by decide)) (by rfl) T.g_Ltake T.F_Ltake.kp T.b_Ltake .nil pass0 (pa_cons (pv 1) (pa_cons pe_int pa_nil))) pa_nil))))
      (pss_cons (ps_set (i := 3) sc_law.nd rfl (.inl rfl) (pe_lst (pa_cons (pe_op op_add_str pe_str (pe_bm PySem.F.plainAttrs_str PySem.F.slot_str_join PySem.F.type_str_join mt_join pe_str (pa_cons (pe_lc (own := [("_law_count", 15)]) (g := gName 15) (by rfl) sc_law.nd (pi_tup (pe_call G_Lsmall_box (hr.mono (by decide)) (by rfl) T.g_Lsmall_box T.F_Lsmall_box.kp T.b_Lsmall_box .nil pass0 (pa_cons (pv 1) (pa_cons pe_int pa_nil)))) (blkOk_by (own := [("_law_count", 15)]) (N := ["_law_script", "_law_pool_here", "_law_rows", "_law_lines", "_law_name_here", "_law_log", "_law_text", "_law_k", "_law_there", "_law_bent_here", "_law_turn", "_law_due_here", "_law_legs_here", "_law_within", "_law_entry", "_law_count", "_law_part"]) (sc := defScope s_law) (by decide +kernel)) (fun _ _ _ _ _ => (pg_name (i := 15) sc_law.nd rfl (Or.inl rfl))) (fun _ _ _ _ _ => pts_nil) (fun _ _ _ _ _ => (pe_callTy call_strA (by rfl) T.m_str (by decide +kernel) (pa_cons (pv 15) pa_nil)))) pa_nil))) pa_nil)))
      (pss_cons (ps_for PassesOwn.never rfl (pi_list (pe_callB cr_sortedSP (by rfl) T.m_sorted (by decide +kernel) (pa_cons (pv 2) pa_nil))) (pg_tup rfl (pgs_cons (pg_name (i := 4) sc_law.nd rfl (.inl rfl)) (pgs_cons (pg_name (i := 5) sc_law.nd rfl (.inl rfl)) pgs_nil))) (pss_cons (ps_set (i := 6) sc_law.nd rfl (.inl rfl) (pe_bm PySem.F.plainAttrs_str PySem.F.slot_str_join PySem.F.type_str_join mt_join pe_str (pa_cons (pe_lc (own := [("_law_entry", 14)]) (g := gName 14) (by rfl) sc_law.nd (pi_tup (pv 5)) (blkOk_by (own := [("_law_entry", 14)]) (N := ["_law_script", "_law_pool_here", "_law_rows", "_law_lines", "_law_name_here", "_law_log", "_law_text", "_law_k", "_law_there", "_law_bent_here", "_law_turn", "_law_due_here", "_law_legs_here", "_law_within", "_law_entry", "_law_count", "_law_part"]) (sc := defScope s_law) (by decide +kernel)) (fun _ _ _ _ _ => (pg_name (i := 14) sc_law.nd rfl (Or.inl rfl))) (fun _ _ _ _ _ => pts_nil) (fun _ _ _ _ _ => (SeqK.pe_bmK (K := K) rfl PySem.F.plainAttrs_str PySem.F.slot_str_join PySem.F.type_str_join (r := SeqK.rJoin K) (SeqK.joinK rfl) pe_str (pa_cons (pe_lc (own := [("_law_part", 16)]) (g := gName 16) (by rfl) sc_law.nd (SeqK.pi_seqK (K := K) rfl (pv 14)) (blkOk_by (own := [("_law_part", 16)]) (N := ["_law_script", "_law_pool_here", "_law_rows", "_law_lines", "_law_name_here", "_law_log", "_law_text", "_law_k", "_law_there", "_law_bent_here", "_law_turn", "_law_due_here", "_law_legs_here", "_law_within", "_law_entry", "_law_count", "_law_part"]) (sc := ({ kind := PySem.ScopeKind.function, names := [(PySem.Str.ofString ".0", PySem.NameKind.local), (PySem.Str.ofString "_law_entry", PySem.NameKind.local)], isGenerator := false, isCoroutine := false, more := [] : PySem.Scope })) (by decide +kernel)) (fun _ _ _ _ _ => (pg_name (i := 16) sc_law.nd rfl (Or.inl rfl))) (fun _ _ _ _ _ => pts_nil) (fun _ _ _ _ _ => (pe_callTy call_strA (by rfl) T.m_str (by decide +kernel) (pa_cons (pv 16) pa_nil)))) pa_nil)))) pa_nil)))
      (pss_one (ps_expr (pe_bm PySem.F.plainAttrs_list PySem.F.slot_list_append PySem.F.type_list_append mt_append (pv 3) (pa_cons (pe_op op_add_str (pe_op op_add_str (pv 4) pe_str) (pe_ifExp (pt_cmpR op_ne (pv 6) pe_str (nomark _)) (pv 6) pe_str)) pa_nil))))))
      (pss_cons (ps_for PassesOwn.never rfl (pi_range1 (by rfl) T.m_range (pa_cons (pe_op op_add pe_int (pe_call G_Ltake (hr.mono (by decide)) (by rfl) T.g_Ltake T.F_Ltake.kp T.b_Ltake .nil pass0 (pa_cons (pv 1) (pa_cons pe_int pa_nil)))) pa_nil)) (pg_name (i := 7) sc_law.nd rfl (.inl rfl)) (pss_cons (ps_set (i := 8) sc_law.nd rfl (.inl rfl) (pe_call G_Lpool (hr.mono (by decide)) (by rfl) T.g_Lpool T.F_Lpool.kp T.b_Lpool .nil pass0 (pa_cons (pv 0) (pa_cons (pe_op op_add pe_int (pv 7)) pa_nil))))
      (pss_cons (ps_set (i := 9) sc_law.nd rfl (.inl rfl) (pe_callTy call_list_of (by rfl) T.m_list (by decide +kernel) (pa_cons (pv 3) pa_nil)))
      (pss_cons (ps_for PassesOwn.never rfl (pi_range1 (by rfl) T.m_range (pa_cons (pe_call G_Ltake (hr.mono (by decide)) (by rfl) T.g_Ltake T.F_Ltake.kp T.b_Ltake .nil pass0 (pa_cons (pv 8) (pa_cons pe_int pa_nil))) pa_nil)) (pg_name (i := 10) sc_law.nd rfl (.inl rfl)) (pss_one (ps_set (i := 9) sc_law.nd rfl (.inl rfl) (pe_call G_Lbent (hr.mono (by decide)) (by rfl) T.g_Lbent T.F_Lbent.kp T.b_Lbent .nil pass0 (pa_cons (pv 8) (pa_cons (pv 9) pa_nil))))))
      (pss_cons (ps_set (i := 6) sc_law.nd rfl (.inl rfl) (pe_bm PySem.F.plainAttrs_str PySem.F.slot_str_join PySem.F.type_str_join mt_join pe_str (pa_cons (pv 9) pa_nil)))
      (Evl.pss_cut (ps_set (i := 11) sc_law.nd rfl (.inl rfl) (pe_call G_Ldue (hr.mono (by decide)) (by rfl) T.g_Ldue T.F_Ldue.kp T.b_Ldue .nil pass0 (pa_cons (pv 6) pa_nil)))
      (Evl.pss_cut (ps_set (i := 12) sc_law.nd rfl (.inl rfl) (pe_ifExp (pt_cmpR op_eq (pe_ix ix_tup (pv 11) pe_int (fun _ _ => rfl)) pe_str (nomark _)) (pe_callB (cr_sum rfl) (by rfl) T.m_sum (by decide +kernel) (pa_cons (pe_lc (own := [("_law_log", 5)]) (g := gName 5) (by rfl) sc_law.nd (pi_tup (pe_ix ix_tup (pv 11) pe_int (fun _ _ => rfl))) (blkOk_by (own := [("_law_log", 5)]) (N := ["_law_script", "_law_pool_here", "_law_rows", "_law_lines", "_law_name_here", "_law_log", "_law_text", "_law_k", "_law_there", "_law_bent_here", "_law_turn", "_law_due_here", "_law_legs_here", "_law_within", "_law_entry", "_law_count", "_law_part"]) (sc := defScope s_law) (by decide +kernel)) (fun _ _ _ _ _ => (pg_name (i := 5) sc_law.nd rfl (Or.inl rfl))) (fun _ _ _ _ _ => pts_nil) (fun _ _ _ _ _ => (pe_call G_Llegs (hr.mono (by decide)) (by rfl) T.g_Llegs T.F_Llegs.kp T.b_Llegs .nil pass0 (pa_cons (pv 5) pa_nil)))) pa_nil)) pe_int))
      (Evl.pss_cut (ps_set (i := 13) sc_law.nd rfl (.inl rfl) (pe_or (pe_cmpR op_ne (pe_ix ix_tup (pv 11) pe_int (fun _ _ => rfl)) pe_str (nomark _)) (pe_one (pe_and (pe_cmpR op_lt (pv 12) pe_int (nomark _)) (pe_one (pe_cmpR op_lt (pe_callB (SumT.cr_sumT rfl) (by rfl) T.m_sum (by decide +kernel) (pa_cons (pe_ix ix_tup (pv 11) pe_int (fun _ _ => rfl)) pa_nil)) (pe_op op_sub pe_int (pe_op op_mul pe_int (pe_callTy call_int1 (by rfl) T.m_int (by decide +kernel) (pa_cons (pe_cmpR op_gt (pv 12) pe_int (nomark _)) pa_nil)))) (nomark _)))))))
      (pss_one (ps_for PassesOwn.never rfl (pi_range1 (by rfl) T.m_range (pa_cons (pe_op op_mul pe_int (pe_callTy call_int1 (by rfl) T.m_int (by decide +kernel) (pa_cons (pv 13) pa_nil))) pa_nil)) (pg_name (i := 10) sc_law.nd rfl (.inl rfl)) (pss_one (ps_if (pt_not (pt_val (pe_call G_Lsame (hr.mono (by decide)) (by rfl) T.g_Lsame T.F_Lsame.kp T.b_Lsame .nil pass0 (pa_cons (pe_call G_Lread hr (by rfl) T.g_Lread T.F_Lread.kp T.b_Lread .nil pass0 (pa_cons (pv 6) pa_nil)) (pa_cons (pv 11) pa_nil))))) (pss_one (ps_ret pe_bl)) pss_nil))))))))))))
      (pss_one (ps_ret pe_bl))))))), ?_⟩
    refine ⟨.ref a, rfl, a, ns, 0, rfl, hS, hlen, by decide, fun H1 p sm np hp => ?_⟩
    refine ⟨.ref p, rfl, .ref p, rfl, p, 5, rfl, by decide, by decide, hp, fun H2 k b2 hp2 k0 k1 => ?_⟩
    obtain ⟨m, rfl⟩ : ∃ m : Nat, k = m := ⟨k.toNat, by omega⟩
    refine ⟨p, m, rfl, by omega, hp2, fun H3 L xs rs b3 hp3 nL eL hrs lrs nd rok r8 _ => ?_⟩
    have nLp : L ≠ p := hp2.ne_new nL
    have c4 : (PySem.Str.ofString "box ").length = 4 := by decide +kernel
    have c1 : (PySem.Str.ofString " ").length = 1 := by decide +kernel
    refine ⟨rfl, .ref p, rfl, p, 6, rfl, hp3, fun H4 B box b4 hp4 nB eB h8 sb => ?_⟩
    have le100 : ∀ {m : Nat}, m ∈ box → m ≤ 100 := fun h => Nat.le_trans (sum_mem h) sb
    refine ⟨B, rfl, ⟨_, .inl (.inl eB)⟩, fun D hD => lc_it (walk_tup (xs := boxV box)) (fun i H' => Same H4 H' ∧ H' D = some (.lst (((box.take i).map figT).map V.str))) ⟨same_upd hD, upd_same⟩ (fun i H' _ h => .inl (.inl (h.1 _ _ eB))) ?_ ?_⟩
    · rintro i v H5 H6 hi ⟨sm5, eD⟩ ⟨rfl, hx⟩
      obtain ⟨m, fm, rfl⟩ := box_val hx
      have m100 := le100 (List.mem_of_getElem? fm)
      refine ⟨rfl, _, rfl, .inl ⟨_, rfl, log2_30 (by rw [Int.natAbs_natCast]; exact Nat.lt_of_le_of_lt m100 (by decide +kernel)), _, eD, ?_, fun c o h => (upd_ne (ne_of_none h hD)).trans (sm5 _ _ h), ?_⟩⟩
      · rw [List.length_map, List.length_map, List.length_take]
        exact small1000 (by omega)
      · rw [upd_same, List.take_add_one, fm, List.map_append, List.map_append]
        rfl
    rintro H5 ⟨s5, eD⟩
    rw [show (boxV box).length = box.length from List.length_map _, List.take_length] at eD
    have f30 : ∀ w ∈ box.map figT, w.length ≤ 30 := fun w hw => by
      obtain ⟨n, hn, rfl⟩ := List.mem_map.mp hw
      exact fig30 (le100 hn)
    have fsum := sum_le _ f30
    have fjoin := join_le (m := PySem.Str.ofString " ") f30
    rw [List.length_map, h8] at fsum fjoin
    rw [c1] at fjoin
    have fnl : NL (Txt.join (PySem.Str.ofString " ") (box.map figT)) := nl_join (NLd (by decide +kernel)) fun w hw => by
      obtain ⟨n, _, rfl⟩ := List.mem_map.mp hw
      exact fig_nl n
    refine ⟨PySem.Str.ofString " ", D, box.map figT, rfl, rfl, .inl (.inl (.inl eD)), by rw [List.length_map, c1]; omega, _, _, rfl, rfl, thou (by rw [c4]; omega), ?_⟩
    have hb0 : (PySem.Str.ofString "box " ++ Txt.join (PySem.Str.ofString " ") (box.map figT)).length ≤ 340 := by rw [app_lenT, c4]; omega
    have nb0 : NL (PySem.Str.ofString "box " ++ Txt.join (PySem.Str.ofString " ") (box.map figT)) := nl_app (NLd (by decide +kernel)) fnl
    generalize PySem.Str.ofString "box " ++ Txt.join (PySem.Str.ofString " ") (box.map figT) = bl at hb0 nb0 ⊢
    refine ⟨by show 1 ≤ sizeLine; decide, fun M0 nM => ?_⟩
    have sM := same_upd (o := .lst [.str bl]) nM
    have s45 := s5.trans sM
    have b35 : But p H3 (upd H5 M0 (.lst [.str bl])) := b4.trans (But.of s45)
    have r1000 : ∀ r ∈ rs, r.2.length ≤ 1000 := fun r hr => by have := r8 r hr; omega
    have hrs5 := hrs.tp r1000 (Tp.but hp3 b35)
    have hp5 := hp4.same s45
    have nMp : M0 ≠ p := (hp4.same s5).ne_new nM
    have eL5 := b35 _ _ nLp eL
    have eM5 : upd H5 M0 (.lst [.str bl]) M0 = some (.lst [.str bl]) := upd_same
    have nM3 : H M0 = none := by
      have h1 : H3 M0 = none := (b4.trans (But.of s5)).free nMp nM
      exact ((But.of (p := p) sm).trans (b2.trans b3)).free nMp h1
    have b05 : But p H (upd H5 M0 (.lst [.str bl])) := ((But.of sm).trans (b2.trans b3)).trans b35
    generalize upd H5 M0 (.lst [.str bl]) = H6 at sM s45 b35 hrs5 hp5 eL5 eM5 b05 ⊢
    refine ⟨.ref L, rfl, L, xs, nmAt _, lgAt _, rfl, .inl (.inl eL5), hrs5.keyed, hrs5.apart nd, fun ys L2 srt prm nL2 => ?_⟩
    obtain ⟨rs2, hrw, prm2, srt2⟩ := hrs5.sorted nd srt prm
    have sL2 := same_upd (o := .lst ys) nL2
    have rok2 : ∀ r ∈ rs2, RowOk r := fun r hr => rok r (prm2.mem_iff.mp hr)
    have r82 : ∀ r ∈ rs2, r.2.length ≤ 8 := fun r hr => r8 r (prm2.mem_iff.mp hr)
    have len2 : rs2.length ≤ 4 := by rw [prm2.length_eq]; omega
    have lys := hrw.len
    have hrw3 := hrw.same sL2
    have eM6 := sL2 _ _ eM5
    have hp6 := hp5.same sL2
    have nML : M0 ≠ L2 := fun z => by rw [← z, eM5] at nL2; cases nL2
    have eL2 : upd H6 L2 (.lst ys) L2 = some (.lst ys) := upd_same
    have b06 := b05.trans (But.of sL2)
    generalize upd H6 L2 (.lst ys) = H7 at hrw3 eM6 hp6 eL2 b06 ⊢
    have r1002 : ∀ r ∈ rs2, r.2.length ≤ 1000 := fun r hr => by have := r82 r hr; omega
    refine ⟨L2, rfl, ⟨_, .inl (.inl eL2)⟩, for_it (walk_list (xs := ys)) (fun i σ H' => (∀ c o, c ≠ M0 → H7 c = some o → H' c = some o) ∧ ∃ (y4 y5 y6 y7 y8 y9 y10 y11 y12 y13 y14 y15 y16 : Option V) (ws : List Str), σ = [some (.ref a), some (.ref p), some (.ref L), some (.ref M0), y4, y5, y6, y7, y8, y9, y10, y11, y12, y13, y14, y15, y16] ∧ H' M0 = some (.lst (ws.map V.str)) ∧ ws ≠ [] ∧ Ls 340 (1 + i) ws) ⟨fun c o _ h => h, _, _, _, _, _, _, _, _, _, _, _, _, _, [bl], rfl, eM6, (fun z => nomatch z), ⟨by show 1 ≤ 1 + 0; omega, fun w hw => by rw [List.mem_singleton.mp hw]; exact hb0, fun w hw => by rw [List.mem_singleton.mp hw]; exact nb0⟩⟩ (fun i σ H' _ h => .inl (.inl (h.1 _ _ nML.symm eL2))) ?_ ?_⟩
    · rintro i v σ H8 H9 hi ⟨k9, y4, y5, y6, y7, y8, y9, y10, y11, y12, y13, y14, y15, y16, ws, rfl, eM9, ne, hls⟩ ⟨rfl, hx⟩
      have tp9 : Tp H7 H9 := fun c o z h => k9 c o (fun e => by rw [e, eM6] at h; cases h; cases z) h
      obtain ⟨r, fr, hrow⟩ := (hrw3.tp r1002 tp9).at_ hx
      have ro := rok2 r (List.mem_of_getElem? fr)
      have l8 := r82 r (List.mem_of_getElem? fr)
      obtain ⟨t, l, rfl, et, hdl⟩ := hrow
      obtain ⟨l', us, el, hsq, hus⟩ := logD_ref hdl
      cases el
      have lus := dpa_len _ _ hus
      rw [List.length_map] at lus
      refine ⟨t, _, rfl, .inl (.inl et), rfl, _, _, rfl, _, _, rfl, rfl, ?_⟩
      have c2 : (PySem.Str.ofString "; ").length = 2 := semi_len
      have cc : (PySem.Str.ofString ": ").length = 2 := by decide +kernel
      have t39 : ∀ w ∈ entTs r.2, w.length ≤ 39 := fun w hw => by
        obtain ⟨e, he, rfl⟩ := List.mem_map.mp hw
        exact ent38 (ro.ok e he)
      have tnl : NL (Txt.join (PySem.Str.ofString "; ") (entTs r.2)) := nl_join (NLd (by decide +kernel)) fun w hw => by
        obtain ⟨e, he, rfl⟩ := List.mem_map.mp hw
        exact nl_ent (ro.ok e he)
      have lts : (entTs r.2).length = r.2.length := List.length_map _
      refine ⟨rfl, .ref l, rfl, l, rfl, ⟨us, hsq⟩, fun D5 hD5 => lc_it (walk_tup (xs := us)) (fun j H' => Same H9 H' ∧ H' D5 = some (.lst ((entTs (r.2.take j)).map V.str))) ⟨same_upd hD5, upd_same⟩ (fun j H' _ h => sqt_same h.1 hsq) ?_ ?_⟩
      · rintro j v H10 H11 hj ⟨s11, eD⟩ ⟨rfl, hx⟩
        obtain ⟨d, fd, gd⟩ := dpa_at _ us (dpa_same s11 _ _ hus) j v hx
        rw [List.getElem?_map] at fd
        obtain ⟨en, fe, rfl⟩ : ∃ en, r.2[j]? = some en ∧ Ent.tup en = d := by
          cases e1 : r.2[j]? with
          | none => rw [e1] at fd; cases fd
          | some en => rw [e1] at fd; exact ⟨en, rfl, Option.some.inj fd⟩
        have eok := ro.ok en (List.mem_of_getElem? fe)
        cases gd with
        | @tup b' us' _ hb' hu =>
          have lu := dpa_len _ _ hu
          have h3 := three en
          refine ⟨rfl, rfl, .ref b', rfl, b', us', rfl, (fun H' => Same H11 H'), kpA (.inr hb'), Same.refl _, fun J G wk hG D2 hD2 => lc_it wk (fun k H' => Same H11 H' ∧ H' D2 = some (.lst (((en.parts.take k).map partT).map V.str))) ⟨same_upd hD2, upd_same⟩ (fun k H' _ h => hG _ h.1) ?_ ?_⟩
          · rintro k v H12 H13 hk ⟨s13, eD2⟩ ⟨rfl, hx2⟩
            obtain ⟨d, fd, gd'⟩ := dpa_at en.parts us' hu k v hx2
            have p12 := part12 eok d (List.mem_of_getElem? fd)
            have fin : ∃ acc, H13 D2 = some (.lst acc) ∧ acc.length < sizeLine ∧ (Same H11 (upd H13 D2 (.lst (acc ++ [.str (partT d)]))) ∧ (upd H13 D2 (.lst (acc ++ [.str (partT d)]))) D2 = some (.lst (((en.parts.take (k + 1)).map partT).map V.str))) := by
              refine ⟨_, eD2, ?_, fun b' o e => (upd_ne (ne_of_none e hD2)).trans (s13 _ _ e), ?_⟩
              · rw [List.length_map, List.length_map, List.length_take]
                exact small1000 (by omega)
              · rw [upd_same, List.take_add_one, fd, List.map_append, List.map_append]
                rfl
            refine ⟨rfl, v, rfl, ?_⟩
            rcases p12.2 with ⟨z, rfl⟩ | ⟨n, rfl, hn⟩
            · cases gd'
              exact .inr ⟨z, rfl, fin⟩
            · cases gd'
              exact .inl ⟨_, rfl, log2_30 (by rw [Int.natAbs_natCast]; exact Nat.lt_of_le_of_lt hn (by decide +kernel)), fin⟩
          rintro H12 ⟨s12, eD2⟩
          rw [lu, List.take_length] at eD2
          have psum := sum_le (k := 12) (en.parts.map partT) fun w hw => by
            obtain ⟨d, hd, rfl⟩ := List.mem_map.mp hw
            exact (part12 eok d hd).1
          rw [List.length_map] at psum
          refine ⟨_, D2, en.parts.map partT, rfl, rfl, .inl (.inl (.inl eD2)), ?_, _, s12 _ _ eD, ?_, fun c o h => ?_, ?_⟩
          · rw [List.length_map, c1]
            omega
          · unfold entTs
            rw [List.length_map, List.length_map, List.length_take]
            exact small1000 (by omega)
          · rw [upd_ne (ne_of_none h hD5)]
            exact s12 _ _ (s11 _ _ h)
          · rw [upd_same, entTs_snoc fe, List.map_append]
            rfl
      rintro H10 ⟨s10, eD⟩
      rw [lus, List.take_length] at eD
      have tsum := sum_le _ t39
      have tjoin := join_le (m := PySem.Str.ofString "; ") t39
      rw [c2] at tjoin
      rw [lts] at tsum tjoin
      refine ⟨PySem.Str.ofString "; ", D5, entTs r.2, rfl, rfl, .inl (.inl (.inl eD)), by rw [lts, c2]; omega, ?_⟩
      generalize Txt.join (PySem.Str.ofString "; ") (entTs r.2) = tx at tnl tjoin ⊢
      have eM10 := s10 _ _ eM9
      obtain ⟨nm8, nmn⟩ := row_nm ro
      have put : ∀ w : Str, w.length ≤ 330 → NL w → ∃ u1 u2, V.str (r.1 ++ PySem.Str.ofString ": ") = .str u1 ∧ V.str w = .str u2 ∧ u1.length + u2.length ≤ sizeLine ∧ ∃ l' ys' b', V.ref M0 = .ref l' ∧ [V.str (u1 ++ u2)] = [b'] ∧ H10 l' = some (.lst ys') ∧ ys'.length < sizeLine ∧ (∀ c o, c ≠ M0 → H7 c = some o → upd H10 l' (.lst (ys' ++ [b'])) c = some o) ∧ ∃ (y4' y5' y6' y7' y8' y9' y10' y11' y12' y13' y14' y15' y16' : Option V) (ws' : List Str), [some (V.ref a), some (.ref p), some (.ref L), some (.ref M0), some (.str r.1), some (.ref l), some (.str tx), y7, y8, y9, y10, y11, y12, y13, y14, y15, y16] = [some (.ref a), some (.ref p), some (.ref L), some (.ref M0), y4', y5', y6', y7', y8', y9', y10', y11', y12', y13', y14', y15', y16'] ∧ upd H10 l' (.lst (ys' ++ [b'])) M0 = some (.lst (ws'.map V.str)) ∧ ws' ≠ [] ∧ Ls 340 (1 + (i + 1)) ws' := fun w hw nw => by
        have lw : (r.1 ++ PySem.Str.ofString ": " ++ w).length ≤ 340 := by rw [app_lenT, app_lenT, cc]; omega
        refine ⟨_, _, rfl, rfl, thou (by rw [← app_lenT]; omega), M0, _, _, rfl, rfl, eM10, ?_, fun c o hc h => (upd_ne hc).trans (s10 _ _ (k9 _ _ hc h)), _, _, _, _, _, _, _, _, _, _, _, _, _, ws ++ [r.1 ++ PySem.Str.ofString ": " ++ w], rfl, ?_, fun z => ?_, hls.more (x := r.1 ++ PySem.Str.ofString ": " ++ w) ?_ lw (nl_app (nl_app nmn (NLd (by decide +kernel))) nw) fun v hv => (List.mem_append.mp hv).elim .inr fun h => .inl (List.mem_singleton.mp h)⟩
        · have := hls.few
          have il := (List.getElem?_eq_some_iff.mp fr).1
          rw [List.length_map]
          exact small1000 (by omega)
        · rw [upd_same, List.map_append]
          rfl
        · exact absurd (congrArg List.length z) (by rw [List.length_append]; exact Nat.succ_ne_zero _)
        · have := hls.few
          rw [List.length_append]
          show ws.length + 1 ≤ 1 + i + 1
          omega
      refine ⟨.ref M0, rfl, .inl ⟨rfl, _, .inl (.inl eM10)⟩, .str r.1, rfl, r.1, _, rfl, rfl, thou (by rw [cc]; omega), .str tx, rfl, rfl, _, rfl, ite2 (fun _ => ⟨.str tx, rfl, put tx (by omega) tnl⟩) (fun _ => put (PySem.Str.ofString "-") (by decide +kernel) (NLd (by decide +kernel)))⟩
    · rintro σ H8 ⟨k9, y4, y5, y6, y7, y8, y9, y10, y11, y12, y13, y14, y15, y16, ws, rfl, eM9, ne, hls⟩
      have hp8 : Pool H8 p := by
        obtain ⟨l1, l2, l3, l4, l5, l6⟩ := hp6
        exact ⟨l1, l2, l3, l4, l5, k9 _ _ nMp.symm l6⟩
      refine ⟨.ref p, rfl, p, 9, rfl, by decide, by decide, hp8, fun H9 k b9 hp9 k0 k1 => ?_⟩
      obtain ⟨m9, rfl⟩ : ∃ m : Nat, k = m := ⟨k.toNat, by omega⟩
      have s09 : Same H H9 := fun c o h => b9 _ _ (ne_of_none h np) (k9 _ _ (ne_of_none h nM3) (b06 _ _ (ne_of_none h np) h))
      have hS9 := s09.seq hS
      have eM := b9 _ _ nMp eM9
      have few := hls.few
      have hls5 : Ls 340 5 ws := hls.mono (Nat.le_refl _) (by omega)
      refine ⟨_, _, rfl, rfl, 4 + (m9 : Int), rfl, by omega, by omega, for_range (n := (4 + (m9 : Int)).toNat) (fun i σ H' => Same H9 H' ∧ ∃ (y4 y5 y6 y7 y8 y9 y10 y11 y12 y13 y14 y15 y16 : Option V), σ = [some (.ref a), some (.ref p), some (.ref L), some (.ref M0), y4, y5, y6, y7, y8, y9, y10, y11, y12, y13, y14, y15, y16]) ⟨Same.refl _, _, _, _, _, _, _, _, _, _, _, _, _, _, rfl⟩ ?_ (fun σ H' _ => q H')⟩
      rintro i σ H10 hi ⟨s10, y4, y5, y6, y7, y8, y9, y10, y11, y12, y13, y14, y15, y16, rfl⟩
      refine ⟨.ref a, rfl, _, rfl, _, _, rfl, rfl, a, ns, _, rfl, s10.seq hS9, hlen, by omega, fun H11 t0 s11 nt0 hp11 => ?_⟩
      have s911 := s10.trans s11
      refine ⟨.ref M0, rfl, M0, _, rfl, .inl (.inl (.inl (s911 _ _ eM))), fun B0 nB0 => ?_⟩
      have sB0 := same_upd (o := .lst (ws.map V.str)) nB0
      have eB0 : upd H11 B0 (.lst (ws.map V.str)) B0 = some (.lst (ws.map V.str)) := upd_same
      have hp12 := hp11.same sB0
      have nBt : B0 ≠ t0 := hp11.ne_new nB0
      have s912 := s911.trans sB0
      have nt9 : H9 t0 = none := s10.free nt0
      generalize upd H11 B0 (.lst (ws.map V.str)) = H12 at sB0 eB0 hp12 s912 ⊢
      refine ⟨.ref t0, rfl, t0, 3, rfl, by decide, by decide, hp12, fun H13 r b13 hp13 r0 r1 => ?_⟩
      refine ⟨r, rfl, by omega, by omega, for_range (n := r.toNat) (fun j σ H' => Same H9 H' ∧ Pool H' t0 ∧ ∃ (y6 y10 y11 y12 y13 y14 y15 y16 : Option V) (B' : Addr) (ws' : List Str), σ = [some (.ref a), some (.ref p), some (.ref L), some (.ref M0), y4, y5, y6, some (.int (0 + (i : Int))), some (.ref t0), some (.ref B'), y10, y11, y12, y13, y14, y15, y16] ∧ H' B' = some (.lst (ws'.map V.str)) ∧ B' ≠ t0 ∧ ws' ≠ [] ∧ Ls (340 + 100 * j) (5 + j) ws') ⟨fun c o h => b13 _ _ (ne_of_none h nt9) (s912 _ _ h), hp13, _, _, _, _, _, _, _, _, B0, ws, rfl, b13 _ _ nBt eB0, nBt, ne, hls5⟩ ?_ ?_⟩
      · rintro j σ H14 hj ⟨s14, hp14, y6, y10, y11, y12, y13, y14, y15, y16, B', ws', rfl, eB', nB', ne', hls'⟩
        refine ⟨.ref t0, rfl, .ref B', rfl, t0, B', ws', 340 + 100 * j, 5 + j, rfl, eB', hp14, ne', hls', by omega, by omega, fun H15 L' ws2 b15 hp15 eL' nL' ne2 hls2 => ?_⟩
        exact ⟨fun c o h => b15 _ _ (ne_of_none h nt9) (s14 _ _ h), hp15, _, _, _, _, _, _, _, _, L', ws2, rfl, eL', nL', ne2, hls2⟩
      rintro σ H14 ⟨s14, hp14, y6, y10, y11, y12, y13, y14, y15, y16, B', ws', rfl, eB', nB', ne', hls'⟩
      have hls6 : Ls 540 7 ws' := hls'.mono (by omega) (by omega)
      have wl := sum_le _ hls6.short
      have wf := hls6.few
      have m1 : 540 * ws'.length ≤ 540 * 7 := Nat.mul_le_mul (Nat.le_refl _) wf
      refine ⟨rfl, .ref B', rfl, nl, B', ws', rfl, rfl, .inl (.inl (.inl eB')), by rw [show nl.length = 1 by decide +kernel]; omega, ?_⟩
      have hL := lines_join hls6 (by decide) (by decide) ne'
      generalize Txt.join nl ws' = z at hL ⊢
      refine ⟨fun σ H' => Same H14 H' ∧ ∃ v, σ = [some (.ref a), some (.ref p), some (.ref L), some (.ref M0), y4, y5, some (.str z), some (.int (0 + (i : Int))), some (.ref t0), some (.ref B'), y10, some v, y12, y13, y14, y15, y16] ∧ Dp K H' v (dueD z) ∧ okD 4 (dueD z) = true ∧ ((∃ box rs, dueD z = toldD box rs ∧ (∀ r ∈ rs, RowOk r) ∧ box.length = 8 ∧ rs.length ≤ 20) ∨ ∃ i, dueD z = noD i), ?_, ?_⟩
      · refine ⟨.str z, rfl, z, rfl, hL, fun box rs hrd rok h8 l20 H15 v s15 hv => ?_, fun i hi H15 v s15 hv => ?_⟩
        · have e := told_due hrd
          exact ⟨s15, v, rfl, e ▸ hv, e ▸ toldD_ok h8 l20 rok, .inl ⟨box, rs, e.symm, rok, h8, l20⟩⟩
        · have e := no_due hi
          exact ⟨s15, v, rfl, e ▸ hv, e ▸ rfl, .inr ⟨i, e.symm⟩⟩
      rintro σ H15 ⟨s15, v, rfl, hv, ok, hd⟩
      have s915 := s14.trans s15
      refine ⟨fun σ H' => Same H15 H' ∧ ∃ n : Int, σ = [some (.ref a), some (.ref p), some (.ref L), some (.ref M0), y4, y5, some (.str z), some (.int (0 + (i : Int))), some (.ref t0), some (.ref B'), y10, some v, some (.int n), y13, y14, y15, y16], ?_, ?_⟩
      · rcases hd with ⟨box, rs, ed, rok, h8, l20⟩ | ⟨i, ed⟩
        · rw [ed] at hv
          obtain ⟨t, vb, vn, vl, ls, rfl, hs, hb, hl, hls⟩ := told_at hv
          have lls := dpa_len _ _ hls
          rw [List.length_map] at lls
          refine ⟨.ref t, rfl, t, _, 0, .str "told", rfl, rfl, hs, atI_nat (j := 0) rfl, rfl, _, rfl, iteDY (decide_eq_true rfl) ⟨.ref t, rfl, t, _, 3, .ref vl, rfl, rfl, hs, atI_nat (j := 3) rfl, vl, rfl, ⟨ls, hl⟩, fun D hD => lc_it (walk_tup (xs := ls)) (fun i H' => Same H15 H' ∧ H' D = some (.lst (((rs.take i).map fun r => 1 + (swaps r.2 : Int)).map V.int))) ⟨same_upd hD, upd_same⟩ (fun i H' _ h => sqt_same h.1 hl) ?_ ?_⟩⟩
          · rintro j v H16 H17 hj ⟨s17, eD⟩ ⟨rfl, hx⟩
            obtain ⟨d, fd, gd⟩ := dpa_at _ ls (dpa_same s17 _ _ hls) j v hx
            rw [List.getElem?_map] at fd
            obtain ⟨r, fr, rfl⟩ : ∃ r, rs[j]? = some r ∧ logD r = d := by
              cases e1 : rs[j]? with
              | none => rw [e1] at fd; cases fd
              | some r => rw [e1] at fd; exact ⟨r, rfl, Option.some.inj fd⟩
            obtain ⟨a', us, rfl, hsq, hrw⟩ := log_rows gd
            have := (rok r (List.mem_of_getElem? fr)).len
            refine ⟨rfl, _, rfl, a', us, r.2, rfl, .inr hsq, hrw, by omega, fun H18 s18 => ⟨_, s18 _ _ eD, ?_, fun c o h => (upd_ne (ne_of_none h hD)).trans (s18 _ _ (s17 _ _ h)), ?_⟩⟩
            · rw [List.length_map, List.length_map, List.length_take]
              exact small1000 (by omega)
            · rw [upd_same, List.take_add_one, fr, List.map_append, List.map_append]
              rfl
          · rintro H16 ⟨s16, eD⟩
            exact ⟨D, _, rfl, .inl (.inl eD), s16, _, rfl⟩
        · rw [ed] at hv
          obtain ⟨t, rfl, hs⟩ := no_at hv
          exact ⟨.ref t, rfl, t, _, 0, .str "NoText", rfl, rfl, hs, atI_nat (j := 0) rfl, rfl, _, rfl, iteDN (by decide +kernel) ⟨Same.refl _, _, rfl⟩⟩
      rintro σ H16 ⟨s16, n, rfl⟩
      refine ⟨fun σ H' => Same H15 H' ∧ ∃ b : Bool, σ = [some (.ref a), some (.ref p), some (.ref L), some (.ref M0), y4, y5, some (.str z), some (.int (0 + (i : Int))), some (.ref t0), some (.ref B'), y10, some v, some (.int n), some (.bl b), y14, y15, y16], ?_, ?_⟩
      · rcases hd with ⟨box, rs, ed, rok, h8, l20⟩ | ⟨i, ed⟩
        · rw [ed] at hv
          obtain ⟨t, vb, vn, vl, ls, rfl, hs, hb, hl, hls⟩ := told_at (dp_same s16 _ _ hv)
          refine ⟨.ref t, rfl, t, _, 0, .str "told", rfl, rfl, hs, atI_nat (j := 0) rfl, rfl, _, rfl, iteDN (by decide +kernel) ⟨_, rfl, _, _, rfl, rfl, _, rfl, ite2 (fun _ => ?_) (fun _ => ⟨s16, _, rfl⟩)⟩⟩
          refine ⟨.ref t, rfl, t, _, 1, .ref vb, rfl, rfl, hs, atI_nat (j := 1) rfl, vb, box.map fun n : Nat => (n : Int), rfl, ?_, _, rfl, _, _, rfl, rfl, .inr ⟨_, rfl, _, _, rfl, rfl, .inl ⟨by decide, by decide⟩, _, _, rfl, rfl, _, _, rfl, rfl, s16, _, rfl⟩⟩
          rw [List.map_map]
          exact hb
        · rw [ed] at hv
          obtain ⟨t, rfl, hs⟩ := no_at (dp_same s16 _ _ hv)
          exact ⟨.ref t, rfl, t, _, 0, .str "NoText", rfl, rfl, hs, atI_nat (j := 0) rfl, rfl, _, rfl, iteDY (by decide +kernel) ⟨s16, _, rfl⟩⟩
      rintro σ H17 ⟨s17, b, rfl⟩
      have hb2 : 0 ≤ (2 : Int) * (if b = true then 1 else 0) ∧ (2 : Int) * (if b = true then 1 else 0) ≤ 2 := by cases b <;> decide
      refine ⟨_, rfl, .inr ⟨b, rfl, _, _, rfl, rfl, .inl ⟨by decide, by decide⟩, (2 : Int) * (if b = true then 1 else 0), rfl, by omega, by omega, for_range (n := ((2 : Int) * (if b = true then 1 else 0)).toNat) (fun j σ H' => Same H17 H' ∧ ∃ (y10 y14 y15 y16 : Option V), σ = [some (.ref a), some (.ref p), some (.ref L), some (.ref M0), y4, y5, some (.str z), some (.int (0 + (i : Int))), some (.ref t0), some (.ref B'), y10, some v, some (.int n), some (.bl b), y14, y15, y16]) ⟨Same.refl _, _, _, _, _, rfl⟩ ?_ (fun σ H' h => ?_)⟩⟩
      · rintro j σ H18 hj ⟨s18, y10, y14, y15, y16, rfl⟩
        have s1518 := s17.trans s18
        refine ⟨.str z, rfl, z, rfl, hL, fun box rs hrd rok h8 l20 H19 u s19 hu => ?_, fun i' hi' H19 u s19 hu => ?_⟩
        · have e := told_due hrd
          exact ⟨v, rfl, u, v, dueD z, rfl, e ▸ hu, dp_same (s1518.trans s19) _ _ hv, ok, fun H20 s20 => ⟨_, rfl, iteF ⟨(s18.trans s19).trans s20, _, _, _, _, rfl⟩⟩⟩
        · have e := no_due hi'
          exact ⟨v, rfl, u, v, dueD z, rfl, e ▸ hu, dp_same (s1518.trans s19) _ _ hv, ok, fun H20 s20 => ⟨_, rfl, iteF ⟨(s18.trans s19).trans s20, _, _, _, _, rfl⟩⟩⟩
      · obtain ⟨s18, y10, y14, y15, y16, rfl⟩ := h
        exact ⟨((s915.trans s17).trans s18), _, _, _, _, _, _, _, _, _, _, _, _, _, rfl⟩
--@@SPLIT
end
theorem all_mk {l : PySem.W.OpenLaw} {w : World} {K : PySem.W.Frag} {h : Heap} {mg : Str → Option Value} {fa : Addr} (X : K.In h) (G : h.Ns mainGlobals mg) (hfa : mg "law" = some (.ref fa))
    {f_Atlas : Addr}
    {f_is_whole : Addr} {od_is_whole an_is_whole : Option Addr} {sl_is_whole : Array (Option Value)} {oc_is_whole kV_is_whole dc_is_whole pm_is_whole cd_is_whole ct_is_whole : Value}
    {f_is_row : Addr} {od_is_row an_is_row : Option Addr} {sl_is_row : Array (Option Value)} {oc_is_row kV_is_row dc_is_row pm_is_row cd_is_row ct_is_row : Value}
    {f_laid_out : Addr} {od_laid_out an_laid_out : Option Addr} {sl_laid_out : Array (Option Value)} {oc_laid_out kV_laid_out dc_laid_out pm_laid_out cd_laid_out ct_laid_out : Value}
    {f_kept : Addr} {od_kept an_kept : Option Addr} {sl_kept : Array (Option Value)} {oc_kept kV_kept dc_kept pm_kept cd_kept ct_kept : Value}
    {f_is_letter : Addr} {od_is_letter an_is_letter : Option Addr} {sl_is_letter : Array (Option Value)} {oc_is_letter kV_is_letter dc_is_letter pm_is_letter cd_is_letter ct_is_letter : Value}
    {f_is_short_text : Addr} {od_is_short_text an_is_short_text : Option Addr} {sl_is_short_text : Array (Option Value)} {oc_is_short_text kV_is_short_text dc_is_short_text pm_is_short_text cd_is_short_text ct_is_short_text : Value}
    {f_are_small : Addr} {od_are_small an_are_small : Option Addr} {sl_are_small : Array (Option Value)} {oc_are_small kV_are_small dc_are_small pm_are_small cd_are_small ct_are_small : Value}
    {f_is_name : Addr} {od_is_name an_is_name : Option Addr} {sl_is_name : Array (Option Value)} {oc_is_name kV_is_name dc_is_name pm_is_name cd_is_name ct_is_name : Value}
    {f_is_lone : Addr} {od_is_lone an_is_lone : Option Addr} {sl_is_lone : Array (Option Value)} {oc_is_lone kV_is_lone dc_is_lone pm_is_lone cd_is_lone ct_is_lone : Value}
    {f_is_sign : Addr} {od_is_sign an_is_sign : Option Addr} {sl_is_sign : Array (Option Value)} {oc_is_sign kV_is_sign dc_is_sign pm_is_sign cd_is_sign ct_is_sign : Value}
    {f_is_many : Addr} {od_is_many an_is_many : Option Addr} {sl_is_many : Array (Option Value)} {oc_is_many kV_is_many dc_is_many pm_is_many cd_is_many ct_is_many : Value}
    {f_is_pair_entry : Addr} {od_is_pair_entry an_is_pair_entry : Option Addr} {sl_is_pair_entry : Array (Option Value)} {oc_is_pair_entry kV_is_pair_entry dc_is_pair_entry pm_is_pair_entry cd_is_pair_entry ct_is_pair_entry : Value}
    {f_is_entry : Addr} {od_is_entry an_is_entry : Option Addr} {sl_is_entry : Array (Option Value)} {oc_is_entry kV_is_entry dc_is_entry pm_is_entry cd_is_entry ct_is_entry : Value}
    {f_held_log : Addr} {od_held_log an_held_log : Option Addr} {sl_held_log : Array (Option Value)} {oc_held_log kV_held_log dc_held_log pm_held_log cd_held_log ct_held_log : Value}
    {f_held_box : Addr} {od_held_box an_held_box : Option Addr} {sl_held_box : Array (Option Value)} {oc_held_box kV_held_box dc_held_box pm_held_box cd_held_box ct_held_box : Value}
    {f_held_log_of : Addr} {od_held_log_of an_held_log_of : Option Addr} {sl_held_log_of : Array (Option Value)} {oc_held_log_of kV_held_log_of dc_held_log_of pm_held_log_of cd_held_log_of ct_held_log_of : Value}
    {f_number_in : Addr} {od_number_in an_number_in : Option Addr} {sl_number_in : Array (Option Value)} {oc_number_in kV_number_in dc_number_in pm_number_in cd_number_in ct_number_in : Value}
    {f_entry_in : Addr} {od_entry_in an_entry_in : Option Addr} {sl_entry_in : Array (Option Value)} {oc_entry_in kV_entry_in dc_entry_in pm_entry_in cd_entry_in ct_entry_in : Value}
    {f_read_log : Addr} {od_read_log an_read_log : Option Addr} {sl_read_log : Array (Option Value)} {oc_read_log kV_read_log dc_read_log pm_read_log cd_read_log ct_read_log : Value}
    {f_box_in : Addr} {od_box_in an_box_in : Option Addr} {sl_box_in : Array (Option Value)} {oc_box_in kV_box_in dc_box_in pm_box_in cd_box_in ct_box_in : Value}
    {f_pair_in : Addr} {od_pair_in an_pair_in : Option Addr} {sl_pair_in : Array (Option Value)} {oc_pair_in kV_pair_in dc_pair_in pm_pair_in cd_pair_in ct_pair_in : Value}
    {f_read_atlas : Addr} {od_read_atlas an_read_atlas : Option Addr} {sl_read_atlas : Array (Option Value)} {oc_read_atlas kV_read_atlas dc_read_atlas pm_read_atlas cd_read_atlas ct_read_atlas : Value}
    {f_Lany_entry : Addr} {od_Lany_entry an_Lany_entry : Option Addr} {sl_Lany_entry : Array (Option Value)} {oc_Lany_entry kV_Lany_entry dc_Lany_entry pm_Lany_entry cd_Lany_entry ct_Lany_entry : Value}
    {f_Lany_log : Addr} {od_Lany_log an_Lany_log : Option Addr} {sl_Lany_log : Array (Option Value)} {oc_Lany_log kV_Lany_log dc_Lany_log pm_Lany_log cd_Lany_log ct_Lany_log : Value}
    {f_Lis_name : Addr} {od_Lis_name an_Lis_name : Option Addr} {sl_Lis_name : Array (Option Value)} {oc_Lis_name kV_Lis_name dc_Lis_name pm_Lis_name cd_Lis_name ct_Lis_name : Value}
    {f_Lis_sign : Addr} {od_Lis_sign an_Lis_sign : Option Addr} {sl_Lis_sign : Array (Option Value)} {oc_Lis_sign kV_Lis_sign dc_Lis_sign pm_Lis_sign cd_Lis_sign ct_Lis_sign : Value}
    {f_Lis_many : Addr} {od_Lis_many an_Lis_many : Option Addr} {sl_Lis_many : Array (Option Value)} {oc_Lis_many kV_Lis_many dc_Lis_many pm_Lis_many cd_Lis_many ct_Lis_many : Value}
    {f_Lis_entry : Addr} {od_Lis_entry an_Lis_entry : Option Addr} {sl_Lis_entry : Array (Option Value)} {oc_Lis_entry kV_Lis_entry dc_Lis_entry pm_Lis_entry cd_Lis_entry ct_Lis_entry : Value}
    {f_Lbad_at : Addr} {od_Lbad_at an_Lbad_at : Option Addr} {sl_Lbad_at : Array (Option Value)} {oc_Lbad_at kV_Lbad_at dc_Lbad_at pm_Lbad_at cd_Lbad_at ct_Lbad_at : Value}
    {f_Lspoilt_text : Addr} {od_Lspoilt_text an_Lspoilt_text : Option Addr} {sl_Lspoilt_text : Array (Option Value)} {oc_Lspoilt_text kV_Lspoilt_text dc_Lspoilt_text pm_Lspoilt_text cd_Lspoilt_text ct_Lspoilt_text : Value}
    {f_Lsmall_log : Addr} {od_Lsmall_log an_Lsmall_log : Option Addr} {sl_Lsmall_log : Array (Option Value)} {oc_Lsmall_log kV_Lsmall_log dc_Lsmall_log pm_Lsmall_log cd_Lsmall_log ct_Lsmall_log : Value}
    {f_Lsmall_rows : Addr} {od_Lsmall_rows an_Lsmall_rows : Option Addr} {sl_Lsmall_rows : Array (Option Value)} {oc_Lsmall_rows kV_Lsmall_rows dc_Lsmall_rows pm_Lsmall_rows cd_Lsmall_rows ct_Lsmall_rows : Value}
    {f_Lsmall_box : Addr} {od_Lsmall_box an_Lsmall_box : Option Addr} {sl_Lsmall_box : Array (Option Value)} {oc_Lsmall_box kV_Lsmall_box dc_Lsmall_box pm_Lsmall_box cd_Lsmall_box ct_Lsmall_box : Value}
    {f_Lpool : Addr} {od_Lpool an_Lpool : Option Addr} {sl_Lpool : Array (Option Value)} {oc_Lpool kV_Lpool dc_Lpool pm_Lpool cd_Lpool ct_Lpool : Value}
    {f_Ltake : Addr} {od_Ltake an_Ltake : Option Addr} {sl_Ltake : Array (Option Value)} {oc_Ltake kV_Ltake dc_Ltake pm_Ltake cd_Ltake ct_Ltake : Value}
    {f_Lwhole : Addr} {od_Lwhole an_Lwhole : Option Addr} {sl_Lwhole : Array (Option Value)} {oc_Lwhole kV_Lwhole dc_Lwhole pm_Lwhole cd_Lwhole ct_Lwhole : Value}
    {f_Lsame : Addr} {od_Lsame an_Lsame : Option Addr} {sl_Lsame : Array (Option Value)} {oc_Lsame kV_Lsame dc_Lsame pm_Lsame cd_Lsame ct_Lsame : Value}
    {f_Lname : Addr} {od_Lname an_Lname : Option Addr} {sl_Lname : Array (Option Value)} {oc_Lname kV_Lname dc_Lname pm_Lname cd_Lname ct_Lname : Value}
    {f_Lnames : Addr} {od_Lnames an_Lnames : Option Addr} {sl_Lnames : Array (Option Value)} {oc_Lnames kV_Lnames dc_Lnames pm_Lnames cd_Lnames ct_Lnames : Value}
    {f_Lsign : Addr} {od_Lsign an_Lsign : Option Addr} {sl_Lsign : Array (Option Value)} {oc_Lsign kV_Lsign dc_Lsign pm_Lsign cd_Lsign ct_Lsign : Value}
    {f_Llegs : Addr} {od_Llegs an_Llegs : Option Addr} {sl_Llegs : Array (Option Value)} {oc_Llegs kV_Llegs dc_Llegs pm_Llegs cd_Llegs ct_Llegs : Value}
    {f_Lentry_of : Addr} {od_Lentry_of an_Lentry_of : Option Addr} {sl_Lentry_of : Array (Option Value)} {oc_Lentry_of kV_Lentry_of dc_Lentry_of pm_Lentry_of cd_Lentry_of ct_Lentry_of : Value}
    {f_Lrow_of : Addr} {od_Lrow_of an_Lrow_of : Option Addr} {sl_Lrow_of : Array (Option Value)} {oc_Lrow_of kV_Lrow_of dc_Lrow_of pm_Lrow_of cd_Lrow_of ct_Lrow_of : Value}
    {f_Lbox_of : Addr} {od_Lbox_of an_Lbox_of : Option Addr} {sl_Lbox_of : Array (Option Value)} {oc_Lbox_of kV_Lbox_of dc_Lbox_of pm_Lbox_of cd_Lbox_of ct_Lbox_of : Value}
    {f_Ldue : Addr} {od_Ldue an_Ldue : Option Addr} {sl_Ldue : Array (Option Value)} {oc_Ldue kV_Ldue dc_Ldue pm_Ldue cd_Ldue ct_Ldue : Value}
    {f_Lread : Addr} {od_Lread an_Lread : Option Addr} {sl_Lread : Array (Option Value)} {oc_Lread kV_Lread dc_Lread pm_Lread cd_Lread ct_Lread : Value}
    {f_Lbent : Addr} {od_Lbent an_Lbent : Option Addr} {sl_Lbent : Array (Option Value)} {oc_Lbent kV_Lbent dc_Lbent pm_Lbent cd_Lbent ct_Lbent : Value}
    {f_law : Addr} {od_law an_law : Option Addr} {sl_law : Array (Option Value)} {oc_law kV_law dc_law pm_law cd_law ct_law : Value}
    {f_Atlas_init : Addr} {od_Atlas_init an_Atlas_init : Option Addr} {sl_Atlas_init : Array (Option Value)} {oc_Atlas_init kV_Atlas_init dc_Atlas_init pm_Atlas_init cd_Atlas_init ct_Atlas_init : Value}
    {q_Atlas_init e_Atlas_init : Addr} {dd_Atlas_init de_Atlas_init : Option Addr} {sq_Atlas_init se_Atlas_init : Array (Option Value)} {nq_Atlas_init ne_Atlas_init : Nat}
    {f_STEPS : Addr}
    {es_STEPS : Array DictEntry} {n_STEPS : Nat}
    
    
    
    {q_STEPS_0 : Addr}
    {dd_STEPS_0 : Option Addr} {sl_STEPS_0 : Array (Option Value)} {nn_STEPS_0 : Nat} {tk_STEPS_0_0 : Tok} {tk_STEPS_0_1 : Tok}
    {q_STEPS_1 : Addr}
    {dd_STEPS_1 : Option Addr} {sl_STEPS_1 : Array (Option Value)} {nn_STEPS_1 : Nat} {tk_STEPS_1_0 : Tok} {tk_STEPS_1_1 : Tok}
    {q_STEPS_2 : Addr}
    {dd_STEPS_2 : Option Addr} {sl_STEPS_2 : Array (Option Value)} {nn_STEPS_2 : Nat} {tk_STEPS_2_0 : Tok} {tk_STEPS_2_1 : Tok}
    {q_STEPS_3 : Addr}
    {dd_STEPS_3 : Option Addr} {sl_STEPS_3 : Array (Option Value)} {nn_STEPS_3 : Nat} {tk_STEPS_3_0 : Tok} {tk_STEPS_3_1 : Tok}
    {t_SMALL : Tok}
    {t_GREAT : Tok}
    {t_LONGEST : Tok}
    {f_WORDS_ALONE : Addr}
    {dd_WORDS_ALONE : Option Addr} {sl_WORDS_ALONE : Array (Option Value)} {nn_WORDS_ALONE : Nat} {tk_WORDS_ALONE_0 : Tok} {tk_WORDS_ALONE_1 : Tok} {tk_WORDS_ALONE_2 : Tok} {tk_WORDS_ALONE_3 : Tok} {tk_WORDS_ALONE_4 : Tok} {tk_WORDS_ALONE_5 : Tok}
    {f_WORDS_BEHIND_A_FACE : Addr}
    {dd_WORDS_BEHIND_A_FACE : Option Addr} {sl_WORDS_BEHIND_A_FACE : Array (Option Value)} {nn_WORDS_BEHIND_A_FACE : Nat} {tk_WORDS_BEHIND_A_FACE_0 : Tok} {tk_WORDS_BEHIND_A_FACE_1 : Tok} {tk_WORDS_BEHIND_A_FACE_2 : Tok} {tk_WORDS_BEHIND_A_FACE_3 : Tok} {tk_WORDS_BEHIND_A_FACE_4 : Tok} {tk_WORDS_BEHIND_A_FACE_5 : Tok}
    {t_HOW_MANY_LOTS : Tok}
    {t_FIGURES : Tok}
    {t_MOST_FIGURES : Tok}
    {t_NONE_AT_ALL : Tok}
    {f_BadLog : Addr}
    {f_BadBox : Addr}
    {f_NoName : Addr}
    {f_Twice : Addr}
    {f_NoWalker : Addr}
    {f_NeedleError : Addr}
    {f_NoText : Addr}
    {nm_D qn_D : Str} {ns_D : Addr} {bs_D bm_D : List Value} {sn_D : List Str} {sub_D : List Value} {ab_D : Bool} {col_D : Option Bool} {dd_D : Option Addr} {m0_D m1_D m2_D m3_D m5_D : Option Value}
    {f_init : Addr} {od_init an_init : Option Addr} {sl_init : Array (Option Value)} {oc_init kV_init dc_init pm_init cd_init ct_init : Value}
    {nm_D_BadBox qn_D_BadBox : Str} {ns_D_BadBox : Addr} {bs_D_BadBox bm_D_BadBox : List Value} {sn_D_BadBox : List Str} {sub_D_BadBox : List Value} {ab_D_BadBox : Bool} {col_D_BadBox : Option Bool} {dd_D_BadBox : Option Addr} {m0_D_BadBox m1_D_BadBox m2_D_BadBox m3_D_BadBox m5_D_BadBox : Option Value}
    {f_init_BadBox : Addr} {od_init_BadBox an_init_BadBox : Option Addr} {sl_init_BadBox : Array (Option Value)} {oc_init_BadBox kV_init_BadBox dc_init_BadBox pm_init_BadBox cd_init_BadBox ct_init_BadBox : Value}
    {nm_D_NoName qn_D_NoName : Str} {ns_D_NoName : Addr} {bs_D_NoName bm_D_NoName : List Value} {sn_D_NoName : List Str} {sub_D_NoName : List Value} {ab_D_NoName : Bool} {col_D_NoName : Option Bool} {dd_D_NoName : Option Addr} {m0_D_NoName m1_D_NoName m2_D_NoName m3_D_NoName m5_D_NoName : Option Value}
    {f_init_NoName : Addr} {od_init_NoName an_init_NoName : Option Addr} {sl_init_NoName : Array (Option Value)} {oc_init_NoName kV_init_NoName dc_init_NoName pm_init_NoName cd_init_NoName ct_init_NoName : Value}
    {nm_D_Twice qn_D_Twice : Str} {ns_D_Twice : Addr} {bs_D_Twice bm_D_Twice : List Value} {sn_D_Twice : List Str} {sub_D_Twice : List Value} {ab_D_Twice : Bool} {col_D_Twice : Option Bool} {dd_D_Twice : Option Addr} {m0_D_Twice m1_D_Twice m2_D_Twice m3_D_Twice m5_D_Twice : Option Value}
    {f_init_Twice : Addr} {od_init_Twice an_init_Twice : Option Addr} {sl_init_Twice : Array (Option Value)} {oc_init_Twice kV_init_Twice dc_init_Twice pm_init_Twice cd_init_Twice ct_init_Twice : Value}
    {nm_D_NoText qn_D_NoText : Str} {ns_D_NoText : Addr} {bs_D_NoText bm_D_NoText : List Value} {sn_D_NoText : List Str} {sub_D_NoText : List Value} {ab_D_NoText : Bool} {col_D_NoText : Option Bool} {dd_D_NoText : Option Addr} {m0_D_NoText m1_D_NoText m2_D_NoText m3_D_NoText m5_D_NoText : Option Value}
    {f_init_NoText : Addr} {od_init_NoText an_init_NoText : Option Addr} {sl_init_NoText : Array (Option Value)} {oc_init_NoText kV_init_NoText dc_init_NoText pm_init_NoText cd_init_NoText ct_init_NoText : Value}
    (A_Atlas : PySem.W.nsIn K mainGlobals "Atlas" = some (some (.ref f_Atlas))) (pg_Atlas : PySem.W.plainGet K f_Atlas Str.empty = true) (hd_Atlas : PySem.W.hasDictIn K f_Atlas = true) (po_Atlas : PySem.W.plainOver K f_Atlas = true) (sa_Atlas : PySem.W.findIn K (.ref f_Atlas) "__setattr__" = some (some (.builtin "object.__setattr__"))) (mk_Atlas : PySem.W.makesIn K f_Atlas = true) (kc_Atlas : PySem.W.keepIn K (.ref f_Atlas) = true)
    (nf_Atlas_box : PySem.W.findIn K (.ref f_Atlas) "box" = some none)
    (nf_Atlas_names : PySem.W.findIn K (.ref f_Atlas) "names" = some none)
    (nf_Atlas_logs : PySem.W.findIn K (.ref f_Atlas) "logs" = some none)
    (A_is_whole : PySem.W.nsIn K mainGlobals "is_whole" = some (some (.ref f_is_whole))) (L_is_whole : K.lookup f_is_whole = some ⟨oc_is_whole, od_is_whole, .func (PySem.W.fnOf "is_whole" "is_whole" (defArgs s_is_whole) (defBody s_is_whole) (defScope s_is_whole) .none kV_is_whole dc_is_whole pm_is_whole an_is_whole cd_is_whole ct_is_whole), sl_is_whole⟩) (C_is_whole : PySem.W.codeIn K cd_is_whole "is_whole" = true) (K_is_whole : PySem.W.keepIn K (.ref f_is_whole) = true)
    (A_is_row : PySem.W.nsIn K mainGlobals "is_row" = some (some (.ref f_is_row))) (L_is_row : K.lookup f_is_row = some ⟨oc_is_row, od_is_row, .func (PySem.W.fnOf "is_row" "is_row" (defArgs s_is_row) (defBody s_is_row) (defScope s_is_row) .none kV_is_row dc_is_row pm_is_row an_is_row cd_is_row ct_is_row), sl_is_row⟩) (C_is_row : PySem.W.codeIn K cd_is_row "is_row" = true) (K_is_row : PySem.W.keepIn K (.ref f_is_row) = true)
    (A_laid_out : PySem.W.nsIn K mainGlobals "laid_out" = some (some (.ref f_laid_out))) (L_laid_out : K.lookup f_laid_out = some ⟨oc_laid_out, od_laid_out, .func (PySem.W.fnOf "laid_out" "laid_out" (defArgs s_laid_out) (defBody s_laid_out) (defScope s_laid_out) .none kV_laid_out dc_laid_out pm_laid_out an_laid_out cd_laid_out ct_laid_out), sl_laid_out⟩) (C_laid_out : PySem.W.codeIn K cd_laid_out "laid_out" = true) (K_laid_out : PySem.W.keepIn K (.ref f_laid_out) = true)
    (A_kept : PySem.W.nsIn K mainGlobals "kept" = some (some (.ref f_kept))) (L_kept : K.lookup f_kept = some ⟨oc_kept, od_kept, .func (PySem.W.fnOf "kept" "kept" (defArgs s_kept) (defBody s_kept) (defScope s_kept) .none kV_kept dc_kept pm_kept an_kept cd_kept ct_kept), sl_kept⟩) (C_kept : PySem.W.codeIn K cd_kept "kept" = true) (K_kept : PySem.W.keepIn K (.ref f_kept) = true)
    (A_is_letter : PySem.W.nsIn K mainGlobals "is_letter" = some (some (.ref f_is_letter))) (L_is_letter : K.lookup f_is_letter = some ⟨oc_is_letter, od_is_letter, .func (PySem.W.fnOf "is_letter" "is_letter" (defArgs s_is_letter) (defBody s_is_letter) (defScope s_is_letter) .none kV_is_letter dc_is_letter pm_is_letter an_is_letter cd_is_letter ct_is_letter), sl_is_letter⟩) (C_is_letter : PySem.W.codeIn K cd_is_letter "is_letter" = true) (K_is_letter : PySem.W.keepIn K (.ref f_is_letter) = true)
    (A_is_short_text : PySem.W.nsIn K mainGlobals "is_short_text" = some (some (.ref f_is_short_text))) (L_is_short_text : K.lookup f_is_short_text = some ⟨oc_is_short_text, od_is_short_text, .func (PySem.W.fnOf "is_short_text" "is_short_text" (defArgs s_is_short_text) (defBody s_is_short_text) (defScope s_is_short_text) .none kV_is_short_text dc_is_short_text pm_is_short_text an_is_short_text cd_is_short_text ct_is_short_text), sl_is_short_text⟩) (C_is_short_text : PySem.W.codeIn K cd_is_short_text "is_short_text" = true) (K_is_short_text : PySem.W.keepIn K (.ref f_is_short_text) = true)
    (A_are_small : PySem.W.nsIn K mainGlobals "are_small" = some (some (.ref f_are_small))) (L_are_small : K.lookup f_are_small = some ⟨oc_are_small, od_are_small, .func (PySem.W.fnOf "are_small" "are_small" (defArgs s_are_small) (defBody s_are_small) (defScope s_are_small) .none kV_are_small dc_are_small pm_are_small an_are_small cd_are_small ct_are_small), sl_are_small⟩) (C_are_small : PySem.W.codeIn K cd_are_small "are_small" = true) (K_are_small : PySem.W.keepIn K (.ref f_are_small) = true)
    (A_is_name : PySem.W.nsIn K mainGlobals "is_name" = some (some (.ref f_is_name))) (L_is_name : K.lookup f_is_name = some ⟨oc_is_name, od_is_name, .func (PySem.W.fnOf "is_name" "is_name" (defArgs s_is_name) (defBody s_is_name) (defScope s_is_name) .none kV_is_name dc_is_name pm_is_name an_is_name cd_is_name ct_is_name), sl_is_name⟩) (C_is_name : PySem.W.codeIn K cd_is_name "is_name" = true) (K_is_name : PySem.W.keepIn K (.ref f_is_name) = true)
    (A_is_lone : PySem.W.nsIn K mainGlobals "is_lone" = some (some (.ref f_is_lone))) (L_is_lone : K.lookup f_is_lone = some ⟨oc_is_lone, od_is_lone, .func (PySem.W.fnOf "is_lone" "is_lone" (defArgs s_is_lone) (defBody s_is_lone) (defScope s_is_lone) .none kV_is_lone dc_is_lone pm_is_lone an_is_lone cd_is_lone ct_is_lone), sl_is_lone⟩) (C_is_lone : PySem.W.codeIn K cd_is_lone "is_lone" = true) (K_is_lone : PySem.W.keepIn K (.ref f_is_lone) = true)
    (A_is_sign : PySem.W.nsIn K mainGlobals "is_sign" = some (some (.ref f_is_sign))) (L_is_sign : K.lookup f_is_sign = some ⟨oc_is_sign, od_is_sign, .func (PySem.W.fnOf "is_sign" "is_sign" (defArgs s_is_sign) (defBody s_is_sign) (defScope s_is_sign) .none kV_is_sign dc_is_sign pm_is_sign an_is_sign cd_is_sign ct_is_sign), sl_is_sign⟩) (C_is_sign : PySem.W.codeIn K cd_is_sign "is_sign" = true) (K_is_sign : PySem.W.keepIn K (.ref f_is_sign) = true)
    (A_is_many : PySem.W.nsIn K mainGlobals "is_many" = some (some (.ref f_is_many))) (L_is_many : K.lookup f_is_many = some ⟨oc_is_many, od_is_many, .func (PySem.W.fnOf "is_many" "is_many" (defArgs s_is_many) (defBody s_is_many) (defScope s_is_many) .none kV_is_many dc_is_many pm_is_many an_is_many cd_is_many ct_is_many), sl_is_many⟩) (C_is_many : PySem.W.codeIn K cd_is_many "is_many" = true) (K_is_many : PySem.W.keepIn K (.ref f_is_many) = true)
    (A_is_pair_entry : PySem.W.nsIn K mainGlobals "is_pair_entry" = some (some (.ref f_is_pair_entry))) (L_is_pair_entry : K.lookup f_is_pair_entry = some ⟨oc_is_pair_entry, od_is_pair_entry, .func (PySem.W.fnOf "is_pair_entry" "is_pair_entry" (defArgs s_is_pair_entry) (defBody s_is_pair_entry) (defScope s_is_pair_entry) .none kV_is_pair_entry dc_is_pair_entry pm_is_pair_entry an_is_pair_entry cd_is_pair_entry ct_is_pair_entry), sl_is_pair_entry⟩) (C_is_pair_entry : PySem.W.codeIn K cd_is_pair_entry "is_pair_entry" = true) (K_is_pair_entry : PySem.W.keepIn K (.ref f_is_pair_entry) = true)
    (A_is_entry : PySem.W.nsIn K mainGlobals "is_entry" = some (some (.ref f_is_entry))) (L_is_entry : K.lookup f_is_entry = some ⟨oc_is_entry, od_is_entry, .func (PySem.W.fnOf "is_entry" "is_entry" (defArgs s_is_entry) (defBody s_is_entry) (defScope s_is_entry) .none kV_is_entry dc_is_entry pm_is_entry an_is_entry cd_is_entry ct_is_entry), sl_is_entry⟩) (C_is_entry : PySem.W.codeIn K cd_is_entry "is_entry" = true) (K_is_entry : PySem.W.keepIn K (.ref f_is_entry) = true)
    (A_held_log : PySem.W.nsIn K mainGlobals "held_log" = some (some (.ref f_held_log))) (L_held_log : K.lookup f_held_log = some ⟨oc_held_log, od_held_log, .func (PySem.W.fnOf "held_log" "held_log" (defArgs s_held_log) (defBody s_held_log) (defScope s_held_log) .none kV_held_log dc_held_log pm_held_log an_held_log cd_held_log ct_held_log), sl_held_log⟩) (C_held_log : PySem.W.codeIn K cd_held_log "held_log" = true) (K_held_log : PySem.W.keepIn K (.ref f_held_log) = true)
    (A_held_box : PySem.W.nsIn K mainGlobals "held_box" = some (some (.ref f_held_box))) (L_held_box : K.lookup f_held_box = some ⟨oc_held_box, od_held_box, .func (PySem.W.fnOf "held_box" "held_box" (defArgs s_held_box) (defBody s_held_box) (defScope s_held_box) .none kV_held_box dc_held_box pm_held_box an_held_box cd_held_box ct_held_box), sl_held_box⟩) (C_held_box : PySem.W.codeIn K cd_held_box "held_box" = true) (K_held_box : PySem.W.keepIn K (.ref f_held_box) = true)
    (A_held_log_of : PySem.W.nsIn K mainGlobals "held_log_of" = some (some (.ref f_held_log_of))) (L_held_log_of : K.lookup f_held_log_of = some ⟨oc_held_log_of, od_held_log_of, .func (PySem.W.fnOf "held_log_of" "held_log_of" (defArgs s_held_log_of) (defBody s_held_log_of) (defScope s_held_log_of) .none kV_held_log_of dc_held_log_of pm_held_log_of an_held_log_of cd_held_log_of ct_held_log_of), sl_held_log_of⟩) (C_held_log_of : PySem.W.codeIn K cd_held_log_of "held_log_of" = true) (K_held_log_of : PySem.W.keepIn K (.ref f_held_log_of) = true)
    (A_number_in : PySem.W.nsIn K mainGlobals "number_in" = some (some (.ref f_number_in))) (L_number_in : K.lookup f_number_in = some ⟨oc_number_in, od_number_in, .func (PySem.W.fnOf "number_in" "number_in" (defArgs s_number_in) (defBody s_number_in) (defScope s_number_in) .none kV_number_in dc_number_in pm_number_in an_number_in cd_number_in ct_number_in), sl_number_in⟩) (C_number_in : PySem.W.codeIn K cd_number_in "number_in" = true) (K_number_in : PySem.W.keepIn K (.ref f_number_in) = true)
    (A_entry_in : PySem.W.nsIn K mainGlobals "entry_in" = some (some (.ref f_entry_in))) (L_entry_in : K.lookup f_entry_in = some ⟨oc_entry_in, od_entry_in, .func (PySem.W.fnOf "entry_in" "entry_in" (defArgs s_entry_in) (defBody s_entry_in) (defScope s_entry_in) .none kV_entry_in dc_entry_in pm_entry_in an_entry_in cd_entry_in ct_entry_in), sl_entry_in⟩) (C_entry_in : PySem.W.codeIn K cd_entry_in "entry_in" = true) (K_entry_in : PySem.W.keepIn K (.ref f_entry_in) = true)
    (A_read_log : PySem.W.nsIn K mainGlobals "read_log" = some (some (.ref f_read_log))) (L_read_log : K.lookup f_read_log = some ⟨oc_read_log, od_read_log, .func (PySem.W.fnOf "read_log" "read_log" (defArgs s_read_log) (defBody s_read_log) (defScope s_read_log) .none kV_read_log dc_read_log pm_read_log an_read_log cd_read_log ct_read_log), sl_read_log⟩) (C_read_log : PySem.W.codeIn K cd_read_log "read_log" = true) (K_read_log : PySem.W.keepIn K (.ref f_read_log) = true)
    (A_box_in : PySem.W.nsIn K mainGlobals "box_in" = some (some (.ref f_box_in))) (L_box_in : K.lookup f_box_in = some ⟨oc_box_in, od_box_in, .func (PySem.W.fnOf "box_in" "box_in" (defArgs s_box_in) (defBody s_box_in) (defScope s_box_in) .none kV_box_in dc_box_in pm_box_in an_box_in cd_box_in ct_box_in), sl_box_in⟩) (C_box_in : PySem.W.codeIn K cd_box_in "box_in" = true) (K_box_in : PySem.W.keepIn K (.ref f_box_in) = true)
    (A_pair_in : PySem.W.nsIn K mainGlobals "pair_in" = some (some (.ref f_pair_in))) (L_pair_in : K.lookup f_pair_in = some ⟨oc_pair_in, od_pair_in, .func (PySem.W.fnOf "pair_in" "pair_in" (defArgs s_pair_in) (defBody s_pair_in) (defScope s_pair_in) .none kV_pair_in dc_pair_in pm_pair_in an_pair_in cd_pair_in ct_pair_in), sl_pair_in⟩) (C_pair_in : PySem.W.codeIn K cd_pair_in "pair_in" = true) (K_pair_in : PySem.W.keepIn K (.ref f_pair_in) = true)
    (A_read_atlas : PySem.W.nsIn K mainGlobals "read_atlas" = some (some (.ref f_read_atlas))) (L_read_atlas : K.lookup f_read_atlas = some ⟨oc_read_atlas, od_read_atlas, .func (PySem.W.fnOf "read_atlas" "read_atlas" (defArgs s_read_atlas) (defBody s_read_atlas) (defScope s_read_atlas) .none kV_read_atlas dc_read_atlas pm_read_atlas an_read_atlas cd_read_atlas ct_read_atlas), sl_read_atlas⟩) (C_read_atlas : PySem.W.codeIn K cd_read_atlas "read_atlas" = true) (K_read_atlas : PySem.W.keepIn K (.ref f_read_atlas) = true)
    (A_Lany_entry : PySem.W.nsIn K mainGlobals "_law_any_entry" = some (some (.ref f_Lany_entry))) (L_Lany_entry : K.lookup f_Lany_entry = some ⟨oc_Lany_entry, od_Lany_entry, .func (PySem.W.fnOf "_law_any_entry" "_law_any_entry" (defArgs s_Lany_entry) (defBody s_Lany_entry) (defScope s_Lany_entry) .none kV_Lany_entry dc_Lany_entry pm_Lany_entry an_Lany_entry cd_Lany_entry ct_Lany_entry), sl_Lany_entry⟩) (C_Lany_entry : PySem.W.codeIn K cd_Lany_entry "_law_any_entry" = true) (K_Lany_entry : PySem.W.keepIn K (.ref f_Lany_entry) = true)
    (A_Lany_log : PySem.W.nsIn K mainGlobals "_law_any_log" = some (some (.ref f_Lany_log))) (L_Lany_log : K.lookup f_Lany_log = some ⟨oc_Lany_log, od_Lany_log, .func (PySem.W.fnOf "_law_any_log" "_law_any_log" (defArgs s_Lany_log) (defBody s_Lany_log) (defScope s_Lany_log) .none kV_Lany_log dc_Lany_log pm_Lany_log an_Lany_log cd_Lany_log ct_Lany_log), sl_Lany_log⟩) (C_Lany_log : PySem.W.codeIn K cd_Lany_log "_law_any_log" = true) (K_Lany_log : PySem.W.keepIn K (.ref f_Lany_log) = true)
    (A_Lis_name : PySem.W.nsIn K mainGlobals "_law_is_name" = some (some (.ref f_Lis_name))) (L_Lis_name : K.lookup f_Lis_name = some ⟨oc_Lis_name, od_Lis_name, .func (PySem.W.fnOf "_law_is_name" "_law_is_name" (defArgs s_Lis_name) (defBody s_Lis_name) (defScope s_Lis_name) .none kV_Lis_name dc_Lis_name pm_Lis_name an_Lis_name cd_Lis_name ct_Lis_name), sl_Lis_name⟩) (C_Lis_name : PySem.W.codeIn K cd_Lis_name "_law_is_name" = true) (K_Lis_name : PySem.W.keepIn K (.ref f_Lis_name) = true)
    (A_Lis_sign : PySem.W.nsIn K mainGlobals "_law_is_sign" = some (some (.ref f_Lis_sign))) (L_Lis_sign : K.lookup f_Lis_sign = some ⟨oc_Lis_sign, od_Lis_sign, .func (PySem.W.fnOf "_law_is_sign" "_law_is_sign" (defArgs s_Lis_sign) (defBody s_Lis_sign) (defScope s_Lis_sign) .none kV_Lis_sign dc_Lis_sign pm_Lis_sign an_Lis_sign cd_Lis_sign ct_Lis_sign), sl_Lis_sign⟩) (C_Lis_sign : PySem.W.codeIn K cd_Lis_sign "_law_is_sign" = true) (K_Lis_sign : PySem.W.keepIn K (.ref f_Lis_sign) = true)
    (A_Lis_many : PySem.W.nsIn K mainGlobals "_law_is_many" = some (some (.ref f_Lis_many))) (L_Lis_many : K.lookup f_Lis_many = some ⟨oc_Lis_many, od_Lis_many, .func (PySem.W.fnOf "_law_is_many" "_law_is_many" (defArgs s_Lis_many) (defBody s_Lis_many) (defScope s_Lis_many) .none kV_Lis_many dc_Lis_many pm_Lis_many an_Lis_many cd_Lis_many ct_Lis_many), sl_Lis_many⟩) (C_Lis_many : PySem.W.codeIn K cd_Lis_many "_law_is_many" = true) (K_Lis_many : PySem.W.keepIn K (.ref f_Lis_many) = true)
    (A_Lis_entry : PySem.W.nsIn K mainGlobals "_law_is_entry" = some (some (.ref f_Lis_entry))) (L_Lis_entry : K.lookup f_Lis_entry = some ⟨oc_Lis_entry, od_Lis_entry, .func (PySem.W.fnOf "_law_is_entry" "_law_is_entry" (defArgs s_Lis_entry) (defBody s_Lis_entry) (defScope s_Lis_entry) .none kV_Lis_entry dc_Lis_entry pm_Lis_entry an_Lis_entry cd_Lis_entry ct_Lis_entry), sl_Lis_entry⟩) (C_Lis_entry : PySem.W.codeIn K cd_Lis_entry "_law_is_entry" = true) (K_Lis_entry : PySem.W.keepIn K (.ref f_Lis_entry) = true)
    (A_Lbad_at : PySem.W.nsIn K mainGlobals "_law_bad_at" = some (some (.ref f_Lbad_at))) (L_Lbad_at : K.lookup f_Lbad_at = some ⟨oc_Lbad_at, od_Lbad_at, .func (PySem.W.fnOf "_law_bad_at" "_law_bad_at" (defArgs s_Lbad_at) (defBody s_Lbad_at) (defScope s_Lbad_at) .none kV_Lbad_at dc_Lbad_at pm_Lbad_at an_Lbad_at cd_Lbad_at ct_Lbad_at), sl_Lbad_at⟩) (C_Lbad_at : PySem.W.codeIn K cd_Lbad_at "_law_bad_at" = true) (K_Lbad_at : PySem.W.keepIn K (.ref f_Lbad_at) = true)
    (A_Lspoilt_text : PySem.W.nsIn K mainGlobals "_law_spoilt_text" = some (some (.ref f_Lspoilt_text))) (L_Lspoilt_text : K.lookup f_Lspoilt_text = some ⟨oc_Lspoilt_text, od_Lspoilt_text, .func (PySem.W.fnOf "_law_spoilt_text" "_law_spoilt_text" (defArgs s_Lspoilt_text) (defBody s_Lspoilt_text) (defScope s_Lspoilt_text) .none kV_Lspoilt_text dc_Lspoilt_text pm_Lspoilt_text an_Lspoilt_text cd_Lspoilt_text ct_Lspoilt_text), sl_Lspoilt_text⟩) (C_Lspoilt_text : PySem.W.codeIn K cd_Lspoilt_text "_law_spoilt_text" = true) (K_Lspoilt_text : PySem.W.keepIn K (.ref f_Lspoilt_text) = true)
    (A_Lsmall_log : PySem.W.nsIn K mainGlobals "_law_small_log" = some (some (.ref f_Lsmall_log))) (L_Lsmall_log : K.lookup f_Lsmall_log = some ⟨oc_Lsmall_log, od_Lsmall_log, .func (PySem.W.fnOf "_law_small_log" "_law_small_log" (defArgs s_Lsmall_log) (defBody s_Lsmall_log) (defScope s_Lsmall_log) .none kV_Lsmall_log dc_Lsmall_log pm_Lsmall_log an_Lsmall_log cd_Lsmall_log ct_Lsmall_log), sl_Lsmall_log⟩) (C_Lsmall_log : PySem.W.codeIn K cd_Lsmall_log "_law_small_log" = true) (K_Lsmall_log : PySem.W.keepIn K (.ref f_Lsmall_log) = true)
    (A_Lsmall_rows : PySem.W.nsIn K mainGlobals "_law_small_rows" = some (some (.ref f_Lsmall_rows))) (L_Lsmall_rows : K.lookup f_Lsmall_rows = some ⟨oc_Lsmall_rows, od_Lsmall_rows, .func (PySem.W.fnOf "_law_small_rows" "_law_small_rows" (defArgs s_Lsmall_rows) (defBody s_Lsmall_rows) (defScope s_Lsmall_rows) .none kV_Lsmall_rows dc_Lsmall_rows pm_Lsmall_rows an_Lsmall_rows cd_Lsmall_rows ct_Lsmall_rows), sl_Lsmall_rows⟩) (C_Lsmall_rows : PySem.W.codeIn K cd_Lsmall_rows "_law_small_rows" = true) (K_Lsmall_rows : PySem.W.keepIn K (.ref f_Lsmall_rows) = true)
    (A_Lsmall_box : PySem.W.nsIn K mainGlobals "_law_small_box" = some (some (.ref f_Lsmall_box))) (L_Lsmall_box : K.lookup f_Lsmall_box = some ⟨oc_Lsmall_box, od_Lsmall_box, .func (PySem.W.fnOf "_law_small_box" "_law_small_box" (defArgs s_Lsmall_box) (defBody s_Lsmall_box) (defScope s_Lsmall_box) .none kV_Lsmall_box dc_Lsmall_box pm_Lsmall_box an_Lsmall_box cd_Lsmall_box ct_Lsmall_box), sl_Lsmall_box⟩) (C_Lsmall_box : PySem.W.codeIn K cd_Lsmall_box "_law_small_box" = true) (K_Lsmall_box : PySem.W.keepIn K (.ref f_Lsmall_box) = true)
    (A_Lpool : PySem.W.nsIn K mainGlobals "_law_pool" = some (some (.ref f_Lpool))) (L_Lpool : K.lookup f_Lpool = some ⟨oc_Lpool, od_Lpool, .func (PySem.W.fnOf "_law_pool" "_law_pool" (defArgs s_Lpool) (defBody s_Lpool) (defScope s_Lpool) .none kV_Lpool dc_Lpool pm_Lpool an_Lpool cd_Lpool ct_Lpool), sl_Lpool⟩) (C_Lpool : PySem.W.codeIn K cd_Lpool "_law_pool" = true) (K_Lpool : PySem.W.keepIn K (.ref f_Lpool) = true)
    (A_Ltake : PySem.W.nsIn K mainGlobals "_law_take" = some (some (.ref f_Ltake))) (L_Ltake : K.lookup f_Ltake = some ⟨oc_Ltake, od_Ltake, .func (PySem.W.fnOf "_law_take" "_law_take" (defArgs s_Ltake) (defBody s_Ltake) (defScope s_Ltake) .none kV_Ltake dc_Ltake pm_Ltake an_Ltake cd_Ltake ct_Ltake), sl_Ltake⟩) (C_Ltake : PySem.W.codeIn K cd_Ltake "_law_take" = true) (K_Ltake : PySem.W.keepIn K (.ref f_Ltake) = true)
    (A_Lwhole : PySem.W.nsIn K mainGlobals "_law_whole" = some (some (.ref f_Lwhole))) (L_Lwhole : K.lookup f_Lwhole = some ⟨oc_Lwhole, od_Lwhole, .func (PySem.W.fnOf "_law_whole" "_law_whole" (defArgs s_Lwhole) (defBody s_Lwhole) (defScope s_Lwhole) .none kV_Lwhole dc_Lwhole pm_Lwhole an_Lwhole cd_Lwhole ct_Lwhole), sl_Lwhole⟩) (C_Lwhole : PySem.W.codeIn K cd_Lwhole "_law_whole" = true) (K_Lwhole : PySem.W.keepIn K (.ref f_Lwhole) = true)
    (A_Lsame : PySem.W.nsIn K mainGlobals "_law_same" = some (some (.ref f_Lsame))) (L_Lsame : K.lookup f_Lsame = some ⟨oc_Lsame, od_Lsame, .func (PySem.W.fnOf "_law_same" "_law_same" (defArgs s_Lsame) (defBody s_Lsame) (defScope s_Lsame) .none kV_Lsame dc_Lsame pm_Lsame an_Lsame cd_Lsame ct_Lsame), sl_Lsame⟩) (C_Lsame : PySem.W.codeIn K cd_Lsame "_law_same" = true) (K_Lsame : PySem.W.keepIn K (.ref f_Lsame) = true)
    (A_Lname : PySem.W.nsIn K mainGlobals "_law_name" = some (some (.ref f_Lname))) (L_Lname : K.lookup f_Lname = some ⟨oc_Lname, od_Lname, .func (PySem.W.fnOf "_law_name" "_law_name" (defArgs s_Lname) (defBody s_Lname) (defScope s_Lname) .none kV_Lname dc_Lname pm_Lname an_Lname cd_Lname ct_Lname), sl_Lname⟩) (C_Lname : PySem.W.codeIn K cd_Lname "_law_name" = true) (K_Lname : PySem.W.keepIn K (.ref f_Lname) = true)
    (A_Lnames : PySem.W.nsIn K mainGlobals "_law_names" = some (some (.ref f_Lnames))) (L_Lnames : K.lookup f_Lnames = some ⟨oc_Lnames, od_Lnames, .func (PySem.W.fnOf "_law_names" "_law_names" (defArgs s_Lnames) (defBody s_Lnames) (defScope s_Lnames) .none kV_Lnames dc_Lnames pm_Lnames an_Lnames cd_Lnames ct_Lnames), sl_Lnames⟩) (C_Lnames : PySem.W.codeIn K cd_Lnames "_law_names" = true) (K_Lnames : PySem.W.keepIn K (.ref f_Lnames) = true)
    (A_Lsign : PySem.W.nsIn K mainGlobals "_law_sign" = some (some (.ref f_Lsign))) (L_Lsign : K.lookup f_Lsign = some ⟨oc_Lsign, od_Lsign, .func (PySem.W.fnOf "_law_sign" "_law_sign" (defArgs s_Lsign) (defBody s_Lsign) (defScope s_Lsign) .none kV_Lsign dc_Lsign pm_Lsign an_Lsign cd_Lsign ct_Lsign), sl_Lsign⟩) (C_Lsign : PySem.W.codeIn K cd_Lsign "_law_sign" = true) (K_Lsign : PySem.W.keepIn K (.ref f_Lsign) = true)
    (A_Llegs : PySem.W.nsIn K mainGlobals "_law_legs" = some (some (.ref f_Llegs))) (L_Llegs : K.lookup f_Llegs = some ⟨oc_Llegs, od_Llegs, .func (PySem.W.fnOf "_law_legs" "_law_legs" (defArgs s_Llegs) (defBody s_Llegs) (defScope s_Llegs) .none kV_Llegs dc_Llegs pm_Llegs an_Llegs cd_Llegs ct_Llegs), sl_Llegs⟩) (C_Llegs : PySem.W.codeIn K cd_Llegs "_law_legs" = true) (K_Llegs : PySem.W.keepIn K (.ref f_Llegs) = true)
    (A_Lentry_of : PySem.W.nsIn K mainGlobals "_law_entry_of" = some (some (.ref f_Lentry_of))) (L_Lentry_of : K.lookup f_Lentry_of = some ⟨oc_Lentry_of, od_Lentry_of, .func (PySem.W.fnOf "_law_entry_of" "_law_entry_of" (defArgs s_Lentry_of) (defBody s_Lentry_of) (defScope s_Lentry_of) .none kV_Lentry_of dc_Lentry_of pm_Lentry_of an_Lentry_of cd_Lentry_of ct_Lentry_of), sl_Lentry_of⟩) (C_Lentry_of : PySem.W.codeIn K cd_Lentry_of "_law_entry_of" = true) (K_Lentry_of : PySem.W.keepIn K (.ref f_Lentry_of) = true)
    (A_Lrow_of : PySem.W.nsIn K mainGlobals "_law_row_of" = some (some (.ref f_Lrow_of))) (L_Lrow_of : K.lookup f_Lrow_of = some ⟨oc_Lrow_of, od_Lrow_of, .func (PySem.W.fnOf "_law_row_of" "_law_row_of" (defArgs s_Lrow_of) (defBody s_Lrow_of) (defScope s_Lrow_of) .none kV_Lrow_of dc_Lrow_of pm_Lrow_of an_Lrow_of cd_Lrow_of ct_Lrow_of), sl_Lrow_of⟩) (C_Lrow_of : PySem.W.codeIn K cd_Lrow_of "_law_row_of" = true) (K_Lrow_of : PySem.W.keepIn K (.ref f_Lrow_of) = true)
    (A_Lbox_of : PySem.W.nsIn K mainGlobals "_law_box_of" = some (some (.ref f_Lbox_of))) (L_Lbox_of : K.lookup f_Lbox_of = some ⟨oc_Lbox_of, od_Lbox_of, .func (PySem.W.fnOf "_law_box_of" "_law_box_of" (defArgs s_Lbox_of) (defBody s_Lbox_of) (defScope s_Lbox_of) .none kV_Lbox_of dc_Lbox_of pm_Lbox_of an_Lbox_of cd_Lbox_of ct_Lbox_of), sl_Lbox_of⟩) (C_Lbox_of : PySem.W.codeIn K cd_Lbox_of "_law_box_of" = true) (K_Lbox_of : PySem.W.keepIn K (.ref f_Lbox_of) = true)
    (A_Ldue : PySem.W.nsIn K mainGlobals "_law_due" = some (some (.ref f_Ldue))) (L_Ldue : K.lookup f_Ldue = some ⟨oc_Ldue, od_Ldue, .func (PySem.W.fnOf "_law_due" "_law_due" (defArgs s_Ldue) (defBody s_Ldue) (defScope s_Ldue) .none kV_Ldue dc_Ldue pm_Ldue an_Ldue cd_Ldue ct_Ldue), sl_Ldue⟩) (C_Ldue : PySem.W.codeIn K cd_Ldue "_law_due" = true) (K_Ldue : PySem.W.keepIn K (.ref f_Ldue) = true)
    (A_Lread : PySem.W.nsIn K mainGlobals "_law_read" = some (some (.ref f_Lread))) (L_Lread : K.lookup f_Lread = some ⟨oc_Lread, od_Lread, .func (PySem.W.fnOf "_law_read" "_law_read" (defArgs s_Lread) (defBody s_Lread) (defScope s_Lread) .none kV_Lread dc_Lread pm_Lread an_Lread cd_Lread ct_Lread), sl_Lread⟩) (C_Lread : PySem.W.codeIn K cd_Lread "_law_read" = true) (K_Lread : PySem.W.keepIn K (.ref f_Lread) = true)
    (A_Lbent : PySem.W.nsIn K mainGlobals "_law_bent" = some (some (.ref f_Lbent))) (L_Lbent : K.lookup f_Lbent = some ⟨oc_Lbent, od_Lbent, .func (PySem.W.fnOf "_law_bent" "_law_bent" (defArgs s_Lbent) (defBody s_Lbent) (defScope s_Lbent) .none kV_Lbent dc_Lbent pm_Lbent an_Lbent cd_Lbent ct_Lbent), sl_Lbent⟩) (C_Lbent : PySem.W.codeIn K cd_Lbent "_law_bent" = true) (K_Lbent : PySem.W.keepIn K (.ref f_Lbent) = true)
    (A_law : PySem.W.nsIn K mainGlobals "law" = some (some (.ref f_law))) (L_law : K.lookup f_law = some ⟨oc_law, od_law, .func (PySem.W.fnOf "law" "law" (defArgs s_law) (defBody s_law) (defScope s_law) .none kV_law dc_law pm_law an_law cd_law ct_law), sl_law⟩) (C_law : PySem.W.codeIn K cd_law "law" = true) (K_law : PySem.W.keepIn K (.ref f_law) = true)
    (A_Atlas_init : PySem.W.findIn K (.ref f_Atlas) "__init__" = some (some (.ref f_Atlas_init))) (i_Atlas_init : PySem.W.isFn K (.ref f_Atlas_init) = true) (L_Atlas_init : K.lookup f_Atlas_init = some ⟨oc_Atlas_init, od_Atlas_init, .func (PySem.W.fnOf "__init__" "Atlas.__init__" (defArgs s_Atlas_init) (defBody s_Atlas_init) (defScope s_Atlas_init) (.ref q_Atlas_init) kV_Atlas_init dc_Atlas_init pm_Atlas_init an_Atlas_init cd_Atlas_init ct_Atlas_init), sl_Atlas_init⟩) (C_Atlas_init : PySem.W.codeIn K cd_Atlas_init "Atlas.__init__" = true) (K_Atlas_init : PySem.W.keepIn K (.ref f_Atlas_init) = true)
    (V_Atlas_init : K.lookup q_Atlas_init = some ⟨.type "tuple", dd_Atlas_init, .seq #[.ref e_Atlas_init] nq_Atlas_init, sq_Atlas_init⟩) (W_Atlas_init : K.lookup e_Atlas_init = some ⟨.type "tuple", de_Atlas_init, .seq #[] ne_Atlas_init, se_Atlas_init⟩)
    (A_STEPS : PySem.W.nsIn K mainGlobals "STEPS" = some (some (.ref f_STEPS)))
    (D_STEPS : K.lookup f_STEPS = some ⟨.type "dict", none, .dict es_STEPS n_STEPS, #[]⟩)
    (Y_STEPS : PySem.W.KeysLit w.params es_STEPS.toList)
    (lo_STEPS : (f_STEPS == sysModules) = false)
    (ke_STEPS : Keys es_STEPS.toList ["n", "e", "s", "w"])
    (N_STEPS_0 : PySem.W.nsIn K f_STEPS "n" = some (some (.ref q_STEPS_0)))
    (V_STEPS_0 : K.lookup q_STEPS_0 = some ⟨.type "tuple", dd_STEPS_0, .seq #[.int (0) tk_STEPS_0_0, .int (1) tk_STEPS_0_1] nn_STEPS_0, sl_STEPS_0⟩)
    (N_STEPS_1 : PySem.W.nsIn K f_STEPS "e" = some (some (.ref q_STEPS_1)))
    (V_STEPS_1 : K.lookup q_STEPS_1 = some ⟨.type "tuple", dd_STEPS_1, .seq #[.int (1) tk_STEPS_1_0, .int (0) tk_STEPS_1_1] nn_STEPS_1, sl_STEPS_1⟩)
    (N_STEPS_2 : PySem.W.nsIn K f_STEPS "s" = some (some (.ref q_STEPS_2)))
    (V_STEPS_2 : K.lookup q_STEPS_2 = some ⟨.type "tuple", dd_STEPS_2, .seq #[.int (0) tk_STEPS_2_0, .int (-1) tk_STEPS_2_1] nn_STEPS_2, sl_STEPS_2⟩)
    (N_STEPS_3 : PySem.W.nsIn K f_STEPS "w" = some (some (.ref q_STEPS_3)))
    (V_STEPS_3 : K.lookup q_STEPS_3 = some ⟨.type "tuple", dd_STEPS_3, .seq #[.int (-1) tk_STEPS_3_0, .int (0) tk_STEPS_3_1] nn_STEPS_3, sl_STEPS_3⟩)
    (A_SMALL : PySem.W.nsIn K mainGlobals "SMALL" = some (some (.str "abcdefghijklmnopqrstuvwxyz" t_SMALL)))
    (A_GREAT : PySem.W.nsIn K mainGlobals "GREAT" = some (some (.str "ABCDEFGHIJKLMNOPQRSTUVWXYZ" t_GREAT)))
    (A_LONGEST : PySem.W.nsIn K mainGlobals "LONGEST" = some (some (.int 8 t_LONGEST)))
    (A_WORDS_ALONE : PySem.W.nsIn K mainGlobals "WORDS_ALONE" = some (some (.ref f_WORDS_ALONE)))
    (V_WORDS_ALONE : K.lookup f_WORDS_ALONE = some ⟨.type "tuple", dd_WORDS_ALONE, .seq #[.str "left" tk_WORDS_ALONE_0, .str "right" tk_WORDS_ALONE_1, .str "back" tk_WORDS_ALONE_2, .str "bump" tk_WORDS_ALONE_3, .str "bare" tk_WORDS_ALONE_4, .str "swap" tk_WORDS_ALONE_5] nn_WORDS_ALONE, sl_WORDS_ALONE⟩)
    (A_WORDS_BEHIND_A_FACE : PySem.W.nsIn K mainGlobals "WORDS_BEHIND_A_FACE" = some (some (.ref f_WORDS_BEHIND_A_FACE)))
    (V_WORDS_BEHIND_A_FACE : K.lookup f_WORDS_BEHIND_A_FACE = some ⟨.type "tuple", dd_WORDS_BEHIND_A_FACE, .seq #[.str "left" tk_WORDS_BEHIND_A_FACE_0, .str "right" tk_WORDS_BEHIND_A_FACE_1, .str "back" tk_WORDS_BEHIND_A_FACE_2, .str "go" tk_WORDS_BEHIND_A_FACE_3, .str "bump" tk_WORDS_BEHIND_A_FACE_4, .str "spy" tk_WORDS_BEHIND_A_FACE_5] nn_WORDS_BEHIND_A_FACE, sl_WORDS_BEHIND_A_FACE⟩)
    (A_HOW_MANY_LOTS : PySem.W.nsIn K mainGlobals "HOW_MANY_LOTS" = some (some (.int 8 t_HOW_MANY_LOTS)))
    (A_FIGURES : PySem.W.nsIn K mainGlobals "FIGURES" = some (some (.str "0123456789" t_FIGURES)))
    (A_MOST_FIGURES : PySem.W.nsIn K mainGlobals "MOST_FIGURES" = some (some (.int 30 t_MOST_FIGURES)))
    (A_NONE_AT_ALL : PySem.W.nsIn K mainGlobals "NONE_AT_ALL" = some (some (.str "-" t_NONE_AT_ALL)))
    (Z_abs : PySem.W.nsIn K mainGlobals "abs" = some none)
    (Z_all : PySem.W.nsIn K mainGlobals "all" = some none)
    (Z_any : PySem.W.nsIn K mainGlobals "any" = some none)
    (Z_bool : PySem.W.nsIn K mainGlobals "bool" = some none)
    (Z_enumerate : PySem.W.nsIn K mainGlobals "enumerate" = some none)
    (Z_int : PySem.W.nsIn K mainGlobals "int" = some none)
    (Z_isinstance : PySem.W.nsIn K mainGlobals "isinstance" = some none)
    (Z_len : PySem.W.nsIn K mainGlobals "len" = some none)
    (Z_list : PySem.W.nsIn K mainGlobals "list" = some none)
    (Z_range : PySem.W.nsIn K mainGlobals "range" = some none)
    (Z_sorted : PySem.W.nsIn K mainGlobals "sorted" = some none)
    (Z_str : PySem.W.nsIn K mainGlobals "str" = some none)
    (Z_sum : PySem.W.nsIn K mainGlobals "sum" = some none)
    (Z_tuple : PySem.W.nsIn K mainGlobals "tuple" = some none)
    (Z_zip : PySem.W.nsIn K mainGlobals "zip" = some none)
    (A_BadLog : PySem.W.nsIn K mainGlobals "BadLog" = some (some (.ref f_BadLog)))
    (A_BadBox : PySem.W.nsIn K mainGlobals "BadBox" = some (some (.ref f_BadBox)))
    (A_NoName : PySem.W.nsIn K mainGlobals "NoName" = some (some (.ref f_NoName)))
    (A_Twice : PySem.W.nsIn K mainGlobals "Twice" = some (some (.ref f_Twice)))
    (A_NoWalker : PySem.W.nsIn K mainGlobals "NoWalker" = some (some (.ref f_NoWalker)))
    (A_NeedleError : PySem.W.nsIn K mainGlobals "NeedleError" = some (some (.ref f_NeedleError)))
    (A_NoText : PySem.W.nsIn K mainGlobals "NoText" = some (some (.ref f_NoText)))
    (ic_BadLog : PySem.W.isClsIn K f_BadLog = true) (ty_BadLog : PySem.W.typeIn K (.ref f_BadLog) = some (.type "type")) (su_BadLog : PySem.W.subIn K (.ref f_BadLog) (.ref f_BadLog) = some true)
    (ic_BadBox : PySem.W.isClsIn K f_BadBox = true) (ty_BadBox : PySem.W.typeIn K (.ref f_BadBox) = some (.type "type")) (su_BadBox : PySem.W.subIn K (.ref f_BadLog) (.ref f_BadBox) = some false)
    (ne_BadBox : (Value.ref f_BadLog == Value.ref f_BadBox) = false)
    (ic_NoName : PySem.W.isClsIn K f_NoName = true) (ty_NoName : PySem.W.typeIn K (.ref f_NoName) = some (.type "type")) (su_NoName : PySem.W.subIn K (.ref f_BadLog) (.ref f_NoName) = some false)
    (ne_NoName : (Value.ref f_BadLog == Value.ref f_NoName) = false)
    (ic_Twice : PySem.W.isClsIn K f_Twice = true) (ty_Twice : PySem.W.typeIn K (.ref f_Twice) = some (.type "type")) (su_Twice : PySem.W.subIn K (.ref f_BadLog) (.ref f_Twice) = some false)
    (ne_Twice : (Value.ref f_BadLog == Value.ref f_Twice) = false)
    (ic_NoWalker : PySem.W.isClsIn K f_NoWalker = true) (ty_NoWalker : PySem.W.typeIn K (.ref f_NoWalker) = some (.type "type")) (su_NoWalker : PySem.W.subIn K (.ref f_BadLog) (.ref f_NoWalker) = some false)
    (ne_NoWalker : (Value.ref f_BadLog == Value.ref f_NoWalker) = false)
    (ic_NeedleError : PySem.W.isClsIn K f_NeedleError = true) (ty_NeedleError : PySem.W.typeIn K (.ref f_NeedleError) = some (.type "type")) (su_NeedleError : PySem.W.subIn K (.ref f_BadLog) (.ref f_NeedleError) = some true)
    (ne_NeedleError : (Value.ref f_BadLog == Value.ref f_NeedleError) = false)
    (ic_NoText : PySem.W.isClsIn K f_NoText = true) (ty_NoText : PySem.W.typeIn K (.ref f_NoText) = some (.type "type")) (su_NoText : PySem.W.subIn K (.ref f_BadLog) (.ref f_NoText) = some false)
    (ne_NoText : (Value.ref f_BadLog == Value.ref f_NoText) = false)
    (su_BadBox_BadLog : PySem.W.subIn K (.ref f_BadBox) (.ref f_BadLog) = some false)
    (ne_BadBox_BadLog : (Value.ref f_BadBox == Value.ref f_BadLog) = false)
    (su_BadBox_BadBox : PySem.W.subIn K (.ref f_BadBox) (.ref f_BadBox) = some true)
    (su_BadBox_NoName : PySem.W.subIn K (.ref f_BadBox) (.ref f_NoName) = some false)
    (ne_BadBox_NoName : (Value.ref f_BadBox == Value.ref f_NoName) = false)
    (su_BadBox_Twice : PySem.W.subIn K (.ref f_BadBox) (.ref f_Twice) = some false)
    (ne_BadBox_Twice : (Value.ref f_BadBox == Value.ref f_Twice) = false)
    (su_BadBox_NoWalker : PySem.W.subIn K (.ref f_BadBox) (.ref f_NoWalker) = some false)
    (ne_BadBox_NoWalker : (Value.ref f_BadBox == Value.ref f_NoWalker) = false)
    (su_BadBox_NeedleError : PySem.W.subIn K (.ref f_BadBox) (.ref f_NeedleError) = some true)
    (ne_BadBox_NeedleError : (Value.ref f_BadBox == Value.ref f_NeedleError) = false)
    (su_BadBox_NoText : PySem.W.subIn K (.ref f_BadBox) (.ref f_NoText) = some false)
    (ne_BadBox_NoText : (Value.ref f_BadBox == Value.ref f_NoText) = false)
    (su_NoName_BadLog : PySem.W.subIn K (.ref f_NoName) (.ref f_BadLog) = some false)
    (ne_NoName_BadLog : (Value.ref f_NoName == Value.ref f_BadLog) = false)
    (su_NoName_BadBox : PySem.W.subIn K (.ref f_NoName) (.ref f_BadBox) = some false)
    (ne_NoName_BadBox : (Value.ref f_NoName == Value.ref f_BadBox) = false)
    (su_NoName_NoName : PySem.W.subIn K (.ref f_NoName) (.ref f_NoName) = some true)
    (su_NoName_Twice : PySem.W.subIn K (.ref f_NoName) (.ref f_Twice) = some false)
    (ne_NoName_Twice : (Value.ref f_NoName == Value.ref f_Twice) = false)
    (su_NoName_NoWalker : PySem.W.subIn K (.ref f_NoName) (.ref f_NoWalker) = some false)
    (ne_NoName_NoWalker : (Value.ref f_NoName == Value.ref f_NoWalker) = false)
    (su_NoName_NeedleError : PySem.W.subIn K (.ref f_NoName) (.ref f_NeedleError) = some true)
    (ne_NoName_NeedleError : (Value.ref f_NoName == Value.ref f_NeedleError) = false)
    (su_NoName_NoText : PySem.W.subIn K (.ref f_NoName) (.ref f_NoText) = some false)
    (ne_NoName_NoText : (Value.ref f_NoName == Value.ref f_NoText) = false)
    (su_Twice_BadLog : PySem.W.subIn K (.ref f_Twice) (.ref f_BadLog) = some false)
    (ne_Twice_BadLog : (Value.ref f_Twice == Value.ref f_BadLog) = false)
    (su_Twice_BadBox : PySem.W.subIn K (.ref f_Twice) (.ref f_BadBox) = some false)
    (ne_Twice_BadBox : (Value.ref f_Twice == Value.ref f_BadBox) = false)
    (su_Twice_NoName : PySem.W.subIn K (.ref f_Twice) (.ref f_NoName) = some false)
    (ne_Twice_NoName : (Value.ref f_Twice == Value.ref f_NoName) = false)
    (su_Twice_Twice : PySem.W.subIn K (.ref f_Twice) (.ref f_Twice) = some true)
    (su_Twice_NoWalker : PySem.W.subIn K (.ref f_Twice) (.ref f_NoWalker) = some false)
    (ne_Twice_NoWalker : (Value.ref f_Twice == Value.ref f_NoWalker) = false)
    (su_Twice_NeedleError : PySem.W.subIn K (.ref f_Twice) (.ref f_NeedleError) = some true)
    (ne_Twice_NeedleError : (Value.ref f_Twice == Value.ref f_NeedleError) = false)
    (su_Twice_NoText : PySem.W.subIn K (.ref f_Twice) (.ref f_NoText) = some false)
    (ne_Twice_NoText : (Value.ref f_Twice == Value.ref f_NoText) = false)
    (su_NoText_BadLog : PySem.W.subIn K (.ref f_NoText) (.ref f_BadLog) = some false)
    (ne_NoText_BadLog : (Value.ref f_NoText == Value.ref f_BadLog) = false)
    (su_NoText_BadBox : PySem.W.subIn K (.ref f_NoText) (.ref f_BadBox) = some false)
    (ne_NoText_BadBox : (Value.ref f_NoText == Value.ref f_BadBox) = false)
    (su_NoText_NoName : PySem.W.subIn K (.ref f_NoText) (.ref f_NoName) = some false)
    (ne_NoText_NoName : (Value.ref f_NoText == Value.ref f_NoName) = false)
    (su_NoText_Twice : PySem.W.subIn K (.ref f_NoText) (.ref f_Twice) = some false)
    (ne_NoText_Twice : (Value.ref f_NoText == Value.ref f_Twice) = false)
    (su_NoText_NoWalker : PySem.W.subIn K (.ref f_NoText) (.ref f_NoWalker) = some false)
    (ne_NoText_NoWalker : (Value.ref f_NoText == Value.ref f_NoWalker) = false)
    (su_NoText_NeedleError : PySem.W.subIn K (.ref f_NoText) (.ref f_NeedleError) = some true)
    (ne_NoText_NeedleError : (Value.ref f_NoText == Value.ref f_NeedleError) = false)
    (su_NoText_NoText : PySem.W.subIn K (.ref f_NoText) (.ref f_NoText) = some true)
    (Z_ValueError : PySem.W.nsIn K mainGlobals "ValueError" = some none)
    (su_VE : PySem.W.subIn K (.ref f_BadLog) (.type "ValueError") = some true)
    (X_D : K.lookup f_BadLog = some (excClassObj nm_D qn_D f_BadLog ns_D bs_D bm_D true sn_D sub_D ab_D col_D dd_D m0_D m1_D m2_D m3_D m5_D "ValueError.__new__")) (bm_ok : PySem.HandSPX.refsVE bm_D = true)
    (sa_D : PySem.W.findIn K (.ref f_BadLog) "__setattr__" = some (some (.builtin "object.__setattr__"))) (ga_D : PySem.W.findIn K (.ref f_BadLog) "__getattribute__" = some (some (.builtin "BaseException.__getattribute__"))) (gg_D : PySem.W.findIn K (.ref f_BadLog) "__getattr__" = some none)
    (no_name : PySem.W.findIn K (.ref f_BadLog) "name" = some none)
    (no_at : PySem.W.findIn K (.ref f_BadLog) "at" = some none)
    (I_D : PySem.W.findIn K (.ref f_BadLog) "__init__" = some (some (.ref f_init))) (t_init : PySem.W.typeIn K (.ref f_init) = some (.type "function"))
    (L_init : K.lookup f_init = some ⟨oc_init, od_init, .func (PySem.W.fnOf "__init__" "BadLog.__init__" (defArgs s_init) (defBody s_init) (defScope s_init) .none kV_init dc_init pm_init an_init cd_init ct_init), sl_init⟩) (C_init : PySem.W.codeIn K cd_init "BadLog.__init__" = true) (K_init : PySem.W.keepIn K (.ref f_init) = true)
    (k_D : PySem.W.keepIn K (.ref f_BadLog) = true) (e_D : PySem.W.subIn K (.ref f_BadLog) (.type "BaseException") = some true) (h_D : PySem.W.hasDictIn K f_BadLog = true)
    (ca_D : PySem.W.findIn K (.ref f_BadLog) "__class__" = some (some (.builtin "object.__class__"))) (cn_D : PySem.W.specialIn K (.builtin "object.__class__") "__get__" = some (some (.builtin "getset_descriptor.__get__"))) (ct_D : PySem.W.takesIn K (.builtin "object.__class__") = some true) (cm_D : PySem.W.mroIn K f_BadLog (.type "object") = some true)
    (su_VE_BadBox : PySem.W.subIn K (.ref f_BadBox) (.type "ValueError") = some true)
    (X_D_BadBox : K.lookup f_BadBox = some (excClassObj nm_D_BadBox qn_D_BadBox f_BadBox ns_D_BadBox bs_D_BadBox bm_D_BadBox true sn_D_BadBox sub_D_BadBox ab_D_BadBox col_D_BadBox dd_D_BadBox m0_D_BadBox m1_D_BadBox m2_D_BadBox m3_D_BadBox m5_D_BadBox "ValueError.__new__")) (bm_ok_BadBox : PySem.HandSPX.refsVE bm_D_BadBox = true)
    (sa_D_BadBox : PySem.W.findIn K (.ref f_BadBox) "__setattr__" = some (some (.builtin "object.__setattr__"))) (ga_D_BadBox : PySem.W.findIn K (.ref f_BadBox) "__getattribute__" = some (some (.builtin "BaseException.__getattribute__"))) (gg_D_BadBox : PySem.W.findIn K (.ref f_BadBox) "__getattr__" = some none)
    (no_BadBox_at : PySem.W.findIn K (.ref f_BadBox) "at" = some none)
    (I_D_BadBox : PySem.W.findIn K (.ref f_BadBox) "__init__" = some (some (.ref f_init_BadBox))) (t_init_BadBox : PySem.W.typeIn K (.ref f_init_BadBox) = some (.type "function"))
    (L_init_BadBox : K.lookup f_init_BadBox = some ⟨oc_init_BadBox, od_init_BadBox, .func (PySem.W.fnOf "__init__" "BadBox.__init__" (defArgs s_init_BadBox) (defBody s_init_BadBox) (defScope s_init_BadBox) .none kV_init_BadBox dc_init_BadBox pm_init_BadBox an_init_BadBox cd_init_BadBox ct_init_BadBox), sl_init_BadBox⟩) (C_init_BadBox : PySem.W.codeIn K cd_init_BadBox "BadBox.__init__" = true) (K_init_BadBox : PySem.W.keepIn K (.ref f_init_BadBox) = true)
    (k_D_BadBox : PySem.W.keepIn K (.ref f_BadBox) = true) (e_D_BadBox : PySem.W.subIn K (.ref f_BadBox) (.type "BaseException") = some true) (h_D_BadBox : PySem.W.hasDictIn K f_BadBox = true)
    (ca_D_BadBox : PySem.W.findIn K (.ref f_BadBox) "__class__" = some (some (.builtin "object.__class__"))) (cn_D_BadBox : PySem.W.specialIn K (.builtin "object.__class__") "__get__" = some (some (.builtin "getset_descriptor.__get__"))) (ct_D_BadBox : PySem.W.takesIn K (.builtin "object.__class__") = some true) (cm_D_BadBox : PySem.W.mroIn K f_BadBox (.type "object") = some true)
    (su_VE_NoName : PySem.W.subIn K (.ref f_NoName) (.type "ValueError") = some true)
    (X_D_NoName : K.lookup f_NoName = some (excClassObj nm_D_NoName qn_D_NoName f_NoName ns_D_NoName bs_D_NoName bm_D_NoName true sn_D_NoName sub_D_NoName ab_D_NoName col_D_NoName dd_D_NoName m0_D_NoName m1_D_NoName m2_D_NoName m3_D_NoName m5_D_NoName "ValueError.__new__")) (bm_ok_NoName : PySem.HandSPX.refsVE bm_D_NoName = true)
    (sa_D_NoName : PySem.W.findIn K (.ref f_NoName) "__setattr__" = some (some (.builtin "object.__setattr__"))) (ga_D_NoName : PySem.W.findIn K (.ref f_NoName) "__getattribute__" = some (some (.builtin "BaseException.__getattribute__"))) (gg_D_NoName : PySem.W.findIn K (.ref f_NoName) "__getattr__" = some none)
    (no_NoName_name : PySem.W.findIn K (.ref f_NoName) "name" = some none)
    (I_D_NoName : PySem.W.findIn K (.ref f_NoName) "__init__" = some (some (.ref f_init_NoName))) (t_init_NoName : PySem.W.typeIn K (.ref f_init_NoName) = some (.type "function"))
    (L_init_NoName : K.lookup f_init_NoName = some ⟨oc_init_NoName, od_init_NoName, .func (PySem.W.fnOf "__init__" "NoName.__init__" (defArgs s_init_NoName) (defBody s_init_NoName) (defScope s_init_NoName) .none kV_init_NoName dc_init_NoName pm_init_NoName an_init_NoName cd_init_NoName ct_init_NoName), sl_init_NoName⟩) (C_init_NoName : PySem.W.codeIn K cd_init_NoName "NoName.__init__" = true) (K_init_NoName : PySem.W.keepIn K (.ref f_init_NoName) = true)
    (k_D_NoName : PySem.W.keepIn K (.ref f_NoName) = true) (e_D_NoName : PySem.W.subIn K (.ref f_NoName) (.type "BaseException") = some true) (h_D_NoName : PySem.W.hasDictIn K f_NoName = true)
    (ca_D_NoName : PySem.W.findIn K (.ref f_NoName) "__class__" = some (some (.builtin "object.__class__"))) (cn_D_NoName : PySem.W.specialIn K (.builtin "object.__class__") "__get__" = some (some (.builtin "getset_descriptor.__get__"))) (ct_D_NoName : PySem.W.takesIn K (.builtin "object.__class__") = some true) (cm_D_NoName : PySem.W.mroIn K f_NoName (.type "object") = some true)
    (su_VE_Twice : PySem.W.subIn K (.ref f_Twice) (.type "ValueError") = some true)
    (X_D_Twice : K.lookup f_Twice = some (excClassObj nm_D_Twice qn_D_Twice f_Twice ns_D_Twice bs_D_Twice bm_D_Twice true sn_D_Twice sub_D_Twice ab_D_Twice col_D_Twice dd_D_Twice m0_D_Twice m1_D_Twice m2_D_Twice m3_D_Twice m5_D_Twice "ValueError.__new__")) (bm_ok_Twice : PySem.HandSPX.refsVE bm_D_Twice = true)
    (sa_D_Twice : PySem.W.findIn K (.ref f_Twice) "__setattr__" = some (some (.builtin "object.__setattr__"))) (ga_D_Twice : PySem.W.findIn K (.ref f_Twice) "__getattribute__" = some (some (.builtin "BaseException.__getattribute__"))) (gg_D_Twice : PySem.W.findIn K (.ref f_Twice) "__getattr__" = some none)
    (no_Twice_name : PySem.W.findIn K (.ref f_Twice) "name" = some none)
    (I_D_Twice : PySem.W.findIn K (.ref f_Twice) "__init__" = some (some (.ref f_init_Twice))) (t_init_Twice : PySem.W.typeIn K (.ref f_init_Twice) = some (.type "function"))
    (L_init_Twice : K.lookup f_init_Twice = some ⟨oc_init_Twice, od_init_Twice, .func (PySem.W.fnOf "__init__" "Twice.__init__" (defArgs s_init_Twice) (defBody s_init_Twice) (defScope s_init_Twice) .none kV_init_Twice dc_init_Twice pm_init_Twice an_init_Twice cd_init_Twice ct_init_Twice), sl_init_Twice⟩) (C_init_Twice : PySem.W.codeIn K cd_init_Twice "Twice.__init__" = true) (K_init_Twice : PySem.W.keepIn K (.ref f_init_Twice) = true)
    (k_D_Twice : PySem.W.keepIn K (.ref f_Twice) = true) (e_D_Twice : PySem.W.subIn K (.ref f_Twice) (.type "BaseException") = some true) (h_D_Twice : PySem.W.hasDictIn K f_Twice = true)
    (ca_D_Twice : PySem.W.findIn K (.ref f_Twice) "__class__" = some (some (.builtin "object.__class__"))) (cn_D_Twice : PySem.W.specialIn K (.builtin "object.__class__") "__get__" = some (some (.builtin "getset_descriptor.__get__"))) (ct_D_Twice : PySem.W.takesIn K (.builtin "object.__class__") = some true) (cm_D_Twice : PySem.W.mroIn K f_Twice (.type "object") = some true)
    (su_VE_NoText : PySem.W.subIn K (.ref f_NoText) (.type "ValueError") = some true)
    (X_D_NoText : K.lookup f_NoText = some (excClassObj nm_D_NoText qn_D_NoText f_NoText ns_D_NoText bs_D_NoText bm_D_NoText true sn_D_NoText sub_D_NoText ab_D_NoText col_D_NoText dd_D_NoText m0_D_NoText m1_D_NoText m2_D_NoText m3_D_NoText m5_D_NoText "ValueError.__new__")) (bm_ok_NoText : PySem.HandSPX.refsVE bm_D_NoText = true)
    (sa_D_NoText : PySem.W.findIn K (.ref f_NoText) "__setattr__" = some (some (.builtin "object.__setattr__"))) (ga_D_NoText : PySem.W.findIn K (.ref f_NoText) "__getattribute__" = some (some (.builtin "BaseException.__getattribute__"))) (gg_D_NoText : PySem.W.findIn K (.ref f_NoText) "__getattr__" = some none)
    (no_NoText_at : PySem.W.findIn K (.ref f_NoText) "at" = some none)
    (I_D_NoText : PySem.W.findIn K (.ref f_NoText) "__init__" = some (some (.ref f_init_NoText))) (t_init_NoText : PySem.W.typeIn K (.ref f_init_NoText) = some (.type "function"))
    (L_init_NoText : K.lookup f_init_NoText = some ⟨oc_init_NoText, od_init_NoText, .func (PySem.W.fnOf "__init__" "NoText.__init__" (defArgs s_init_NoText) (defBody s_init_NoText) (defScope s_init_NoText) .none kV_init_NoText dc_init_NoText pm_init_NoText an_init_NoText cd_init_NoText ct_init_NoText), sl_init_NoText⟩) (C_init_NoText : PySem.W.codeIn K cd_init_NoText "NoText.__init__" = true) (K_init_NoText : PySem.W.keepIn K (.ref f_init_NoText) = true)
    (k_D_NoText : PySem.W.keepIn K (.ref f_NoText) = true) (e_D_NoText : PySem.W.subIn K (.ref f_NoText) (.type "BaseException") = some true) (h_D_NoText : PySem.W.hasDictIn K f_NoText = true)
    (ca_D_NoText : PySem.W.findIn K (.ref f_NoText) "__class__" = some (some (.builtin "object.__class__"))) (cn_D_NoText : PySem.W.specialIn K (.builtin "object.__class__") "__get__" = some (some (.builtin "getset_descriptor.__get__"))) (ct_D_NoText : PySem.W.takesIn K (.builtin "object.__class__") = some true) (cm_D_NoText : PySem.W.mroIn K f_NoText (.type "object") = some true) :
    ∃ fd : FuncData, (∀ (s : Shared) (v : Value), BindsTo s fd ⟨[v], []⟩ [("_law_script", v)]) ∧ ∀ base : Heap, K.In base → base.Ns mainGlobals mg → FnOk l.prog w K mg base CX0 14 fa fd ["_law_script"] (spLaw K) := by
  have e := hfa.symm.trans (PySem.W.mg_of X G A_law)
  cases e
  let T : Top w K mg := {
    a_Atlas := f_Atlas, g_Atlas := PySem.W.mg_of X G A_Atlas, cl_Atlas := ⟨pg_Atlas, hd_Atlas, po_Atlas, sa_Atlas⟩,
    nf_Atlas_box := nf_Atlas_box,
    nf_Atlas_names := nf_Atlas_names,
    nf_Atlas_logs := nf_Atlas_logs,
    a_is_whole := f_is_whole, fd_is_whole := _, F_is_whole := fun_mk (st := s_is_whole) L_is_whole C_is_whole K_is_whole,
    b_is_whole := (fun_mk (st := s_is_whole) L_is_whole C_is_whole K_is_whole).binds (ps := ["thing"]) fun _ _ _ _ _ _ us hl => match us, hl with | [_], _ => rfl,
    g_is_whole := PySem.W.mg_of X G A_is_whole,
    a_is_row := f_is_row, fd_is_row := _, F_is_row := fun_mk (st := s_is_row) L_is_row C_is_row K_is_row,
    b_is_row := (fun_mk (st := s_is_row) L_is_row C_is_row K_is_row).binds (ps := ["thing"]) fun _ _ _ _ _ _ us hl => match us, hl with | [_], _ => rfl,
    g_is_row := PySem.W.mg_of X G A_is_row,
    a_laid_out := f_laid_out, fd_laid_out := _, F_laid_out := fun_mk (st := s_laid_out) L_laid_out C_laid_out K_laid_out,
    b_laid_out := (fun_mk (st := s_laid_out) L_laid_out C_laid_out K_laid_out).binds (ps := ["thing"]) fun _ _ _ _ _ _ us hl => match us, hl with | [_], _ => rfl,
    g_laid_out := PySem.W.mg_of X G A_laid_out,
    a_kept := f_kept, fd_kept := _, F_kept := fun_mk (st := s_kept) L_kept C_kept K_kept,
    b_kept := (fun_mk (st := s_kept) L_kept C_kept K_kept).binds (ps := ["thing"]) fun _ _ _ _ _ _ us hl => match us, hl with | [_], _ => rfl,
    g_kept := PySem.W.mg_of X G A_kept,
    a_is_letter := f_is_letter, fd_is_letter := _, F_is_letter := fun_mk (st := s_is_letter) L_is_letter C_is_letter K_is_letter,
    b_is_letter := (fun_mk (st := s_is_letter) L_is_letter C_is_letter K_is_letter).binds (ps := ["thing"]) fun _ _ _ _ _ _ us hl => match us, hl with | [_], _ => rfl,
    g_is_letter := PySem.W.mg_of X G A_is_letter,
    a_is_short_text := f_is_short_text, fd_is_short_text := _, F_is_short_text := fun_mk (st := s_is_short_text) L_is_short_text C_is_short_text K_is_short_text,
    b_is_short_text := (fun_mk (st := s_is_short_text) L_is_short_text C_is_short_text K_is_short_text).binds (ps := ["thing"]) fun _ _ _ _ _ _ us hl => match us, hl with | [_], _ => rfl,
    g_is_short_text := PySem.W.mg_of X G A_is_short_text,
    a_are_small := f_are_small, fd_are_small := _, F_are_small := fun_mk (st := s_are_small) L_are_small C_are_small K_are_small,
    b_are_small := (fun_mk (st := s_are_small) L_are_small C_are_small K_are_small).binds (ps := ["text"]) fun _ _ _ _ _ _ us hl => match us, hl with | [_], _ => rfl,
    g_are_small := PySem.W.mg_of X G A_are_small,
    a_is_name := f_is_name, fd_is_name := _, F_is_name := fun_mk (st := s_is_name) L_is_name C_is_name K_is_name,
    b_is_name := (fun_mk (st := s_is_name) L_is_name C_is_name K_is_name).binds (ps := ["thing"]) fun _ _ _ _ _ _ us hl => match us, hl with | [_], _ => rfl,
    g_is_name := PySem.W.mg_of X G A_is_name,
    a_is_lone := f_is_lone, fd_is_lone := _, F_is_lone := fun_mk (st := s_is_lone) L_is_lone C_is_lone K_is_lone,
    b_is_lone := (fun_mk (st := s_is_lone) L_is_lone C_is_lone K_is_lone).binds (ps := ["thing"]) fun _ _ _ _ _ _ us hl => match us, hl with | [_], _ => rfl,
    g_is_lone := PySem.W.mg_of X G A_is_lone,
    a_is_sign := f_is_sign, fd_is_sign := _, F_is_sign := fun_mk (st := s_is_sign) L_is_sign C_is_sign K_is_sign,
    b_is_sign := (fun_mk (st := s_is_sign) L_is_sign C_is_sign K_is_sign).binds (ps := ["thing"]) fun _ _ _ _ _ _ us hl => match us, hl with | [_], _ => rfl,
    g_is_sign := PySem.W.mg_of X G A_is_sign,
    a_is_many := f_is_many, fd_is_many := _, F_is_many := fun_mk (st := s_is_many) L_is_many C_is_many K_is_many,
    b_is_many := (fun_mk (st := s_is_many) L_is_many C_is_many K_is_many).binds (ps := ["thing"]) fun _ _ _ _ _ _ us hl => match us, hl with | [_], _ => rfl,
    g_is_many := PySem.W.mg_of X G A_is_many,
    a_is_pair_entry := f_is_pair_entry, fd_is_pair_entry := _, F_is_pair_entry := fun_mk (st := s_is_pair_entry) L_is_pair_entry C_is_pair_entry K_is_pair_entry,
    b_is_pair_entry := (fun_mk (st := s_is_pair_entry) L_is_pair_entry C_is_pair_entry K_is_pair_entry).binds (ps := ["word", "part"]) fun _ _ _ _ _ _ us hl => match us, hl with | [_, _], _ => rfl,
    g_is_pair_entry := PySem.W.mg_of X G A_is_pair_entry,
    a_is_entry := f_is_entry, fd_is_entry := _, F_is_entry := fun_mk (st := s_is_entry) L_is_entry C_is_entry K_is_entry,
    b_is_entry := (fun_mk (st := s_is_entry) L_is_entry C_is_entry K_is_entry).binds (ps := ["thing"]) fun _ _ _ _ _ _ us hl => match us, hl with | [_], _ => rfl,
    g_is_entry := PySem.W.mg_of X G A_is_entry,
    a_held_log := f_held_log, fd_held_log := _, F_held_log := fun_mk (st := s_held_log) L_held_log C_held_log K_held_log,
    b_held_log := (fun_mk (st := s_held_log) L_held_log C_held_log K_held_log).binds (ps := ["entries"]) fun _ _ _ _ _ _ us hl => match us, hl with | [_], _ => rfl,
    g_held_log := PySem.W.mg_of X G A_held_log,
    a_held_box := f_held_box, fd_held_box := _, F_held_box := fun_mk (st := s_held_box) L_held_box C_held_box K_held_box,
    b_held_box := (fun_mk (st := s_held_box) L_held_box C_held_box K_held_box).binds (ps := ["box"]) fun _ _ _ _ _ _ us hl => match us, hl with | [_], _ => rfl,
    g_held_box := PySem.W.mg_of X G A_held_box,
    a_held_log_of := f_held_log_of, fd_held_log_of := _, F_held_log_of := fun_mk (st := s_held_log_of) L_held_log_of C_held_log_of K_held_log_of,
    b_held_log_of := (fun_mk (st := s_held_log_of) L_held_log_of C_held_log_of K_held_log_of).binds (ps := ["name", "log"]) fun _ _ _ _ _ _ us hl => match us, hl with | [_, _], _ => rfl,
    g_held_log_of := PySem.W.mg_of X G A_held_log_of,
    a_number_in := f_number_in, fd_number_in := _, F_number_in := fun_mk (st := s_number_in) L_number_in C_number_in K_number_in,
    b_number_in := (fun_mk (st := s_number_in) L_number_in C_number_in K_number_in).binds (ps := ["word"]) fun _ _ _ _ _ _ us hl => match us, hl with | [_], _ => rfl,
    g_number_in := PySem.W.mg_of X G A_number_in,
    a_entry_in := f_entry_in, fd_entry_in := _, F_entry_in := fun_mk (st := s_entry_in) L_entry_in C_entry_in K_entry_in,
    b_entry_in := (fun_mk (st := s_entry_in) L_entry_in C_entry_in K_entry_in).binds (ps := ["text"]) fun _ _ _ _ _ _ us hl => match us, hl with | [_], _ => rfl,
    g_entry_in := PySem.W.mg_of X G A_entry_in,
    a_read_log := f_read_log, fd_read_log := _, F_read_log := fun_mk (st := s_read_log) L_read_log C_read_log K_read_log,
    b_read_log := (fun_mk (st := s_read_log) L_read_log C_read_log K_read_log).binds (ps := ["text"]) fun _ _ _ _ _ _ us hl => match us, hl with | [_], _ => rfl,
    g_read_log := PySem.W.mg_of X G A_read_log,
    a_box_in := f_box_in, fd_box_in := _, F_box_in := fun_mk (st := s_box_in) L_box_in C_box_in K_box_in,
    b_box_in := (fun_mk (st := s_box_in) L_box_in C_box_in K_box_in).binds (ps := ["line"]) fun _ _ _ _ _ _ us hl => match us, hl with | [_], _ => rfl,
    g_box_in := PySem.W.mg_of X G A_box_in,
    a_pair_in := f_pair_in, fd_pair_in := _, F_pair_in := fun_mk (st := s_pair_in) L_pair_in C_pair_in K_pair_in,
    b_pair_in := (fun_mk (st := s_pair_in) L_pair_in C_pair_in K_pair_in).binds (ps := ["line"]) fun _ _ _ _ _ _ us hl => match us, hl with | [_], _ => rfl,
    g_pair_in := PySem.W.mg_of X G A_pair_in,
    a_read_atlas := f_read_atlas, fd_read_atlas := _, F_read_atlas := fun_mk (st := s_read_atlas) L_read_atlas C_read_atlas K_read_atlas,
    b_read_atlas := (fun_mk (st := s_read_atlas) L_read_atlas C_read_atlas K_read_atlas).binds (ps := ["text"]) fun _ _ _ _ _ _ us hl => match us, hl with | [_], _ => rfl,
    g_read_atlas := PySem.W.mg_of X G A_read_atlas,
    a_Lany_entry := f_Lany_entry, fd_Lany_entry := _, F_Lany_entry := fun_mk (st := s_Lany_entry) L_Lany_entry C_Lany_entry K_Lany_entry,
    b_Lany_entry := (fun_mk (st := s_Lany_entry) L_Lany_entry C_Lany_entry K_Lany_entry).binds (ps := ["_law_pool_here", "_law_looks"]) fun _ _ _ _ _ _ us hl => match us, hl with | [_, _], _ => rfl,
    g_Lany_entry := PySem.W.mg_of X G A_Lany_entry,
    a_Lany_log := f_Lany_log, fd_Lany_log := _, F_Lany_log := fun_mk (st := s_Lany_log) L_Lany_log C_Lany_log K_Lany_log,
    b_Lany_log := (fun_mk (st := s_Lany_log) L_Lany_log C_Lany_log K_Lany_log).binds (ps := ["_law_pool_here", "_law_many", "_law_swaps"]) fun _ _ _ _ _ _ us hl => match us, hl with | [_, _, _], _ => rfl,
    g_Lany_log := PySem.W.mg_of X G A_Lany_log,
    a_Lis_name := f_Lis_name, fd_Lis_name := _, F_Lis_name := fun_mk (st := s_Lis_name) L_Lis_name C_Lis_name K_Lis_name,
    b_Lis_name := (fun_mk (st := s_Lis_name) L_Lis_name C_Lis_name K_Lis_name).binds (ps := ["_law_thing"]) fun _ _ _ _ _ _ us hl => match us, hl with | [_], _ => rfl,
    g_Lis_name := PySem.W.mg_of X G A_Lis_name,
    a_Lis_sign := f_Lis_sign, fd_Lis_sign := _, F_Lis_sign := fun_mk (st := s_Lis_sign) L_Lis_sign C_Lis_sign K_Lis_sign,
    b_Lis_sign := (fun_mk (st := s_Lis_sign) L_Lis_sign C_Lis_sign K_Lis_sign).binds (ps := ["_law_thing"]) fun _ _ _ _ _ _ us hl => match us, hl with | [_], _ => rfl,
    g_Lis_sign := PySem.W.mg_of X G A_Lis_sign,
    a_Lis_many := f_Lis_many, fd_Lis_many := _, F_Lis_many := fun_mk (st := s_Lis_many) L_Lis_many C_Lis_many K_Lis_many,
    b_Lis_many := (fun_mk (st := s_Lis_many) L_Lis_many C_Lis_many K_Lis_many).binds (ps := ["_law_thing"]) fun _ _ _ _ _ _ us hl => match us, hl with | [_], _ => rfl,
    g_Lis_many := PySem.W.mg_of X G A_Lis_many,
    a_Lis_entry := f_Lis_entry, fd_Lis_entry := _, F_Lis_entry := fun_mk (st := s_Lis_entry) L_Lis_entry C_Lis_entry K_Lis_entry,
    b_Lis_entry := (fun_mk (st := s_Lis_entry) L_Lis_entry C_Lis_entry K_Lis_entry).binds (ps := ["_law_thing"]) fun _ _ _ _ _ _ us hl => match us, hl with | [_], _ => rfl,
    g_Lis_entry := PySem.W.mg_of X G A_Lis_entry,
    a_Lbad_at := f_Lbad_at, fd_Lbad_at := _, F_Lbad_at := fun_mk (st := s_Lbad_at) L_Lbad_at C_Lbad_at K_Lbad_at,
    b_Lbad_at := (fun_mk (st := s_Lbad_at) L_Lbad_at C_Lbad_at K_Lbad_at).binds (ps := ["_law_entries"]) fun _ _ _ _ _ _ us hl => match us, hl with | [_], _ => rfl,
    g_Lbad_at := PySem.W.mg_of X G A_Lbad_at,
    a_Lspoilt_text := f_Lspoilt_text, fd_Lspoilt_text := _, F_Lspoilt_text := fun_mk (st := s_Lspoilt_text) L_Lspoilt_text C_Lspoilt_text K_Lspoilt_text,
    b_Lspoilt_text := (fun_mk (st := s_Lspoilt_text) L_Lspoilt_text C_Lspoilt_text K_Lspoilt_text).binds (ps := ["_law_pool_here", "_law_text"]) fun _ _ _ _ _ _ us hl => match us, hl with | [_, _], _ => rfl,
    g_Lspoilt_text := PySem.W.mg_of X G A_Lspoilt_text,
    a_Lsmall_log := f_Lsmall_log, fd_Lsmall_log := _, F_Lsmall_log := fun_mk (st := s_Lsmall_log) L_Lsmall_log C_Lsmall_log K_Lsmall_log,
    b_Lsmall_log := (fun_mk (st := s_Lsmall_log) L_Lsmall_log C_Lsmall_log K_Lsmall_log).binds (ps := ["_law_pool_here", "_law_many", "_law_swaps"]) fun _ _ _ _ _ _ us hl => match us, hl with | [_, _, _], _ => rfl,
    g_Lsmall_log := PySem.W.mg_of X G A_Lsmall_log,
    a_Lsmall_rows := f_Lsmall_rows, fd_Lsmall_rows := _, F_Lsmall_rows := fun_mk (st := s_Lsmall_rows) L_Lsmall_rows C_Lsmall_rows K_Lsmall_rows,
    b_Lsmall_rows := (fun_mk (st := s_Lsmall_rows) L_Lsmall_rows C_Lsmall_rows K_Lsmall_rows).binds (ps := ["_law_pool_here", "_law_walkers"]) fun _ _ _ _ _ _ us hl => match us, hl with | [_, _], _ => rfl,
    g_Lsmall_rows := PySem.W.mg_of X G A_Lsmall_rows,
    a_Lsmall_box := f_Lsmall_box, fd_Lsmall_box := _, F_Lsmall_box := fun_mk (st := s_Lsmall_box) L_Lsmall_box C_Lsmall_box K_Lsmall_box,
    b_Lsmall_box := (fun_mk (st := s_Lsmall_box) L_Lsmall_box C_Lsmall_box K_Lsmall_box).binds (ps := ["_law_pool_here", "_law_legs_here"]) fun _ _ _ _ _ _ us hl => match us, hl with | [_, _], _ => rfl,
    g_Lsmall_box := PySem.W.mg_of X G A_Lsmall_box,
    a_Lpool := f_Lpool, fd_Lpool := _, F_Lpool := fun_mk (st := s_Lpool) L_Lpool C_Lpool K_Lpool,
    b_Lpool := (fun_mk (st := s_Lpool) L_Lpool C_Lpool K_Lpool).binds (ps := ["_law_script", "_law_k"]) fun _ _ _ _ _ _ us hl => match us, hl with | [_, _], _ => rfl,
    g_Lpool := PySem.W.mg_of X G A_Lpool,
    a_Ltake := f_Ltake, fd_Ltake := _, F_Ltake := fun_mk (st := s_Ltake) L_Ltake C_Ltake K_Ltake,
    b_Ltake := (fun_mk (st := s_Ltake) L_Ltake C_Ltake K_Ltake).binds (ps := ["_law_pool_here", "_law_wide"]) fun _ _ _ _ _ _ us hl => match us, hl with | [_, _], _ => rfl,
    g_Ltake := PySem.W.mg_of X G A_Ltake,
    a_Lwhole := f_Lwhole, fd_Lwhole := _, F_Lwhole := fun_mk (st := s_Lwhole) L_Lwhole C_Lwhole K_Lwhole,
    b_Lwhole := (fun_mk (st := s_Lwhole) L_Lwhole C_Lwhole K_Lwhole).binds (ps := ["_law_thing"]) fun _ _ _ _ _ _ us hl => match us, hl with | [_], _ => rfl,
    g_Lwhole := PySem.W.mg_of X G A_Lwhole,
    a_Lsame := f_Lsame, fd_Lsame := _, F_Lsame := fun_mk (st := s_Lsame) L_Lsame C_Lsame K_Lsame,
    b_Lsame := (fun_mk (st := s_Lsame) L_Lsame C_Lsame K_Lsame).binds (ps := ["_law_found", "_law_due_here"]) fun _ _ _ _ _ _ us hl => match us, hl with | [_, _], _ => rfl,
    g_Lsame := PySem.W.mg_of X G A_Lsame,
    a_Lname := f_Lname, fd_Lname := _, F_Lname := fun_mk (st := s_Lname) L_Lname C_Lname K_Lname,
    b_Lname := (fun_mk (st := s_Lname) L_Lname C_Lname K_Lname).binds (ps := ["_law_pool_here"]) fun _ _ _ _ _ _ us hl => match us, hl with | [_], _ => rfl,
    g_Lname := PySem.W.mg_of X G A_Lname,
    a_Lnames := f_Lnames, fd_Lnames := _, F_Lnames := fun_mk (st := s_Lnames) L_Lnames C_Lnames K_Lnames,
    b_Lnames := (fun_mk (st := s_Lnames) L_Lnames C_Lnames K_Lnames).binds (ps := ["_law_pool_here", "_law_many"]) fun _ _ _ _ _ _ us hl => match us, hl with | [_, _], _ => rfl,
    g_Lnames := PySem.W.mg_of X G A_Lnames,
    a_Lsign := f_Lsign, fd_Lsign := _, F_Lsign := fun_mk (st := s_Lsign) L_Lsign C_Lsign K_Lsign,
    b_Lsign := (fun_mk (st := s_Lsign) L_Lsign C_Lsign K_Lsign).binds (ps := ["_law_pool_here", "_law_lone"]) fun _ _ _ _ _ _ us hl => match us, hl with | [_, _], _ => rfl,
    g_Lsign := PySem.W.mg_of X G A_Lsign,
    a_Llegs := f_Llegs, fd_Llegs := _, F_Llegs := fun_mk (st := s_Llegs) L_Llegs C_Llegs K_Llegs,
    b_Llegs := (fun_mk (st := s_Llegs) L_Llegs C_Llegs K_Llegs).binds (ps := ["_law_log"]) fun _ _ _ _ _ _ us hl => match us, hl with | [_], _ => rfl,
    g_Llegs := PySem.W.mg_of X G A_Llegs,
    a_Lentry_of := f_Lentry_of, fd_Lentry_of := _, F_Lentry_of := fun_mk (st := s_Lentry_of) L_Lentry_of C_Lentry_of K_Lentry_of,
    b_Lentry_of := (fun_mk (st := s_Lentry_of) L_Lentry_of C_Lentry_of K_Lentry_of).binds (ps := ["_law_text"]) fun _ _ _ _ _ _ us hl => match us, hl with | [_], _ => rfl,
    g_Lentry_of := PySem.W.mg_of X G A_Lentry_of,
    a_Lrow_of := f_Lrow_of, fd_Lrow_of := _, F_Lrow_of := fun_mk (st := s_Lrow_of) L_Lrow_of C_Lrow_of K_Lrow_of,
    b_Lrow_of := (fun_mk (st := s_Lrow_of) L_Lrow_of C_Lrow_of K_Lrow_of).binds (ps := ["_law_line"]) fun _ _ _ _ _ _ us hl => match us, hl with | [_], _ => rfl,
    g_Lrow_of := PySem.W.mg_of X G A_Lrow_of,
    a_Lbox_of := f_Lbox_of, fd_Lbox_of := _, F_Lbox_of := fun_mk (st := s_Lbox_of) L_Lbox_of C_Lbox_of K_Lbox_of,
    b_Lbox_of := (fun_mk (st := s_Lbox_of) L_Lbox_of C_Lbox_of K_Lbox_of).binds (ps := ["_law_line"]) fun _ _ _ _ _ _ us hl => match us, hl with | [_], _ => rfl,
    g_Lbox_of := PySem.W.mg_of X G A_Lbox_of,
    a_Ldue := f_Ldue, fd_Ldue := _, F_Ldue := fun_mk (st := s_Ldue) L_Ldue C_Ldue K_Ldue,
    b_Ldue := (fun_mk (st := s_Ldue) L_Ldue C_Ldue K_Ldue).binds (ps := ["_law_text"]) fun _ _ _ _ _ _ us hl => match us, hl with | [_], _ => rfl,
    g_Ldue := PySem.W.mg_of X G A_Ldue,
    a_Lread := f_Lread, fd_Lread := _, F_Lread := fun_mk (st := s_Lread) L_Lread C_Lread K_Lread,
    b_Lread := (fun_mk (st := s_Lread) L_Lread C_Lread K_Lread).binds (ps := ["_law_text"]) fun _ _ _ _ _ _ us hl => match us, hl with | [_], _ => rfl,
    g_Lread := PySem.W.mg_of X G A_Lread,
    a_Lbent := f_Lbent, fd_Lbent := _, F_Lbent := fun_mk (st := s_Lbent) L_Lbent C_Lbent K_Lbent,
    b_Lbent := (fun_mk (st := s_Lbent) L_Lbent C_Lbent K_Lbent).binds (ps := ["_law_pool_here", "_law_lines"]) fun _ _ _ _ _ _ us hl => match us, hl with | [_, _], _ => rfl,
    g_Lbent := PySem.W.mg_of X G A_Lbent,
    a_law := fa, fd_law := _, F_law := fun_mk (st := s_law) L_law C_law K_law,
    b_law := (fun_mk (st := s_law) L_law C_law K_law).binds (ps := ["_law_script"]) fun _ _ _ _ _ _ us hl => match us, hl with | [_], _ => rfl,
    g_law := PySem.W.mg_of X G A_law,
    a_Atlas_init := f_Atlas_init, fd_Atlas_init := _, e_Atlas_init := e_Atlas_init, ee_Atlas_init := fun H => .inr ⟨_, _, _, W_Atlas_init, rfl, rfl, Nat.zero_le _, .nil⟩, F_Atlas_init := (FunD.mk ⟨_, _, _, _, _, _, _, _, _, _, rfl, L_Atlas_init, C_Atlas_init, .inr ⟨(by intro z; cases z), _, _, _, _, rfl, V_Atlas_init, rfl, (.cons rfl .nil)⟩, .inl rfl⟩ K_Atlas_init : FunD K "__init__" "Atlas.__init__" (defArgs s_Atlas_init) (defBody s_Atlas_init) (defScope s_Atlas_init) [.ref e_Atlas_init] [] f_Atlas_init _),
    b1_Atlas_init := (FunD.mk ⟨_, _, _, _, _, _, _, _, _, _, rfl, L_Atlas_init, C_Atlas_init, .inr ⟨(by intro z; cases z), _, _, _, _, rfl, V_Atlas_init, rfl, (.cons rfl .nil)⟩, .inl rfl⟩ K_Atlas_init : FunD K "__init__" "Atlas.__init__" (defArgs s_Atlas_init) (defBody s_Atlas_init) (defScope s_Atlas_init) [.ref e_Atlas_init] [] f_Atlas_init _).binds1 (ps := ["self", "box", "logs"]) 2 0 (by intro z; cases z) rfl (fun _ _ _ _ _ _ _ us its hu hi => match us, its, hu, hi with | [_, _], [_], _, _ => ⟨_, rfl, rfl⟩),
    b_Atlas_init := by
      obtain ⟨ds, hv, hb⟩ := (FunD.mk ⟨_, _, _, _, _, _, _, _, _, _, rfl, L_Atlas_init, C_Atlas_init, .inr ⟨(by intro z; cases z), _, _, _, _, rfl, V_Atlas_init, rfl, (.cons rfl .nil)⟩, .inl rfl⟩ K_Atlas_init : FunD K "__init__" "Atlas.__init__" (defArgs s_Atlas_init) (defBody s_Atlas_init) (defScope s_Atlas_init) [.ref e_Atlas_init] [] f_Atlas_init _).binds1 (ps := ["self", "box", "logs"]) 3 1 (by intro z; cases z) rfl (fun _ _ _ _ _ _ _ us its hu hi => match us, its, hu, hi with | [_, _, _], [_], _, _ => ⟨_, rfl, rfl⟩)
      cases hv
      exact hb,
    mk_Atlas := ⟨mk_Atlas, A_Atlas_init, i_Atlas_init, kc_Atlas⟩,
    a_STEPS := f_STEPS, g_STEPS := PySem.W.mg_of X G A_STEPS,
    es_STEPS := _, n_STEPS := _, kd_STEPS := ⟨D_STEPS, Y_STEPS, lo_STEPS⟩,
    ns_STEPS := ns_keys D_STEPS ke_STEPS,
    v_STEPS_0 := ⟨_, ⟨_, _, _, D_STEPS, Y_STEPS, N_STEPS_0, rfl⟩, fun H => .inr ⟨_, _, _, V_STEPS_0, rfl, rfl, by show 2 ≤ sizeLine; decide, (.cons ⟨_, rfl⟩ (.cons ⟨_, rfl⟩ .nil))⟩⟩,
    v_STEPS_1 := ⟨_, ⟨_, _, _, D_STEPS, Y_STEPS, N_STEPS_1, rfl⟩, fun H => .inr ⟨_, _, _, V_STEPS_1, rfl, rfl, by show 2 ≤ sizeLine; decide, (.cons ⟨_, rfl⟩ (.cons ⟨_, rfl⟩ .nil))⟩⟩,
    v_STEPS_2 := ⟨_, ⟨_, _, _, D_STEPS, Y_STEPS, N_STEPS_2, rfl⟩, fun H => .inr ⟨_, _, _, V_STEPS_2, rfl, rfl, by show 2 ≤ sizeLine; decide, (.cons ⟨_, rfl⟩ (.cons ⟨_, rfl⟩ .nil))⟩⟩,
    v_STEPS_3 := ⟨_, ⟨_, _, _, D_STEPS, Y_STEPS, N_STEPS_3, rfl⟩, fun H => .inr ⟨_, _, _, V_STEPS_3, rfl, rfl, by show 2 ≤ sizeLine; decide, (.cons ⟨_, rfl⟩ (.cons ⟨_, rfl⟩ .nil))⟩⟩,
    g_SMALL := ⟨_, PySem.W.mg_of X G A_SMALL⟩,
    g_GREAT := ⟨_, PySem.W.mg_of X G A_GREAT⟩,
    g_LONGEST := ⟨_, PySem.W.mg_of X G A_LONGEST⟩,
    a_WORDS_ALONE := f_WORDS_ALONE, g_WORDS_ALONE := PySem.W.mg_of X G A_WORDS_ALONE,
    v_WORDS_ALONE := fun H => .inr ⟨_, _, _, V_WORDS_ALONE, rfl, rfl, by show 6 ≤ sizeLine; decide, (.cons ⟨_, rfl⟩ (.cons ⟨_, rfl⟩ (.cons ⟨_, rfl⟩ (.cons ⟨_, rfl⟩ (.cons ⟨_, rfl⟩ (.cons ⟨_, rfl⟩ .nil))))))⟩,
    a_WORDS_BEHIND_A_FACE := f_WORDS_BEHIND_A_FACE, g_WORDS_BEHIND_A_FACE := PySem.W.mg_of X G A_WORDS_BEHIND_A_FACE,
    v_WORDS_BEHIND_A_FACE := fun H => .inr ⟨_, _, _, V_WORDS_BEHIND_A_FACE, rfl, rfl, by show 6 ≤ sizeLine; decide, (.cons ⟨_, rfl⟩ (.cons ⟨_, rfl⟩ (.cons ⟨_, rfl⟩ (.cons ⟨_, rfl⟩ (.cons ⟨_, rfl⟩ (.cons ⟨_, rfl⟩ .nil))))))⟩,
    g_HOW_MANY_LOTS := ⟨_, PySem.W.mg_of X G A_HOW_MANY_LOTS⟩,
    g_FIGURES := ⟨_, PySem.W.mg_of X G A_FIGURES⟩,
    g_MOST_FIGURES := ⟨_, PySem.W.mg_of X G A_MOST_FIGURES⟩,
    g_NONE_AT_ALL := ⟨_, PySem.W.mg_of X G A_NONE_AT_ALL⟩,
    a_BadLog := f_BadLog,
    g_BadLog := PySem.W.mg_of X G A_BadLog,
    a_BadBox := f_BadBox,
    g_BadBox := PySem.W.mg_of X G A_BadBox,
    a_NoName := f_NoName,
    g_NoName := PySem.W.mg_of X G A_NoName,
    a_Twice := f_Twice,
    g_Twice := PySem.W.mg_of X G A_Twice,
    a_NoWalker := f_NoWalker,
    g_NoWalker := PySem.W.mg_of X G A_NoWalker,
    a_NeedleError := f_NeedleError,
    g_NeedleError := PySem.W.mg_of X G A_NeedleError,
    a_NoText := f_NoText,
    g_NoText := PySem.W.mg_of X G A_NoText,
    kit_BadLog := kit_same,
    kit_BadBox := kit_other ne_BadBox ic_BadBox ty_BadBox su_BadBox,
    kit_NoName := kit_other ne_NoName ic_NoName ty_NoName su_NoName,
    kit_Twice := kit_other ne_Twice ic_Twice ty_Twice su_Twice,
    kit_NoWalker := kit_other ne_NoWalker ic_NoWalker ty_NoWalker su_NoWalker,
    kit_NeedleError := kit_other ne_NeedleError ic_NeedleError ty_NeedleError su_NeedleError,
    kit_NoText := kit_other ne_NoText ic_NoText ty_NoText su_NoText,
    kit_BadBox_BadLog := kit_other ne_BadBox_BadLog ic_BadLog ty_BadLog su_BadBox_BadLog,
    kit_BadBox_BadBox := kit_same,
    kit_BadBox_NoName := kit_other ne_BadBox_NoName ic_NoName ty_NoName su_BadBox_NoName,
    kit_BadBox_Twice := kit_other ne_BadBox_Twice ic_Twice ty_Twice su_BadBox_Twice,
    kit_BadBox_NoWalker := kit_other ne_BadBox_NoWalker ic_NoWalker ty_NoWalker su_BadBox_NoWalker,
    kit_BadBox_NeedleError := kit_other ne_BadBox_NeedleError ic_NeedleError ty_NeedleError su_BadBox_NeedleError,
    kit_BadBox_NoText := kit_other ne_BadBox_NoText ic_NoText ty_NoText su_BadBox_NoText,
    kit_NoName_BadLog := kit_other ne_NoName_BadLog ic_BadLog ty_BadLog su_NoName_BadLog,
    kit_NoName_BadBox := kit_other ne_NoName_BadBox ic_BadBox ty_BadBox su_NoName_BadBox,
    kit_NoName_NoName := kit_same,
    kit_NoName_Twice := kit_other ne_NoName_Twice ic_Twice ty_Twice su_NoName_Twice,
    kit_NoName_NoWalker := kit_other ne_NoName_NoWalker ic_NoWalker ty_NoWalker su_NoName_NoWalker,
    kit_NoName_NeedleError := kit_other ne_NoName_NeedleError ic_NeedleError ty_NeedleError su_NoName_NeedleError,
    kit_NoName_NoText := kit_other ne_NoName_NoText ic_NoText ty_NoText su_NoName_NoText,
    kit_Twice_BadLog := kit_other ne_Twice_BadLog ic_BadLog ty_BadLog su_Twice_BadLog,
    kit_Twice_BadBox := kit_other ne_Twice_BadBox ic_BadBox ty_BadBox su_Twice_BadBox,
    kit_Twice_NoName := kit_other ne_Twice_NoName ic_NoName ty_NoName su_Twice_NoName,
    kit_Twice_Twice := kit_same,
    kit_Twice_NoWalker := kit_other ne_Twice_NoWalker ic_NoWalker ty_NoWalker su_Twice_NoWalker,
    kit_Twice_NeedleError := kit_other ne_Twice_NeedleError ic_NeedleError ty_NeedleError su_Twice_NeedleError,
    kit_Twice_NoText := kit_other ne_Twice_NoText ic_NoText ty_NoText su_Twice_NoText,
    kit_NoText_BadLog := kit_other ne_NoText_BadLog ic_BadLog ty_BadLog su_NoText_BadLog,
    kit_NoText_BadBox := kit_other ne_NoText_BadBox ic_BadBox ty_BadBox su_NoText_BadBox,
    kit_NoText_NoName := kit_other ne_NoText_NoName ic_NoName ty_NoName su_NoText_NoName,
    kit_NoText_Twice := kit_other ne_NoText_Twice ic_Twice ty_Twice su_NoText_Twice,
    kit_NoText_NoWalker := kit_other ne_NoText_NoWalker ic_NoWalker ty_NoWalker su_NoText_NoWalker,
    kit_NoText_NeedleError := kit_other ne_NoText_NeedleError ic_NeedleError ty_NeedleError su_NoText_NeedleError,
    kit_NoText_NoText := kit_same,
    m_ValueError := PySem.W.mg_none_of X G Z_ValueError,
    kit_VE := kit_ve su_VE,
    no_name := no_name,
    no_at := no_at,
    oex := ⟨⟨_, _, _, _, _, _, _, _, _, _, _, _, _, _, _, X_D, bm_ok⟩, sa_D, e_D, ty_BadLog, k_D⟩,
    a_init := f_init,
    fd_init := _,
    F_init := fun_mk (st := s_init) L_init C_init K_init,
    b_init := (fun_mk (st := s_init) L_init C_init K_init).binds (ps := ["self", "name", "at"]) fun _ _ _ _ _ _ us hl => match us, hl with | [_, _, _], _ => rfl,
    iC := I_D,
    tI := t_init,
    xf := ⟨ga_D, gg_D, e_D, h_D⟩,
    exc := ⟨ga_D, gg_D, e_D, h_D, ca_D, cn_D, ct_D, cm_D⟩,
    exm := PySem.W.exm_ref e_D h_D ty_BadLog su_BadLog,
    kit_VE_BadBox := kit_ve su_VE_BadBox,
    no_BadBox_at := no_BadBox_at,
    oex_BadBox := ⟨⟨_, _, _, _, _, _, _, _, _, _, _, _, _, _, _, X_D_BadBox, bm_ok_BadBox⟩, sa_D_BadBox, e_D_BadBox, ty_BadBox, k_D_BadBox⟩,
    a_init_BadBox := f_init_BadBox,
    fd_init_BadBox := _,
    F_init_BadBox := fun_mk (st := s_init_BadBox) L_init_BadBox C_init_BadBox K_init_BadBox,
    b_init_BadBox := (fun_mk (st := s_init_BadBox) L_init_BadBox C_init_BadBox K_init_BadBox).binds (ps := ["self", "at"]) fun _ _ _ _ _ _ us hl => match us, hl with | [_, _], _ => rfl,
    iC_BadBox := I_D_BadBox,
    tI_BadBox := t_init_BadBox,
    xf_BadBox := ⟨ga_D_BadBox, gg_D_BadBox, e_D_BadBox, h_D_BadBox⟩,
    exc_BadBox := ⟨ga_D_BadBox, gg_D_BadBox, e_D_BadBox, h_D_BadBox, ca_D_BadBox, cn_D_BadBox, ct_D_BadBox, cm_D_BadBox⟩,
    exm_BadBox := PySem.W.exm_ref e_D_BadBox h_D_BadBox ty_BadBox su_BadBox_BadBox,
    kit_VE_NoName := kit_ve su_VE_NoName,
    no_NoName_name := no_NoName_name,
    oex_NoName := ⟨⟨_, _, _, _, _, _, _, _, _, _, _, _, _, _, _, X_D_NoName, bm_ok_NoName⟩, sa_D_NoName, e_D_NoName, ty_NoName, k_D_NoName⟩,
    a_init_NoName := f_init_NoName,
    fd_init_NoName := _,
    F_init_NoName := fun_mk (st := s_init_NoName) L_init_NoName C_init_NoName K_init_NoName,
    b_init_NoName := (fun_mk (st := s_init_NoName) L_init_NoName C_init_NoName K_init_NoName).binds (ps := ["self", "name"]) fun _ _ _ _ _ _ us hl => match us, hl with | [_, _], _ => rfl,
    iC_NoName := I_D_NoName,
    tI_NoName := t_init_NoName,
    xf_NoName := ⟨ga_D_NoName, gg_D_NoName, e_D_NoName, h_D_NoName⟩,
    exc_NoName := ⟨ga_D_NoName, gg_D_NoName, e_D_NoName, h_D_NoName, ca_D_NoName, cn_D_NoName, ct_D_NoName, cm_D_NoName⟩,
    exm_NoName := PySem.W.exm_ref e_D_NoName h_D_NoName ty_NoName su_NoName_NoName,
    kit_VE_Twice := kit_ve su_VE_Twice,
    no_Twice_name := no_Twice_name,
    oex_Twice := ⟨⟨_, _, _, _, _, _, _, _, _, _, _, _, _, _, _, X_D_Twice, bm_ok_Twice⟩, sa_D_Twice, e_D_Twice, ty_Twice, k_D_Twice⟩,
    a_init_Twice := f_init_Twice,
    fd_init_Twice := _,
    F_init_Twice := fun_mk (st := s_init_Twice) L_init_Twice C_init_Twice K_init_Twice,
    b_init_Twice := (fun_mk (st := s_init_Twice) L_init_Twice C_init_Twice K_init_Twice).binds (ps := ["self", "name"]) fun _ _ _ _ _ _ us hl => match us, hl with | [_, _], _ => rfl,
    iC_Twice := I_D_Twice,
    tI_Twice := t_init_Twice,
    xf_Twice := ⟨ga_D_Twice, gg_D_Twice, e_D_Twice, h_D_Twice⟩,
    exc_Twice := ⟨ga_D_Twice, gg_D_Twice, e_D_Twice, h_D_Twice, ca_D_Twice, cn_D_Twice, ct_D_Twice, cm_D_Twice⟩,
    exm_Twice := PySem.W.exm_ref e_D_Twice h_D_Twice ty_Twice su_Twice_Twice,
    kit_VE_NoText := kit_ve su_VE_NoText,
    no_NoText_at := no_NoText_at,
    oex_NoText := ⟨⟨_, _, _, _, _, _, _, _, _, _, _, _, _, _, _, X_D_NoText, bm_ok_NoText⟩, sa_D_NoText, e_D_NoText, ty_NoText, k_D_NoText⟩,
    a_init_NoText := f_init_NoText,
    fd_init_NoText := _,
    F_init_NoText := fun_mk (st := s_init_NoText) L_init_NoText C_init_NoText K_init_NoText,
    b_init_NoText := (fun_mk (st := s_init_NoText) L_init_NoText C_init_NoText K_init_NoText).binds (ps := ["self", "at"]) fun _ _ _ _ _ _ us hl => match us, hl with | [_, _], _ => rfl,
    iC_NoText := I_D_NoText,
    tI_NoText := t_init_NoText,
    xf_NoText := ⟨ga_D_NoText, gg_D_NoText, e_D_NoText, h_D_NoText⟩,
    exc_NoText := ⟨ga_D_NoText, gg_D_NoText, e_D_NoText, h_D_NoText, ca_D_NoText, cn_D_NoText, ct_D_NoText, cm_D_NoText⟩,
    exm_NoText := PySem.W.exm_ref e_D_NoText h_D_NoText ty_NoText su_NoText_NoText,
    exn_BadLog_BadBox := PySem.W.exm_ref e_D_BadBox h_D_BadBox ty_BadBox su_BadBox,
    exn_BadLog_NoName := PySem.W.exm_ref e_D_NoName h_D_NoName ty_NoName su_NoName,
    exn_BadLog_Twice := PySem.W.exm_ref e_D_Twice h_D_Twice ty_Twice su_Twice,
    exn_BadLog_NoText := PySem.W.exm_ref e_D_NoText h_D_NoText ty_NoText su_NoText,
    exn_BadBox_BadLog := PySem.W.exm_ref e_D h_D ty_BadLog su_BadBox_BadLog,
    exn_BadBox_NoName := PySem.W.exm_ref e_D_NoName h_D_NoName ty_NoName su_BadBox_NoName,
    exn_BadBox_Twice := PySem.W.exm_ref e_D_Twice h_D_Twice ty_Twice su_BadBox_Twice,
    exn_BadBox_NoText := PySem.W.exm_ref e_D_NoText h_D_NoText ty_NoText su_BadBox_NoText,
    exn_NoName_BadLog := PySem.W.exm_ref e_D h_D ty_BadLog su_NoName_BadLog,
    exn_NoName_BadBox := PySem.W.exm_ref e_D_BadBox h_D_BadBox ty_BadBox su_NoName_BadBox,
    exn_NoName_Twice := PySem.W.exm_ref e_D_Twice h_D_Twice ty_Twice su_NoName_Twice,
    exn_NoName_NoText := PySem.W.exm_ref e_D_NoText h_D_NoText ty_NoText su_NoName_NoText,
    exn_Twice_BadLog := PySem.W.exm_ref e_D h_D ty_BadLog su_Twice_BadLog,
    exn_Twice_BadBox := PySem.W.exm_ref e_D_BadBox h_D_BadBox ty_BadBox su_Twice_BadBox,
    exn_Twice_NoName := PySem.W.exm_ref e_D_NoName h_D_NoName ty_NoName su_Twice_NoName,
    exn_Twice_NoText := PySem.W.exm_ref e_D_NoText h_D_NoText ty_NoText su_Twice_NoText,
    exn_NoText_BadLog := PySem.W.exm_ref e_D h_D ty_BadLog su_NoText_BadLog,
    exn_NoText_BadBox := PySem.W.exm_ref e_D_BadBox h_D_BadBox ty_BadBox su_NoText_BadBox,
    exn_NoText_NoName := PySem.W.exm_ref e_D_NoName h_D_NoName ty_NoName su_NoText_NoName,
    exn_NoText_Twice := PySem.W.exm_ref e_D_Twice h_D_Twice ty_Twice su_NoText_Twice,
    m_abs := PySem.W.mg_none_of X G Z_abs, m_all := PySem.W.mg_none_of X G Z_all, m_any := PySem.W.mg_none_of X G Z_any, m_bool := PySem.W.mg_none_of X G Z_bool, m_enumerate := PySem.W.mg_none_of X G Z_enumerate, m_int := PySem.W.mg_none_of X G Z_int, m_isinstance := PySem.W.mg_none_of X G Z_isinstance, m_len := PySem.W.mg_none_of X G Z_len, m_list := PySem.W.mg_none_of X G Z_list, m_range := PySem.W.mg_none_of X G Z_range, m_sorted := PySem.W.mg_none_of X G Z_sorted, m_str := PySem.W.mg_none_of X G Z_str, m_sum := PySem.W.mg_none_of X G Z_sum, m_tuple := PySem.W.mg_none_of X G Z_tuple, m_zip := PySem.W.mg_none_of X G Z_zip }
  exact ⟨T.fd_law, fun s v => .of_eq rfl, fun base _ _ => ok_law T⟩
end M
open PySem PySem.W PyProof.Rows
set_option maxHeartbeats 0 in
theorem PySem.Challenge.cw_wayneedle_k85_atlases_nearly_right_holds : PySem.Challenge.rw_wayneedle_k85_atlases_nearly_right.Holds := by
  w_on; o_law; k_head; (case hw => w_witness2)
  k_fill
  refine L2.walk_of (l := PySem.Challenge.rw_wayneedle_k85_atlases_nearly_right) (n := 63) (k := 14) (x := "_law_script") (CX := fun _ => L2.CX0) (sp := fun w => M.spLaw _) rfl (by decide) rfl ⟨rfl, by decide, by decide⟩ (fun w h Y => PySem.W.kIn_of Y) ?F (fun _ _ a ns hl _ hS => ⟨a, ns, rfl, hS, hl, fun _ => rfl⟩) (fun _ _ _ _ _ h => h)
  case F =>
    intro w mg fa h KX G hmg
    refine' M.all_mk KX G hmg ?A_Atlas ?pg_Atlas ?hd_Atlas ?po_Atlas ?sa_Atlas ?mk_Atlas ?kc_Atlas ?nf_Atlas_box ?nf_Atlas_names ?nf_Atlas_logs ?A_is_whole ?L_is_whole ?C_is_whole ?K_is_whole ?A_is_row ?L_is_row ?C_is_row ?K_is_row ?A_laid_out ?L_laid_out ?C_laid_out ?K_laid_out ?A_kept ?L_kept ?C_kept ?K_kept ?A_is_letter ?L_is_letter ?C_is_letter ?K_is_letter ?A_is_short_text ?L_is_short_text ?C_is_short_text ?K_is_short_text ?A_are_small ?L_are_small ?C_are_small ?K_are_small ?A_is_name ?L_is_name ?C_is_name ?K_is_name ?A_is_lone ?L_is_lone ?C_is_lone ?K_is_lone ?A_is_sign ?L_is_sign ?C_is_sign ?K_is_sign ?A_is_many ?L_is_many ?C_is_many ?K_is_many ?A_is_pair_entry ?L_is_pair_entry ?C_is_pair_entry ?K_is_pair_entry ?A_is_entry ?L_is_entry ?C_is_entry ?K_is_entry ?A_held_log ?L_held_log ?C_held_log ?K_held_log ?A_held_box ?L_held_box ?C_held_box ?K_held_box ?A_held_log_of ?L_held_log_of ?C_held_log_of ?K_held_log_of ?A_number_in ?L_number_in ?C_number_in ?K_number_in ?A_entry_in ?L_entry_in ?C_entry_in ?K_entry_in ?A_read_log ?L_read_log ?C_read_log ?K_read_log ?A_box_in ?L_box_in ?C_box_in ?K_box_in ?A_pair_in ?L_pair_in ?C_pair_in ?K_pair_in ?A_read_atlas ?L_read_atlas ?C_read_atlas ?K_read_atlas ?A_Lany_entry ?L_Lany_entry ?C_Lany_entry ?K_Lany_entry ?A_Lany_log ?L_Lany_log ?C_Lany_log ?K_Lany_log ?A_Lis_name ?L_Lis_name ?C_Lis_name ?K_Lis_name ?A_Lis_sign ?L_Lis_sign ?C_Lis_sign ?K_Lis_sign ?A_Lis_many ?L_Lis_many ?C_Lis_many ?K_Lis_many ?A_Lis_entry ?L_Lis_entry ?C_Lis_entry ?K_Lis_entry ?A_Lbad_at ?L_Lbad_at ?C_Lbad_at ?K_Lbad_at ?A_Lspoilt_text ?L_Lspoilt_text ?C_Lspoilt_text ?K_Lspoilt_text ?A_Lsmall_log ?L_Lsmall_log ?C_Lsmall_log ?K_Lsmall_log ?A_Lsmall_rows ?L_Lsmall_rows ?C_Lsmall_rows ?K_Lsmall_rows ?A_Lsmall_box ?L_Lsmall_box ?C_Lsmall_box ?K_Lsmall_box ?A_Lpool ?L_Lpool ?C_Lpool ?K_Lpool ?A_Ltake ?L_Ltake ?C_Ltake ?K_Ltake ?A_Lwhole ?L_Lwhole ?C_Lwhole ?K_Lwhole ?A_Lsame ?L_Lsame ?C_Lsame ?K_Lsame ?A_Lname ?L_Lname ?C_Lname ?K_Lname ?A_Lnames ?L_Lnames ?C_Lnames ?K_Lnames ?A_Lsign ?L_Lsign ?C_Lsign ?K_Lsign ?A_Llegs ?L_Llegs ?C_Llegs ?K_Llegs ?A_Lentry_of ?L_Lentry_of ?C_Lentry_of ?K_Lentry_of ?A_Lrow_of ?L_Lrow_of ?C_Lrow_of ?K_Lrow_of ?A_Lbox_of ?L_Lbox_of ?C_Lbox_of ?K_Lbox_of ?A_Ldue ?L_Ldue ?C_Ldue ?K_Ldue ?A_Lread ?L_Lread ?C_Lread ?K_Lread ?A_Lbent ?L_Lbent ?C_Lbent ?K_Lbent ?A_law ?L_law ?C_law ?K_law ?A_Atlas_init ?i_Atlas_init ?L_Atlas_init ?C_Atlas_init ?K_Atlas_init ?V_Atlas_init ?W_Atlas_init ?A_STEPS ?D_STEPS ?Y_STEPS ?lo_STEPS ?ke_STEPS ?N_STEPS_0 ?V_STEPS_0 ?N_STEPS_1 ?V_STEPS_1 ?N_STEPS_2 ?V_STEPS_2 ?N_STEPS_3 ?V_STEPS_3 ?A_SMALL ?A_GREAT ?A_LONGEST ?A_WORDS_ALONE ?V_WORDS_ALONE ?A_WORDS_BEHIND_A_FACE ?V_WORDS_BEHIND_A_FACE ?A_HOW_MANY_LOTS ?A_FIGURES ?A_MOST_FIGURES ?A_NONE_AT_ALL ?Z_abs ?Z_all ?Z_any ?Z_bool ?Z_enumerate ?Z_int ?Z_isinstance ?Z_len ?Z_list ?Z_range ?Z_sorted ?Z_str ?Z_sum ?Z_tuple ?Z_zip ?A_BadLog ?A_BadBox ?A_NoName ?A_Twice ?A_NoWalker ?A_NeedleError ?A_NoText ?ic_BadLog ?ty_BadLog ?su_BadLog ?ic_BadBox ?ty_BadBox ?su_BadBox ?ne_BadBox ?ic_NoName ?ty_NoName ?su_NoName ?ne_NoName ?ic_Twice ?ty_Twice ?su_Twice ?ne_Twice ?ic_NoWalker ?ty_NoWalker ?su_NoWalker ?ne_NoWalker ?ic_NeedleError ?ty_NeedleError ?su_NeedleError ?ne_NeedleError ?ic_NoText ?ty_NoText ?su_NoText ?ne_NoText ?su_BadBox_BadLog ?ne_BadBox_BadLog ?su_BadBox_BadBox ?su_BadBox_NoName ?ne_BadBox_NoName ?su_BadBox_Twice ?ne_BadBox_Twice ?su_BadBox_NoWalker ?ne_BadBox_NoWalker ?su_BadBox_NeedleError ?ne_BadBox_NeedleError ?su_BadBox_NoText ?ne_BadBox_NoText ?su_NoName_BadLog ?ne_NoName_BadLog ?su_NoName_BadBox ?ne_NoName_BadBox ?su_NoName_NoName ?su_NoName_Twice ?ne_NoName_Twice ?su_NoName_NoWalker ?ne_NoName_NoWalker ?su_NoName_NeedleError ?ne_NoName_NeedleError ?su_NoName_NoText ?ne_NoName_NoText ?su_Twice_BadLog ?ne_Twice_BadLog ?su_Twice_BadBox ?ne_Twice_BadBox ?su_Twice_NoName ?ne_Twice_NoName ?su_Twice_Twice ?su_Twice_NoWalker ?ne_Twice_NoWalker ?su_Twice_NeedleError ?ne_Twice_NeedleError ?su_Twice_NoText ?ne_Twice_NoText ?su_NoText_BadLog ?ne_NoText_BadLog ?su_NoText_BadBox ?ne_NoText_BadBox ?su_NoText_NoName ?ne_NoText_NoName ?su_NoText_Twice ?ne_NoText_Twice ?su_NoText_NoWalker ?ne_NoText_NoWalker ?su_NoText_NeedleError ?ne_NoText_NeedleError ?su_NoText_NoText ?Z_ValueError ?su_VE ?X_D ?bm_ok ?sa_D ?ga_D ?gg_D ?no_name ?no_at ?I_D ?t_init ?L_init ?C_init ?K_init ?k_D ?e_D ?h_D ?ca_D ?cn_D ?ct_D ?cm_D ?su_VE_BadBox ?X_D_BadBox ?bm_ok_BadBox ?sa_D_BadBox ?ga_D_BadBox ?gg_D_BadBox ?no_BadBox_at ?I_D_BadBox ?t_init_BadBox ?L_init_BadBox ?C_init_BadBox ?K_init_BadBox ?k_D_BadBox ?e_D_BadBox ?h_D_BadBox ?ca_D_BadBox ?cn_D_BadBox ?ct_D_BadBox ?cm_D_BadBox ?su_VE_NoName ?X_D_NoName ?bm_ok_NoName ?sa_D_NoName ?ga_D_NoName ?gg_D_NoName ?no_NoName_name ?I_D_NoName ?t_init_NoName ?L_init_NoName ?C_init_NoName ?K_init_NoName ?k_D_NoName ?e_D_NoName ?h_D_NoName ?ca_D_NoName ?cn_D_NoName ?ct_D_NoName ?cm_D_NoName ?su_VE_Twice ?X_D_Twice ?bm_ok_Twice ?sa_D_Twice ?ga_D_Twice ?gg_D_Twice ?no_Twice_name ?I_D_Twice ?t_init_Twice ?L_init_Twice ?C_init_Twice ?K_init_Twice ?k_D_Twice ?e_D_Twice ?h_D_Twice ?ca_D_Twice ?cn_D_Twice ?ct_D_Twice ?cm_D_Twice ?su_VE_NoText ?X_D_NoText ?bm_ok_NoText ?sa_D_NoText ?ga_D_NoText ?gg_D_NoText ?no_NoText_at ?I_D_NoText ?t_init_NoText ?L_init_NoText ?C_init_NoText ?K_init_NoText ?k_D_NoText ?e_D_NoText ?h_D_NoText ?ca_D_NoText ?cn_D_NoText ?ct_D_NoText ?cm_D_NoText
    (case A_Atlas => k_is); (case pg_Atlas => k_is); (case hd_Atlas => k_is); (case po_Atlas => k_is); (case sa_Atlas => k_is); (case mk_Atlas => k_is); (case kc_Atlas => k_is); (case nf_Atlas_box => k_is); (case nf_Atlas_names => k_is); (case nf_Atlas_logs => k_is); (case A_is_whole => k_is); (case L_is_whole => k_is); (case C_is_whole => k_is); (case K_is_whole => k_is); (case A_is_row => k_is); (case L_is_row => k_is); (case C_is_row => k_is); (case K_is_row => k_is); (case A_laid_out => k_is); (case L_laid_out => k_is); (case C_laid_out => k_is); (case K_laid_out => k_is); (case A_kept => k_is); (case L_kept => k_is); (case C_kept => k_is); (case K_kept => k_is); (case A_is_letter => k_is); (case L_is_letter => k_is); (case C_is_letter => k_is); (case K_is_letter => k_is); (case A_is_short_text => k_is); (case L_is_short_text => k_is); (case C_is_short_text => k_is); (case K_is_short_text => k_is); (case A_are_small => k_is); (case L_are_small => k_is); (case C_are_small => k_is); (case K_are_small => k_is); (case A_is_name => k_is); (case L_is_name => k_is); (case C_is_name => k_is); (case K_is_name => k_is); (case A_is_lone => k_is); (case L_is_lone => k_is); (case C_is_lone => k_is); (case K_is_lone => k_is); (case A_is_sign => k_is); (case L_is_sign => k_is); (case C_is_sign => k_is); (case K_is_sign => k_is); (case A_is_many => k_is); (case L_is_many => k_is); (case C_is_many => k_is); (case K_is_many => k_is); (case A_is_pair_entry => k_is); (case L_is_pair_entry => k_is); (case C_is_pair_entry => k_is); (case K_is_pair_entry => k_is); (case A_is_entry => k_is); (case L_is_entry => k_is); (case C_is_entry => k_is); (case K_is_entry => k_is); (case A_held_log => k_is); (case L_held_log => k_is); (case C_held_log => k_is); (case K_held_log => k_is); (case A_held_box => k_is); (case L_held_box => k_is); (case C_held_box => k_is); (case K_held_box => k_is); (case A_held_log_of => k_is); (case L_held_log_of => k_is); (case C_held_log_of => k_is); (case K_held_log_of => k_is); (case A_number_in => k_is); (case L_number_in => k_is); (case C_number_in => k_is); (case K_number_in => k_is); (case A_entry_in => k_is); (case L_entry_in => k_is); (case C_entry_in => k_is); (case K_entry_in => k_is); (case A_read_log => k_is); (case L_read_log => k_is); (case C_read_log => k_is); (case K_read_log => k_is); (case A_box_in => k_is); (case L_box_in => k_is); (case C_box_in => k_is); (case K_box_in => k_is); (case A_pair_in => k_is); (case L_pair_in => k_is); (case C_pair_in => k_is); (case K_pair_in => k_is); (case A_read_atlas => k_is); (case L_read_atlas => k_is); (case C_read_atlas => k_is); (case K_read_atlas => k_is); (case A_Lany_entry => k_is); (case L_Lany_entry => k_is); (case C_Lany_entry => k_is); (case K_Lany_entry => k_is); (case A_Lany_log => k_is); (case L_Lany_log => k_is); (case C_Lany_log => k_is); (case K_Lany_log => k_is); (case A_Lis_name => k_is); (case L_Lis_name => k_is); (case C_Lis_name => k_is); (case K_Lis_name => k_is); (case A_Lis_sign => k_is); (case L_Lis_sign => k_is); (case C_Lis_sign => k_is); (case K_Lis_sign => k_is); (case A_Lis_many => k_is); (case L_Lis_many => k_is); (case C_Lis_many => k_is); (case K_Lis_many => k_is); (case A_Lis_entry => k_is); (case L_Lis_entry => k_is); (case C_Lis_entry => k_is); (case K_Lis_entry => k_is); (case A_Lbad_at => k_is); (case L_Lbad_at => k_is); (case C_Lbad_at => k_is); (case K_Lbad_at => k_is); (case A_Lspoilt_text => k_is); (case L_Lspoilt_text => k_is); (case C_Lspoilt_text => k_is); (case K_Lspoilt_text => k_is); (case A_Lsmall_log => k_is); (case L_Lsmall_log => k_is); (case C_Lsmall_log => k_is); (case K_Lsmall_log => k_is); (case A_Lsmall_rows => k_is); (case L_Lsmall_rows => k_is); (case C_Lsmall_rows => k_is); (case K_Lsmall_rows => k_is); (case A_Lsmall_box => k_is); (case L_Lsmall_box => k_is); (case C_Lsmall_box => k_is); (case K_Lsmall_box => k_is); (case A_Lpool => k_is); (case L_Lpool => k_is); (case C_Lpool => k_is); (case K_Lpool => k_is); (case A_Ltake => k_is); (case L_Ltake => k_is); (case C_Ltake => k_is); (case K_Ltake => k_is); (case A_Lwhole => k_is); (case L_Lwhole => k_is); (case C_Lwhole => k_is); (case K_Lwhole => k_is); (case A_Lsame => k_is); (case L_Lsame => k_is); (case C_Lsame => k_is); (case K_Lsame => k_is); (case A_Lname => k_is); (case L_Lname => k_is); (case C_Lname => k_is); (case K_Lname => k_is); (case A_Lnames => k_is); (case L_Lnames => k_is); (case C_Lnames => k_is); (case K_Lnames => k_is); (case A_Lsign => k_is); (case L_Lsign => k_is); (case C_Lsign => k_is); (case K_Lsign => k_is); (case A_Llegs => k_is); (case L_Llegs => k_is); (case C_Llegs => k_is); (case K_Llegs => k_is); (case A_Lentry_of => k_is); (case L_Lentry_of => k_is); (case C_Lentry_of => k_is); (case K_Lentry_of => k_is); (case A_Lrow_of => k_is); (case L_Lrow_of => k_is); (case C_Lrow_of => k_is); (case K_Lrow_of => k_is); (case A_Lbox_of => k_is); (case L_Lbox_of => k_is); (case C_Lbox_of => k_is); (case K_Lbox_of => k_is); (case A_Ldue => k_is); (case L_Ldue => k_is); (case C_Ldue => k_is); (case K_Ldue => k_is); (case A_Lread => k_is); (case L_Lread => k_is); (case C_Lread => k_is); (case K_Lread => k_is); (case A_Lbent => k_is); (case L_Lbent => k_is); (case C_Lbent => k_is); (case K_Lbent => k_is); (case A_law => k_is); (case L_law => k_is); (case C_law => k_is); (case K_law => k_is); (case A_Atlas_init => k_is); (case i_Atlas_init => k_is); (case L_Atlas_init => k_is); (case C_Atlas_init => k_is); (case K_Atlas_init => k_is); (case V_Atlas_init => k_is); (case W_Atlas_init => k_is); (case A_STEPS => k_is); (case D_STEPS => k_is); (case Y_STEPS => k_keys); (case lo_STEPS => first | rfl | decide +kernel); (case ke_STEPS => exact ⟨⟨_, rfl⟩, ⟨_, rfl⟩, ⟨_, rfl⟩, ⟨_, rfl⟩, True.intro⟩); (case N_STEPS_0 => k_is); (case V_STEPS_0 => k_is); (case N_STEPS_1 => k_is); (case V_STEPS_1 => k_is); (case N_STEPS_2 => k_is); (case V_STEPS_2 => k_is); (case N_STEPS_3 => k_is); (case V_STEPS_3 => k_is); (case A_SMALL => k_is); (case A_GREAT => k_is); (case A_LONGEST => k_is); (case A_WORDS_ALONE => k_is); (case V_WORDS_ALONE => k_is); (case A_WORDS_BEHIND_A_FACE => k_is); (case V_WORDS_BEHIND_A_FACE => k_is); (case A_HOW_MANY_LOTS => k_is); (case A_FIGURES => k_is); (case A_MOST_FIGURES => k_is); (case A_NONE_AT_ALL => k_is); (case Z_abs => k_is); (case Z_all => k_is); (case Z_any => k_is); (case Z_bool => k_is); (case Z_enumerate => k_is); (case Z_int => k_is); (case Z_isinstance => k_is); (case Z_len => k_is); (case Z_list => k_is); (case Z_range => k_is); (case Z_sorted => k_is); (case Z_str => k_is); (case Z_sum => k_is); (case Z_tuple => k_is); (case Z_zip => k_is); (case A_BadLog => k_is); (case A_BadBox => k_is); (case A_NoName => k_is); (case A_Twice => k_is); (case A_NoWalker => k_is); (case A_NeedleError => k_is); (case A_NoText => k_is); (case ic_BadLog => k_is); (case ty_BadLog => k_is); (case su_BadLog => first | rfl | k_is); (case ic_BadBox => k_is); (case ty_BadBox => k_is); (case su_BadBox => first | rfl | k_is); (case ne_BadBox => first | rfl | decide +kernel); (case ic_NoName => k_is); (case ty_NoName => k_is); (case su_NoName => first | rfl | k_is); (case ne_NoName => first | rfl | decide +kernel); (case ic_Twice => k_is); (case ty_Twice => k_is); (case su_Twice => first | rfl | k_is); (case ne_Twice => first | rfl | decide +kernel); (case ic_NoWalker => k_is); (case ty_NoWalker => k_is); (case su_NoWalker => first | rfl | k_is); (case ne_NoWalker => first | rfl | decide +kernel); (case ic_NeedleError => k_is); (case ty_NeedleError => k_is); (case su_NeedleError => first | rfl | k_is); (case ne_NeedleError => first | rfl | decide +kernel); (case ic_NoText => k_is); (case ty_NoText => k_is); (case su_NoText => first | rfl | k_is); (case ne_NoText => first | rfl | decide +kernel); (case su_BadBox_BadLog => first | rfl | k_is); (case ne_BadBox_BadLog => first | rfl | decide +kernel); (case su_BadBox_BadBox => first | rfl | k_is); (case su_BadBox_NoName => first | rfl | k_is); (case ne_BadBox_NoName => first | rfl | decide +kernel); (case su_BadBox_Twice => first | rfl | k_is); (case ne_BadBox_Twice => first | rfl | decide +kernel); (case su_BadBox_NoWalker => first | rfl | k_is); (case ne_BadBox_NoWalker => first | rfl | decide +kernel); (case su_BadBox_NeedleError => first | rfl | k_is); (case ne_BadBox_NeedleError => first | rfl | decide +kernel); (case su_BadBox_NoText => first | rfl | k_is); (case ne_BadBox_NoText => first | rfl | decide +kernel); (case su_NoName_BadLog => first | rfl | k_is); (case ne_NoName_BadLog => first | rfl | decide +kernel); (case su_NoName_BadBox => first | rfl | k_is); (case ne_NoName_BadBox => first | rfl | decide +kernel); (case su_NoName_NoName => first | rfl | k_is); (case su_NoName_Twice => first | rfl | k_is); (case ne_NoName_Twice => first | rfl | decide +kernel); (case su_NoName_NoWalker => first | rfl | k_is); (case ne_NoName_NoWalker => first | rfl | decide +kernel); (case su_NoName_NeedleError => first | rfl | k_is); (case ne_NoName_NeedleError => first | rfl | decide +kernel); (case su_NoName_NoText => first | rfl | k_is); (case ne_NoName_NoText => first | rfl | decide +kernel); (case su_Twice_BadLog => first | rfl | k_is); (case ne_Twice_BadLog => first | rfl | decide +kernel); (case su_Twice_BadBox => first | rfl | k_is); (case ne_Twice_BadBox => first | rfl | decide +kernel); (case su_Twice_NoName => first | rfl | k_is); (case ne_Twice_NoName => first | rfl | decide +kernel); (case su_Twice_Twice => first | rfl | k_is); (case su_Twice_NoWalker => first | rfl | k_is); (case ne_Twice_NoWalker => first | rfl | decide +kernel); (case su_Twice_NeedleError => first | rfl | k_is); (case ne_Twice_NeedleError => first | rfl | decide +kernel); (case su_Twice_NoText => first | rfl | k_is); (case ne_Twice_NoText => first | rfl | decide +kernel); (case su_NoText_BadLog => first | rfl | k_is); (case ne_NoText_BadLog => first | rfl | decide +kernel); (case su_NoText_BadBox => first | rfl | k_is); (case ne_NoText_BadBox => first | rfl | decide +kernel); (case su_NoText_NoName => first | rfl | k_is); (case ne_NoText_NoName => first | rfl | decide +kernel); (case su_NoText_Twice => first | rfl | k_is); (case ne_NoText_Twice => first | rfl | decide +kernel); (case su_NoText_NoWalker => first | rfl | k_is); (case ne_NoText_NoWalker => first | rfl | decide +kernel); (case su_NoText_NeedleError => first | rfl | k_is); (case ne_NoText_NeedleError => first | rfl | decide +kernel); (case su_NoText_NoText => first | rfl | k_is); (case Z_ValueError => k_is); (case su_VE => k_is); (case X_D => k_is); (case bm_ok => decide +kernel); (case sa_D => k_is); (case ga_D => k_is); (case gg_D => k_is); (case no_name => k_is); (case no_at => k_is); (case I_D => k_is); (case t_init => k_is); (case L_init => k_is); (case C_init => k_is); (case K_init => k_is); (case k_D => k_is); (case e_D => k_is); (case h_D => k_is); (case ca_D => k_is); (case cn_D => k_is); (case ct_D => k_is); (case cm_D => k_is); (case su_VE_BadBox => k_is); (case X_D_BadBox => k_is); (case bm_ok_BadBox => decide +kernel); (case sa_D_BadBox => k_is); (case ga_D_BadBox => k_is); (case gg_D_BadBox => k_is); (case no_BadBox_at => k_is); (case I_D_BadBox => k_is); (case t_init_BadBox => k_is); (case L_init_BadBox => k_is); (case C_init_BadBox => k_is); (case K_init_BadBox => k_is); (case k_D_BadBox => k_is); (case e_D_BadBox => k_is); (case h_D_BadBox => k_is); (case ca_D_BadBox => k_is); (case cn_D_BadBox => k_is); (case ct_D_BadBox => k_is); (case cm_D_BadBox => k_is); (case su_VE_NoName => k_is); (case X_D_NoName => k_is); (case bm_ok_NoName => decide +kernel); (case sa_D_NoName => k_is); (case ga_D_NoName => k_is); (case gg_D_NoName => k_is); (case no_NoName_name => k_is); (case I_D_NoName => k_is); (case t_init_NoName => k_is); (case L_init_NoName => k_is); (case C_init_NoName => k_is); (case K_init_NoName => k_is); (case k_D_NoName => k_is); (case e_D_NoName => k_is); (case h_D_NoName => k_is); (case ca_D_NoName => k_is); (case cn_D_NoName => k_is); (case ct_D_NoName => k_is); (case cm_D_NoName => k_is); (case su_VE_Twice => k_is); (case X_D_Twice => k_is); (case bm_ok_Twice => decide +kernel); (case sa_D_Twice => k_is); (case ga_D_Twice => k_is); (case gg_D_Twice => k_is); (case no_Twice_name => k_is); (case I_D_Twice => k_is); (case t_init_Twice => k_is); (case L_init_Twice => k_is); (case C_init_Twice => k_is); (case K_init_Twice => k_is); (case k_D_Twice => k_is); (case e_D_Twice => k_is); (case h_D_Twice => k_is); (case ca_D_Twice => k_is); (case cn_D_Twice => k_is); (case ct_D_Twice => k_is); (case cm_D_Twice => k_is); (case su_VE_NoText => k_is); (case X_D_NoText => k_is); (case bm_ok_NoText => decide +kernel); (case sa_D_NoText => k_is); (case ga_D_NoText => k_is); (case gg_D_NoText => k_is); (case no_NoText_at => k_is); (case I_D_NoText => k_is); (case t_init_NoText => k_is); (case L_init_NoText => k_is); (case C_init_NoText => k_is); (case K_init_NoText => k_is); (case k_D_NoText => k_is); (case e_D_NoText => k_is); (case h_D_NoText => k_is); (case ca_D_NoText => k_is); (case cn_D_NoText => k_is); (case ct_D_NoText => k_is); (case cm_D_NoText => k_is)
