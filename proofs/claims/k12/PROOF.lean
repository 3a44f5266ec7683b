import PyProof.Rows.All
import Wide.All
import OpenK.AllK
import Wide.FinOn
import HandS.ForMost
import HandS.ForExc
import HandS.HotCalls
import HandS.ExcIs
import HandS.ExcInit
import HandS.ExcField
import HandS.Defaults
import HandS.CallSlots
import HandS.Deep
import KE.GoesEnum
import KE.GoesNew
import HandS.IsInst
import HandS.Replace
import HandS.Wide
import HandS.NoneIn
import HandS.Walk
import HandS.Evl
import HandS.More
import HandS.Zip
import HandS.Conv
import KE.KxIndex
import PySem.Challenge.RW_wayneedle_k12_lots_refused
import HandS.TupMul
import HandS.Star
import HandS.TupAny
set_option Elab.async false
set_option linter.all false
set_option maxRecDepth 100000
set_option maxHeartbeats 4000000

namespace ExcM
open PySem PySem.W PySem.Spec PySem.Calls PyProof.Rows L2
section
variable {prog : Program} {w : World} {A : Around} {E : Value → Shared → Prop} {s : Shared} {K : PySem.W.Frag} {x D : Addr} {ox od : Obj}
/-- the way of a test that fails -/
theorem not_so {α : Type} {b : Bool} {x y : Sem α} {Q : α → Shared → Prop} (hb : b = false) (q : wpAny (model prog w) A y Q E s) : wpAny (model prog w) A (if b = true then x else y) Q E s := by
  subst hb
  exact q
/-- the class of an own exception that has a dict, asked of its instance -/
theorem asked_class {Q : Option Value → Shared → Prop} (C : ExcC K D) (X : K.In s.heap) (I : PySem.W.InstAt s.heap x ox D (some od)) (h : Q (some (.ref D)) { s with toks := s.toks + 1 }) :
    wpAny (model prog w) A (getAttr? (.ref x) "__class__") Q E s := by
  have found := findObj_data (K := K) (C := D) (od := od) (name := "__class__") (by obtain ⟨q, hq, _⟩ := any_some C.hd; rw [hq]; rfl) C.ha C.hn C.ht
  obtain ⟨hp, g, d, t, os⟩ := s
  have lType := I.type (M := model prog w)
  have lGa := looks_findIn (M := model prog w) X C.hg
  have lGt := looks_findIn (M := model prog w) X C.hk
  have lFind := looks_find (M := model prog w) X I found
  have isB : Looks (model prog w) hp (isInstance (.ref x) (.type "BaseException")) true := lType.andThen (looks_subIn X C.hs)
  have n1 : (false && onTheHeap (Value.builtin "BaseException.__getattribute__")) = false := rfl
  have n2 : (onTheHeap (Value.ref D) && Value.builtin "BaseException.__getattribute__" == Value.builtin "object.__getattribute__") = false := by
    rw [show (Value.builtin "BaseException.__getattribute__" == Value.builtin "object.__getattribute__") = false by decide +kernel]; rfl
  unfold getAttr? getAttrBy?; unfold getAttrBy
  refine wpAny_bind (wpAny_mkText (wpAny_bind (wpAny_attempt (wpAny_holding (wpAny_bind (lType.at (wpAny_bind (lGa.at ?_))))))))
  refine not_so n2 ?_; unfold getAttrByItsOwn hookBefore
  refine wpAny_bind ?_; rw [if_pos (show onTheHeap (Value.ref D) = true from rfl)]
  refine lGt.at ?_; refine wpAny_bind (wpAny_attempt (wpAny_holding ?_))
  unfold callGetattribute; rw [n1, if_neg Bool.false_ne_true]; unfold boundAndCalled
  rw [PySem.F.excAttr_ValueError.ga.bind (.ref x)]; refine wpAny_bind (wpAny_pure ?_)
  refine show wpAny _ _ (call (.builtin "BaseException.__getattribute__") [.ref x, .str "__class__" t]) _ _ _ from wpAny_call (codeAny_call_builtin PySem.F.excAttr_ValueError.ga.plain PySem.F.entry_bexc_ga ?_)
  refine @check_slot (model prog w) _ _ ⟨hp, g, d, t + 1, os⟩ "BaseException.__getattribute__" "BaseException" "__getattribute__" (.ref x) [.str "__class__" t] [] _ (by decide +kernel) (by decide +kernel) isB (PySem.F.args_bexc_ga (.ref x) (.str "__class__" t)) ?_
  unfold Builtin.«object.__getattribute__»; refine wpAny_bind (wpAny_of_eq (a := ((Value.ref x : Value), [Value.str "__class__" t])) (by first | rfl | (simp only [slotArgs]; rfl)) ?_)
  refine wpAny_bind (wpAny_pure (wpAny_bind (lType.at (wpAny_bind (lFind.at ?_)))))
  refine show wpAny _ _ (holding [Value.builtin "object.__class__"] (call (.builtin "getset_descriptor.__get__") [.builtin "object.__class__", .ref x, .ref D]) >>= ret) _ _ _ from wpAny_bind (wpAny_holding (wpAny_call (class_get (s := ⟨hp, g, d, t + 1, os⟩) (ox := ox) (od := some od) X I C.hm ?_)))
  refine wpAny_pure ?_; show wpAny _ _ (handedOut (.ref D)) _ _ _; rw [handedOut_of (v := .ref D) rfl]
  first | exact wpAny_pure (wpAny_pure h) | exact wpAny_pure h | exact wpAny_pure (wpAny_bind (wpAny_pure (wpAny_pure h)))
theorem kit_exc (C : ExcC K D) : KitX K (.ref x) (.ref D) (fun h => PySem.W.InstAt h x ox D (some od)) where
  ty := fun _ _ _ I => I.type
  it := fun _ _ X _ => by
    obtain ⟨q, hq, _⟩ := any_some C.hd
    unfold clsIn at hq; split at hq
    · rename_i c1 d1 q1 l1 ho
      intro A1 Q1 E1 s1 k z; unfold isType loadHead
      exact wpAny_bind (wpAny_loadPart (k _ _ (X _ _ ho)) (wpAny_pure z))
    · cases hq
  ne := fun hh tp tdd tis tn tsl X htp => by
    obtain ⟨q, hq, _⟩ := any_some C.hd
    refine Bool.eq_false_iff.mpr fun z => ?_
    have e : D = tp := Value.ref.inj (beq_iff_eq.mp z)
    subst e; unfold clsIn at hq; split at hq
    · rename_i c1 d1 q1 l1 ho
      cases (X _ _ ho).symm.trans htp
    · cases hq
  ca := fun X I k => asked_class C X I k
end
section
variable {X : Cx}
/-- isinstance of a pinned exception of the class at D, its dict tracked -/
theorem call_isP {D a : Addr} {oe : Obj} {d : Addr} (C : ExcC X.K D) (hp : (a, oe) ∈ X.pn) (hz : Zc (.ref D) (some d) oe) (hf : ∃ vs, oe.data = .fields vs) :
    CallR X (.builtin "isinstance") (fun xs H Q => ∃ (c : V) (cv : Value) (b : Bool) (fs : List (Str × V)), xs = [.ref a, c] ∧ (∀ u, RelV c u → u = cv) ∧ H d = some (.xd fs) ∧ PySem.W.kitOne X.K (.ref D) cv = some b ∧ Q (.bl b) H) := by
  intro pins s σ H xs us Q I rel ask
  obtain ⟨c, cv, b, fs, rfl, hcv, hd, e, q1⟩ := ask
  obtain ⟨w1, w2, rfl, l1, l2⟩ := vals2 rel
  cases (l1 : w1 = Value.ref a)
  cases hcv _ l2
  have P1 := I.pin (a, oe) (List.mem_append_left _ hp)
  obtain ⟨vs, hv⟩ := hf
  obtain ⟨mA, hns, _⟩ := (show ObjOk X.prog X.w H s.heap d (.xd fs) from I.hok d _ hd)
  obtain ⟨od, ho, _⟩ := lookIn_ns hns
  have J : PySem.W.InstAt s.heap a oe D (some od) := ⟨P1.1, hz.1, by unfold PySem.W.notCls; rw [hv] <;> rfl, by rw [hz.2]; exact ho⟩
  exact PySem.W.kia_one (kit_exc C) I.kIn J e (fun z => nomatch z) fun tk => ⟨.bl b, H, I.tok tk, rfl, q1⟩
end
end ExcM
namespace ExcM
open PySem PySem.W PySem.Spec PySem.Calls PyProof.Rows L2
/-! ### a def that is told of the exception that is handled -/
/-- what a def promises where p's object is pinned, whatever is handled -/
structure FnP (P : Program) (w : World) (K : PySem.W.Frag) (mg : Str → Option Value) (base : Heap) (p : Addr × Obj) (k : Nat) (f : Addr) (fd : FuncData) (ps : List Str) (sp : Sp) : Prop where
  len : ∀ (vs : List V) (H : Hp) (Q : VK) (E : XK), sp vs H Q E → vs.length = ps.length
  run : ∀ (A : Around) (outer : List Env) (s : Shared) (H : Hp) (args : Args) (us : List Value) (vs : List V) (Q : VK) (E : XK), L2H.RoomH k A → L2H.PinOk outer H s p → Env0 P w K mg base A outer s H →
    BindsTo s fd args (ps.zip us) → Vals vs us → sp vs H Q E → codeAny (model P w) A (.call (.ref f) args) (CR CX0 outer P w H s Q E) s
section
variable {P : Program} {w : World} {K : PySem.W.Frag} {mg : Str → Option Value} {base : Heap} {p : Addr × Obj}
theorem fun_okP {x qual : Str} {st : Stmt} {f : Addr} {fd : FuncData} {N ps : List Str} {k : Nat} {sp : Sp} (F : Fun K x qual st f fd) (S : FnScope N ps (defScope st)) (len : ∀ vs H Q E, sp vs H Q E → vs.length = ps.length)
    (hbody : ∀ (cdv : Value) (A : Around) (outer : List Env) (s : Shared) (H : Hp) (vs : List V) (Q : VK) (E : XK), L2H.RoomH k (A.deeper (envOfC qual (defScope st) s.heap.objs.size f cdv)) → sp vs H Q E →
      ∃ t, PSs (L2H.cxH CX0 P w K mg base N qual (defScope st) f cdv A outer s H E p) (defBody st) t ∧ t { nx := fun _ H' => Q .non H', rt := Q } (start N vs) H) : FnP P w K mg base p (k + 1) f fd ps sp := by
  obtain ⟨_, _, _, _, _, _, cdv, _, _, rfl, lk, hcd⟩ := F.ex
  refine ⟨len, fun A outer s H args us vs Q E hr hpin e0 hb r hsp => ?_⟩
  have KX : K.In s.heap := e0.mod.kin.keeps (fun b o e => (e0.bs b o e).1)
  have hk2 : ∀ y ∈ ps.zip us, (defScope st).names.lookup y.1 = some .local ∨ ((defScope st).names.lookup y.1 = some .cell ∧ ((cellsFrom (s.heap.objs.size + 1) (defScope st).names []).lookup y.1).isSome = true) := fun ⟨n, v⟩ hy =>
    (S.par n (List.of_mem_zip hy).1).elim .inl (fun q => .inr ⟨q, PySem.W.cellsFrom_some _ _ _ (.inl q)⟩)
  refine codeAny_call_function hr.depth (KX _ _ lk) rfl S.co S.gen rfl (PySem.W.codeRec_of KX hcd) (hb _ _ _ _ (wpAny_newFunctionEnv_cells S.kind hk2 fun env he s1 x => ?_))
  subst he
  refine ⟨(e0.mod.nolimit.keeps fun b o e => (e0.bs b o e).1).keeps x.toInCall.keep, codeAny_func ?_⟩
  obtain ⟨t, ht, hq⟩ := hbody cdv A outer s H vs Q E (hr.deeper _) hsp
  have I := L2H.inv_startH (CX := CX0) (E := E) S hpin e0 (len _ _ _ _ hsp) r x
  refine wpAny_mono (ht.run [] s1 (start N vs) H _ I hq) (fun fl s' hs => ?_) (fun e s' hs => hs)
  match fl, hs with
  | .ret u, ⟨v, σ', H', J, rv, q⟩ => exact ⟨v, H', J.os, J.bare, J.base, J.hok, rv, q⟩
  | .next, ⟨σ', H', J, q⟩ => exact ⟨.non, H', J.os, J.bare, J.base, J.hok, rfl, q⟩
  | .brk, ⟨_, _, _, q⟩ => exact q.elim
  | .cont, ⟨_, _, _, q⟩ => exact q.elim
end
section
variable {X : Cx} {k : Nat} {f : Addr} {fd : FuncData} {ps : List Str} {sp : Sp} {x : Str} {q pos : Pos} {e : Expr} {es : List Expr} {t : TA} {p : Addr × Obj}
theorem pe_callP (F : FnP X.prog X.w X.K X.mg X.base p k f fd ps sp) (hr : L2H.RoomH k X.A) (hp : p ∈ X.pn) (hg : Gl X x) (hm : X.mg x = some (.ref f)) (hk : PySem.W.keepIn X.K (.ref f) = true) (hb : Binds X.K fd ps [])
    (ha : PA X (e :: es) t) (hdb : (x == ("__debug__" : Str)) = false := by decide) (he : starEach (e :: es) X.env = (false, eval e X.env) :: starEach es X.env := by rfl)
    (hpl : (backTo pos (starEach es X.env)).any (·.1) = false := by rfl) : PE X (.Call (.Name x q) (e :: es) [] pos) (tCall sp [] E0 t) := by
  refine ⟨fun pins s σ H Q I h => wpAny_Call_Name_kw (ld_glob I hg hm ?_ hdb)⟩
  refine PySem.W.callWith_K (h₀ := X.base) I.ok.mod.kin hk (thn (ha.run pos pins s σ H _ I h) fun us s1 hh => ?_) he hpl
  obtain ⟨vs, H1, I1, r, q1⟩ := hh
  rw [List.append_nil] at q1
  refine ⟨I1.kIn, ?_⟩
  have hl : us.length = ps.length := by
    rw [← r.length]
    exact F.len _ _ _ _ q1
  have b := hb s1 us I1.kIn (by rw [List.append_nil]; exact hl)
  rw [List.append_nil] at b
  have P1 := I1.pin p (List.mem_append_left _ hp)
  have pin : L2H.PinOk X.stack H1 s1 p := ⟨P1.1, P1.2.1, (fun hm => (List.mem_cons.mp (I1.stkSub p.1 hm)).elim P1.2.2.1 P1.2.2.2.1), P1.2.2.2.2⟩
  refine wpAny_call (codeAny_mono (F.run X.A X.stack s1 H1 ⟨us, []⟩ us vs Q E0 hr pin I1.env0 b r q1) fun r s' hq => ?_)
  match r, hq with
  | .error _, hq => exact hq.elim
  | .ok (.ret u), hq => exact I1.after hq
  | .ok .next, hq => exact hq.elim
  | .ok .brk, hq => exact hq.elim
  | .ok .cont, hq => exact hq.elim
end
end ExcM
/-! ### iterators that hand out pairs (enumerate, zip), over what is a list or a tuple: one turn for all of them, by GoesN -/
namespace PairW
open PySem PySem.Spec PyProof.Rows L2
/-- a sequence and an iterator over it: a tuple (true) or a list (false) -/
def SqB (t : Bool) (h : Heap) (l : Addr) (xs : Array Value) : Prop := match t with
  | true => h.IsTuple l xs
  | false => h.IsList l xs
def ItB (t : Bool) (h : Heap) (it l : Addr) (k : Nat) : Prop := match t with
  | true => h.IsTupleIter it l k
  | false => h.IsListIter it l k
def SqV (t : Bool) (K : PySem.W.Frag) (H : Hp) (a : Addr) (xs : List V) : Prop := match t with
  | true => SqT K H a xs
  | false => SqL K H a xs
def itO (t : Bool) (l : Addr) : Obj := match t with
  | true => { cls := .type "tuple_iterator", data := .fields #[.ref l, .int 0 0] }
  | false => { cls := .type "list_iterator", data := .fields #[.ref l, .int 0 0] }
theorem SqB.lt {t : Bool} {h : Heap} {a : Addr} {xs : Array Value} (q : SqB t h a xs) : a < h.objs.size := by
  cases t <;> (obtain ⟨o, e, _⟩ := q; exact Heap.lt_size e)
theorem ItB.at {t : Bool} {h h' : Heap} {a l : Addr} {k : Nat} (x : ItB t h a l k) (e : ∀ o, h.get? a = some o → h'.get? a = some o) : ItB t h' a l k := by
  cases t
  · exact Heap.IsListIter.at x e
  · exact Heap.IsTupleIter.at x e
theorem ItB.obj {t : Bool} {h : Heap} {a l : Addr} {k : Nat} (x : ItB t h a l k) : ∃ o, h.get? a = some o ∧ ∀ v, o.data ≠ .cell v := by
  cases t <;> (obtain ⟨o, e, _, d⟩ := x; exact ⟨o, e, fun v q => by rw [d] at q; cases q⟩)
theorem itO_is {t : Bool} {h : Heap} {a l : Addr} (e : h.get? a = some (itO t l)) : ItB t h a l 0 := by
  cases t <;> exact ⟨_, e, rfl, rfl⟩
theorem sqv_get {X : Cx} {pins : List (Addr × Obj)} {σ : L2.St} {H : Hp} {s : Shared} {t : Bool} {a : Addr} {xs : List V} (I : Inv X pins σ H s) (h : SqV t X.K H a xs) : ∃ its, Vals xs its ∧ SqB t s.heap a its.toArray := by
  cases t
  · obtain ⟨its, rv, there, _⟩ := I.list h
    exact ⟨its, rv, there.isList⟩
  · obtain ⟨its, rv, there, _⟩ := I.tuple h
    exact ⟨its, rv, there⟩
theorem sqv_inj {X : Cx} {pins : List (Addr × Obj)} {σ : L2.St} {H : Hp} {s : Shared} {t : Bool} {a : Addr} {xs ys : List V} (I : Inv X pins σ H s) (h : SqV t X.K H a xs) (h' : SqV t X.K H a ys) : xs = ys := by
  cases t
  · exact I.list_inj h h'
  · exact I.tuple_inj h h'
theorem draws {prog : Program} {w : World} {A : Around} (hh : A.handled = none) (t : Bool) {it l : Addr} (ne : l ≠ it) (items : Array Value) :
    Draws prog w A it [it, l] items.size (fun i v => items[i]? = some v) (fun i h => ItB t h it l i ∧ SqB t h l items) := by
  cases t
  · exact Draws.list hh it l ne items
  · exact Draws.tuple hh it l ne items
theorem begins (t : Bool) (l : Addr) (items : Array Value) : Begins (.ref l) (itO t l) (fun h => SqB t h l items) := by
  cases t
  · exact begins_list l items
  · exact begins_tuple l items
/-- an iterator stands, made of new cells alone -/
theorem begun {X : Cx} {pins : List (Addr × Obj)} {σ : L2.St} {H : Hp} {s : Shared} {tg : Expr} {J : It} {fp : List Addr} {it : Addr} {tn : Nat → Heap → Prop} {R : It → Hp → Prop} {h' : Heap} (I : Inv X pins σ H s)
    (old : ∀ b o, s.heap.get? b = some o → h'.get? b = some o) (T : Turn X.prog X.w X.K tg J fp it tn) (st : tn 0 h') (new : ∀ b ∈ fp, s.heap.objs.size ≤ b) (q : R J H) : PIE X pins σ tg R (.ref it) { s with heap := h' } :=
  ⟨it, fp, tn, J, H, rfl, I.kept (t' := s.toks) old, T, st, fun b m => I.fpOk (new b m) (I.hok.fresh (new b m)), q⟩
/-- pairs: when there is one, of what it is, when there is none any more -/
structure Prs where
  go : Nat → Hp → Prop
  are : Nat → Hp → V → V → Prop
  stop : Nat → Hp → Prop
def Prs.it (p : Prs) : It where
  go := p.go
  yld := fun i H v H' => ∃ T x y, v = .ref T ∧ H T = none ∧ H' = upd H T (.tup [x, y]) ∧ p.are i H x y
  stop := p.stop
/-- what the iterator that stands at i over the sequences as they are now does: the library's GoesN, with what its pairs are -/
def Does (P : Program) (w : World) (X : Cx) (tg : Expr) (p : Prs) (it : Addr) (wr : List Addr) (tn : Nat → Heap → Prop) (i : Nat) (H : Hp) (s : Shared) : Prop :=
  ∃ (n : Nat) (fp : List Addr) (Y : Nat → Heap → Value → Heap → Prop) (St : Nat → Heap → Prop), GoesN P w X.A tg it fp wr n Y St ∧ St i s.heap ∧ (∀ h, St (i + 1) h → tn (i + 1) h) ∧ (p.stop i H → i = n) ∧
    (p.go i H → i < n ∧ ∀ h0 v h, Y i h0 v h → ∃ T a b x y, v = .ref T ∧ h0.objs.size ≤ T ∧ h.IsTuple T #[a, b] ∧ RelV x a ∧ RelV y b ∧ p.are i H x y)
theorem turn_prs {P : Program} {w : World} {K : PySem.W.Frag} {tg : Expr} {it : Addr} {fp wr : List Addr} {tn : Nat → Heap → Prop} (p : Prs) (mine : it ∈ fp) (hwr : ∀ b ∈ wr, b ∈ fp)
    (obj : ∀ i h, tn i h → ∀ b ∈ fp, ∃ o, h.get? b = some o ∧ ∀ v, o.data ≠ .cell v) (keep : ∀ i h h', tn i h → (∀ b ∈ fp, ∀ o, h.get? b = some o → h'.get? b = some o) → tn i h')
    (self : ∀ (A : Around) (i : Nat) (s : Shared) (Q : Value → Shared → Prop) (E : Value → Shared → Prop), tn i s.heap → Q (.ref it) s → wpAny (model P w) A (pyIter (.ref it)) Q E s)
    (does : ∀ (X : Cx), X.prog = P → X.w = w → X.K = K → X.calm = true → ∀ i pins s σ H, Inv X pins σ H s → tn i s.heap → (p.go i H ∨ p.stop i H) → Does P w X tg p it wr tn i H s) : Turn P w K tg p.it fp it tn where
  mem := mine
  obj := obj
  keep := keep
  self := self
  item := fun X e1 e2 e3 calm i pins s σ H E I free st more => by
    obtain ⟨n, fp', Y, St, W, here, next, _, far⟩ := does X e1 e2 e3 calm i pins s σ H I st (.inl more)
    obtain ⟨lt, pair⟩ := far more
    refine W.goes i s (fun u s2 => ∃ x H', Inv X pins σ H' s2 ∧ RelV x u ∧ p.it.yld i H x H' ∧ tn (i + 1) s2.heap ∧ ∀ b ∈ fp, H' b = none) E lt here fun v h' tk told st' old _ => ?_
    obtain ⟨T, a, b, x, y, rfl, new, tup, ra, rb, are⟩ := pair _ _ _ told
    refine ⟨.ref T, upd H T (.tup [x, y]), I.turnedNew (ch := wr) old (fun c m => free c (hwr c m)) new ⟨by show 2 ≤ sizeLine; decide, [a, b], .cons ra (.cons rb .nil), tup⟩, rfl, ⟨T, x, y, rfl, I.hok.fresh new, rfl, are⟩, next _ st', fun c m => ?_⟩
    obtain ⟨o, ho, _⟩ := obj i _ st c m
    exact (upd_ne (Nat.ne_of_lt (Nat.lt_of_lt_of_le (Heap.lt_size ho) new))).trans (free c m).1
  done := fun X e1 e2 e3 calm i pins s σ H E I free st none => by
    obtain ⟨n, fp', Y, St, W, here, _, last, _⟩ := does X e1 e2 e3 calm i pins s σ H I st (.inr none)
    rw [last none] at here
    exact W.stops s (fun s1 => Inv X pins σ H s1) E here fun h' tk old _ => I.turnedL (ch := wr) old fun c m => free c (hwr c m)
/-! enumerate, from k0 on -/
def PrE (t : Bool) (k0 : Int) (K : PySem.W.Frag) (a : Addr) : Prs where
  go := fun i H => ∃ xs : List V, SqV t K H a xs ∧ i < xs.length
  are := fun i H x y => x = .int (k0 + (i : Nat)) ∧ ∀ xs, SqV t K H a xs → xs[i]? = some y
  stop := fun i H => ∃ xs : List V, SqV t K H a xs ∧ i = xs.length
def TnE (t : Bool) (k0 : Int) (a e it : Addr) (i : Nat) (h : Heap) : Prop := (∃ old, IsEnum h e it (k0 + (i : Int)) old) ∧ ItB t h it a i
theorem turn_e {P : Program} {w : World} {K : PySem.W.Frag} {elts : List Expr} {kk : Nat} {tpos : Pos} {t : Bool} {k0 : Int} {a e it : Addr} (hai : a ≠ it) (hae : a ≠ e) (hei : e ≠ it) :
    Turn P w K (.Tuple elts kk tpos) (PrE t k0 K a).it [e, it] e (TnE t k0 a e it) := by
  refine turn_prs (wr := [e, it]) _ (by simp) (fun _ m => m) (fun i h st b m => ?_) (fun i h h' st k => ?_) (fun A i s Q E st q => ?_) fun X e1 e2 e3 calm i pins s σ H I st told => ?_
  · obtain ⟨⟨_, he⟩, hi⟩ := st
    rcases List.mem_cons.mp m with z | m
    · exact z ▸ ⟨_, he, fun _ q => nomatch q⟩
    · exact List.mem_singleton.mp m ▸ hi.obj
  · obtain ⟨⟨old, he⟩, hi⟩ := st
    exact ⟨⟨old, k e (by simp) _ he⟩, hi.at fun o => k it (by simp) o⟩
  · exact wpAny_pyIter_enum st.1.choose_spec q
  · subst e1 e2 e3
    obtain ⟨xs, hq⟩ : ∃ xs : List V, SqV t X.K H a xs := told.elim (fun ⟨xs, q, _⟩ => ⟨xs, q⟩) fun ⟨xs, q, _⟩ => ⟨xs, q⟩
    obtain ⟨its, rv, there⟩ := sqv_get I hq
    have many : xs.length = its.toArray.size := by rw [List.size_toArray]; exact rv.length
    have D := draws (prog := X.prog) (w := X.w) (A := X.A.in1) (I.ok.hd calm) t hai its.toArray
    refine ⟨_, _, _, _, GoesN.enumFrom k0 D e hei (by simp; exact ⟨hei, Ne.symm hae⟩) (by simp), ⟨st.1, st.2, there⟩, fun h q => ⟨q.1, q.2.1⟩, fun ⟨ys, q, n⟩ => by rw [n, sqv_inj I q hq, many], fun ⟨ys, q, n⟩ => ⟨?_, ?_⟩⟩
    · rw [sqv_inj I q hq, many] at n; exact n
    · rintro h0 v h ⟨T, tk, u, rfl, new, hu, tup⟩
      have ix : i < xs.length := by rw [← sqv_inj I q hq]; exact n
      obtain ⟨u', hu', ru⟩ := rv.get (List.getElem?_eq_getElem ix)
      have same : u' = u := Option.some.inj (hu'.symm.trans (by simpa using hu))
      exact ⟨T, _, u, .int (k0 + (i : Nat)), xs[i], rfl, new, tup, ⟨tk, rfl⟩, same ▸ ru, rfl, fun zs hz => by rw [sqv_inj I hz hq]; exact List.getElem?_eq_getElem ix⟩
theorem walk_e {t : Bool} {k0 : Int} {K : PySem.W.Frag} {a : Addr} {xs : List V} : Walk (PrE t k0 K a).it xs.length (fun H => SqV t K H a xs) (YPair (fun i => some (.int (k0 + (i : Nat)))) (fun i => xs[i]?)) where
  goes := fun i H lt q => ⟨xs, q, lt⟩
  stops := fun H q => ⟨xs, q, rfl⟩
  yields := fun i H v H' _ q ⟨T, x, y, e1, e2, e3, e4, e5⟩ => ⟨T, x, y, e1, e2, e3, by rw [e4], e5 xs q⟩
/-- the two cells of an enumerate that was made just now -/
theorem pie_e {X : Cx} {pins : List (Addr × Obj)} {σ : L2.St} {H : Hp} {s : Shared} {elts : List Expr} {kk : Nat} {tpos : Pos} {t : Bool} {k0 : Int} {a : Addr} {xs : List V} {R : It → Hp → Prop} {h' : Heap} (I : Inv X pins σ H s) (hq : SqV t X.K H a xs)
    (he : IsEnum h' (s.heap.objs.size + 1) s.heap.objs.size k0 .none) (hi : h'.get? s.heap.objs.size = some (itO t a)) (old : ∀ b o, s.heap.get? b = some o → h'.get? b = some o) (q : R (PrE t k0 X.K a).it H) :
    wpAny (model X.prog X.w) X.A (pyIter (.ref (s.heap.objs.size + 1))) (PIE X pins σ (.Tuple elts kk tpos) R) X.xe { s with heap := h' } := by
  obtain ⟨its, _, there⟩ := sqv_get I hq
  have lt := there.lt
  refine wpAny_pyIter_enum he (begun I old (turn_e (t := t) (k0 := k0) (Nat.ne_of_lt lt) (Nat.ne_of_lt (Nat.lt_succ_of_lt lt)) (Nat.succ_ne_self _)) ⟨⟨.none, ?_⟩, itO_is hi⟩ (fun b m => ?_) q)
  · show IsEnum h' _ _ (k0 + 0) _
    rw [Int.add_zero]; exact he
  · rcases List.mem_cons.mp m with z | m
    · exact z ▸ Nat.le_succ _
    · exact Nat.le_of_eq (List.mem_singleton.mp m).symm
/-- enumerate of one thing, whatever its iterator is -/
theorem made_one {v : Value} {o : Obj} {G : Heap → Prop} (B : Begins v o G) : Meets (Builtin.«enumerate.__new__» ⟨[.type "enumerate", v], []⟩) (fun _ R s => G s.heap ∧
    R (.ok (.ret (.ref (s.heap.push o).objs.size))) { s with heap := (s.heap.push o).push { cls := .type "enumerate", data := .fields #[.none, .bool false, .ref s.heap.objs.size, rawInt 0, .none, .none] } }) := .of_wp fun prog w A R ⟨hp, g, dr, tk, os⟩ ⟨stands, ends⟩ => by
  have known := sub_enumerate
  have first : ∀ {A' : Around} {E Q : Value → Shared → Prop}, Q (.ref hp.objs.size) ⟨hp.push o, g, dr, tk, os⟩ → wpAny (model prog w) A' (pyIter v) Q E ⟨hp, g, dr, tk, os⟩ := fun q => B.iter prog w _ _ ⟨hp, g, dr, tk, os⟩ _ stands q
  wp_walk using first
  refine wpAny_stack_any (fun _ => wpAny_pure ?_)
  split
  next c _ _ _ _ _ => cases (c == Value.type "enumerate") <;> (wp_walk using first; exact ⟨_, rfl, ends⟩)
  next => wp_walk using first; exact ⟨_, rfl, ends⟩
theorem call_one {prog : Program} {w : World} {A : Around} {E : Value → Shared → Prop} {s : Shared} {v : Value} {o : Obj} {G : Heap → Prop} {Q : Value → Shared → Prop} (B : Begins v o G) (stands : G s.heap)
    (then_ : ∀ h', IsEnum h' (s.heap.objs.size + 1) s.heap.objs.size 0 .none → h'.get? s.heap.objs.size = some o → (∀ b o, s.heap.get? b = some o → h'.get? b = some o) → Q (.ref (s.heap.objs.size + 1)) { s with heap := h' }) :
    wpAny (model prog w) A (call (.type "enumerate") [v]) Q E s := by
  refine callType_new F.called_enumerate (by decide) (F.typeCall_enumerate_1 _) (F.newCall_enumerate_1 _) (fun obj => F.args_object_init_2 obj _) F.entry_enumerate_new (made_one B) ⟨stands, ?_⟩
  have n1 := Heap.size_push s.heap o
  have last : IsEnum ((s.heap.push o).push { cls := .type "enumerate", data := .fields #[.none, .bool false, .ref s.heap.objs.size, rawInt 0, .none, .none] }) (s.heap.objs.size + 1) s.heap.objs.size 0 .none := n1 ▸ Heap.get?_push_size (s.heap.push o) rfl
  refine n1.symm ▸ ⟨⟨_, last, rfl⟩, then_ _ last ?_ fun b u z => ?_⟩
  · exact Heap.get?_push_of_some _ (Heap.get?_push_size _ B.free)
  · exact Heap.get?_push_of_some _ (Heap.get?_push_of_some _ z)
end PairW
namespace EnumT
open PySem PySem.Spec PyProof.Rows L2 PairW
theorem walk_enumT {K : PySem.W.Frag} {a : Addr} {xs : List V} : Walk (PrE true 0 K a).it xs.length (fun H => SqT K H a xs) (YPair (fun i => some (.int (i : Nat))) (fun i => xs[i]?)) := by
  have w := walk_e (t := true) (k0 := 0) (K := K) (a := a) (xs := xs)
  simp only [Int.zero_add] at w
  exact w
def iEnumT (K : PySem.W.Frag) (ta : TA) : TI := fun σ H R => ta σ H fun vs H1 => ∃ a xs, vs = [.ref a] ∧ SqT K H1 a xs ∧ R (PrE true 0 K a).it H1
theorem pi_enumT {X : Cx} {e : Expr} {ta : TA} {p pos tpos : Pos} {elts : List Expr} {kk : Nat} (hg : Gl X "enumerate") (hm : X.mg "enumerate" = none) (ha : PA X [e] ta)
    (hs : starEach [e] X.env = [(false, eval e X.env)] := by rfl) : PI X (.Tuple elts kk tpos) (.Call (.Name "enumerate" p) [e] [] pos) (iEnumT X.K ta) where
  run := fun pins s σ H R I h => Call_ (ld_blt I hg hm boot_enumerate (PyProof.Rows.callWith_type1 (thn (ha.run pos pins s σ H _ I h) fun us s1 ⟨vs, H1, I1, rv, a, xs, e, hq, q⟩ => by
    subst e
    obtain ⟨_, rfl, rfl⟩ := vals1 rv
    obtain ⟨its, _, there⟩ := sqv_get (t := true) I1 hq
    exact call_one (begins true a its.toArray) there fun h' he hi old => pie_e (t := true) (xs := xs) I1 hq he hi old q) hs rfl))
end EnumT
/-! ### walks over what is a list or a tuple -/
namespace SeqW
open PySem PySem.Spec PySem.Calls PyProof.Rows L2
/-- what stands at a is as it was -/
def Keeps (a : Addr) (H H' : Hp) : Prop := ∀ o, H a = some o → H' a = some o
theorem keeps_v {t : Bool} {K : PySem.W.Frag} {H H' : Hp} {a : Addr} {xs : List V} (k : Keeps a H H') (h : PairW.SqV t K H a xs) : PairW.SqV t K H' a xs := by
  cases t <;> exact h.elim (fun h => .inl (h.elim (fun h => .inl (k _ h)) fun ⟨o, h⟩ => .inr ⟨o, k _ h⟩)) .inr
theorem keeps_l {K : PySem.W.Frag} {H H' : Hp} {a : Addr} {xs : List V} (k : Keeps a H H') (h : SqL K H a xs) : SqL K H' a xs := keeps_v (t := false) k h
theorem keeps_t {K : PySem.W.Frag} {H H' : Hp} {a : Addr} {xs : List V} (k : Keeps a H H') (h : SqT K H a xs) : SqT K H' a xs := keeps_v (t := true) k h
theorem keeps_same {a : Addr} {H H' : Hp} (s : Same H H') : Keeps a H H' := fun o h => s a o h
theorem ix_seqK {X : Cx} {K : PySem.W.Frag} (h : X.K = K) : IxR X (rIx K) := by
  subst h
  exact ix_seq
def iSeq (K : PySem.W.Frag) (tl : TE) : TI := fun σ H R => tl σ H fun x H1 => ∃ a xs, x = .ref a ∧ ∃ Kp : Hp → Prop, ((∀ H', Kp H' → SqL K H' a xs) ∨ (∀ H', Kp H' → SqT K H' a xs)) ∧ Kp H1 ∧ ∀ (J : It) (G : Hp → Prop), Walk J xs.length G (YAt xs) → (∀ H', Kp H' → G H') → R J H1
theorem pi_seq {X : Cx} {tg l : Expr} {tl : TE} (hl : PE X l tl) : PI X tg l (iSeq X.K tl) where
  run := fun pins s σ H R I h => thn (hl.run pins s σ H _ I h) fun v s1 ⟨x, H1, I1, rv, a, xs, e, Kp, side, kp, q⟩ => by
    subst e
    cases rv
    have new : ∀ b ∈ [s1.heap.objs.size], s1.heap.objs.size ≤ b := fun b m => Nat.le_of_eq (List.mem_singleton.mp m).symm
    rcases side with is | is
    · obtain ⟨its, _, there, _⟩ := I1.list (is _ kp)
      exact wpAny_pyIter_list there.isList (PairW.begun I1 (fun _ _ => Heap.get?_push_of_some _) (turn_list a _) ⟨_, Heap.get?_push_size _ rfl, rfl, rfl⟩ new (q _ _ walk_list is))
    · obtain ⟨its, _, there, _⟩ := I1.tuple (is _ kp)
      exact wpAny_pyIter_tuple (show s1.heap.IsTuple a its.toArray from there) (PairW.begun I1 (fun _ _ => Heap.get?_push_of_some _) (turn_tuple a _) ⟨_, Heap.get?_push_size _ rfl, rfl, rfl⟩ new (q _ _ walk_tup is))
def iEnumA (K : PySem.W.Frag) (ta : TA) : TI := fun σ H R => ta σ H fun vs H1 => ∃ a xs, vs = [.ref a] ∧ ∃ Kp : Hp → Prop, ((∀ H', Kp H' → SqL K H' a xs) ∨ (∀ H', Kp H' → SqT K H' a xs)) ∧ Kp H1 ∧ ∀ (J : It) (G : Hp → Prop), Walk J xs.length G (YPair (fun i => some (.int (i : Nat))) (fun i => xs[i]?)) → (∀ H', Kp H' → G H') → R J H1
theorem pi_enumA {X : Cx} {e : Expr} {ta : TA} {p pos tpos : Pos} {elts : List Expr} {kk : Nat} (hg : Gl X "enumerate") (hm : X.mg "enumerate" = none) (ha : PA X [e] ta)
    (hs : starEach [e] X.env = [(false, eval e X.env)] := by rfl) : PI X (.Tuple elts kk tpos) (.Call (.Name "enumerate" p) [e] [] pos) (iEnumA X.K ta) where
  run := fun pins s σ H R I h => Call_ (ld_blt I hg hm boot_enumerate (PyProof.Rows.callWith_type1 (thn (ha.run pos pins s σ H _ I h) fun us s1 ⟨vs, H1, I1, rv, a, xs, e, Kp, side, kp, q⟩ => by
    subst e
    obtain ⟨_, rfl, rfl⟩ := vals1 rv
    have go : ∀ t : Bool, (∀ H', Kp H' → PairW.SqV t X.K H' a xs) → wpAny (model X.prog X.w) X.A (call (.type "enumerate") [.ref a]) (fun v s2 => wpAny (model X.prog X.w) X.A (pyIter v) (PIE X pins σ (.Tuple elts kk tpos) R) X.xe s2) X.xe s1 := fun t is => by
      obtain ⟨its, _, there⟩ := PairW.sqv_get I1 (is _ kp)
      have w := PairW.walk_e (t := t) (k0 := 0) (K := X.K) (a := a) (xs := xs)
      simp only [Int.zero_add] at w
      exact PairW.call_one (PairW.begins t a its.toArray) there fun h' he hi old => PairW.pie_e (xs := xs) I1 (is _ kp) he hi old (q _ _ w is)
    exact side.elim (go false) (go true)) hs rfl))
end SeqW
namespace M
open PySem PySem.Spec PyProof.Rows L2
def topS (i : Nat) : Stmt := PySem.Challenge.pw_wayneedle_k12_lots_refused.main.body.getD i (.Pass ⟨0, 0, 0, 0⟩)
abbrev s_is_whole : Stmt := topS 1
theorem sc_is_whole : FnScope ["thing"] ["thing"] (defScope s_is_whole) := ⟨rfl, rfl, rfl, by decide +kernel, rfl, by decide +kernel, by decide +kernel⟩
abbrev s_is_row : Stmt := topS 2
theorem sc_is_row : FnScope ["thing"] ["thing"] (defScope s_is_row) := ⟨rfl, rfl, rfl, by decide +kernel, rfl, by decide +kernel, by decide +kernel⟩
abbrev s_laid_out : Stmt := topS 3
theorem sc_laid_out : FnScope ["thing", "things", "begins", "whole"] ["thing"] (defScope s_laid_out) := ⟨rfl, rfl, rfl, by decide +kernel, rfl, by decide +kernel, by decide +kernel⟩
abbrev s_kept : Stmt := topS 4
theorem sc_kept : FnScope ["thing", "things", "begins", "at", "anew", "whole", "begin", "end"] ["thing"] (defScope s_kept) := ⟨rfl, rfl, rfl, by decide +kernel, rfl, by decide +kernel, by decide +kernel⟩
abbrev s_step : Stmt := topS 17
theorem sc_step : FnScope ["letter"] ["letter"] (defScope s_step) := ⟨rfl, rfl, rfl, by decide +kernel, rfl, by decide +kernel, by decide +kernel⟩
abbrev s_way_of : Stmt := topS 18
theorem sc_way_of : FnScope ["place", "letter", "east", "north"] ["place", "letter"] (defScope s_way_of) := ⟨rfl, rfl, rfl, by decide +kernel, rfl, by decide +kernel, by decide +kernel⟩
abbrev s_is_lot : Stmt := topS 19
theorem sc_is_lot : FnScope ["thing"] ["thing"] (defScope s_is_lot) := ⟨rfl, rfl, rfl, by decide +kernel, rfl, by decide +kernel, by decide +kernel⟩
abbrev s_refuse_unless_lot : Stmt := topS 20
theorem sc_refuse_unless_lot : FnScope ["thing"] ["thing"] (defScope s_refuse_unless_lot) := ⟨rfl, rfl, rfl, by decide +kernel, rfl, by decide +kernel, by decide +kernel⟩
abbrev s_mirrors : Stmt := topS 21
theorem sc_mirrors : FnScope ["lot"] ["lot"] (defScope s_mirrors) := ⟨rfl, rfl, rfl, by decide +kernel, rfl, by decide +kernel, by decide +kernel⟩
abbrev s_true : Stmt := topS 22
theorem sc_true : FnScope ["lot", "letter", "at"] ["lot", "letter"] (defScope s_true) := ⟨rfl, rfl, rfl, by decide +kernel, rfl, by decide +kernel, by decide +kernel⟩
abbrev s_legs_in : Stmt := topS 24
theorem sc_legs_in : FnScope ["log", "entry"] ["log"] (defScope s_legs_in) := ⟨rfl, rfl, rfl, by decide +kernel, rfl, by decide +kernel, by decide +kernel⟩
abbrev s_refuse_unless_lots : Stmt := topS 28
theorem sc_refuse_unless_lots : FnScope ["log", "lots", "legs", "at", "thing"] ["log", "lots"] (defScope s_refuse_unless_lots) := ⟨rfl, rfl, rfl, by decide +kernel, rfl, by decide +kernel, by decide +kernel⟩
abbrev s_gone : Stmt := topS 29
theorem sc_gone : FnScope ["place", "letter", "many", "east", "north"] ["place", "letter", "many"] (defScope s_gone) := ⟨rfl, rfl, rfl, by decide +kernel, rfl, by decide +kernel, by decide +kernel⟩
abbrev s_look_behind : Stmt := topS 30
theorem sc_look_behind : FnScope ["entry", "lot", "look", "word"] ["entry", "lot", "look"] (defScope s_look_behind) := ⟨rfl, rfl, rfl, by decide +kernel, rfl, by decide +kernel, by decide +kernel⟩
abbrev s_track : Stmt := topS 31
theorem sc_track : FnScope ["log", "lots", "place", "look", "leg", "stands", "entry"] ["log", "lots"] (defScope s_track) := ⟨rfl, rfl, rfl, by decide +kernel, rfl, by decide +kernel, by decide +kernel⟩
abbrev s_way_fact : Stmt := topS 32
theorem sc_way_fact : FnScope ["at", "word", "place", "look", "east", "north", "side"] ["at", "word", "place", "look"] (defScope s_way_fact) := ⟨rfl, rfl, rfl, by decide +kernel, rfl, by decide +kernel, by decide +kernel⟩
abbrev s_facts_of_entry : Stmt := topS 33
theorem sc_facts_of_entry : FnScope ["at", "entry", "place", "look", "word", "done"] ["at", "entry", "place", "look"] (defScope s_facts_of_entry) := ⟨rfl, rfl, rfl, by decide +kernel, rfl, by decide +kernel, by decide +kernel⟩
abbrev s_facts : Stmt := topS 34
theorem sc_facts : FnScope ["log", "lots", "behind", "ahead", "found", "at", "entry", "place", "look"] ["log", "lots"] (defScope s_facts) := ⟨rfl, rfl, rfl, by decide +kernel, rfl, by decide +kernel, by decide +kernel⟩
abbrev s_Lany_entry : Stmt := topS 36
theorem sc_Lany_entry : FnScope ["_law_pool_here", "_law_looks", "_law_pick", "_law_sign_here"] ["_law_pool_here", "_law_looks"] (defScope s_Lany_entry) := ⟨rfl, rfl, rfl, by decide +kernel, rfl, by decide +kernel, by decide +kernel⟩
abbrev s_Lany_log : Stmt := topS 37
theorem sc_Lany_log : FnScope ["_law_pool_here", "_law_many", "_law_swaps", "_law_log", "_law_looks", "_law_left", "_law_k", "_law_entry"] ["_law_pool_here", "_law_many", "_law_swaps"] (defScope s_Lany_log) := ⟨rfl, rfl, rfl, by decide +kernel, rfl, by decide +kernel, by decide +kernel⟩
abbrev s_Llots : Stmt := topS 38
theorem sc_Llots : FnScope ["_law_pool_here", "_law_many", "_law_k"] ["_law_pool_here", "_law_many"] (defScope s_Llots) := ⟨rfl, rfl, rfl, by decide +kernel, rfl, by decide +kernel, by decide +kernel⟩
abbrev s_Lown : Stmt := topS 39
theorem sc_Lown : FnScope ["_law_e", "_law_some"] ["_law_e"] (defScope s_Lown) := ⟨rfl, rfl, rfl, by decide +kernel, rfl, by decide +kernel, by decide +kernel⟩
abbrev s_Lpool : Stmt := topS 40
theorem sc_Lpool : FnScope ["_law_script", "_law_k", "_law_cell", "_law_left"] ["_law_script", "_law_k"] (defScope s_Lpool) := ⟨rfl, rfl, rfl, by decide +kernel, rfl, by decide +kernel, by decide +kernel⟩
abbrev s_Ltake : Stmt := topS 41
theorem sc_Ltake : FnScope ["_law_pool_here", "_law_wide", "_law_found", "_law_primes", "_law_one", "_law_two"] ["_law_pool_here", "_law_wide"] (defScope s_Ltake) := ⟨rfl, rfl, rfl, by decide +kernel, rfl, by decide +kernel, by decide +kernel⟩
abbrev s_Lwhole : Stmt := topS 42
theorem sc_Lwhole : FnScope ["_law_thing"] ["_law_thing"] (defScope s_Lwhole) := ⟨rfl, rfl, rfl, by decide +kernel, rfl, by decide +kernel, by decide +kernel⟩
abbrev s_Lsame : Stmt := topS 43
theorem sc_Lsame : FnScope ["_law_found", "_law_due_here", "_law_one", "_law_other"] ["_law_found", "_law_due_here"] (defScope s_Lsame) := ⟨rfl, rfl, rfl, by decide +kernel, rfl, by decide +kernel, by decide +kernel⟩
abbrev s_Lanything : Stmt := topS 44
theorem sc_Lanything : FnScope ["_law_pool_here", "_law_some"] ["_law_pool_here"] (defScope s_Lanything) := ⟨rfl, rfl, rfl, by decide +kernel, rfl, by decide +kernel, by decide +kernel⟩
abbrev s_Lname : Stmt := topS 45
theorem sc_Lname : FnScope ["_law_pool_here", "_law_letters", "_law_k"] ["_law_pool_here"] (defScope s_Lname) := ⟨rfl, rfl, rfl, by decide +kernel, rfl, by decide +kernel, by decide +kernel⟩
abbrev s_Lsign : Stmt := topS 46
theorem sc_Lsign : FnScope ["_law_pool_here", "_law_lone", "_law_sign_here"] ["_law_pool_here", "_law_lone"] (defScope s_Lsign) := ⟨rfl, rfl, rfl, by decide +kernel, rfl, by decide +kernel, by decide +kernel⟩
abbrev s_Llegs : Stmt := topS 47
theorem sc_Llegs : FnScope ["_law_log", "_law_entry"] ["_law_log"] (defScope s_Llegs) := ⟨rfl, rfl, rfl, by decide +kernel, rfl, by decide +kernel, by decide +kernel⟩
abbrev s_Lasked : Stmt := topS 48
theorem sc_Lasked : FnScope ["_law_word", "_law_log", "_law_lots_here", "_law_e"] ["_law_word", "_law_log", "_law_lots_here"] (defScope s_Lasked) := ⟨rfl, rfl, rfl, by decide +kernel, rfl, by decide +kernel, by decide +kernel⟩
abbrev s_Ldue : Stmt := topS 49
theorem sc_Ldue : FnScope ["_law_log", "_law_lots_here", "_law_at", "_law_lot"] ["_law_log", "_law_lots_here"] (defScope s_Ldue) := ⟨rfl, rfl, rfl, by decide +kernel, rfl, by decide +kernel, by decide +kernel⟩
abbrev s_law : Stmt := topS 50
theorem sc_law : FnScope ["_law_script", "_law_k", "_law_pool_here", "_law_log", "_law_lots_here", "_law_pick", "_law_turn", "_law_word"] ["_law_script"] (defScope s_law) := ⟨rfl, rfl, rfl, by decide +kernel, rfl, by decide +kernel, by decide +kernel⟩
abbrev s_init : Stmt := inClass (topS 9) 0
theorem sc_init : FnScope ["self", "at"] ["self", "at"] (defScope s_init) := ⟨rfl, rfl, rfl, by decide +kernel, rfl, by decide +kernel, by decide +kernel⟩
/-- what the top has left -/
structure Top (w : World) (K : PySem.W.Frag) (mg : Str → Option Value) where
  a_is_whole : Addr
  fd_is_whole : FuncData
  F_is_whole : Fun K "is_whole" "is_whole" s_is_whole a_is_whole fd_is_whole
  b_is_whole : Binds K fd_is_whole ["thing"] []
  g_is_whole : mg "is_whole" = some (.ref a_is_whole)
  a_is_row : Addr
  fd_is_row : FuncData
  F_is_row : Fun K "is_row" "is_row" s_is_row a_is_row fd_is_row
  b_is_row : Binds K fd_is_row ["thing"] []
  g_is_row : mg "is_row" = some (.ref a_is_row)
  a_laid_out : Addr
  fd_laid_out : FuncData
  F_laid_out : Fun K "laid_out" "laid_out" s_laid_out a_laid_out fd_laid_out
  b_laid_out : Binds K fd_laid_out ["thing"] []
  g_laid_out : mg "laid_out" = some (.ref a_laid_out)
  a_kept : Addr
  fd_kept : FuncData
  F_kept : Fun K "kept" "kept" s_kept a_kept fd_kept
  b_kept : Binds K fd_kept ["thing"] []
  g_kept : mg "kept" = some (.ref a_kept)
  a_step : Addr
  fd_step : FuncData
  F_step : Fun K "step" "step" s_step a_step fd_step
  b_step : Binds K fd_step ["letter"] []
  g_step : mg "step" = some (.ref a_step)
  a_way_of : Addr
  fd_way_of : FuncData
  F_way_of : Fun K "way_of" "way_of" s_way_of a_way_of fd_way_of
  b_way_of : Binds K fd_way_of ["place", "letter"] []
  g_way_of : mg "way_of" = some (.ref a_way_of)
  a_is_lot : Addr
  fd_is_lot : FuncData
  F_is_lot : Fun K "is_lot" "is_lot" s_is_lot a_is_lot fd_is_lot
  b_is_lot : Binds K fd_is_lot ["thing"] []
  g_is_lot : mg "is_lot" = some (.ref a_is_lot)
  a_refuse_unless_lot : Addr
  fd_refuse_unless_lot : FuncData
  F_refuse_unless_lot : Fun K "refuse_unless_lot" "refuse_unless_lot" s_refuse_unless_lot a_refuse_unless_lot fd_refuse_unless_lot
  b_refuse_unless_lot : Binds K fd_refuse_unless_lot ["thing"] []
  g_refuse_unless_lot : mg "refuse_unless_lot" = some (.ref a_refuse_unless_lot)
  a_mirrors : Addr
  fd_mirrors : FuncData
  F_mirrors : Fun K "mirrors" "mirrors" s_mirrors a_mirrors fd_mirrors
  b_mirrors : Binds K fd_mirrors ["lot"] []
  g_mirrors : mg "mirrors" = some (.ref a_mirrors)
  a_true : Addr
  fd_true : FuncData
  F_true : Fun K "true" "true" s_true a_true fd_true
  b_true : Binds K fd_true ["lot", "letter"] []
  g_true : mg "true" = some (.ref a_true)
  a_legs_in : Addr
  fd_legs_in : FuncData
  F_legs_in : Fun K "legs_in" "legs_in" s_legs_in a_legs_in fd_legs_in
  b_legs_in : Binds K fd_legs_in ["log"] []
  g_legs_in : mg "legs_in" = some (.ref a_legs_in)
  a_refuse_unless_lots : Addr
  fd_refuse_unless_lots : FuncData
  F_refuse_unless_lots : Fun K "refuse_unless_lots" "refuse_unless_lots" s_refuse_unless_lots a_refuse_unless_lots fd_refuse_unless_lots
  b_refuse_unless_lots : Binds K fd_refuse_unless_lots ["log", "lots"] []
  g_refuse_unless_lots : mg "refuse_unless_lots" = some (.ref a_refuse_unless_lots)
  a_gone : Addr
  fd_gone : FuncData
  F_gone : Fun K "gone" "gone" s_gone a_gone fd_gone
  b_gone : Binds K fd_gone ["place", "letter", "many"] []
  g_gone : mg "gone" = some (.ref a_gone)
  a_look_behind : Addr
  fd_look_behind : FuncData
  F_look_behind : Fun K "look_behind" "look_behind" s_look_behind a_look_behind fd_look_behind
  b_look_behind : Binds K fd_look_behind ["entry", "lot", "look"] []
  g_look_behind : mg "look_behind" = some (.ref a_look_behind)
  a_track : Addr
  fd_track : FuncData
  F_track : Fun K "track" "track" s_track a_track fd_track
  b_track : Binds K fd_track ["log", "lots"] []
  g_track : mg "track" = some (.ref a_track)
  a_way_fact : Addr
  fd_way_fact : FuncData
  F_way_fact : Fun K "way_fact" "way_fact" s_way_fact a_way_fact fd_way_fact
  b_way_fact : Binds K fd_way_fact ["at", "word", "place", "look"] []
  g_way_fact : mg "way_fact" = some (.ref a_way_fact)
  a_facts_of_entry : Addr
  fd_facts_of_entry : FuncData
  F_facts_of_entry : Fun K "facts_of_entry" "facts_of_entry" s_facts_of_entry a_facts_of_entry fd_facts_of_entry
  b_facts_of_entry : Binds K fd_facts_of_entry ["at", "entry", "place", "look"] []
  g_facts_of_entry : mg "facts_of_entry" = some (.ref a_facts_of_entry)
  a_facts : Addr
  fd_facts : FuncData
  F_facts : Fun K "facts" "facts" s_facts a_facts fd_facts
  b_facts : Binds K fd_facts ["log", "lots"] []
  g_facts : mg "facts" = some (.ref a_facts)
  a_Lany_entry : Addr
  fd_Lany_entry : FuncData
  F_Lany_entry : Fun K "_law_any_entry" "_law_any_entry" s_Lany_entry a_Lany_entry fd_Lany_entry
  b_Lany_entry : Binds K fd_Lany_entry ["_law_pool_here", "_law_looks"] []
  g_Lany_entry : mg "_law_any_entry" = some (.ref a_Lany_entry)
  a_Lany_log : Addr
  fd_Lany_log : FuncData
  F_Lany_log : Fun K "_law_any_log" "_law_any_log" s_Lany_log a_Lany_log fd_Lany_log
  b_Lany_log : Binds K fd_Lany_log ["_law_pool_here", "_law_many", "_law_swaps"] []
  g_Lany_log : mg "_law_any_log" = some (.ref a_Lany_log)
  a_Llots : Addr
  fd_Llots : FuncData
  F_Llots : Fun K "_law_lots" "_law_lots" s_Llots a_Llots fd_Llots
  b_Llots : Binds K fd_Llots ["_law_pool_here", "_law_many"] []
  g_Llots : mg "_law_lots" = some (.ref a_Llots)
  a_Lown : Addr
  fd_Lown : FuncData
  F_Lown : Fun K "_law_own" "_law_own" s_Lown a_Lown fd_Lown
  b_Lown : Binds K fd_Lown ["_law_e"] []
  g_Lown : mg "_law_own" = some (.ref a_Lown)
  a_Lpool : Addr
  fd_Lpool : FuncData
  F_Lpool : Fun K "_law_pool" "_law_pool" s_Lpool a_Lpool fd_Lpool
  b_Lpool : Binds K fd_Lpool ["_law_script", "_law_k"] []
  g_Lpool : mg "_law_pool" = some (.ref a_Lpool)
  a_Ltake : Addr
  fd_Ltake : FuncData
  F_Ltake : Fun K "_law_take" "_law_take" s_Ltake a_Ltake fd_Ltake
  b_Ltake : Binds K fd_Ltake ["_law_pool_here", "_law_wide"] []
  g_Ltake : mg "_law_take" = some (.ref a_Ltake)
  a_Lwhole : Addr
  fd_Lwhole : FuncData
  F_Lwhole : Fun K "_law_whole" "_law_whole" s_Lwhole a_Lwhole fd_Lwhole
  b_Lwhole : Binds K fd_Lwhole ["_law_thing"] []
  g_Lwhole : mg "_law_whole" = some (.ref a_Lwhole)
  a_Lsame : Addr
  fd_Lsame : FuncData
  F_Lsame : Fun K "_law_same" "_law_same" s_Lsame a_Lsame fd_Lsame
  b_Lsame : Binds K fd_Lsame ["_law_found", "_law_due_here"] []
  g_Lsame : mg "_law_same" = some (.ref a_Lsame)
  a_Lanything : Addr
  fd_Lanything : FuncData
  F_Lanything : Fun K "_law_anything" "_law_anything" s_Lanything a_Lanything fd_Lanything
  b_Lanything : Binds K fd_Lanything ["_law_pool_here"] []
  g_Lanything : mg "_law_anything" = some (.ref a_Lanything)
  a_Lname : Addr
  fd_Lname : FuncData
  F_Lname : Fun K "_law_name" "_law_name" s_Lname a_Lname fd_Lname
  b_Lname : Binds K fd_Lname ["_law_pool_here"] []
  g_Lname : mg "_law_name" = some (.ref a_Lname)
  a_Lsign : Addr
  fd_Lsign : FuncData
  F_Lsign : Fun K "_law_sign" "_law_sign" s_Lsign a_Lsign fd_Lsign
  b_Lsign : Binds K fd_Lsign ["_law_pool_here", "_law_lone"] []
  g_Lsign : mg "_law_sign" = some (.ref a_Lsign)
  a_Llegs : Addr
  fd_Llegs : FuncData
  F_Llegs : Fun K "_law_legs" "_law_legs" s_Llegs a_Llegs fd_Llegs
  b_Llegs : Binds K fd_Llegs ["_law_log"] []
  g_Llegs : mg "_law_legs" = some (.ref a_Llegs)
  a_Lasked : Addr
  fd_Lasked : FuncData
  F_Lasked : Fun K "_law_asked" "_law_asked" s_Lasked a_Lasked fd_Lasked
  b_Lasked : Binds K fd_Lasked ["_law_word", "_law_log", "_law_lots_here"] []
  g_Lasked : mg "_law_asked" = some (.ref a_Lasked)
  a_Ldue : Addr
  fd_Ldue : FuncData
  F_Ldue : Fun K "_law_due" "_law_due" s_Ldue a_Ldue fd_Ldue
  b_Ldue : Binds K fd_Ldue ["_law_log", "_law_lots_here"] []
  g_Ldue : mg "_law_due" = some (.ref a_Ldue)
  a_law : Addr
  fd_law : FuncData
  F_law : Fun K "law" "law" s_law a_law fd_law
  b_law : Binds K fd_law ["_law_script"] []
  g_law : mg "law" = some (.ref a_law)
  g_LETTERS : ∃ t, mg "LETTERS" = some (.str "nesw" t)
  a_STEPS : Addr
  g_STEPS : mg "STEPS" = some (.ref a_STEPS)
  v_STEPS_0 : ∃ q, KDct K w a_STEPS "n" (.ref q) ∧ ∀ H, SqT K H q [.int (0), .int (1)]
  v_STEPS_1 : ∃ q, KDct K w a_STEPS "e" (.ref q) ∧ ∀ H, SqT K H q [.int (1), .int (0)]
  v_STEPS_2 : ∃ q, KDct K w a_STEPS "s" (.ref q) ∧ ∀ H, SqT K H q [.int (0), .int (-1)]
  v_STEPS_3 : ∃ q, KDct K w a_STEPS "w" (.ref q) ∧ ∀ H, SqT K H q [.int (-1), .int (0)]
  a_QUARTERS : Addr
  g_QUARTERS : mg "QUARTERS" = some (.ref a_QUARTERS)
  es_QUARTERS : Array DictEntry
  n_QUARTERS : Nat
  kd_QUARTERS : KDict K w a_QUARTERS es_QUARTERS n_QUARTERS
  ns_QUARTERS : ∀ z : Str, ∃ r, PySem.W.nsIn K a_QUARTERS z = some r ∧ r.isSome = ((["right", "back", "left"] : List Str).any fun s => s == z)
  v_QUARTERS_0 : KDct K w a_QUARTERS "right" (.int 1)
  v_QUARTERS_1 : KDct K w a_QUARTERS "back" (.int 2)
  v_QUARTERS_2 : KDct K w a_QUARTERS "left" (.int 3)
  a_START : Addr
  g_START : mg "START" = some (.ref a_START)
  v_START : ∃ q0, (∀ H, SqT K H a_START [.ref q0, .str ""]) ∧ (∀ H, SqT K H q0 [.int (0), .int (0)])
  m_abs : mg "abs" = none
  m_all : mg "all" = none
  m_any : mg "any" = none
  m_bool : mg "bool" = none
  m_enumerate : mg "enumerate" = none
  m_int : mg "int" = none
  m_isinstance : mg "isinstance" = none
  m_len : mg "len" = none
  m_list : mg "list" = none
  m_range : mg "range" = none
  m_str : mg "str" = none
  m_tuple : mg "tuple" = none
  m_zip : mg "zip" = none
  a_NoLot : Addr
  g_NoLot : mg "NoLot" = some (.ref a_NoLot)
  a_BadLog : Addr
  g_BadLog : mg "BadLog" = some (.ref a_BadLog)
  a_NoDealing : Addr
  g_NoDealing : mg "NoDealing" = some (.ref a_NoDealing)
  a_BadBox : Addr
  g_BadBox : mg "BadBox" = some (.ref a_BadBox)
  a_NoName : Addr
  g_NoName : mg "NoName" = some (.ref a_NoName)
  a_Twice : Addr
  g_Twice : mg "Twice" = some (.ref a_Twice)
  a_NoWalker : Addr
  g_NoWalker : mg "NoWalker" = some (.ref a_NoWalker)
  a_NeedleError : Addr
  g_NeedleError : mg "NeedleError" = some (.ref a_NeedleError)
  kit_NoLot : PySem.W.kitOne K (.ref a_NoDealing) (.ref a_NoLot) = some false
  kit_BadLog : PySem.W.kitOne K (.ref a_NoDealing) (.ref a_BadLog) = some false
  kit_NoDealing : PySem.W.kitOne K (.ref a_NoDealing) (.ref a_NoDealing) = some true
  kit_BadBox : PySem.W.kitOne K (.ref a_NoDealing) (.ref a_BadBox) = some false
  kit_NoName : PySem.W.kitOne K (.ref a_NoDealing) (.ref a_NoName) = some false
  kit_Twice : PySem.W.kitOne K (.ref a_NoDealing) (.ref a_Twice) = some false
  kit_NoWalker : PySem.W.kitOne K (.ref a_NoDealing) (.ref a_NoWalker) = some false
  kit_NeedleError : PySem.W.kitOne K (.ref a_NoDealing) (.ref a_NeedleError) = some true
  m_ValueError : mg "ValueError" = none
  kit_VE : PySem.W.kitOne K (.ref a_NoDealing) (.type "ValueError") = some true
  oex : OexC K a_NoDealing
  a_init : Addr
  fd_init : FuncData
  F_init : Fun K "__init__" "NoDealing.__init__" s_init a_init fd_init
  b_init : Binds K fd_init ["self", "at"] []
  iC : PySem.W.findIn K (.ref a_NoDealing) "__init__" = some (some (.ref a_init))
  tI : PySem.W.typeIn K (.ref a_init) = some (.type "function")
  xf : XfC K a_NoDealing
  exc : ExcC K a_NoDealing
  exm : PySem.W.exmOne K (.ref a_NoDealing) (.ref a_NoDealing) = some true
  no_at : PySem.W.findIn K (.ref a_NoDealing) "at" = some none
/-! ### heaps, pools -/
/-- all but what stands at p is as it was -/
def But (p : Addr) (H H' : Hp) : Prop := ∀ b o, b ≠ p → H b = some o → H' b = some o
theorem But.refl (p : Addr) (H : Hp) : But p H H := fun _ _ _ h => h
theorem But.trans {p : Addr} {H H1 H2 : Hp} (a : But p H H1) (b : But p H1 H2) : But p H H2 := fun c o hc h => b c o hc (a c o hc h)
theorem But.of {p : Addr} {H H' : Hp} (a : Same H H') : But p H H' := fun b o _ h => a b o h
theorem But.upd {p : Addr} {H H' : Hp} {o : HO} (a : But p H H') : But p H (upd H' p o) := fun b u hb h => by
  rw [upd_ne hb]
  exact a b u hb h
theorem same_upd {H : Hp} {p : Addr} {o : HO} (h : H p = none) : Same H (upd H p o) := fun b x e => by
  rw [upd_ne (ne_of_none e h)]
  exact e
/-- changed at a new place alone -/
theorem But.same {p : Addr} {H H1 H2 : Hp} (n : H p = none) (a : Same H H1) (b : But p H1 H2) : Same H H2 := fun c o h => b c o (ne_of_none h n) (a c o h)
theorem But.free {p l : Addr} {H H1 : Hp} (a : But p H H1) (n : l ≠ p) (h : H1 l = none) : H l = none := by
  cases e : H l with
  | none => rfl
  | some o =>
    rw [a l o n e] at h
    cases h
/-- a change at a place that H doesn't know -/
theorem But.mut {p l : Addr} {H H1 : Hp} {o : HO} (a : But p H H1) (n : H l = none) : But p H (L2.upd H1 l o) := fun b u hb h => by
  rw [upd_ne (ne_of_none h n)]
  exact a b u hb h
/-- the spring of draws: four whole numbers, the first not below nought -/
def Pool (H : Hp) (p : Addr) : Prop := ∃ l c k n : Int, 0 ≤ l ∧ H p = some (.lst [.int l, .int c, .int k, .int n])
theorem Pool.same {H H' : Hp} {p : Addr} (h : Pool H p) (e : Same H H') : Pool H' p := by
  obtain ⟨l, c, k, n, h0, h1⟩ := h
  exact ⟨l, c, k, n, h0, e _ _ h1⟩
theorem Pool.ne_tup {H : Hp} {p q : Addr} {xs : List V} (h : Pool H p) (e : H q = some (.tup xs)) : q ≠ p := by
  obtain ⟨l, c, k, n, h0, h1⟩ := h
  exact ne_of e h1 (by intro z; cases z)
theorem Pool.ne_new {H : Hp} {p q : Addr} (h : Pool H p) (e : H q = none) : q ≠ p := by
  obtain ⟨l, c, k, n, h0, h1⟩ := h
  intro z
  rw [z, h1] at e
  cases e
theorem Pool.upd {H : Hp} {p q : Addr} {o : HO} (h : Pool H p) (e : q ≠ p) : Pool (L2.upd H q o) p := by
  obtain ⟨l, c, k, n, h0, h1⟩ := h
  refine ⟨l, c, k, n, h0, ?_⟩
  rw [upd_ne (Ne.symm e)]
  exact h1
theorem seq_but {K : PySem.W.Frag} {H H' : Hp} {p a : Addr} {xs : List V} (e : But p H H') (n : a ≠ p) (h : SqL K H a xs) : SqL K H' a xs := by
  rcases h with (h | ⟨o, h⟩) | h
  · exact .inl (.inl (e _ _ n h))
  · exact .inl (.inr ⟨o, e _ _ n h⟩)
  · exact .inr h
theorem abs_if (n : Int) : 0 ≤ (if n < 0 then -n else n) := by
  split <;> omega
local macro_rules | `(tactic| walk_at "go") => `(tactic| repeat (first
  | (with_reducible exact rfl)
  | (refine ⟨_, _, rfl, rfl, ?_⟩)
  | (refine ⟨_, rfl, ?_⟩)
  | (refine ⟨rfl, ?_⟩)))
def spPool (K : PySem.W.Frag) : Sp := fun vs H Q _ => ∃ (a : Addr) (ns : List Int) (k : Int), vs = [.ref a, .int k] ∧ SqL K H a (ns.map V.int) ∧ ns.length ≤ 63 ∧ 0 ≤ k ∧ ∀ H' p, Same H H' → H p = none → Pool H' p → Q (.ref p) H'
def spTake : Sp := fun vs H Q _ => ∃ (p : Addr) (m : Int), vs = [.ref p, .int m] ∧ 0 < m ∧ m < 2 ^ 200 ∧ Pool H p ∧ ∀ H' (r : Int), But p H H' → Pool H' p → 0 ≤ r → r < m → Q (.int r) H'
theorem iteY {c A B : Prop} [Decidable c] (hc : c) (h : A) : if decide c = true then A else B := by
  rw [if_pos (decide_eq_true hc)]
  exact h
theorem iteYn {c A B : Prop} [Decidable c] (hc : c) (h : B) : if (!decide c) = true then A else B := by
  rw [decide_eq_true hc]
  exact h
theorem iteDN {b : Bool} {A B : Prop} (hb : b = false) (h : B) : if b = true then A else B := by
  rw [hb]
  exact h
theorem iteDY {b : Bool} {A B : Prop} (hb : b = true) (h : A) : if b = true then A else B := by
  rw [hb]
  exact h
theorem iteNE {d e : PyData} {A B : Prop} (h : d = e) (hs : SeqAt.shaped d = true) (hB : B) : if (!PyData.eqv d e) = true then A else B := by
  subst h
  rw [SeqAt.eqv_refl d (SeqAt.canLay_of_shaped hs)]
  exact hB
theorem ne_no {x y : V} (e : x = y) : (!decide (x = y)) = false := by
  rw [decide_eq_true e]
  rfl
theorem iteN {x y : V} {A B : Prop} (e : x = y) (h : B) : if (!decide (x = y)) = true then A else B := by
  rw [ne_no e, if_neg Bool.false_ne_true]
  exact h
section
variable {P : Program} {w : World} {K : PySem.W.Frag} {mg : Str → Option Value} {base : Heap}
theorem ok_Lpool (T : Top w K mg) : FnOk P w K mg base CX0 1 T.a_Lpool T.fd_Lpool ["_law_script", "_law_k"] (spPool K) := by
  refine T.F_Lpool.ok sc_Lpool (fun vs H Q E h => ?_) (fun cdv A outer s H vs Q E hr h => ?_)
  · obtain ⟨a, ns, k, rfl, _⟩ := h
    rfl
  · obtain ⟨a, ns, k, rfl, hS, hlen, hk, q⟩ := h
    refine ⟨_, (pss_cons (ps_set (i := 2) sc_Lpool.nd rfl (.inl rfl) pe_int)
      (Evl.pss_cut (ps_if (pt_cmpR op_gt (pe_callB call_len_seq (by rfl) T.m_len (by decide +kernel) (pa_cons (pv 0) pa_nil)) pe_int (nomark _)) (pss_one (ps_set (i := 2) sc_Lpool.nd rfl (.inl rfl) (pe_ix ix_list (pv 0) (pe_op op_mod (pv 1) (pe_callB call_len_seq (by rfl) T.m_len (by decide +kernel) (pa_cons (pv 0) pa_nil))) (fun _ _ => rfl)))) pss_nil)
      (pss_cons (ps_set (i := 3) sc_Lpool.nd rfl (.inl rfl) pe_int)
      (pss_cons (ps_if (PW.pt (pw_and (pt_cmpR op_lt (pv 1) (pe_callB call_len_seq (by rfl) T.m_len (by decide +kernel) (pa_cons (pv 0) pa_nil)) (nomark _)) (pw_and1 (pt_cmpR op_ge (pe_callB call_abs (by rfl) T.m_abs (by decide +kernel) (pa_cons (pv 2) pa_nil)) (pe_op op_pow pe_int pe_int) (nomark _))))) (pss_one (ps_set (i := 3) sc_Lpool.nd rfl (.inl rfl) (pe_callB call_abs (by rfl) T.m_abs (by decide +kernel) (pa_cons (pv 2) pa_nil)))) pss_nil)
      (pss_one (ps_ret (pe_lst (pa_cons (pv 3) (pa_cons (pv 2) (pa_cons (pv 1) (pa_cons pe_int pa_nil))))))))))), ?_⟩
    have hL : ((ns.map V.int).length : Int) = ns.length := by rw [List.length_map]
    have fin : ∀ (l c : Int), 0 ≤ l → ∀ p, H p = none → Q (.ref p) (upd H p (.lst [.int l, .int c, .int k, .int 0])) := fun l c hl p hp =>
      q _ p (same_upd hp) hp ⟨l, c, k, 0, hl, upd_same⟩
    refine ⟨fun σ H' => H' = H ∧ ∃ c : Int, σ = [some (.ref a), some (.int k), some (.int c), none], ?_, ?_⟩
    · refine ⟨.ref a, rfl, a, ns.map V.int, rfl, .inl hS, _, _, rfl, rfl, _, rfl, ite2 (fun e => ?_) (fun e => ?_)⟩
      · have e0 : (0 : Int) < ((ns.map V.int).length : Int) := of_decide_eq_true e
        refine ⟨.ref a, rfl, .int k, rfl, .ref a, rfl, a, ns.map V.int, rfl, .inl hS, k, _, rfl, rfl, e0, ?_⟩
        have h1 := Int.emod_nonneg k (show ((ns.map V.int).length : Int) ≠ 0 by omega)
        have h2 := Int.emod_lt_of_pos k e0
        obtain ⟨j, hj⟩ : ∃ j : Nat, k % ((ns.map V.int).length : Int) = j := ⟨(k % ((ns.map V.int).length : Int)).toNat, by omega⟩
        have hj2 : j < ns.length := by omega
        have g : (ns.map V.int)[j]? = some (.int ns[j]) := by
          rw [List.getElem?_map, List.getElem?_eq_getElem hj2]
          rfl
        have gi : atI (ns.map V.int) (k % ((ns.map V.int).length : Int)) = some (.int ns[j]) := by
          rw [hj]
          exact atI_nat g
        exact ⟨a, _, _, _, rfl, rfl, hS, gi, rfl, _, rfl⟩
      · exact ⟨rfl, 0, rfl⟩
    · rintro σ H' ⟨rfl, c, rfl⟩
      refine ⟨.int k, rfl, .ref a, rfl, a, ns.map V.int, rfl, .inl hS, _, _, rfl, rfl, _, rfl, ite2 (fun e => ?_) (fun e => ?_)⟩
      · refine ⟨.int c, rfl, c, rfl, _, _, rfl, rfl, ⟨by decide, by decide, by decide⟩, _, _, rfl, rfl, _, rfl, ite2 (fun e => ?_) (fun e => ?_)⟩
        · exact ⟨.int c, rfl, c, rfl, _, rfl, _, rfl, _, rfl, by show 4 ≤ sizeLine; decide, fin _ c (abs_if c)⟩
        · exact ⟨_, rfl, _, rfl, _, rfl, by show 4 ≤ sizeLine; decide, fin 0 c (by decide)⟩
      · refine ite2 (fun e2 => by cases e2) (fun _ => ?_)
        exact ⟨_, rfl, _, rfl, _, rfl, by show 4 ≤ sizeLine; decide, fin 0 c (by decide)⟩
def primes : List Int := [2147483629, 2147483587, 2147483579, 2147483563, 2147483549, 2147483543, 2147483497, 2147483489]
theorem primes_at {i : Int} (h0 : 0 ≤ i) (h1 : i < 8) : ∃ p : Int, atI (primes.map V.int) i = some (.int p) ∧ 0 < p ∧ p < 2147483647 := by
  obtain rfl | rfl | rfl | rfl | rfl | rfl | rfl | rfl : i = 0 ∨ i = 1 ∨ i = 2 ∨ i = 3 ∨ i = 4 ∨ i = 5 ∨ i = 6 ∨ i = 7 := by omega
  all_goals exact ⟨_, rfl, by decide, by decide⟩
theorem pow_ok (a : Int) : CPow (a % 2147483647) 5 := by
  have h1 := Int.emod_nonneg a (show (2147483647 : Int) ≠ 0 by decide)
  have h2 := Int.emod_lt_of_pos a (show (0 : Int) < 2147483647 by decide)
  exact ⟨by decide, by decide, by omega⟩
theorem ok_Ltake (T : Top w K mg) : FnOk P w K mg base CX0 1 T.a_Ltake T.fd_Ltake ["_law_pool_here", "_law_wide"] spTake := by
  refine T.F_Ltake.ok sc_Ltake (fun vs H Q E h => ?_) (fun cdv A outer s H vs Q E hr h => ?_)
  · obtain ⟨p, m, rfl, _⟩ := h
    rfl
  · obtain ⟨p, m, rfl, hm, hb, ⟨l, c, k, n, hl, hp⟩, q⟩ := h
    refine ⟨_, (pss_cons (ps_if (pt_cmpR op_gt (pe_ix ix_list (pv 0) pe_int (fun _ _ => rfl)) pe_int (nomark _)) (pss_cons (ps_set (i := 2) sc_Ltake.nd rfl (.inl rfl) (pe_op op_mod (pe_ix ix_list (pv 0) pe_int (fun _ _ => rfl)) (pv 1)))
      (pss_cons (ps_asg (pe_op op_fdivW (pe_ix ix_list (pv 0) pe_int (fun _ _ => rfl)) (pv 1)) (pg_sub (pv 0) pe_int set_list))
      (pss_one (ps_ret (pv 2))))) pss_nil)
      (pss_cons (ps_asg (pe_op op_add (pe_ix ix_list (pv 0) pe_int (fun _ _ => rfl)) pe_int) (pg_sub (pv 0) pe_int set_list))
      (pss_cons (ps_set (i := 3) sc_Ltake.nd rfl (.inl rfl) (pe_lst (pa_cons pe_int (pa_cons pe_int (pa_cons pe_int (pa_cons pe_int (pa_cons pe_int (pa_cons pe_int (pa_cons pe_int (pa_cons pe_int pa_nil))))))))))
      (pss_cons (ps_set (i := 4) sc_Ltake.nd rfl (.inl rfl) (pe_op op_mod (pe_op op_add (pe_op op_add (pe_op op_add (pe_ix ix_list (pv 0) pe_int (fun _ _ => rfl)) (pe_op op_mul pe_int (pe_ix ix_list (pv 0) pe_int (fun _ _ => rfl)))) (pe_op op_mul pe_int (pe_ix ix_list (pv 0) pe_int (fun _ _ => rfl)))) pe_int) pe_int))
      (pss_cons (ps_set (i := 4) sc_Ltake.nd rfl (.inl rfl) (pe_op op_mod (pe_op op_pow (pv 4) pe_int) (pe_ix ix_list (pv 3) (pe_op op_mod (pe_ix ix_list (pv 0) pe_int (fun _ _ => rfl)) pe_int) (fun _ _ => rfl))))
      (pss_cons (ps_set (i := 5) sc_Ltake.nd rfl (.inl rfl) (pe_op op_mod (pe_op op_add (pe_op op_add (pv 4) (pe_op op_mul pe_int (pe_ix ix_list (pv 0) pe_int (fun _ _ => rfl)))) (pe_ix ix_list (pv 0) pe_int (fun _ _ => rfl))) pe_int))
      (pss_one (ps_ret (pe_op op_mod (pe_op op_add (pe_op op_mul (pe_op op_mod (pe_op op_pow (pv 5) pe_int) pe_int) pe_int) (pv 4)) (pv 1)))))))))), ?_⟩
    refine ⟨.ref p, rfl, p, _, 0, .int l, rfl, rfl, .inl (.inl hp), rfl, _, _, rfl, rfl, _, rfl, ite2 (fun e => ?_) (fun e => ?_)⟩
    · refine ⟨.ref p, rfl, p, _, 0, .int l, rfl, rfl, .inl (.inl hp), rfl, .int m, rfl, l, m, rfl, rfl, hm, ?_⟩
      refine ⟨.ref p, rfl, p, _, 0, .int l, rfl, rfl, .inl (.inl hp), rfl, .int m, rfl, l, m, rfl, rfl, wide_div (b := 200) hm (by omega) (by decide) (by decide), ?_⟩
      refine ⟨.ref p, rfl, p, _, 0, 0, rfl, rfl, hp, rfl, ?_⟩
      refine ⟨_, rfl, q _ _ (But.refl p H).upd ⟨l / m, c, k, n, Int.ediv_nonneg hl (by omega), ?_⟩ (Int.emod_nonneg l (by omega)) (Int.emod_lt_of_pos l hm)⟩
      exact upd_same
    · refine ⟨.ref p, rfl, p, _, 3, .int n, rfl, rfl, .inl (.inl hp), rfl, n, 1, rfl, rfl, .ref p, rfl, p, _, 3, 3, rfl, rfl, hp, rfl, ?_⟩
      refine ⟨by show 8 ≤ sizeLine; decide, fun o no => ?_⟩
      have hop : o ≠ p := fun z => by
        rw [z, upd_same] at no
        cases no
      have h3 : (upd (upd H p (.lst [.int l, .int c, .int k, .int (n + 1)])) o (.lst (primes.map V.int))) p = some (.lst [.int l, .int c, .int k, .int (n + 1)]) := by
        rw [upd_ne (Ne.symm hop), upd_same]
      have h4 : (upd (upd H p (.lst [.int l, .int c, .int k, .int (n + 1)])) o (.lst (primes.map V.int))) o = some (.lst (primes.map V.int)) := upd_same
      have bt : But p H (upd (upd H p (.lst [.int l, .int c, .int k, .int (n + 1)])) o (.lst (primes.map V.int))) := fun b u hb h => by
        have nb : b ≠ o := fun z => by
          have : (upd H p (.lst [.int l, .int c, .int k, .int (n + 1)])) b = some u := by
            rw [upd_ne hb]
            exact h
          rw [z] at this
          exact absurd (this.symm.trans no) (by intro z; cases z)
        rw [upd_ne nb, upd_ne hb]
        exact h
      have i8 : 0 ≤ (n + 1) % 8 := Int.emod_nonneg _ (by decide)
      have j8 : (n + 1) % 8 < 8 := Int.emod_lt_of_pos _ (by decide)
      obtain ⟨pr, hpr, pr0, pr1⟩ := primes_at i8 j8
      refine ⟨.ref p, rfl, p, _, 1, .int c, rfl, rfl, .inl (.inl h3), rfl, .ref p, rfl, p, _, 2, .int k, rfl, rfl, .inl (.inl h3), rfl, 7919, k, rfl, rfl, .inl ⟨by decide, by decide⟩, _, _, rfl, rfl, .ref p, rfl, p, _, 3, .int (n + 1), rfl, rfl, .inl (.inl h3), rfl, 104729, n + 1, rfl, rfl, .inl ⟨by decide, by decide⟩, _, _, rfl, rfl, _, _, rfl, rfl, _, _, rfl, rfl, (by show (0 : Int) < 2147483647; decide), ?_⟩
      refine ⟨_, rfl, _, _, rfl, rfl, pow_ok _, .ref o, rfl, .ref p, rfl, p, _, 3, .int (n + 1), rfl, rfl, .inl (.inl h3), rfl, _, _, rfl, rfl, (by show (0 : Int) < 8; decide), o, _, _, .int pr, rfl, rfl, .inl (.inl h4), hpr, _, _, rfl, rfl, pr0, ?_⟩
      refine ⟨_, rfl, .ref p, rfl, p, _, 2, .int k, rfl, rfl, .inl (.inl h3), rfl, 40692, k, rfl, rfl, .inl ⟨by decide, by decide⟩, _, _, rfl, rfl, .ref p, rfl, p, _, 3, .int (n + 1), rfl, rfl, .inl (.inl h3), rfl, _, _, rfl, rfl, _, _, rfl, rfl, (by show (0 : Int) < 2147483647; decide), ?_⟩
      refine ⟨_, rfl, _, _, rfl, rfl, pow_ok _, _, _, rfl, rfl, (by show (0 : Int) < 2147483647; decide), _, _, rfl, rfl, .inr ⟨by decide, by decide⟩, _, rfl, _, _, rfl, rfl, .int m, rfl, _, _, rfl, rfl, hm, ?_⟩
      exact q _ _ bt ⟨l, c, k, n + 1, hl, h3⟩ (Int.emod_nonneg _ (by omega)) (Int.emod_lt_of_pos _ hm)
/-! ### data alike -/
theorem sqt_same {K : PySem.W.Frag} {H H' : Hp} {a : Addr} {xs : List V} (e : Same H H') (h : SqT K H a xs) : SqT K H' a xs := Evl.ex_t (show Evl.Ex H H' from e) h
mutual
theorem dp_same {K : PySem.W.Frag} {H H' : Hp} (e : Same H H') : ∀ (d : PyData) (v : V), Dp K H v d → Dp K H' v d
  | .none, _, h => by cases h; exact .non
  | .bool b, _, h => by cases h; exact .bl b
  | .int i, _, h => by cases h; exact .int i
  | .str x, _, h => by cases h; exact .str x
  | .list ds, _, h => by
    cases h with
    | lst hs ha => exact .lst (e.seq hs) (dpa_same e ds _ ha)
  | .tuple ds, _, h => by
    cases h with
    | tup hs ha => exact .tup (sqt_same e hs) (dpa_same e ds _ ha)
  | .dict _, _, h => by cases h
theorem dpa_same {K : PySem.W.Frag} {H H' : Hp} (e : Same H H') : ∀ (ds : List PyData) (vs : List V), DpAll K H vs ds → DpAll K H' vs ds
  | [], _, h => by cases h; exact .nil
  | d :: ds, _, h => by
    cases h with
    | cons h1 h2 => exact .cons (dp_same e d _ h1) (dpa_same e ds _ h2)
end
theorem dpa_len {K : PySem.W.Frag} {H : Hp} : ∀ (ds : List PyData) (vs : List V), DpAll K H vs ds → vs.length = ds.length
  | [], _, h => by cases h; rfl
  | d :: ds, _, h => by
    cases h with
    | cons h1 h2 =>
      rw [List.length_cons, List.length_cons, dpa_len ds _ h2]
theorem dpa_at {K : PySem.W.Frag} {H : Hp} : ∀ (ds : List PyData) (vs : List V), DpAll K H vs ds → ∀ (i : Nat) (v : V), vs[i]? = some v → ∃ d, ds[i]? = some d ∧ Dp K H v d
  | [], _, h, i, v, e => by cases h; cases e
  | d :: ds, _, h, i, v, e => by
    cases h with
    | cons h1 h2 =>
      cases i with
      | zero =>
        cases e
        exact ⟨d, rfl, h1⟩
      | succ j => exact dpa_at ds _ h2 j v e
theorem ty_tup {K : PySem.W.Frag} {H : Hp} {a : Addr} {xs : List V} (h : SqT K H a xs) : TyX K H (.ref a) (.type "tuple") := by
  rcases h with (h | ⟨o, h⟩) | ⟨o, its, n, lk, hc, _⟩
  · exact .base (.tup h)
  · exact .fTuple h
  · exact .kTuple lk hc
/-- none, truths, whole numbers, texts, and tuples of these, at most n deep -/
def okD : Nat → PyData → Bool
  | _, .none => true
  | _, .bool _ => true
  | _, .int _ => true
  | _, .str _ => true
  | n + 1, .tuple ds => decide (ds.length ≤ 1000) && ds.all fun d => okD n d
  | _, _ => false
theorem walk_zipT {K : PySem.W.Frag} {a b : Addr} {xs ys : List V} {n : Nat} (hn : n = min xs.length ys.length) : Walk (RZ.ItzT K a b) n (fun H => SqT K H a xs ∧ SqT K H b ys) (YPair (fun i => xs[i]?) (fun i => ys[i]?)) where
  goes := fun i H lt ⟨p, q⟩ => ⟨xs, ys, _, _, p, q, List.getElem?_eq_getElem (by omega), List.getElem?_eq_getElem (by omega)⟩
  stops := fun H ⟨p, q⟩ => ⟨xs, ys, p, q, by omega⟩
  yields := fun i H v H' _ ⟨p, q⟩ ⟨T, x, y, e1, e2, e3, e4, e5⟩ => ⟨T, x, y, e1, e2, e3, e4 xs p, e5 ys q⟩
theorem all_true : ∀ n : Nat, (List.replicate n true).all id = true
  | 0 => rfl
  | n + 1 => by rw [List.replicate_succ, List.all_cons, all_true n]; rfl
def spWhole : Sp := fun vs H Q _ => ∃ i : Int, vs = [.int i] ∧ Q (.bl true) H
theorem ok_Lwhole (T : Top w K mg) : FnOk P w K mg base CX0 1 T.a_Lwhole T.fd_Lwhole ["_law_thing"] spWhole := by
  refine T.F_Lwhole.ok sc_Lwhole (fun vs H Q E h => ?_) (fun cdv A outer s H vs Q E hr h => ?_)
  · obtain ⟨i, rfl, _⟩ := h
    rfl
  · obtain ⟨i, rfl, q⟩ := h
    refine ⟨_, (pss_one (ps_ret (pe_and (pe_callB call_isi (by rfl) T.m_isinstance (by decide +kernel) (pa_cons (pv 0) (pa_cons (pe_bltn (v := .ty "int") (by rfl) T.m_int (by decide +kernel) rfl) pa_nil))) (pe_one (pe_not (pe_callB call_isi (by rfl) T.m_isinstance (by decide +kernel) (pa_cons (pv 0) (pa_cons (pe_bltn (v := .ty "bool") (by rfl) T.m_bool (by decide +kernel) rfl) pa_nil)))))))), ?_⟩
    refine ⟨.int i, rfl, _, _, _, _, true, rfl, .ty _, .base (.int i), kit_ty (by decide +kernel), _, rfl, iteT ?_⟩
    exact ⟨.int i, rfl, _, _, _, _, false, rfl, .ty _, .base (.int i), kit_ty (by decide +kernel), _, rfl, q⟩
def spSame (K : PySem.W.Frag) (n : Nat) : Sp := fun vs H Q _ => ∃ (x y : V) (d : PyData), vs = [x, y] ∧ Dp K H x d ∧ Dp K H y d ∧ okD n d = true ∧ ∀ H', Same H H' → Q (.bl true) H'
theorem ok_Lsame0 (T : Top w K mg) : FnOk P w K mg base CX0 2 T.a_Lsame T.fd_Lsame ["_law_found", "_law_due_here"] (spSame K 0) := by
  have G_Lwhole := ok_Lwhole (P := P) (w := w) (base := base) T
  refine T.F_Lsame.ok sc_Lsame (fun vs H Q E h => ?_) (fun cdv A outer s H vs Q E hr h => ?_)
  · obtain ⟨x, y, d, rfl, _⟩ := h
    rfl
  · obtain ⟨x, y, d, rfl, hx, hy, ok, q⟩ := h
    refine ⟨_, (pss_cons (ps_if (pt_val (pe_callB call_isi (by rfl) T.m_isinstance (by decide +kernel) (pa_cons (pv 1) (pa_cons (pe_bltn (v := .ty "tuple") (by rfl) T.m_tuple (by decide +kernel) rfl) pa_nil)))) pss_never pss_nil)
      (pss_cons (ps_if (pt_cmpR op_isN (pv 1) pe_non (nomark _)) (pss_one (ps_ret (pe_cmpR op_isN (pv 0) pe_non (nomark _)))) pss_nil)
      (pss_cons (ps_if (pt_val (pe_callB call_isi (by rfl) T.m_isinstance (by decide +kernel) (pa_cons (pv 1) (pa_cons (pe_bltn (v := .ty "bool") (by rfl) T.m_bool (by decide +kernel) rfl) pa_nil)))) (pss_one (ps_ret (pe_and (pe_callB call_isi (by rfl) T.m_isinstance (by decide +kernel) (pa_cons (pv 0) (pa_cons (pe_bltn (v := .ty "bool") (by rfl) T.m_bool (by decide +kernel) rfl) pa_nil))) (pe_one (pe_cmpR op_eq (pv 0) (pv 1) (nomark _)))))) pss_nil)
      (pss_cons (ps_if (pt_val (pe_callB call_isi (by rfl) T.m_isinstance (by decide +kernel) (pa_cons (pv 1) (pa_cons (pe_bltn (v := .ty "str") (by rfl) T.m_str (by decide +kernel) rfl) pa_nil)))) (pss_one (ps_ret (pe_and (pe_callB call_isi (by rfl) T.m_isinstance (by decide +kernel) (pa_cons (pv 0) (pa_cons (pe_bltn (v := .ty "str") (by rfl) T.m_str (by decide +kernel) rfl) pa_nil))) (pe_one (pe_cmpR op_eq (pv 0) (pv 1) (nomark _)))))) pss_nil)
      (pss_one (ps_ret (pe_and (pe_call G_Lwhole (hr.mono (by omega)) (by rfl) T.g_Lwhole T.F_Lwhole.kp T.b_Lwhole .nil pass0 (pa_cons (pv 0) pa_nil)) (pe_one (pe_cmpR op_eq (pv 0) (pv 1) (nomark _)))))))))), ?_⟩
    have Q0 := q H (Same.refl H)
    cases d with
    | none =>
      cases hx
      cases hy
      exact ⟨.non, rfl, _, _, _, _, false, rfl, .ty _, .base .non, kit_ty (by decide +kernel), _, rfl, iteF ⟨.non, rfl, rfl, _, rfl, iteT ⟨.non, rfl, rfl, Q0⟩⟩⟩
    | bool b =>
      cases hx
      cases hy
      refine ⟨.bl b, rfl, _, _, _, _, false, rfl, .ty _, .base (.bl b), kit_ty (by decide +kernel), _, rfl, iteF ⟨.bl b, rfl, rfl, _, rfl, iteF ?_⟩⟩
      refine ⟨.bl b, rfl, _, _, _, _, true, rfl, .ty _, .base (.bl b), kit_ty (by decide +kernel), _, rfl, iteT ?_⟩
      refine ⟨.bl b, rfl, _, _, _, _, true, rfl, .ty _, .base (.bl b), kit_ty (by decide +kernel), _, rfl, iteT ⟨.bl b, rfl, .bl b, rfl, rfl, ?_⟩⟩
      rw [decide_eq_true rfl]
      exact Q0
    | int i =>
      cases hx
      cases hy
      refine ⟨.int i, rfl, _, _, _, _, false, rfl, .ty _, .base (.int i), kit_ty (by decide +kernel), _, rfl, iteF ⟨.int i, rfl, rfl, _, rfl, iteF ?_⟩⟩
      refine ⟨.int i, rfl, _, _, _, _, false, rfl, .ty _, .base (.int i), kit_ty (by decide +kernel), _, rfl, iteF ?_⟩
      refine ⟨.int i, rfl, _, _, _, _, false, rfl, .ty _, .base (.int i), kit_ty (by decide +kernel), _, rfl, iteF ?_⟩
      refine ⟨.int i, rfl, i, rfl, _, rfl, iteT ⟨.int i, rfl, .int i, rfl, rfl, ?_⟩⟩
      rw [decide_eq_true rfl]
      exact Q0
    | str z =>
      cases hx
      cases hy
      refine ⟨.str z, rfl, _, _, _, _, false, rfl, .ty _, .base (.str z), kit_ty (by decide +kernel), _, rfl, iteF ⟨.str z, rfl, rfl, _, rfl, iteF ?_⟩⟩
      refine ⟨.str z, rfl, _, _, _, _, false, rfl, .ty _, .base (.str z), kit_ty (by decide +kernel), _, rfl, iteF ?_⟩
      refine ⟨.str z, rfl, _, _, _, _, true, rfl, .ty _, .base (.str z), kit_ty (by decide +kernel), _, rfl, iteT ?_⟩
      refine ⟨.str z, rfl, _, _, _, _, true, rfl, .ty _, .base (.str z), kit_ty (by decide +kernel), _, rfl, iteT ⟨.str z, rfl, .str z, rfl, rfl, ?_⟩⟩
      rw [decide_eq_true rfl]
      exact Q0
    | list ds => cases ok
    | tuple ds => cases ok
    | dict ds => cases ok
theorem ok_LsameS (T : Top w K mg) {n : Nat} (G_Lsame : FnOk P w K mg base CX0 (n + 2) T.a_Lsame T.fd_Lsame ["_law_found", "_law_due_here"] (spSame K n)) : FnOk P w K mg base CX0 (n + 3) T.a_Lsame T.fd_Lsame ["_law_found", "_law_due_here"] (spSame K (n + 1)) := by
  have G_Lwhole := ok_Lwhole (P := P) (w := w) (base := base) T
  refine T.F_Lsame.ok sc_Lsame (fun vs H Q E h => ?_) (fun cdv A outer s H vs Q E hr h => ?_)
  · obtain ⟨x, y, d, rfl, _⟩ := h
    rfl
  · obtain ⟨x, y, d, rfl, hx, hy, ok, q⟩ := h
    refine ⟨_, (pss_cons (ps_if (pt_val (pe_callB call_isi (by rfl) T.m_isinstance (by decide +kernel) (pa_cons (pv 1) (pa_cons (pe_bltn (v := .ty "tuple") (by rfl) T.m_tuple (by decide +kernel) rfl) pa_nil)))) (pss_cons (ps_if (PW.pt (pw_or (pt_not (pt_val (pe_callB call_isi (by rfl) T.m_isinstance (by decide +kernel) (pa_cons (pv 0) (pa_cons (pe_bltn (v := .ty "tuple") (by rfl) T.m_tuple (by decide +kernel) rfl) pa_nil))))) (pw_or1 (pt_cmpR op_ne (pe_callB call_len_seq (by rfl) T.m_len (by decide +kernel) (pa_cons (pv 0) pa_nil)) (pe_callB call_len_seq (by rfl) T.m_len (by decide +kernel) (pa_cons (pv 1) pa_nil)) (nomark _))))) (pss_one (ps_ret pe_bl)) pss_nil)
      (pss_one (ps_ret (pe_callB (cr_all rfl) (by rfl) T.m_all (by decide +kernel) (pa_cons (pe_lc (own := [("_law_one", 2), ("_law_other", 3)]) (g := gTup K 2 (gCons (gName 2) (gCons (gName 3) gNil))) (by rfl) sc_Lsame.nd (RZ.pi_zipA (by rfl) T.m_zip (pa_cons (pv 0) (pa_cons (pv 1) pa_nil))) (blkOk_by (own := [("_law_one", 2), ("_law_other", 3)]) (N := ["_law_found", "_law_due_here", "_law_one", "_law_other"]) (sc := defScope s_Lsame) (by decide +kernel)) (fun _ _ _ _ _ => (pg_tup rfl (pgs_cons (pg_name (i := 2) sc_Lsame.nd rfl (Or.inl rfl)) (pgs_cons (pg_name (i := 3) sc_Lsame.nd rfl (Or.inl rfl)) pgs_nil)))) (fun _ _ _ _ _ => pts_nil) (fun _ _ _ _ _ => (pe_call G_Lsame hr (by rfl) T.g_Lsame T.F_Lsame.kp T.b_Lsame .nil pass0 (pa_cons (pv 2) (pa_cons (pv 3) pa_nil))))) pa_nil))))) pss_nil)
      (pss_cons (ps_if (pt_cmpR op_isN (pv 1) pe_non (nomark _)) (pss_one (ps_ret (pe_cmpR op_isN (pv 0) pe_non (nomark _)))) pss_nil)
      (pss_cons (ps_if (pt_val (pe_callB call_isi (by rfl) T.m_isinstance (by decide +kernel) (pa_cons (pv 1) (pa_cons (pe_bltn (v := .ty "bool") (by rfl) T.m_bool (by decide +kernel) rfl) pa_nil)))) (pss_one (ps_ret (pe_and (pe_callB call_isi (by rfl) T.m_isinstance (by decide +kernel) (pa_cons (pv 0) (pa_cons (pe_bltn (v := .ty "bool") (by rfl) T.m_bool (by decide +kernel) rfl) pa_nil))) (pe_one (pe_cmpR op_eq (pv 0) (pv 1) (nomark _)))))) pss_nil)
      (pss_cons (ps_if (pt_val (pe_callB call_isi (by rfl) T.m_isinstance (by decide +kernel) (pa_cons (pv 1) (pa_cons (pe_bltn (v := .ty "str") (by rfl) T.m_str (by decide +kernel) rfl) pa_nil)))) (pss_one (ps_ret (pe_and (pe_callB call_isi (by rfl) T.m_isinstance (by decide +kernel) (pa_cons (pv 0) (pa_cons (pe_bltn (v := .ty "str") (by rfl) T.m_str (by decide +kernel) rfl) pa_nil))) (pe_one (pe_cmpR op_eq (pv 0) (pv 1) (nomark _)))))) pss_nil)
      (pss_one (ps_ret (pe_and (pe_call G_Lwhole (hr.mono (by omega)) (by rfl) T.g_Lwhole T.F_Lwhole.kp T.b_Lwhole .nil pass0 (pa_cons (pv 0) pa_nil)) (pe_one (pe_cmpR op_eq (pv 0) (pv 1) (nomark _)))))))))), ?_⟩
    have Q0 := q H (Same.refl H)
    cases d with
    | none =>
      cases hx
      cases hy
      exact ⟨.non, rfl, _, _, _, _, false, rfl, .ty _, .base .non, kit_ty (by decide +kernel), _, rfl, iteF ⟨.non, rfl, rfl, _, rfl, iteT ⟨.non, rfl, rfl, Q0⟩⟩⟩
    | bool b =>
      cases hx
      cases hy
      refine ⟨.bl b, rfl, _, _, _, _, false, rfl, .ty _, .base (.bl b), kit_ty (by decide +kernel), _, rfl, iteF ⟨.bl b, rfl, rfl, _, rfl, iteF ?_⟩⟩
      refine ⟨.bl b, rfl, _, _, _, _, true, rfl, .ty _, .base (.bl b), kit_ty (by decide +kernel), _, rfl, iteT ?_⟩
      refine ⟨.bl b, rfl, _, _, _, _, true, rfl, .ty _, .base (.bl b), kit_ty (by decide +kernel), _, rfl, iteT ⟨.bl b, rfl, .bl b, rfl, rfl, ?_⟩⟩
      rw [decide_eq_true rfl]
      exact Q0
    | int i =>
      cases hx
      cases hy
      refine ⟨.int i, rfl, _, _, _, _, false, rfl, .ty _, .base (.int i), kit_ty (by decide +kernel), _, rfl, iteF ⟨.int i, rfl, rfl, _, rfl, iteF ?_⟩⟩
      refine ⟨.int i, rfl, _, _, _, _, false, rfl, .ty _, .base (.int i), kit_ty (by decide +kernel), _, rfl, iteF ?_⟩
      refine ⟨.int i, rfl, _, _, _, _, false, rfl, .ty _, .base (.int i), kit_ty (by decide +kernel), _, rfl, iteF ?_⟩
      refine ⟨.int i, rfl, i, rfl, _, rfl, iteT ⟨.int i, rfl, .int i, rfl, rfl, ?_⟩⟩
      rw [decide_eq_true rfl]
      exact Q0
    | str z =>
      cases hx
      cases hy
      refine ⟨.str z, rfl, _, _, _, _, false, rfl, .ty _, .base (.str z), kit_ty (by decide +kernel), _, rfl, iteF ⟨.str z, rfl, rfl, _, rfl, iteF ?_⟩⟩
      refine ⟨.str z, rfl, _, _, _, _, false, rfl, .ty _, .base (.str z), kit_ty (by decide +kernel), _, rfl, iteF ?_⟩
      refine ⟨.str z, rfl, _, _, _, _, true, rfl, .ty _, .base (.str z), kit_ty (by decide +kernel), _, rfl, iteT ?_⟩
      refine ⟨.str z, rfl, _, _, _, _, true, rfl, .ty _, .base (.str z), kit_ty (by decide +kernel), _, rfl, iteT ⟨.str z, rfl, .str z, rfl, rfl, ?_⟩⟩
      rw [decide_eq_true rfl]
      exact Q0
    | list ds => cases ok
    | dict ds => cases ok
    | tuple ds =>
      cases hx with
      | @tup a xs _ sx ax =>
        cases hy with
        | @tup b ys _ sy ay =>
          have lx := dpa_len ds xs ax
          have ly := dpa_len ds ys ay
          obtain ⟨okL, okA⟩ := Bool.and_eq_true_iff.mp (show (decide (ds.length ≤ 1000) && ds.all fun d => okD n d) = true from ok)
          have okl : ds.length ≤ 1000 := of_decide_eq_true okL
          refine ⟨.ref b, rfl, _, _, _, _, true, rfl, .ty _, ty_tup sy, kit_ty (by decide +kernel), _, rfl, iteT ?_⟩
          refine ⟨.ref a, rfl, _, _, _, _, true, rfl, .ty _, ty_tup sx, kit_ty (by decide +kernel), _, rfl, iteF ?_⟩
          refine ⟨.ref a, rfl, a, xs, rfl, .inr sx, .ref b, rfl, b, ys, rfl, .inr sy, rfl, _, rfl, iteN (by rw [lx, ly]) ?_⟩
          refine ⟨.ref a, rfl, .ref b, rfl, a, b, xs, ys, rfl, .inr ⟨sx, sy, fun D hD => lc_it (walk_zipT (xs := xs) (ys := ys) (n := ds.length) (by omega)) (fun i H' => Same H H' ∧ H' D = some (.lst ((List.replicate i true).map V.bl))) ⟨same_upd hD, upd_same⟩ (fun i H' _ h => ⟨sqt_same h.1 sx, sqt_same h.1 sy⟩) ?_ ?_⟩⟩
          · rintro i v H1 H2 hi ⟨sm, eD⟩ ⟨t, u1, u2, rfl, nt, rfl, e1, e2⟩
            have st : Same H1 (upd H1 t (.tup [u1, u2])) := same_upd nt
            obtain ⟨d1, f1, g1⟩ := dpa_at ds xs ax i u1 e1
            obtain ⟨d2, f2, g2⟩ := dpa_at ds ys ay i u2 e2
            have ed : d2 = d1 := Option.some.inj (f2.symm.trans f1)
            subst ed
            have okd : okD n d2 = true := List.all_eq_true.mp okA d2 (List.mem_of_getElem? f1)
            refine ⟨t, [u1, u2], rfl, .inl (.inl upd_same), rfl, u1, [u2], rfl, u2, [], rfl, rfl, rfl, ?_⟩
            refine ⟨u1, rfl, u2, rfl, u1, u2, d2, rfl, dp_same (sm.trans st) d2 u1 g1, dp_same (sm.trans st) d2 u2 g2, okd, fun H3 s3 => ?_⟩
            refine ⟨_, s3 _ _ (st _ _ eD), ?_, ?_, ?_⟩
            · rw [List.length_map, List.length_replicate]
              exact small1000 (by omega)
            · exact fun b' o e => by
                rw [upd_ne (ne_of_none e hD)]
                exact s3 _ _ (st _ _ (sm _ _ e))
            · rw [upd_same, List.replicate_succ', List.map_append]
              rfl
          · rintro H1 ⟨sm, eD⟩
            refine ⟨_, List.replicate ds.length true, rfl, .inl (.inl eD), ?_⟩
            rw [all_true]
            exact q _ sm
theorem ok_Lsame (T : Top w K mg) : ∀ n : Nat, FnOk P w K mg base CX0 (n + 2) T.a_Lsame T.fd_Lsame ["_law_found", "_law_due_here"] (spSame K n)
  | 0 => ok_Lsame0 T
  | n + 1 => ok_LsameS T (ok_Lsame T n)
/-! ### data, whatever else stands in the heap -/
def isSeq : HO → Bool
  | .lst _ => true
  | .tup _ => true
  | .frz _ _ => true
  | _ => false
/-- all lists and tuples as they were -/
def Seqs (H H' : Hp) : Prop := ∀ b o, isSeq o = true → H b = some o → H' b = some o
theorem Seqs.of {H H' : Hp} (e : Same H H') : Seqs H H' := fun b o _ h => e b o h
theorem Seqs.trans {H H1 H2 : Hp} (a : Seqs H H1) (b : Seqs H1 H2) : Seqs H H2 := fun c o z h => b c o z (a c o z h)
theorem Seqs.upd {H : Hp} {a : Addr} {o u : HO} (e : H a = some u) (n : isSeq u = false) : Seqs H (L2.upd H a o) := fun b v z h => by
  rw [upd_ne (fun y => by rw [y, e] at h; cases h; rw [n] at z; cases z)]
  exact h
theorem Seqs.new {H : Hp} {a : Addr} {o : HO} (e : H a = none) : Seqs H (L2.upd H a o) := Seqs.of (same_upd e)
theorem seqs_l {K : PySem.W.Frag} {H H' : Hp} {a : Addr} {xs : List V} (e : Seqs H H') (h : SqL K H a xs) : SqL K H' a xs := by
  rcases h with (h | ⟨o, h⟩) | h
  · exact .inl (.inl (e _ _ rfl h))
  · exact .inl (.inr ⟨o, e _ _ rfl h⟩)
  · exact .inr h
theorem seqs_t {K : PySem.W.Frag} {H H' : Hp} {a : Addr} {xs : List V} (e : Seqs H H') (h : SqT K H a xs) : SqT K H' a xs := by
  rcases h with (h | ⟨o, h⟩) | h
  · exact .inl (.inl (e _ _ rfl h))
  · exact .inl (.inr ⟨o, e _ _ rfl h⟩)
  · exact .inr h
mutual
theorem dp_seqs {K : PySem.W.Frag} {H H' : Hp} (e : Seqs H H') : ∀ (d : PyData) (v : V), Dp K H v d → Dp K H' v d
  | .none, _, h => by cases h; exact .non
  | .bool b, _, h => by cases h; exact .bl b
  | .int i, _, h => by cases h; exact .int i
  | .str x, _, h => by cases h; exact .str x
  | .list ds, _, h => by
    cases h with
    | lst hs ha => exact .lst (seqs_l e hs) (dpa_seqs e ds _ ha)
  | .tuple ds, _, h => by
    cases h with
    | tup hs ha => exact .tup (seqs_t e hs) (dpa_seqs e ds _ ha)
  | .dict _, _, h => by cases h
theorem dpa_seqs {K : PySem.W.Frag} {H H' : Hp} (e : Seqs H H') : ∀ (ds : List PyData) (vs : List V), DpAll K H vs ds → DpAll K H' vs ds
  | [], _, h => by cases h; exact .nil
  | d :: ds, _, h => by
    cases h with
    | cons h1 h2 => exact .cons (dp_seqs e d _ h1) (dpa_seqs e ds _ h2)
end
theorem dpa_snoc {K : PySem.W.Frag} {H : Hp} {v : V} {d : PyData} (h : Dp K H v d) : ∀ (ds : List PyData) (vs : List V), DpAll K H vs ds → DpAll K H (vs ++ [v]) (ds ++ [d])
  | [], _, a => by cases a; exact .cons h .nil
  | x :: ds, _, a => by
    cases a with
    | cons h1 h2 => exact .cons h1 (dpa_snoc h ds _ h2)
/-- the heap without the places of X -/
noncomputable def wo (H : Hp) (X : Addr → Prop) : Hp := fun b => by
  classical
  exact if X b then none else H b
theorem wo_in {H : Hp} {X : Addr → Prop} {b : Addr} (h : ¬ X b) : wo H X b = H b := by
  unfold wo
  exact if_neg h
theorem wo_some {H : Hp} {X : Addr → Prop} {b : Addr} {o : HO} (h : wo H X b = some o) : ¬ X b ∧ H b = some o := by
  unfold wo at h
  by_cases hx : X b
  · rw [if_pos hx] at h
    cases h
  · rw [if_neg hx] at h
    exact ⟨hx, h⟩
theorem wo_same {H : Hp} {X : Addr → Prop} : Same (wo H X) H := fun b o h => (wo_some h).2
theorem wo_none {H : Hp} : wo H (fun _ => False) = H := by
  funext b
  exact wo_in (fun h => h)
/-! ### kinds of things -/
theorem ty_lst {K : PySem.W.Frag} {H : Hp} {a : Addr} {xs : List V} (h : SqL K H a xs) : TyX K H (.ref a) (.type "list") := by
  rcases h with (h | ⟨o, h⟩) | ⟨o, its, n, lk, hc, _⟩
  · exact .base (.lst h)
  · exact .base (.frz h)
  · exact .kList lk hc
theorem kit_any2 {K : PySem.W.Frag} {t a b : String} {x y : Bool} (h1 : kitB t a = some x) (h2 : kitB t b = some y) : PySem.W.kitAny K (.type t) [.type a, .type b] = some (x || y) := by
  unfold PySem.W.kitAny
  rw [kit_ty h1]
  cases x with
  | true => rfl
  | false =>
    unfold PySem.W.kitAny
    rw [kit_ty h2]
    cases y <;> rfl
/-- the type's name -/
def tyD : PyData → String
  | .none => "NoneType"
  | .bool _ => "bool"
  | .int _ => "int"
  | .str _ => "str"
  | .list _ => "list"
  | .tuple _ => "tuple"
  | .dict _ => "dict"
theorem ty_dp {K : PySem.W.Frag} {H : Hp} {v : V} {d : PyData} (h : Dp K H v d) : TyX K H v (.type (tyD d)) := by
  cases h with
  | non => exact .base .non
  | bl b => exact .base (.bl b)
  | int i => exact .base (.int i)
  | str z => exact .base (.str z)
  | lst h _ => exact ty_lst h
  | tup h _ => exact ty_tup h
def seqD : PyData → Option (List PyData)
  | .list ds => some ds
  | .tuple ds => some ds
  | _ => none
def strD : PyData → Bool
  | .str _ => true
  | _ => false
theorem kit_seq (d : PyData) : ∃ x y, kitB (tyD d) "tuple" = some x ∧ kitB (tyD d) "list" = some y ∧ (x || y) = (seqD d).isSome := by
  cases d with
  | list ds => exact ⟨false, true, by show kitB "list" "tuple" = some false; decide +kernel, by show kitB "list" "list" = some true; decide +kernel, rfl⟩
  | tuple ds => exact ⟨true, false, by show kitB "tuple" "tuple" = some true; decide +kernel, by show kitB "tuple" "list" = some false; decide +kernel, rfl⟩
  | none => exact ⟨false, false, by show kitB "NoneType" "tuple" = some false; decide +kernel, by show kitB "NoneType" "list" = some false; decide +kernel, rfl⟩
  | bool b => exact ⟨false, false, by show kitB "bool" "tuple" = some false; decide +kernel, by show kitB "bool" "list" = some false; decide +kernel, rfl⟩
  | int i => exact ⟨false, false, by show kitB "int" "tuple" = some false; decide +kernel, by show kitB "int" "list" = some false; decide +kernel, rfl⟩
  | str z => exact ⟨false, false, by show kitB "str" "tuple" = some false; decide +kernel, by show kitB "str" "list" = some false; decide +kernel, rfl⟩
  | dict z => exact ⟨false, false, by show kitB "dict" "tuple" = some false; decide +kernel, by show kitB "dict" "list" = some false; decide +kernel, rfl⟩
theorem kit_str (d : PyData) : kitB (tyD d) "str" = some (strD d) := by
  cases d with
  | list ds => show kitB "list" "str" = some false; decide +kernel
  | tuple ds => show kitB "tuple" "str" = some false; decide +kernel
  | none => show kitB "NoneType" "str" = some false; decide +kernel
  | bool b => show kitB "bool" "str" = some false; decide +kernel
  | int i => show kitB "int" "str" = some false; decide +kernel
  | str z => show kitB "str" "str" = some true; decide +kernel
  | dict z => show kitB "dict" "str" = some false; decide +kernel
def SqA (K : PySem.W.Frag) (H : Hp) (a : Addr) (xs : List V) : Prop := SqL K H a xs ∨ SqT K H a xs
theorem SqA.same {K : PySem.W.Frag} {H H' : Hp} {a : Addr} {xs : List V} (e : Same H H') (h : SqA K H a xs) : SqA K H' a xs := h.elim (fun h => .inl (e.seq h)) (fun h => .inr (sqt_same e h))
theorem seq_dp {K : PySem.W.Frag} {H : Hp} {v : V} {d : PyData} {ds : List PyData} (h : Dp K H v d) (e : seqD d = some ds) : ∃ a xs, v = .ref a ∧ SqA K H a xs ∧ DpAll K H xs ds := by
  cases h with
  | lst h a => cases e; exact ⟨_, _, rfl, .inl h, a⟩
  | tup h a => cases e; exact ⟨_, _, rfl, .inr h, a⟩
  | _ => cases e
theorem ixA {K : PySem.W.Frag} {H : Hp} {a : Addr} {xs : List V} {j : Nat} {v : V} {Q : VK} (h : SqA K H a xs) (hj : xs[j]? = some v) (q : Q v H) : rIx K (.ref a) (.int (j : Int)) H Q :=
  h.elim (fun h => .inl ⟨a, xs, j, v, rfl, rfl, h, atI_nat hj, q⟩) (fun h => .inr (.inl ⟨a, xs, j, v, rfl, rfl, h, atI_nat hj, q⟩))
theorem kpA {K : PySem.W.Frag} {H : Hp} {a : Addr} {xs : List V} (h : SqA K H a xs) : (∀ H', Same H H' → SqL K H' a xs) ∨ (∀ H', Same H H' → SqT K H' a xs) := h.elim (fun h => .inl fun _ s => s.seq h) (fun h => .inr fun _ s => sqt_same s h)
/-! ### what is kept: things laid out, then made anew from the end on -/
mutual
def siz : PyData → Nat
  | .list ds => 1 + sizs ds
  | .tuple ds => 1 + sizs ds
  | _ => 1
def sizs : List PyData → Nat
  | [] => 0
  | d :: ds => siz d + sizs ds
end
theorem siz_pos : ∀ d : PyData, 1 ≤ siz d
  | .list ds => by unfold siz; omega
  | .tuple ds => by unfold siz; omega
  | .none => by unfold siz; omega
  | .bool _ => by unfold siz; omega
  | .int _ => by unfold siz; omega
  | .str _ => by unfold siz; omega
  | .dict _ => by unfold siz; omega
theorem sizs_len : ∀ ds : List PyData, ds.length ≤ sizs ds
  | [] => by unfold sizs; exact Nat.le_refl _
  | d :: ds => by
    have := siz_pos d
    have := sizs_len ds
    unfold sizs
    rw [List.length_cons]
    omega
theorem sizs_app : ∀ (a b : List PyData), sizs (a ++ b) = sizs a + sizs b
  | [], b => by
    show sizs b = sizs [] + sizs b
    have : sizs [] = 0 := by unfold sizs; rfl
    omega
  | d :: a, b => by
    have := sizs_app a b
    show sizs (d :: (a ++ b)) = sizs (d :: a) + sizs b
    have e1 : sizs (d :: (a ++ b)) = siz d + sizs (a ++ b) := by rw [sizs]
    have e2 : sizs (d :: a) = siz d + sizs a := by rw [sizs]
    omega
theorem siz_seq {d : PyData} {cs : List PyData} (h : seqD d = some cs) : siz d = 1 + sizs cs := by
  cases d with
  | list ds => cases h; rw [siz]
  | tuple ds => cases h; rw [siz]
  | _ => cases h
theorem siz_flat {d : PyData} (h : seqD d = none) : siz d = 1 := by
  cases d with
  | list ds => cases h
  | tuple ds => cases h
  | _ => simp [siz]
theorem siz_int (i : Int) : siz (.int i) ≤ 1000 := by simp [siz]
theorem siz_str (z : Str) : siz (.str z) ≤ 1000 := by simp [siz]
theorem dpa_app {K : PySem.W.Frag} {H : Hp} : ∀ (ds es : List PyData) (xs ys : List V), DpAll K H xs ds → DpAll K H ys es → DpAll K H (xs ++ ys) (ds ++ es)
  | [], _, _, _, h, g => by cases h; exact g
  | d :: ds, es, _, ys, h, g => by
    cases h with
    | cons h1 h2 => exact .cons h1 (dpa_app ds es _ ys h2 g)
theorem dpa_dropK {K : PySem.W.Frag} {H : Hp} : ∀ (n : Nat) (ds : List PyData) (xs : List V), DpAll K H xs ds → DpAll K H (xs.drop n) (ds.drop n)
  | 0, _, _, h => h
  | n + 1, [], _, h => by cases h; exact .nil
  | n + 1, d :: ds, _, h => by
    cases h with
    | cons h1 h2 => exact dpa_dropK n ds _ h2
theorem dpa_takeK {K : PySem.W.Frag} {H : Hp} : ∀ (n : Nat) (ds : List PyData) (xs : List V), DpAll K H xs ds → DpAll K H (xs.take n) (ds.take n)
  | 0, _, _, _ => .nil
  | n + 1, [], _, h => by cases h; exact .nil
  | n + 1, d :: ds, _, h => by
    cases h with
    | cons h1 h2 => exact .cons h1 (dpa_takeK n ds _ h2)
theorem dpa_setK {K : PySem.W.Frag} {H : Hp} {v : V} {d : PyData} (hv : Dp K H v d) : ∀ (n : Nat) (ds : List PyData) (xs : List V), DpAll K H xs ds → ds[n]? = some d → DpAll K H (xs.set n v) ds
  | _, [], _, h, e => by cases e
  | 0, d' :: ds, _, h, e => by
    cases e
    cases h with
    | cons h1 h2 => exact .cons hv h2
  | n + 1, d' :: ds, _, h, e => by
    cases h with
    | cons h1 h2 => exact .cons h1 (dpa_setK hv n ds _ h2 e)
/-- where the parts of each of the first ones begin -/
def LaidTo (i : Nat) (ds : List PyData) (bs : List Int) : Prop := ∀ (j : Nat) (d : PyData) (cs : List PyData), j < i → ds[j]? = some d → seqD d = some cs → ∃ b : Nat, bs[j]? = some (b : Int) ∧ (ds.drop b).take cs.length = cs
theorem laid_more {i : Nat} {ds : List PyData} {bs : List Int} (hi : i ≤ ds.length) (h : LaidTo i ds bs) (es : List PyData) : LaidTo i (ds ++ es) bs := fun j d cs hj hd hs => by
  have l : j < ds.length := by omega
  · rw [List.getElem?_append_left l] at hd
    obtain ⟨b, h1, h2⟩ := h j d cs hj hd hs
    refine ⟨b, h1, ?_⟩
    have hl : cs.length ≤ (ds.drop b).length := by
      have := congrArg List.length h2
      rw [List.length_take] at this
      omega
    by_cases hb : b ≤ ds.length
    · rw [List.drop_append_of_le_length hb, List.take_append_of_le_length hl]
      exact h2
    · have h0 : (ds.drop b).length = 0 := by rw [List.length_drop]; omega
      have : cs = [] := List.eq_nil_of_length_eq_zero (by omega)
      rw [this]
      rfl
def spRowD (K : PySem.W.Frag) : Sp := fun vs H Q _ => ∃ (v : V) (d : PyData), vs = [v] ∧ Dp K H v d ∧ ∀ H', Same H H' → Q (.bl (seqD d).isSome) H'
theorem ok_is_row (T : Top w K mg) : FnOk P w K mg base CX0 1 T.a_is_row T.fd_is_row ["thing"] (spRowD K) := by
  refine T.F_is_row.ok sc_is_row (fun vs H Q E h => ?_) (fun cdv A outer s H vs Q E hr h => ?_)
  · obtain ⟨v, d, rfl, _⟩ := h
    rfl
  · obtain ⟨v, d, rfl, hd, q⟩ := h
    refine ⟨_, (pss_one (ps_ret (pe_callB call_isiT (by rfl) T.m_isinstance (by decide +kernel) (pa_cons (pv 0) (pa_cons (pe_tup (pa_cons (pe_bltn (v := .ty "tuple") (by rfl) T.m_tuple (by decide +kernel) rfl) (pa_cons (pe_bltn (v := .ty "list") (by rfl) T.m_list (by decide +kernel) rfl) pa_nil))) pa_nil))))), ?_⟩
    obtain ⟨x, y, k1, k2, exy⟩ := kit_seq d
    refine ⟨v, rfl, by show 2 ≤ sizeLine; decide, fun tp np => ⟨v, tp, _, _, _, _, rfl, upd_same, .cons (.ty _) (.cons (.ty _) .nil), ty_dp (dp_same (same_upd np) d v hd), kit_any2 k1 k2, ?_⟩⟩
    rw [exy]
    exact q _ (same_upd np)
theorem cut_nat (xs : List V) (b n : Nat) (h : b + n ≤ xs.length) : cutV xs (some (b : Int)) (some ((b : Int) + (n : Int))) = (xs.drop b).take n := by
  unfold cutV
  have e1 : HT.sIx xs.length 0 (some (b : Int)) = b := by
    unfold HT.sIx
    simp only []
    split <;> omega
  have e2 : HT.sIx xs.length xs.length (some ((b : Int) + (n : Int))) = b + n := by
    unfold HT.sIx
    simp only []
    split <;> omega
  rw [e1, e2, Nat.add_sub_cancel_left]
theorem cut_bl (as : List Bool) (lo hi : Option Int) : ∃ cs : List Bool, cutV (as.map V.bl) lo hi = cs.map V.bl := by
  unfold cutV
  exact ⟨_, by rw [← List.map_drop, ← List.map_take]⟩
def spKept (K : PySem.W.Frag) : Sp := fun vs H Q _ => ∃ (v : V) (d : PyData), vs = [v] ∧ siz d ≤ 1000 ∧ Dp K H v d ∧ ∀ H' v', Same H H' → Dp K H' v' d → Q v' H'
def spLaid (K : PySem.W.Frag) : Sp := fun vs H Q _ => ∃ (v : V) (d : PyData), vs = [v] ∧ siz d ≤ 1000 ∧ Dp K H v d ∧
  ∀ H' r t b xs ds bs, Same H H' → H t = none → H b = none → t ≠ b → H' t = some (.lst xs) → H' b = some (.lst (bs.map V.int)) → H' r = some (.tup [.ref t, .ref b]) → DpAll K H xs ds → LaidTo ds.length ds bs → bs.length = ds.length → ds[0]? = some d → ds.length ≤ 1000 → Q (.ref r) H'
theorem ok_laid_out (T : Top w K mg) : FnOk P w K mg base CX0 2 T.a_laid_out T.fd_laid_out ["thing"] (spLaid K) := by
  have G_is_row := ok_is_row (P := P) (w := w) (base := base) T
  refine T.F_laid_out.ok sc_laid_out (fun vs H Q E h => ?_) (fun cdv A outer s H vs Q E hr h => ?_)
  · obtain ⟨v, d, rfl, _⟩ := h
    rfl
  · obtain ⟨v, d, rfl, hz, hd, q⟩ := h
    refine ⟨_, (pss_cons (ps_set (i := 1) sc_laid_out.nd rfl (.inl rfl) (pe_lst (pa_cons (pv 0) pa_nil)))
      (pss_cons (ps_set (i := 2) sc_laid_out.nd rfl (.inl rfl) (pe_lst pa_nil))
      (pss_cons (ps_while PassesOwn.never (pt_cmpR op_lt (pe_callB call_len_seq (by rfl) T.m_len (by decide +kernel) (pa_cons (pv 2) pa_nil)) (pe_callB call_len_seq (by rfl) T.m_len (by decide +kernel) (pa_cons (pv 1) pa_nil)) (nomark _)) (pss_cons (ps_set (i := 3) sc_laid_out.nd rfl (.inl rfl) (pe_ix ix_list (pv 1) (pe_callB call_len_seq (by rfl) T.m_len (by decide +kernel) (pa_cons (pv 2) pa_nil)) (fun _ _ => rfl)))
      (pss_cons (ps_expr (pe_bm PySem.F.plainAttrs_list PySem.F.slot_list_append PySem.F.type_list_append mt_append (pv 2) (pa_cons (pe_callB call_len_seq (by rfl) T.m_len (by decide +kernel) (pa_cons (pv 1) pa_nil)) pa_nil)))
      (pss_one (ps_if (pt_val (pe_call G_is_row hr (by rfl) T.g_is_row T.F_is_row.kp T.b_is_row .nil pass0 (pa_cons (pv 3) pa_nil))) (pss_one (ps_expr (pe_bm PySem.F.plainAttrs_list PySem.F.slot_list_extend PySem.F.type_list_extend mt_extend (pv 1) (pa_cons (pe_callTy call_list_of (by rfl) T.m_list (by decide +kernel) (pa_cons (pv 3) pa_nil)) pa_nil)))) pss_nil)))))
      (pss_one (ps_ret (pe_tup (pa_cons (pv 1) (pa_cons (pv 2) pa_nil)))))))), ?_⟩
    refine ⟨v, rfl, by show 1 ≤ sizeLine; decide, fun t nt => ?_⟩
    refine ⟨Nat.zero_le _, fun b nb => ?_⟩
    have s1 := same_upd (o := .lst [v]) nt
    have s2 := same_upd (o := .lst []) nb
    have tb : t ≠ b := fun z => by
      rw [← z, upd_same] at nb
      cases nb
    have nb0 : H b = none := s1.free nb
    refine ⟨fun m σ H1 => ∃ xs ds bs y, σ = [some v, some (.ref t), some (.ref b), y] ∧ Same H H1 ∧ H1 t = some (.lst xs) ∧ H1 b = some (.lst (bs.map V.int)) ∧ DpAll K H xs ds ∧ bs.length ≤ ds.length ∧ LaidTo bs.length ds bs ∧ ds[0]? = some d ∧ m = sizs (ds.drop bs.length) ∧ bs.length + m = siz d, ⟨siz d, [v], [d], [], none, rfl, s1.trans s2, s2 _ _ upd_same, upd_same, .cons hd .nil, Nat.zero_le _, (fun j d cs hj => absurd hj (Nat.not_lt_zero j)), rfl, ?_, Nat.zero_add _⟩, ?_⟩
    · show siz d = sizs [d]
      rw [sizs, sizs]
      rfl
    · rintro m σ H1 ⟨xs, ds, bs, y, rfl, sm, et, eb, ha, hl, hlaid, h0, hm, hsum⟩
      have lx := dpa_len ds xs ha
      refine ⟨.ref b, rfl, b, _, rfl, .inl (.inl (.inl eb)), .ref t, rfl, t, _, rfl, .inl (.inl (.inl et)), _, _, rfl, rfl, _, rfl, ite2 (fun e => ?_) (fun e => ?_)⟩
      · have hi : bs.length < ds.length := by
          have := of_decide_eq_true e
          rw [List.length_map] at this
          omega
        obtain ⟨di, fi⟩ : ∃ di, ds[bs.length]? = some di := ⟨_, List.getElem?_eq_getElem hi⟩
        obtain ⟨x, gx⟩ : ∃ x, xs[bs.length]? = some x := ⟨_, List.getElem?_eq_getElem (by omega)⟩
        have hx : Dp K H x di := by
          obtain ⟨d', e1, e2⟩ := dpa_at ds xs ha _ x gx
          rw [fi] at e1
          cases e1
          exact e2
        have dr : ds.drop bs.length = di :: ds.drop (bs.length + 1) := by
          obtain ⟨h1, h2⟩ := List.getElem?_eq_some_iff.mp fi
          rw [List.drop_eq_getElem_cons h1, h2]
        have m1 : m = siz di + sizs (ds.drop (bs.length + 1)) := by rw [hm, dr, sizs]
        have lds : ds.length ≤ siz d := by
          have := sizs_len (ds.drop bs.length)
          rw [List.length_drop] at this
          omega
        refine ⟨fun σ' H' => ∃ m', m' < m ∧ _, fun _ _ h => h, ?_⟩
        refine ⟨.ref t, rfl, .ref b, rfl, b, _, rfl, .inl (.inl (.inl eb)), t, xs, _, x, rfl, rfl, .inl (.inl et), atI_nat (by rw [List.length_map]; exact gx), ?_⟩
        refine ⟨.ref b, rfl, .inl ⟨rfl, _, .inl (.inl eb)⟩, .ref t, rfl, t, _, rfl, .inl (.inl (.inl et)), b, _, _, rfl, rfl, eb, small1000 (by rw [List.length_map]; omega), ?_⟩
        have sb := same_upd (o := .lst (bs.map V.int ++ [.int (xs.length : Nat)])) nb0
        have s3 : Same H (upd H1 b (.lst (bs.map V.int ++ [.int (xs.length : Nat)]))) := fun c o h => by
          rw [upd_ne (ne_of_none h nb0)]
          exact sm _ _ h
        have eb2 : (bs ++ [((xs.length : Nat) : Int)]).map V.int = bs.map V.int ++ [.int (xs.length : Nat)] := by rw [List.map_append]; rfl
        have lb2 : (bs ++ [((xs.length : Nat) : Int)]).length = bs.length + 1 := by rw [List.length_append]; rfl
        have old : ∀ es, LaidTo bs.length (ds ++ es) (bs ++ [((xs.length : Nat) : Int)]) := fun es j d' cs hj h1 h2 => by
          obtain ⟨b0, g1, g2⟩ := laid_more hl hlaid es j d' cs hj h1 h2
          exact ⟨b0, by rw [List.getElem?_append_left hj]; exact g1, g2⟩
        refine ⟨x, rfl, x, di, rfl, dp_same s3 di x hx, fun H4 s4 => ⟨_, rfl, ?_⟩⟩
        cases e : seqD di with
        | none =>
          refine iteF ⟨sizs (ds.drop (bs.length + 1)), by have := siz_pos di; omega, xs, ds, bs ++ [((xs.length : Nat) : Int)], _, rfl, s3.trans s4, s4 _ _ (by rw [upd_ne tb]; exact et), s4 _ _ (by rw [eb2]; exact upd_same), ha, by omega, fun j d' cs hj h1 h2 => ?_, h0, by rw [lb2], ?_⟩
          · rw [lb2] at hj
            by_cases ej : j = bs.length
            · rw [ej, fi] at h1
              cases h1
              rw [e] at h2
              cases h2
            · have := old [] j d' cs (by omega) (by rw [List.append_nil]; exact h1) h2
              rw [List.append_nil] at this
              exact this
          · have := siz_flat e
            omega
        | some cs =>
          obtain ⟨p, ys, rfl, hs, hc⟩ := seq_dp hx e
          have lc := dpa_len cs ys hc
          have zc := siz_seq e
          have lcs := sizs_len cs
          have ldr := sizs_len (ds.drop (bs.length + 1))
          rw [List.length_drop] at ldr
          refine iteT ⟨.ref t, rfl, .inl ⟨rfl, _, .inl (.inl (s4 _ _ (by rw [upd_ne tb]; exact et)))⟩, .ref p, rfl, p, ys, rfl, hs.elim (fun h => .inl ((s3.trans s4).seq h)) (fun h => .inr (sqt_same (s3.trans s4) h)), fun l nl => ?_⟩
          have et4 := s4 _ _ (show upd H1 b (.lst (bs.map V.int ++ [.int (xs.length : Nat)])) t = some (.lst xs) by rw [upd_ne tb]; exact et)
          have eb4 := s4 b _ upd_same
          have lt : t ≠ l := ne_of_none et4 nl
          have lb : b ≠ l := ne_of_none eb4 nl
          refine ⟨t, l, xs, ys, rfl, rfl, by rw [upd_ne lt]; exact et4, upd_same, Nat.le_of_lt (small1000 (by omega)), ?_⟩
          refine ⟨sizs ((ds ++ cs).drop (bs.length + 1)), ?_, xs ++ ys, ds ++ cs, bs ++ [((xs.length : Nat) : Int)], _, rfl, fun c o h => ?_, upd_same, ?_, dpa_app ds cs xs ys ha hc, ?_, fun j d' cs' hj h1 h2 => ?_, ?_, by rw [lb2], ?_⟩
          · rw [List.drop_append_of_le_length (by omega), sizs_app]
            omega
          · rw [upd_ne (ne_of_none h nt), upd_ne (ne_of_none ((s3.trans s4) _ _ h) nl)]
            exact (s3.trans s4) _ _ h
          · rw [upd_ne (Ne.symm tb), upd_ne lb, eb2]
            exact eb4
          · rw [lb2, List.length_append]
            omega
          · rw [lb2] at hj
            by_cases ej : j = bs.length
            · rw [ej, List.getElem?_append_left hi, fi] at h1
              cases h1
              rw [e] at h2
              cases h2
              refine ⟨ds.length, ?_, ?_⟩
              · rw [ej, List.getElem?_append_right (Nat.le_refl _), Nat.sub_self, lx]
                rfl
              · rw [List.drop_left, List.take_of_length_le (Nat.le_refl _)]
            · exact old cs j d' cs' (by omega) h1 h2
          · rw [List.getElem?_append_left (by omega)]
            exact h0
          · rw [List.drop_append_of_le_length (by omega), sizs_app]
            omega
      · have hi : bs.length = ds.length := by
          have : ¬ ((bs.map V.int).length : Int) < (xs.length : Int) := fun z => e (decide_eq_true z)
          rw [List.length_map] at this
          omega
        refine ⟨.ref t, rfl, .ref b, rfl, by show 2 ≤ sizeLine; decide, fun r nr => ?_⟩
        have sr := same_upd (o := .tup [.ref t, .ref b]) nr
        exact q _ r t b xs ds bs (sm.trans sr) nt nb0 tb (sr _ _ et) (sr _ _ eb) upd_same ha (by rw [← hi]; exact hlaid) hi h0 (by omega)
theorem ok_kept (T : Top w K mg) : FnOk P w K mg base CX0 3 T.a_kept T.fd_kept ["thing"] (spKept K) := by
  have G_is_row := ok_is_row (P := P) (w := w) (base := base) T
  have G_laid_out := ok_laid_out (P := P) (w := w) (base := base) T
  refine T.F_kept.ok sc_kept (fun vs H Q E h => ?_) (fun cdv A outer s H vs Q E hr h => ?_)
  · obtain ⟨v, d, rfl, _⟩ := h
    rfl
  · obtain ⟨v, d, rfl, hz, hd, q⟩ := h
    refine ⟨_, (pss_cons (ps_asg (pe_call G_laid_out hr (by rfl) T.g_laid_out T.F_laid_out.kp T.b_laid_out .nil pass0 (pa_cons (pv 0) pa_nil)) (pg_tup rfl (pgs_cons (pg_name (i := 1) sc_kept.nd rfl (.inl rfl)) (pgs_cons (pg_name (i := 2) sc_kept.nd rfl (.inl rfl)) pgs_nil))))
      (pss_cons (ps_set (i := 3) sc_kept.nd rfl (.inl rfl) (pe_callB call_len_seq (by rfl) T.m_len (by decide +kernel) (pa_cons (pv 1) pa_nil)))
      (pss_cons (ps_set (i := 4) sc_kept.nd rfl (.inl rfl) (pe_op op_rep (pe_lst (pa_cons pe_bl pa_nil)) (pv 3)))
      (pss_cons (ps_while PassesOwn.never (pt_cmpR op_gt (pv 3) pe_int (nomark _)) (pss_cons (ps_aug (i := 3) sc_kept.nd rfl (.inl rfl) pe_int ip_sub)
      (pss_cons (ps_set (i := 5) sc_kept.nd rfl (.inl rfl) (pe_ix ix_list (pv 1) (pv 3) (fun _ _ => rfl)))
      (pss_one (ps_if (pt_val (pe_call G_is_row (hr.mono (by decide)) (by rfl) T.g_is_row T.F_is_row.kp T.b_is_row .nil pass0 (pa_cons (pv 5) pa_nil))) (pss_cons (ps_par (i := 6) (j := 7) (by rfl) sc_kept.nd rfl rfl (by decide) rfl rfl (pa_cons (pe_ix ix_list (pv 2) (pv 3) (fun _ _ => rfl)) (pa_cons (pe_op op_add (pe_ix ix_list (pv 2) (pv 3) (fun _ _ => rfl)) (pe_callB call_len_seq (by rfl) T.m_len (by decide +kernel) (pa_cons (pv 5) pa_nil))) pa_nil)) (by rfl))
      (Evl.pss_cut (ps_asg (pe_or (pe_callB call_isi (by rfl) T.m_isinstance (by decide +kernel) (pa_cons (pv 5) (pa_cons (pe_bltn (v := .ty "list") (by rfl) T.m_list (by decide +kernel) rfl) pa_nil))) (pe_one (pe_callB (cr_any rfl) (by rfl) T.m_any (by decide +kernel) (pa_cons (pe_slice sl_list (pv 4) (po_some (pv 6)) (po_some (pv 7))) pa_nil)))) (pg_sub (pv 4) (pv 3) set_list))
      (pss_one (ps_if (pt_val (pe_ix ix_list (pv 4) (pv 3) (fun _ _ => rfl))) (pss_one (ps_asg (pe_ifExp (pt_val (pe_callB call_isi (by rfl) T.m_isinstance (by decide +kernel) (pa_cons (pv 5) (pa_cons (pe_bltn (v := .ty "list") (by rfl) T.m_list (by decide +kernel) rfl) pa_nil)))) (pe_slice sl_list (pv 1) (po_some (pv 6)) (po_some (pv 7))) (pe_callTy call_tuple_of (by rfl) T.m_tuple (by decide +kernel) (pa_cons (pe_slice sl_list (pv 1) (po_some (pv 6)) (po_some (pv 7))) pa_nil))) (pg_sub (pv 1) (pv 3) set_list))) pss_nil)))) pss_nil)))))
      (pss_one (ps_ret (pe_ix ix_list (pv 1) pe_int (fun _ _ => rfl)))))))), ?_⟩
    refine ⟨v, rfl, v, d, rfl, hz, hd, fun H1 r t b xs ds bs sm nt nb tb et eb er ha hlaid hlb h0 hl => ?_⟩
    have lx := dpa_len ds xs ha
    refine ⟨r, _, rfl, .inl (.inl er), rfl, _, _, rfl, _, _, rfl, rfl, ?_⟩
    refine ⟨.ref t, rfl, t, xs, rfl, .inl (.inl (.inl et)), ?_⟩
    have sl : xs.length ≤ sizeLine := Nat.le_of_lt (small1000 (by omega))
    refine ⟨by show 1 ≤ sizeLine; decide, fun l nl => ?_⟩
    have s1 := same_upd (o := .lst [.bl false]) nl
    refine ⟨.int (xs.length : Nat), rfl, l, _, _, rfl, rfl, upd_same, by omega, by have : sizeLine < 2 ^ 63 := by decide
                                                                                   omega, ?_, fun a na => ?_⟩
    · show 1 * (xs.length : Int).toNat ≤ sizeLine
      omega
    have s2 := same_upd (o := .lst (List.replicate (xs.length : Int).toNat [V.bl false]).flatten) na
    have ea : ∃ as : List Bool, (List.replicate (xs.length : Int).toNat [V.bl false]).flatten = as.map V.bl ∧ as.length = ds.length := ⟨List.replicate ds.length false, by simp [lx], by simp⟩
    obtain ⟨as, ea1, ea2⟩ := ea
    have ma : upd (upd H1 l (.lst [.bl false])) a (.lst (List.replicate (xs.length : Int).toNat [V.bl false]).flatten) a = some (.lst (as.map V.bl)) := by rw [upd_same, ea1]
    have ta : t ≠ a := ne_of_none (s1 _ _ et) na
    have ba : b ≠ a := ne_of_none (s1 _ _ eb) na
    have na0 : H a = none := sm.free (s1.free na)
    refine ⟨fun m σ H2 => ∃ xs as y5 y6 y7, σ = [some v, some (.ref t), some (.ref b), some (.int (m : Nat)), some (.ref a), y5, y6, y7] ∧ m ≤ ds.length ∧ Same H H2 ∧ H2 t = some (.lst xs) ∧ H2 b = some (.lst (bs.map V.int)) ∧ H2 a = some (.lst (as.map V.bl)) ∧ as.length = ds.length ∧ DpAll K (wo H2 (fun c => c = t ∨ c = b ∨ c = a)) xs ds, ⟨ds.length, xs, as, none, none, none, by rw [lx]; rfl, Nat.le_refl _, (sm.trans s1).trans s2, (s1.trans s2) _ _ et, (s1.trans s2) _ _ eb, ma, ea2, ?_⟩, ?_⟩
    · refine dpa_same (fun c o h => ?_) _ _ ha
      rw [wo_in (fun z => by
        rcases z with z | z | z
        · rw [z, nt] at h; cases h
        · rw [z, nb] at h; cases h
        · rw [z, na0] at h; cases h)]
      exact ((sm.trans s1).trans s2) _ _ h
    · rintro m σ H2 ⟨xs, as, y5, y6, y7, rfl, hm, sm2, et2, eb2, ea2, la, ha2⟩
      have lx := dpa_len ds xs ha2
      refine ⟨.int (m : Nat), rfl, _, _, rfl, rfl, _, rfl, ite2 (fun e => ?_) (fun e => ?_)⟩
      · have mp : 0 < m := by
          have := of_decide_eq_true e
          omega
        obtain ⟨j, rfl⟩ : ∃ j, m = j + 1 := ⟨m - 1, by omega⟩
        refine ⟨fun σ' H' => ∃ m', m' < j + 1 ∧ _, fun _ _ h => h, ?_⟩
        refine ⟨_, rfl, _, _, rfl, rfl, ?_⟩
        have ej : ((j + 1 : Nat) : Int) - 1 = (j : Nat) := by omega
        obtain ⟨dj, fj⟩ : ∃ dj, ds[j]? = some dj := ⟨_, List.getElem?_eq_getElem (by omega)⟩
        obtain ⟨x, gx⟩ : ∃ x, xs[j]? = some x := ⟨_, List.getElem?_eq_getElem (by omega)⟩
        have hx : Dp K (wo H2 (fun c => c = t ∨ c = b ∨ c = a)) x dj := by
          obtain ⟨d', e1, e2⟩ := dpa_at ds xs ha2 _ x gx
          rw [fj] at e1
          cases e1
          exact e2
        have hx2 := dp_same wo_same dj x hx
        have atj : ∀ {α : Type} {l : List α} {y : α}, l[j]? = some y → atI l (((j + 1 : Nat) : Int) - 1) = some y := fun h => by
          rw [ej]
          exact atI_nat h
        refine ⟨.ref t, rfl, _, rfl, t, xs, _, x, rfl, rfl, .inl (.inl et2), atj gx, ?_⟩
        refine ⟨x, rfl, x, dj, rfl, hx2, fun H3 s3 => ⟨_, rfl, ?_⟩⟩
        have keep : ∀ {H4 : Hp}, Same H2 H4 → Same (wo H2 (fun c => c = t ∨ c = b ∨ c = a)) (wo H4 (fun c => c = t ∨ c = b ∨ c = a)) := fun {H4} s4 c o h => by
          have h2 := wo_some h
          rw [wo_in h2.1]
          exact s4 _ _ h2.2
        cases e : seqD dj with
        | none => exact iteF ⟨j, Nat.lt_succ_self j, xs, as, some x, y6, y7, by rw [← ej]; rfl, by omega, sm2.trans s3, s3 _ _ et2, s3 _ _ eb2, s3 _ _ ea2, la, dpa_same (keep s3) _ _ ha2⟩
        | some cs =>
          obtain ⟨p, ys, rfl, hs, hc⟩ := seq_dp hx2 e
          have lc := dpa_len cs ys hc
          obtain ⟨b0, g1, g2⟩ := hlaid j dj cs (by omega) fj e
          have lcs : b0 + cs.length ≤ ds.length ∨ cs.length = 0 := by
            have := congrArg List.length g2
            rw [List.length_take, List.length_drop] at this
            omega
          have gb : (bs.map V.int)[j]? = some (.int (b0 : Int)) := by rw [List.getElem?_map, g1]; rfl
          have ty3 := ty_dp (dp_same s3 dj _ hx2)
          obtain ⟨x1, y1, k1, k2, exy⟩ := kit_seq dj
          refine iteT ⟨.ref b, rfl, _, rfl, b, _, _, _, rfl, rfl, .inl (.inl (s3 _ _ eb2)), atj gb, .ref b, rfl, _, rfl, b, _, _, _, rfl, rfl, .inl (.inl (s3 _ _ eb2)), atj gb, .ref p, rfl, p, ys, rfl, hs.elim (fun h => .inl (s3.seq h)) (fun h => .inr (sqt_same s3 h)), _, _, rfl, rfl, _, _, rfl, ?_⟩
          refine ⟨fun σ' H4 => ∃ as' : List Bool, σ' = [some v, some (.ref t), some (.ref b), some (.int (((j + 1 : Nat) : Int) - 1)), some (.ref a), some (.ref p), some (.int (b0 : Int)), some (.int ((b0 : Int) + (ys.length : Nat)))] ∧ as'.length = ds.length ∧ H4 a = some (.lst (as'.map V.bl)) ∧ ∀ c o, c ≠ a → H2 c = some o → H4 c = some o, ?_, ?_⟩
          · have put : ∀ (z : Bool) (H4 : Hp), Same H3 H4 → ∃ p xs k j', V.ref a = .ref p ∧ V.int (((j + 1 : Nat) : Int) - 1) = .int k ∧ H4 p = some (.lst xs) ∧ ixN xs.length k = some j' ∧ ∃ as' : List Bool, as'.length = ds.length ∧ upd H4 p (.lst (xs.set j' (.bl z))) a = some (.lst (as'.map V.bl)) ∧ ∀ c o, c ≠ a → H2 c = some o → upd H4 p (.lst (xs.set j' (.bl z))) c = some o := fun z H4 s4 => by
              refine ⟨a, as.map V.bl, _, j, rfl, rfl, s4 _ _ (s3 _ _ ea2), by rw [ej]; exact Evl.ixN_nat (by rw [List.length_map]; omega), as.set j z, by rw [List.length_set]; exact la, by rw [upd_same, List.map_set], fun c o hc h => ?_⟩
              rw [upd_ne hc]
              exact s4 _ _ (s3 _ _ h)
            refine ⟨.ref p, rfl, _, _, _, _, y1, rfl, .ty _, ty3, kit_ty k2, _, rfl, ?_⟩
            cases y1 with
            | true =>
              refine iteT ⟨.ref a, rfl, _, rfl, ?_⟩
              obtain ⟨p', xs', k', j', h1, h2, h3, h4, as', h5, h6, h7⟩ := put true H3 (Same.refl _)
              exact ⟨p', xs', k', j', h1, h2, h3, h4, as', rfl, h5, h6, h7⟩
            | false =>
              obtain ⟨cs', ec⟩ := cut_bl as (some (b0 : Int)) (some ((b0 : Int) + (ys.length : Nat)))
              refine iteF ⟨.ref a, rfl, _, rfl, _, rfl, _, rfl, _, rfl, a, _, rfl, .inl (.inl (s3 _ _ ea2)), fun c nc => ⟨c, cs', rfl, .inl (.inl (by rw [upd_same, ec])), .ref a, rfl, _, rfl, ?_⟩⟩
              obtain ⟨p', xs', k', j', h1, h2, h3, h4, as', h5, h6, h7⟩ := put (cs'.any id) _ (same_upd nc)
              exact ⟨p', xs', k', j', h1, h2, h3, h4, as', rfl, h5, h6, h7⟩
          · rintro σ' H4 ⟨as', rfl, la', ea4, k4⟩
            have na2 : H a = none := na0
            have sm4 : Same H H4 := fun c o h => k4 _ _ (ne_of_none h na0) (sm2 _ _ h)
            have et4 := k4 t _ ta et2
            have eb4 := k4 b _ ba eb2
            have keep4 : Same (wo H2 (fun c => c = t ∨ c = b ∨ c = a)) (wo H4 (fun c => c = t ∨ c = b ∨ c = a)) := fun c o h => by
              have h2 := wo_some h
              rw [wo_in h2.1]
              exact k4 _ _ (fun z => h2.1 (.inr (.inr z))) h2.2
            obtain ⟨z, gz⟩ : ∃ z, as'[j]? = some z := ⟨_, List.getElem?_eq_getElem (by omega)⟩
            refine ⟨.ref a, rfl, _, rfl, a, _, _, .bl z, rfl, rfl, .inl (.inl ea4), atj (by rw [List.getElem?_map, gz]; rfl), z, rfl, ?_⟩
            cases z with
            | false => exact iteF ⟨j, Nat.lt_succ_self j, xs, as', some (.ref p), _, _, by rw [← ej], by omega, sm4, et4, eb4, ea4, la', dpa_same keep4 _ _ ha2⟩
            | true =>
              refine iteT ⟨.ref p, rfl, _, _, _, _, y1, rfl, .ty _, ty_dp (dp_same keep4 dj _ hx |> dp_same wo_same dj _), kit_ty k2, _, rfl, ?_⟩
              have hcut : DpAll K (wo H4 (fun c => c = t ∨ c = b ∨ c = a)) (cutV xs (some (b0 : Int)) (some ((b0 : Int) + (ys.length : Nat)))) cs := by
                have h1 := dpa_takeK cs.length _ _ (dpa_dropK b0 _ _ (dpa_same keep4 _ _ ha2))
                rw [g2] at h1
                rcases lcs with h | h
                · rw [cut_nat xs b0 ys.length (by omega), lc]
                  exact h1
                · have e0 : cs = [] := List.eq_nil_of_length_eq_zero h
                  have e1 : ys.length = 0 := by omega
                  have e2 : cutV xs (some (b0 : Int)) (some ((b0 : Int) + (ys.length : Nat))) = [] := by
                    rw [e1]
                    unfold cutV
                    rw [show ((b0 : Int) + ((0 : Nat) : Int)) = (b0 : Int) by omega]
                    apply List.eq_nil_of_length_eq_zero
                    rw [List.length_take, List.length_drop]
                    unfold HT.sIx
                    simp only []
                    split <;> omega
                  rw [e2, e0]
                  exact .nil
              have fin : ∀ (H6 : Hp) (y' : V), Same H4 H6 → Dp K (wo H6 (fun c => c = t ∨ c = b ∨ c = a)) y' dj → Same H (upd H6 t (.lst (xs.set j y'))) ∧ upd H6 t (.lst (xs.set j y')) b = some (.lst (bs.map V.int)) ∧ upd H6 t (.lst (xs.set j y')) a = some (.lst (as'.map V.bl)) ∧ DpAll K (wo (upd H6 t (.lst (xs.set j y'))) (fun c => c = t ∨ c = b ∨ c = a)) (xs.set j y') ds := fun H6 y' s6 hy => by
                have k6 : Same (wo H6 (fun c => c = t ∨ c = b ∨ c = a)) (wo (upd H6 t (.lst (xs.set j y'))) (fun c => c = t ∨ c = b ∨ c = a)) := fun c o h => by
                  have h2 := wo_some h
                  rw [wo_in h2.1, upd_ne (fun z => h2.1 (.inl z))]
                  exact h2.2
                have k46 : Same (wo H4 (fun c => c = t ∨ c = b ∨ c = a)) (wo H6 (fun c => c = t ∨ c = b ∨ c = a)) := fun c o h => by
                  have h2 := wo_some h
                  rw [wo_in h2.1]
                  exact s6 _ _ h2.2
                refine ⟨fun c o h => ?_, ?_, ?_, dpa_setK (dp_same k6 dj y' hy) j ds xs (dpa_same (keep4.trans (k46.trans k6)) _ _ ha2) fj⟩
                · rw [upd_ne (ne_of_none h nt)]
                  exact s6 _ _ (sm4 _ _ h)
                · rw [upd_ne (Ne.symm tb)]
                  exact s6 _ _ eb4
                · rw [upd_ne (Ne.symm ta)]
                  exact s6 _ _ ea4
              have newX : ∀ {H6 : Hp} {c : Addr}, Same H4 H6 → H6 c = none → ¬ (c = t ∨ c = b ∨ c = a) := fun {H6 c} s6 nc z => by
                rcases z with z | z | z
                · rw [z, s6 _ _ et4] at nc; cases nc
                · rw [z, s6 _ _ eb4] at nc; cases nc
                · rw [z, s6 _ _ ea4] at nc; cases nc
              have keep6 : ∀ {H6 : Hp}, Same H4 H6 → Same (wo H4 (fun c => c = t ∨ c = b ∨ c = a)) (wo H6 (fun c => c = t ∨ c = b ∨ c = a)) := fun {H6} s6 c o h => by
                have h2 := wo_some h
                rw [wo_in h2.1]
                exact s6 _ _ h2.2
              have hk : (y1 = true → dj = .list cs) ∧ (y1 = false → dj = .tuple cs) := by
                cases dj with
                | list ds =>
                  cases e
                  have : kitB (tyD (.list cs)) "list" = some true := by show kitB "list" "list" = some true; decide +kernel
                  rw [this] at k2
                  cases k2
                  exact ⟨fun _ => rfl, fun z => by cases z⟩
                | tuple ds =>
                  cases e
                  have : kitB (tyD (.tuple cs)) "list" = some false := by show kitB "tuple" "list" = some false; decide +kernel
                  rw [this] at k2
                  cases k2
                  exact ⟨fun z => (by cases z), fun _ => rfl⟩
                | _ => cases e
              have ixj : ixN xs.length (((j + 1 : Nat) : Int) - 1) = some j := by rw [ej]; exact Evl.ixN_nat (by omega)
              cases y1 with
              | true =>
                refine iteT ⟨.ref t, rfl, _, rfl, _, rfl, _, rfl, _, rfl, t, xs, rfl, .inl (.inl et4), fun c nc => ?_⟩
                have sc := same_upd (o := .lst (cutV xs (some (b0 : Int)) (some ((b0 : Int) + (ys.length : Nat))))) nc
                obtain ⟨h1, h2, h3, h4⟩ := fin _ (.ref c) sc (by
                  rw [hk.1 rfl]
                  exact .lst (.inl (.inl (by rw [wo_in (newX (Same.refl _) nc)]; exact upd_same))) (dpa_same (keep6 sc) _ _ hcut))
                exact ⟨.ref t, rfl, _, rfl, t, xs, _, j, rfl, rfl, sc _ _ et4, ixj, j, Nat.lt_succ_self j, xs.set j (.ref c), as', some (.ref p), _, _, by rw [← ej], by omega, h1, upd_same, h2, h3, la', h4⟩
              | false =>
                refine iteF ⟨.ref t, rfl, _, rfl, _, rfl, _, rfl, _, rfl, t, xs, rfl, .inl (.inl et4), fun c nc => ⟨c, _, rfl, .inl ⟨.inl (.inl upd_same), fun l nl => ?_⟩⟩⟩
                have sc := same_upd (o := .lst (cutV xs (some (b0 : Int)) (some ((b0 : Int) + (ys.length : Nat))))) nc
                have sl := sc.trans (same_upd (o := .tup (cutV xs (some (b0 : Int)) (some ((b0 : Int) + (ys.length : Nat))))) nl)
                obtain ⟨h1, h2, h3, h4⟩ := fin _ (.ref l) sl (by
                  rw [hk.2 rfl]
                  exact .tup (.inl (.inl (by rw [wo_in (newX sc nl)]; exact upd_same))) (dpa_same (keep6 sl) _ _ hcut))
                exact ⟨.ref t, rfl, _, rfl, t, xs, _, j, rfl, rfl, sl _ _ et4, ixj, j, Nat.lt_succ_self j, xs.set j (.ref l), as', some (.ref p), _, _, by rw [← ej], by omega, h1, upd_same, h2, h3, la', h4⟩
      · have m0 : m = 0 := by
          have : ¬ (0 : Int) < (m : Int) := fun z => e (decide_eq_true z)
          omega
        subst m0
        cases xs with
        | nil => cases ha2; cases h0
        | cons x xs' =>
          obtain ⟨d', e1, e2⟩ := dpa_at ds _ ha2 0 x rfl
          rw [h0] at e1
          cases e1
          exact ⟨.ref t, rfl, t, _, 0, x, rfl, rfl, .inl (.inl et2), atI_nat (j := 0) rfl, q H2 x sm2 (dp_same wo_same _ x e2)⟩
/-! ### letters, steps -/
def cd : Fin 4 → Nat
  | 0 => 110
  | 1 => 101
  | 2 => 115
  | 3 => 119
def Lt (l : Fin 4) : Str := ⟨#[cd l]⟩
abbrev nesw : Str := PySem.Str.ofString "nesw"
theorem lt0 : PySem.Str.ofString "n" = Lt 0 := by decide +kernel
theorem lt1 : PySem.Str.ofString "e" = Lt 1 := by decide +kernel
theorem lt2 : PySem.Str.ofString "s" = Lt 2 := by decide +kernel
theorem lt3 : PySem.Str.ofString "w" = Lt 3 := by decide +kernel
theorem ltd : ∀ l m : Fin 4, decide (V.str (Lt l) = V.str (Lt m)) = decide (l = m) := by decide +kernel
theorem occ : ∀ l : Fin 4, Builtin.Str.occurrences nesw (Lt l) 0 nesw.length 1 = [l.val] := by decide +kernel
theorem nesw_len : nesw.length ≤ sizeLine := by decide +kernel
theorem nesw_at : ∀ (i : Nat) (h : i < 4) (c : Nat), nesw.cps[i]? = some c → (⟨#[c]⟩ : Str) = Lt ⟨i, h⟩
  | 0, _, c, e => by cases e; rfl
  | 1, _, c, e => by cases e; rfl
  | 2, _, c, e => by cases e; rfl
  | 3, _, c, e => by cases e; rfl
def dx : Fin 4 → Int
  | 0 => 0
  | 1 => 1
  | 2 => 0
  | 3 => -1
def dy : Fin 4 → Int
  | 0 => 1
  | 1 => 0
  | 2 => -1
  | 3 => 0
theorem dxb : ∀ l : Fin 4, -(2 ^ 64) < dx l ∧ dx l < 2 ^ 64 := by decide +kernel
theorem dyb : ∀ l : Fin 4, -(2 ^ 64) < dy l ∧ dy l < 2 ^ 64 := by decide +kernel
/-! ### lots -/
def tr (a : Fin 8) (l : Fin 4) : Fin 4 := if a.val < 4 then ⟨(a.val + l.val) % 4, by omega⟩ else ⟨(a.val + 4 - l.val) % 4, by omega⟩
def un (a : Fin 8) : Fin 8 := if a.val < 4 then ⟨(4 - a.val) % 4, by omega⟩ else a
def bo (a b : Fin 8) : Fin 8 :=
  let q := if a.val < 4 then (a.val + b.val) % 4 else (a.val + 8 - b.val) % 4
  if (decide (a.val < 4)) = (decide (b.val < 4)) then ⟨q % 4, by omega⟩ else ⟨q % 4 + 4, by omega⟩
theorem at_mir : ∀ (a : Fin 8) (l : Fin 4), (4 : Int) ≤ a.val → atI nesw.cps.toList (((a.val : Int) - (l.val : Int)) % 4) = some (cd (tr a l)) := by decide +kernel
theorem at_tur : ∀ (a : Fin 8) (l : Fin 4), ¬ (4 : Int) ≤ a.val → atI nesw.cps.toList (((a.val : Int) + (l.val : Int)) % 4) = some (cd (tr a l)) := by decide +kernel
theorem un_mir : ∀ a : Fin 8, (4 : Int) ≤ a.val → ((un a).val : Int) = a.val := by decide +kernel
theorem un_tur : ∀ a : Fin 8, ¬ (4 : Int) ≤ a.val → ((un a).val : Int) = (-(a.val : Int)) % 4 := by decide +kernel
theorem bo_1 : ∀ a b : Fin 8, (4 : Int) ≤ a.val → (4 : Int) ≤ b.val → ((bo a b).val : Int) = ((a.val : Int) - b.val) % 4 := by decide +kernel
theorem bo_2 : ∀ a b : Fin 8, (4 : Int) ≤ a.val → ¬ (4 : Int) ≤ b.val → ((bo a b).val : Int) = ((a.val : Int) - b.val) % 4 + 4 := by decide +kernel
theorem bo_3 : ∀ a b : Fin 8, ¬ (4 : Int) ≤ a.val → (4 : Int) ≤ b.val → ((bo a b).val : Int) = ((a.val : Int) + b.val) % 4 + 4 := by decide +kernel
theorem bo_4 : ∀ a b : Fin 8, ¬ (4 : Int) ≤ a.val → ¬ (4 : Int) ≤ b.val → ((bo a b).val : Int) = ((a.val : Int) + b.val) % 4 := by decide +kernel
/-! ### entries that are right -/
inductive Ent where
  | face (l : Fin 4)
  | turn (q : Fin 3)
  | go (n : Fin 9)
  | bump
  | sign (z : Str)
  | bare
  | spy (n : Fin 9) (z : Str)
  | swap
def ws : Fin 10 → Str
  | 0 => PySem.Str.ofString "face"
  | 1 => PySem.Str.ofString "left"
  | 2 => PySem.Str.ofString "right"
  | 3 => PySem.Str.ofString "back"
  | 4 => PySem.Str.ofString "go"
  | 5 => PySem.Str.ofString "bump"
  | 6 => PySem.Str.ofString "sign"
  | 7 => PySem.Str.ofString "bare"
  | 8 => PySem.Str.ofString "spy"
  | 9 => PySem.Str.ofString "swap"
theorem wsd : ∀ i j : Fin 10, decide (V.str (ws i) = V.str (ws j)) = decide (i = j) := by decide +kernel
theorem ws_ok : ∀ i : Fin 10, PyData.strOk (ws i) = true ∧ (ws i).length ≤ 12 := by decide +kernel
namespace Ent
def kind : Ent → Fin 10
  | face _ => 0
  | turn q => ⟨q.val + 1, by omega⟩
  | go _ => 4
  | bump => 5
  | sign _ => 6
  | bare => 7
  | spy _ _ => 8
  | swap => 9
def rest : Ent → List PyData
  | face l => [.str (Lt l)]
  | go n => [.int ((n.val : Int) + 1)]
  | sign z => [.str z]
  | spy n z => [.int ((n.val : Int) + 1), .str z]
  | _ => []
def parts (e : Ent) : List PyData := .str (ws e.kind) :: e.rest
def tup (e : Ent) : PyData := .tuple e.parts
def lst (e : Ent) : PyData := .list e.parts
def need : Ent → Bool
  | turn _ => true
  | go _ => true
  | bump => true
  | spy _ _ => true
  | _ => false
def isFace : Ent → Bool
  | face _ => true
  | _ => false
def isSwap : Ent → Bool
  | swap => true
  | _ => false
def ok : Ent → Prop
  | sign z => z.length ≤ 12 ∧ PyData.strOk z = true
  | spy _ z => z.length ≤ 12 ∧ PyData.strOk z = true
  | _ => True
theorem face_iff (e : Ent) : e.isFace = decide (e.kind = 0) := by
  cases e with
  | turn q => match q with
    | 0 => rfl
    | 1 => rfl
    | 2 => rfl
  | _ => rfl
theorem swap_iff (e : Ent) : e.isSwap = decide (e.kind = 9) := by
  cases e with
  | turn q => match q with
    | 0 => rfl
    | 1 => rfl
    | 2 => rfl
  | _ => rfl
end Ent
/-- what comes ahead has a face where one is needed -/
def Right (es : List Ent) : Prop := ∀ (i : Nat) (e : Ent), es[i]? = some e → e.need = true → (es.take i).any Ent.isFace = true
theorem Right.nil : Right [] := fun i e h => by cases h
theorem Right.snoc {es : List Ent} {e : Ent} (h : Right es) (he : e.need = true → es.any Ent.isFace = true) : Right (es ++ [e]) := fun i x hx hn => by
  by_cases hi : i < es.length
  · rw [List.getElem?_append_left hi] at hx
    rw [List.take_append_of_le_length (Nat.le_of_lt hi)]
    exact h i x hx hn
  · have hl := (List.getElem?_eq_some_iff.mp hx).1
    rw [List.length_append] at hl
    have : i = es.length := by
      have : [e].length = 1 := rfl
      omega
    rw [this, List.getElem?_append_right (Nat.le_refl _), Nat.sub_self] at hx
    cases hx
    rw [this, List.take_left]
    exact he hn
def swaps (es : List Ent) : Nat := (es.filter Ent.isSwap).length
theorem swaps_snoc (es : List Ent) (e : Ent) : swaps (es ++ [e]) = swaps es + (if e.isSwap = true then 1 else 0) := by
  unfold swaps
  rw [List.filter_append, List.length_append, List.filter_cons, List.filter_nil]
  split <;> rfl
theorem swaps_le (es : List Ent) : swaps es ≤ es.length := List.length_filter_le _ _
/-! ### where a walker stands -/
structure Wk where
  leg : Nat
  x : Int
  y : Int
  look : Option (Fin 4)
def W0 : Wk := ⟨0, 0, 0, none⟩
def tq : Fin 3 → Fin 4
  | 0 => 3
  | 1 => 1
  | 2 => 2
def nlook (a : Fin 8) (look : Option (Fin 4)) : Ent → Option (Fin 4)
  | .face l => some (tr a l)
  | .turn q => look.map (fun l => l + tq q)
  | _ => look
def nx (p : Int) (look : Option (Fin 4)) : Ent → Int
  | .go n => match look with
    | some l => p + ((n.val : Int) + 1) * dx l
    | none => p
  | _ => p
def ny (p : Int) (look : Option (Fin 4)) : Ent → Int
  | .go n => match look with
    | some l => p + ((n.val : Int) + 1) * dy l
    | none => p
  | _ => p
def nleg (n : Nat) (e : Ent) : Nat := if e.isSwap = true then n + 1 else n
def next (lots : List (Fin 8)) (p : Wk) (e : Ent) : Wk := ⟨nleg p.leg e, nx p.x p.look e, ny p.y p.look e, nlook (lots.getD (nleg p.leg e) 0) p.look e⟩
@[irreducible] def wat (lots : List (Fin 8)) (es : List Ent) (i : Nat) : Wk := (es.take i).foldl (next lots) W0
theorem wat_zero (lots : List (Fin 8)) (es : List Ent) : wat lots es 0 = W0 := by
  unfold wat
  rfl
theorem wat_succ {lots : List (Fin 8)} {es : List Ent} {i : Nat} {e : Ent} (h : es[i]? = some e) : wat lots es (i + 1) = next lots (wat lots es i) e := by
  unfold wat
  rw [List.take_add_one, h, List.foldl_append]
  rfl
theorem wat_look (lots : List (Fin 8)) (es : List Ent) : ∀ i, (wat lots es i).look.isSome = (es.take i).any Ent.isFace
  | 0 => by rw [wat_zero]; rfl
  | i + 1 => by
    by_cases hi : i < es.length
    · have h : es[i]? = some es[i] := List.getElem?_eq_getElem hi
      rw [wat_succ h, List.take_add_one, h, List.any_append, ← wat_look lots es i]
      show (nlook _ (wat lots es i).look es[i]).isSome = ((wat lots es i).look.isSome || (es[i].isFace || false))
      cases es[i] with
      | face l => cases (wat lots es i).look <;> rfl
      | turn q => cases (wat lots es i).look <;> rfl
      | _ => cases (wat lots es i).look <;> rfl
    · have e1 : es.take (i + 1) = es.take i := by rw [List.take_of_length_le (by omega), List.take_of_length_le (by omega)]
      have := wat_look lots es i
      unfold wat at this ⊢
      rw [e1]
      exact this
theorem wat_leg (lots : List (Fin 8)) (es : List Ent) : ∀ i, (wat lots es i).leg = swaps (es.take i)
  | 0 => by rw [wat_zero]; rfl
  | i + 1 => by
    by_cases hi : i < es.length
    · have h : es[i]? = some es[i] := List.getElem?_eq_getElem hi
      rw [wat_succ h, List.take_add_one, h]
      show nleg (wat lots es i).leg es[i] = swaps (es.take i ++ [es[i]])
      rw [swaps_snoc, wat_leg lots es i]
      unfold nleg
      split <;> rfl
    · have e1 : es.take (i + 1) = es.take i := by rw [List.take_of_length_le (by omega), List.take_of_length_le (by omega)]
      have := wat_leg lots es i
      unfold wat at this ⊢
      rw [e1]
      exact this
theorem swaps_take (es : List Ent) (i : Nat) : swaps (es.take i) ≤ swaps es := by
  unfold swaps
  exact List.Sublist.length_le ((List.take_sublist i es).filter _)
def lk : Option (Fin 4) → Str
  | some l => Lt l
  | none => PySem.Str.ofString ""
def plD (p : Wk) : PyData := .tuple [.int p.x, .int p.y]
def posD (p : Wk) : PyData := .tuple [plD p, .str (lk p.look)]
def trackL (lots : List (Fin 8)) (es : List Ent) (n : Nat) : List PyData := (List.range n).map fun i => posD (wat lots es (i + 1))
theorem trackL_succ (lots : List (Fin 8)) (es : List Ent) (n : Nat) : trackL lots es (n + 1) = trackL lots es n ++ [posD (wat lots es (n + 1))] := by
  unfold trackL
  rw [List.range_succ, List.map_append]
  rfl
def trackD (lots : List (Fin 8)) (es : List Ent) : PyData := .tuple (trackL lots es es.length)
/-- rows of entries, each a list or a tuple -/
def Rows (K : PySem.W.Frag) (H : Hp) (xs : List V) (es : List Ent) : Prop := ∃ ds, DpAll K H xs ds ∧ ds.map seqD = es.map fun e => some e.parts
theorem Rows.same {K : PySem.W.Frag} {H H' : Hp} {xs : List V} {es : List Ent} (h : Rows K H xs es) (s : Same H H') : Rows K H' xs es := by
  obtain ⟨ds, h1, h2⟩ := h
  exact ⟨ds, dpa_same s _ _ h1, h2⟩
theorem Rows.len {K : PySem.W.Frag} {H : Hp} {xs : List V} {es : List Ent} (h : Rows K H xs es) : xs.length = es.length := by
  obtain ⟨ds, h1, h2⟩ := h
  have := congrArg List.length h2
  rw [List.length_map, List.length_map] at this
  rw [dpa_len ds xs h1, this]
/-- one entry, a list or a tuple -/
def EntAt (K : PySem.W.Frag) (H : Hp) (v : V) (e : Ent) : Prop := ∃ a xs, v = .ref a ∧ SqA K H a (.str (ws e.kind) :: xs) ∧ DpAll K H xs e.rest
theorem ent_at {K : PySem.W.Frag} {H : Hp} {v : V} {d : PyData} {e : Ent} (h : Dp K H v d) (hs : seqD d = some e.parts) : EntAt K H v e := by
  obtain ⟨a, xs, rfl, hq, ha⟩ := seq_dp h hs
  cases ha with
  | cons h1 h2 =>
    cases h1
    exact ⟨a, _, rfl, hq, h2⟩
theorem EntAt.same {K : PySem.W.Frag} {H H' : Hp} {v : V} {e : Ent} (h : EntAt K H v e) (s : Same H H') : EntAt K H' v e := by
  obtain ⟨a, xs, h1, h2, h3⟩ := h
  exact ⟨a, xs, h1, h2.elim (fun h => .inl (s.seq h)) (fun h => .inr (sqt_same s h)), dpa_same s _ _ h3⟩
theorem Rows.at_ {K : PySem.W.Frag} {H : Hp} {xs : List V} {es : List Ent} (h : Rows K H xs es) {i : Nat} {v : V} (hv : xs[i]? = some v) : ∃ e, es[i]? = some e ∧ EntAt K H v e := by
  obtain ⟨ds, h1, h2⟩ := h
  obtain ⟨d, fd, gd⟩ := dpa_at ds xs h1 i v hv
  have e1 : (ds.map seqD)[i]? = some (seqD d) := by rw [List.getElem?_map, fd]; rfl
  rw [h2, List.getElem?_map] at e1
  cases e2 : es[i]? with
  | none => rw [e2] at e1; cases e1
  | some e =>
    rw [e2] at e1
    exact ⟨e, rfl, ent_at gd (Option.some.inj e1).symm⟩
theorem rows_tup {K : PySem.W.Frag} {H : Hp} {xs : List V} {es : List Ent} (h : DpAll K H xs (es.map Ent.tup)) : Rows K H xs es := ⟨_, h, by rw [List.map_map]; rfl⟩
def Keys : List DictEntry → List Str → Prop
  | [], [] => True
  | e :: r, k :: ks => (∃ t, e.key = .str k t) ∧ Keys r ks
  | _, _ => False
theorem find_keys (z : Str) : ∀ (l : List DictEntry) (ks : List Str), Keys l ks → (l.find? (·.key.isStr z)).isSome = (ks.any fun s => s == z) ∧ l.any (·.refKey) = false
  | [], [], _ => ⟨rfl, rfl⟩
  | e :: r, k :: ks, h => by
    obtain ⟨⟨t, hk⟩, hr⟩ := h
    obtain ⟨i1, i2⟩ := find_keys z r ks hr
    have e1 : e.key.isStr z = (k == z) := by rw [hk]; rfl
    have e2 : e.refKey = false := by unfold DictEntry.refKey; rw [hk]
    constructor
    · rw [List.find?_cons, e1, List.any_cons]
      cases k == z with
      | true => rfl
      | false => exact i1
    · rw [List.any_cons, e2, i2]
      rfl
  | [], _ :: _, h => h.elim
  | _ :: _, [], h => h.elim
theorem ns_keys {K : PySem.W.Frag} {a : Addr} {es : Array DictEntry} {n : Nat} {ks : List Str} (h : K.lookup a = some ⟨.type "dict", none, .dict es n, #[]⟩) (hk : Keys es.toList ks) (z : Str) : ∃ r, PySem.W.nsIn K a z = some r ∧ r.isSome = (ks.any fun s => s == z) := by
  obtain ⟨i1, i2⟩ := find_keys z es.toList ks hk
  unfold PySem.W.nsIn
  rw [h]
  cases e : es.toList.find? (·.key.isStr z) with
  | some x =>
    rw [e] at i1
    refine ⟨some x.val, ?_, i1⟩
    simp only [e]
  | none =>
    rw [e] at i1
    refine ⟨none, ?_, i1⟩
    simp only [e, i2]
    rfl
--@@SPLIT
/-! ### texts -/
abbrev SMALLs : Str := PySem.Str.ofString "abcdefghijklmnopqrstuvwxyz"
abbrev GREATs : Str := PySem.Str.ofString "ABCDEFGHIJKLMNOPQRSTUVWXYZ"
def smC (c : Nat) : Bool := decide (c ∈ SMALLs.cps.toList)
def grC (c : Nat) : Bool := decide (c ∈ GREATs.cps.toList)
def shL (cs : List Nat) : Bool := decide (1 ≤ (cs.length : Int)) && decide ((cs.length : Int) ≤ 8)
def nmL (cs : List Nat) : Bool := shL cs && cs.all smC
def loL : List Nat → Bool
  | [] => false
  | c :: r => shL (c :: r) && (grC c && r.all smC)
def nmV : V → Bool
  | .str z => nmL z.cps.toList
  | _ => false
def loV : V → Bool
  | .str z => loL z.cps.toList
  | _ => false
def sgV (v : V) : Bool := nmV v || loV v
def shV : V → Bool
  | .str z => shL z.cps.toList
  | _ => false
/-- a thing: a text that is not too long, or no text -/
def Th (K : PySem.W.Frag) (H : Hp) (v : V) : Prop := (∃ z : Str, v = .str z ∧ z.length ≤ 1000) ∨ ((∀ z, v ≠ .str z) ∧ ∃ t, TyX K H v (.type t) ∧ kitB t "str" = some false)
theorem tyx_same {K : PySem.W.Frag} {H H' : Hp} {v : V} {t : Value} (e : Same H H') (h : TyX K H v t) : TyX K H' v t := by
  cases h with
  | base b =>
    cases b with
    | non => exact .base .non
    | bl x => exact .base (.bl x)
    | int i => exact .base (.int i)
    | str x => exact .base (.str x)
    | flt x => exact .base (.flt x)
    | lst h => exact .base (.lst (e _ _ h))
    | frz h => exact .base (.frz (e _ _ h))
    | tup h => exact .base (.tup (e _ _ h))
    | dK h => exact .base (.dK (e _ _ h))
    | dT h => exact .base (.dT (e _ _ h))
    | ins h a b c d f => exact .base (.ins (e _ _ h) a b c d f)
  | byt b => exact .byt b
  | set h => exact .set (e _ _ h)
  | kList h c => exact .kList h c
  | kTuple h c => exact .kTuple h c
  | kDict h c => exact .kDict h c
  | fTuple h => exact .fTuple (e _ _ h)
  | fDict h => exact .fDict (e _ _ h)
theorem Th.same {K : PySem.W.Frag} {H H' : Hp} {v : V} (e : Same H H') (h : Th K H v) : Th K H' v := by
  rcases h with h | ⟨n, t, ty, k⟩
  · exact .inl h
  · exact .inr ⟨n, t, tyx_same e ty, k⟩
theorem nmV_no {v : V} (h : ∀ z, v ≠ .str z) : nmV v = false ∧ loV v = false ∧ shV v = false := by
  cases v with
  | str z => exact absurd rfl (h z)
  | _ => exact ⟨rfl, rfl, rfl⟩
theorem len_toList (z : Str) : z.cps.toList.length = z.length := Array.length_toList
theorem thou {n : Nat} (h : n ≤ 1000) : n ≤ sizeLine := Nat.le_trans h (by decide)
def spShort (K : PySem.W.Frag) : Sp := fun vs H Q _ => ∃ v, vs = [v] ∧ Th K H v ∧ Q (.bl (shV v)) H
theorem s0 : PySem.Str.ofString "" = (⟨#[]⟩ : Str) := by decide +kernel
/-! ### drawn texts, drawn things -/
theorem op_mulS {X : Cx} : OpR X (binaryOp .Mult) (fun x y H Q => ∃ (z : Str) (n : Int), x = .str z ∧ y = .int n ∧ z.length ≤ 16 ∧ 0 ≤ n ∧ n ≤ 1048576 ∧ ∀ z' : Str, (z'.length : Int) = (z.length : Int) * n → Q (.str z') H) := by
  intro pins s σ H x y v u Q I rx ry h
  obtain ⟨z, n, rfl, rfl, hz, h0, h1, q⟩ := h
  obtain ⟨t, rfl⟩ := rx
  obtain ⟨t', rfl⟩ := ry
  exact PySem.W.KXi.mul rfl hz (by omega) (by omega) fun t' k _ h2 => ⟨.str _, H, I.tok _, ⟨_, rfl⟩, q _ (h2 h0)⟩
theorem cut_len (z : Str) (lo hi : Option Int) : (cutS z lo hi).length ≤ z.length := by
  show (((z.cps.toList.drop (HT.sIx z.length 0 lo)).take (HT.sIx z.length z.length hi - HT.sIx z.length 0 lo)).toArray).size ≤ z.length
  rw [List.size_toArray, List.length_take, List.length_drop, len_toList]
  omega
theorem app_len (a b : Str) : (a ++ b).length = a.length + b.length := by
  show (a.cps ++ b.cps).size = _
  rw [Array.size_append]
  rfl
theorem str_at {z : Str} {i : Int} (h0 : 0 ≤ i) (h1 : i < (z.length : Int)) : ∃ c, atI z.cps.toList i = some c := by
  obtain ⟨j, rfl⟩ : ∃ j : Nat, i = j := ⟨i.toNat, by omega⟩
  have hj : j < z.cps.toList.length := by
    rw [len_toList]
    omega
  exact ⟨z.cps.toList[j], atI_nat (List.getElem?_eq_getElem hj)⟩
def spText (lo hi : Nat) : Sp := fun vs H Q _ => ∃ p, vs = [.ref p] ∧ Pool H p ∧ ∀ H' (z : Str), But p H H' → Pool H' p → lo ≤ z.length → z.length ≤ hi → (∀ c ∈ z.cps.toList, c ∈ SMALLs.cps.toList) → Q (.str z) H'
theorem app_mem {a b : Str} {c : Nat} (h : c ∈ (a ++ b).cps.toList) : c ∈ a.cps.toList ∨ c ∈ b.cps.toList := by
  have h2 : c ∈ (a.cps ++ b.cps).toList := h
  rw [Array.toList_append] at h2
  exact List.mem_append.mp h2
theorem join_mem {S : List Nat} : ∀ ys : List Str, (∀ y ∈ ys, ∀ c ∈ y.cps.toList, c ∈ S) → ∀ c ∈ (Str.join (PySem.Str.ofString "") ys).cps.toList, c ∈ S
  | [], _, c, h => by
    have h2 : c ∈ ([] : List Nat) := h
    cases h2
  | [y], hy, c, h => hy y (by simp) c h
  | y :: z :: r, hy, c, h => by
    have h2 : c ∈ ((y ++ PySem.Str.ofString "") ++ Str.join (PySem.Str.ofString "") (z :: r)).cps.toList := h
    rcases app_mem h2 with h3 | h3
    · rcases app_mem h3 with h4 | h4
      · exact hy y (by simp) c h4
      · have h5 : c ∈ ([] : List Nat) := by
          rw [show (PySem.Str.ofString "").cps.toList = [] by decide +kernel] at h4
          exact h4
        cases h5
    · exact join_mem (z :: r) (fun x hx => hy x (List.mem_cons_of_mem _ hx)) c h3
theorem ok_of_mem {z : Str} (h : ∀ c ∈ z.cps.toList, c < 0x110000) : PyData.strOk z = true := by
  show z.cps.all (fun c => decide (c < 0x110000)) = true
  rw [Array.all_eq_true_iff_forall_mem]
  intro c hc
  exact decide_eq_true (h c (Array.mem_toList_iff.mpr hc))
theorem small_ok : ∀ c ∈ SMALLs.cps.toList, c < 0x110000 := by decide +kernel
theorem cut_mem {z : Str} {lo hi : Option Int} {c : Nat} (h : c ∈ (cutS z lo hi).cps.toList) : c ∈ z.cps.toList := by
  have h2 : c ∈ (z.cps.toList.drop (HT.sIx z.length 0 lo)).take (HT.sIx z.length z.length hi - HT.sIx z.length 0 lo) := h
  exact List.mem_of_mem_drop (List.mem_of_mem_take h2)
theorem at_mem {z : Str} {i : Int} {c : Nat} (h : atI z.cps.toList i = some c) : c ∈ z.cps.toList := by
  obtain ⟨j, _, h2, _⟩ := atI_get h
  exact List.mem_of_getElem? h2
theorem join_len : ∀ ys : List Str, (∀ y ∈ ys, y.length = 1) → (Str.join (PySem.Str.ofString "") ys).length = ys.length
  | [], _ => rfl
  | [y], h => by
    show y.length = 1
    exact h y (by simp)
  | y :: z :: r, h => by
    show ((y ++ PySem.Str.ofString "") ++ Str.join (PySem.Str.ofString "") (z :: r)).length = _
    rw [app_len, app_len, join_len (z :: r) (fun x hx => h x (List.mem_cons_of_mem _ hx)), h y (by simp), s0]
    show 1 + 0 + (z :: r).length = (z :: r).length + 1
    omega
theorem sum_ones : ∀ ys : List Str, (∀ y ∈ ys, y.length = 1) → (ys.map (·.length)).sum = ys.length
  | [], _ => rfl
  | y :: r, h => by
    rw [List.map_cons, List.sum_cons, sum_ones r (fun x hx => h x (List.mem_cons_of_mem _ hx)), h y (by simp), List.length_cons]
    omega
theorem ok_Lname (T : Top w K mg) : FnOk P w K mg base CX0 2 T.a_Lname T.fd_Lname ["_law_pool_here"] (spText 1 8) := by
  have G_Ltake := ok_Ltake (P := P) (w := w) (base := base) T
  refine T.F_Lname.ok sc_Lname (fun vs H Q E h => ?_) (fun cdv A outer s H vs Q E hr h => ?_)
  · obtain ⟨p, rfl, _⟩ := h
    rfl
  · obtain ⟨p, rfl, hp, q⟩ := h
    refine ⟨_, (pss_cons (ps_set (i := 1) sc_Lname.nd rfl (.inr rfl) pe_str)
      (pss_one (ps_ret (pe_bm PySem.F.plainAttrs_str PySem.F.slot_str_join PySem.F.type_str_join mt_join pe_str (pa_cons (pe_lc (own := [("_law_k", 2)]) (g := gName 2) (by rfl) sc_Lname.nd (pi_range1 (by rfl) T.m_range (pa_cons (pe_op op_add pe_int (pe_call G_Ltake hr (by rfl) T.g_Ltake T.F_Ltake.kp T.b_Ltake .nil pass0 (pa_cons (pv 0) (pa_cons pe_int pa_nil)))) pa_nil)) (blkOk_by (own := [("_law_k", 2)]) (N := ["_law_pool_here", "_law_letters", "_law_k"]) (sc := defScope s_Lname) (by decide +kernel)) (fun _ _ _ _ _ => (pg_name (i := 2) sc_Lname.nd rfl (Or.inl rfl))) (fun _ _ _ _ _ => pts_nil) (fun _ _ _ _ _ => (pe_ix ix_str (pv 1) (pe_call G_Ltake hr (by rfl) T.g_Ltake T.F_Ltake.kp T.b_Ltake .nil pass0 (pa_cons (pv 0) (pa_cons pe_int pa_nil))) (fun _ _ => rfl)))) pa_nil))))), ?_⟩
    refine ⟨rfl, .ref p, rfl, p, 8, rfl, by decide, by decide, hp, fun H1 r b1 hp1 r0 r1 => ?_⟩
    have l26 : SMALLs.length = 26 := by decide +kernel
    refine ⟨_, _, rfl, rfl, 1 + r, rfl, by omega, by omega, fun D hD => lc_range (lo := 0) (n := (1 + r).toNat) (fun i H' => Pool H' p ∧ But p H H' ∧ ∃ ys : List Str, ys.length = i ∧ (∀ y ∈ ys, y.length = 1) ∧ (∀ y ∈ ys, ∀ c ∈ y.cps.toList, c ∈ SMALLs.cps.toList) ∧ H' D = some (.lst (ys.map V.str))) ⟨hp1.upd (hp1.ne_new hD), b1.mut (b1.free (hp1.ne_new hD) hD), [], rfl, (fun _ h => nomatch h), (fun _ h => nomatch h), upd_same⟩ ?_ ?_⟩
    · rintro i H2 hi ⟨hp2, b2, ys, hl, h1, hm, eD⟩
      have nD : D ≠ p := hp1.ne_new hD
      refine ⟨rfl, ?_⟩
      refine ⟨_, rfl, .ref p, rfl, p, 26, rfl, by decide, by decide, hp2, fun H3 k b3 hp3 k0 k1 => ?_⟩
      obtain ⟨c, hc⟩ := str_at (z := SMALLs) k0 (by rw [l26]; omega)
      refine ⟨_, k, c, rfl, rfl, by decide +kernel, hc, _, b3 _ _ nD eD, ?_, hp3.upd nD, (b2.trans b3).mut (b1.free nD hD), ys ++ [⟨#[c]⟩], ?_, ?_, ?_, ?_⟩
      · rw [List.length_map]
        exact small1000 (by omega)
      · rw [List.length_append, hl]
        rfl
      · intro y hy
        rcases List.mem_append.mp hy with h | h
        · exact h1 y h
        · rw [List.mem_singleton.mp h]
          rfl
      · intro y hy c2 hc2
        rcases List.mem_append.mp hy with h | h
        · exact hm y h c2 hc2
        · rw [List.mem_singleton.mp h] at hc2
          have h3 : c2 ∈ [c] := hc2
          rw [List.mem_singleton.mp h3]
          exact at_mem hc
      · rw [upd_same, List.map_append]
        rfl
    · rintro H2 ⟨hp2, b2, ys, hl, h1, hm, eD⟩
      have e := join_len ys h1
      refine ⟨_, D, ys, rfl, rfl, .inl (.inl (.inl eD)), ?_, ?_⟩
      · rw [sum_ones ys h1, s0]
        show ys.length + ys.length * 0 ≤ 16777216
        omega
      · rw [TL.join_eq]
        exact q H2 _ b2 hp2 (by omega) (by omega) (join_mem ys hm)
theorem up_ok : ∀ c ∈ SMALLs.cps.toList, ∀ c2 ∈ (Txt.upper ⟨#[c]⟩).cps.toList, c2 < 0x110000 := by decide +kernel
def spSign : Sp := fun vs H Q _ => ∃ (p : Addr) (b : Bool), vs = [.ref p, .bl b] ∧ Pool H p ∧ ∀ H' (z : Str), But p H H' → Pool H' p → z.length ≤ 12 → PyData.strOk z = true → Q (.str z) H'
theorem ok_Lsign (T : Top w K mg) : FnOk P w K mg base CX0 3 T.a_Lsign T.fd_Lsign ["_law_pool_here", "_law_lone"] spSign := by
  have G_Lname := ok_Lname (P := P) (w := w) (base := base) T
  refine T.F_Lsign.ok sc_Lsign (fun vs H Q E h => ?_) (fun cdv A outer s H vs Q E hr h => ?_)
  · obtain ⟨p, b, rfl, _⟩ := h
    rfl
  · obtain ⟨p, b, rfl, hp, q⟩ := h
    refine ⟨_, (pss_cons (ps_set (i := 2) sc_Lsign.nd rfl (.inl rfl) (pe_call G_Lname hr (by rfl) T.g_Lname T.F_Lname.kp T.b_Lname .nil pass0 (pa_cons (pv 0) pa_nil)))
      (pss_cons (ps_if (pt_val (pv 1)) (pss_one (ps_ret (pe_op op_add_str (pe_bm0 PySem.F.plainAttrs_str PySem.F.slot_str_upper PySem.F.type_str_upper mt_upper (pe_ix ix_str (pv 2) pe_int (fun _ _ => rfl))) (pe_slice sl_str (pv 2) (po_some pe_int) po_none)))) pss_nil)
      (pss_one (ps_ret (pv 2))))), ?_⟩
    refine ⟨.ref p, rfl, p, rfl, hp, fun H1 z b1 hp1 z0 z1 zm => ?_⟩
    refine ⟨.bl b, rfl, b, rfl, ite2 (fun e => ?_) (fun e => ?_)⟩
    · obtain ⟨c, hc⟩ := str_at (z := z) (i := 0) (by decide) (by omega)
      have hu := PyProof.Rows.len_upper (⟨#[c]⟩ : Str)
      have hu1 : (⟨#[c]⟩ : Str).length = 1 := rfl
      have hcut := cut_len z (some 1) none
      refine ⟨.str z, rfl, z, 0, c, rfl, rfl, thou (by omega), hc, rfl, _, rfl, rfl, (by rw [hu1]; decide), .str z, rfl, 1, rfl, z, rfl, thou (by omega), _, _, rfl, rfl, thou (by omega), ?_⟩
      exact q H1 _ b1 hp1 (by rw [app_len]; omega) (ok_of_mem fun c2 h2 => by
        rcases app_mem h2 with h3 | h3
        · exact up_ok c (zm c (at_mem hc)) c2 h3
        · exact small_ok c2 (zm c2 (cut_mem h3)))
    · exact ⟨.str z, rfl, q H1 z b1 hp1 (by omega) (ok_of_mem fun c2 h2 => small_ok c2 (zm c2 h2))⟩
--@@SPLIT
/-! ### an entry drawn -/
/-- places that are left out of sight: the spring is one, all of them are known -/
def HX (p : Addr) (X : Addr → Prop) (H : Hp) : Prop := X p ∧ ∀ b, X b → H b ≠ none
theorem HX.same {p : Addr} {X : Addr → Prop} {H H' : Hp} (x : HX p X H) (e : Same H H') : HX p X H' := ⟨x.1, fun b h => by
  cases o : H b with
  | none => exact absurd o (x.2 b h)
  | some o' => rw [e b o' o]; exact fun z => nomatch z⟩
theorem Pool.known {H : Hp} {p : Addr} (h : Pool H p) : H p ≠ none := by
  obtain ⟨l, c, k, n, h0, h1⟩ := h
  rw [h1]
  exact fun z => nomatch z
theorem HX.but {p : Addr} {X : Addr → Prop} {H H' : Hp} (x : HX p X H) (e : But p H H') (hp : Pool H' p) : HX p X H' := ⟨x.1, fun b h => by
  by_cases eb : b = p
  · rw [eb]
    exact hp.known
  · cases o : H b with
    | none => exact absurd o (x.2 b h)
    | some o' => rw [e b o' eb o]; exact fun z => nomatch z⟩
theorem HX.fresh {p t : Addr} {X : Addr → Prop} {H : Hp} (x : HX p X H) (n : H t = none) : ¬ X t := fun z => x.2 t z n
theorem But.wo {p : Addr} {X : Addr → Prop} {H H' : Hp} (xp : X p) (e : But p H H') : Same (M.wo H X) (M.wo H' X) := fun b o h => by
  have h2 := wo_some h
  rw [wo_in (X := X) h2.1]
  exact e _ _ (fun z => h2.1 (z ▸ xp)) h2.2
theorem tupW {K : PySem.W.Frag} {H : Hp} {p t : Addr} {X : Addr → Prop} {vs : List V} {ds : List PyData} (x : HX p X H) (nt : H t = none) (h : DpAll K (wo H X) vs ds) : Dp K (wo (upd H t (.tup vs)) X) (.ref t) (.tuple ds) :=
  .tup (.inl (.inl ((wo_in (X := X) (x.fresh nt)).trans upd_same))) (dpa_same ((But.of (same_upd nt)).wo x.1) ds vs h)
theorem lstW {K : PySem.W.Frag} {H : Hp} {p t : Addr} {X : Addr → Prop} {vs : List V} {ds : List PyData} (x : HX p X H) (nt : H t = none) (h : DpAll K (wo H X) vs ds) : Dp K (wo (upd H t (.lst vs)) X) (.ref t) (.list ds) :=
  .lst (.inl (.inl ((wo_in (X := X) (x.fresh nt)).trans upd_same))) (dpa_same ((But.of (same_upd nt)).wo x.1) ds vs h)
theorem nesw_lt {r : Int} (h0 : 0 ≤ r) (h1 : r < 4) : ∃ l : Fin 4, atI (PySem.Str.ofString "nesw").cps.toList r = some (cd l) := by
  obtain rfl | rfl | rfl | rfl : r = 0 ∨ r = 1 ∨ r = 2 ∨ r = 3 := by omega
  · exact ⟨0, by decide +kernel⟩
  · exact ⟨1, by decide +kernel⟩
  · exact ⟨2, by decide +kernel⟩
  · exact ⟨3, by decide +kernel⟩
theorem nine {r : Int} (h0 : 0 ≤ r) (h1 : r < 9) : ∃ n : Fin 9, 1 + r = ((n.val : Nat) : Int) + 1 := ⟨⟨r.toNat, by omega⟩, by show 1 + r = ((r.toNat : Nat) : Int) + 1; omega⟩
def spAnyEntry (K : PySem.W.Frag) : Sp := fun vs H Q _ => ∃ (p : Addr) (b : Bool) (X : Addr → Prop), vs = [.ref p, .bl b] ∧ Pool H p ∧ HX p X H ∧ ∀ H' t e, But p H H' → Pool H' p → Dp K (wo H' X) (.ref t) (Ent.tup e) → e.ok → (e.need = true → b = true) → Q (.ref t) H'
theorem ok_Lany_entry (T : Top w K mg) : FnOk P w K mg base CX0 4 T.a_Lany_entry T.fd_Lany_entry ["_law_pool_here", "_law_looks"] (spAnyEntry K) := by
  have G_Ltake := ok_Ltake (P := P) (w := w) (base := base) T
  have G_Lsign := ok_Lsign (P := P) (w := w) (base := base) T
  refine T.F_Lany_entry.ok sc_Lany_entry (fun vs H Q E h => ?_) (fun cdv A outer s H vs Q E hr h => ?_)
  · obtain ⟨p, b, X, rfl, _⟩ := h
    rfl
  · obtain ⟨p, b, X, rfl, hp, x, q⟩ := h
    refine ⟨_, (pss_cons (ps_set (i := 2) sc_Lany_entry.nd rfl (.inl rfl) (pe_call G_Ltake (hr.mono (by decide)) (by rfl) T.g_Ltake T.F_Ltake.kp T.b_Ltake .nil pass0 (pa_cons (pv 0) (pa_cons pe_int pa_nil))))
      (pss_cons (ps_set (i := 3) sc_Lany_entry.nd rfl (.inl rfl) (pe_call G_Lsign hr (by rfl) T.g_Lsign T.F_Lsign.kp T.b_Lsign .nil pass0 (pa_cons (pv 0) (pa_cons (pe_cmpR op_eq (pe_call G_Ltake (hr.mono (by decide)) (by rfl) T.g_Ltake T.F_Ltake.kp T.b_Ltake .nil pass0 (pa_cons (pv 0) (pa_cons pe_int pa_nil))) pe_int (nomark _)) pa_nil))))
      (Evl.pss_cut (ps_if (PW.pt (pw_and (pt_not (pt_val (pv 1))) (pw_and1 (pt_cmpR op_gt (pv 2) pe_int (nomark _))))) (pss_one (ps_set (i := 2) sc_Lany_entry.nd rfl (.inl rfl) (pe_op op_mod (pv 2) pe_int))) pss_nil)
      (pss_cons (ps_if (PW.pt (pw_or (pt_cmpR op_eq (pv 2) pe_int (nomark _)) (pw_or1 (pt_cmpR op_gt (pv 2) pe_int (nomark _))))) (pss_one (ps_ret (pe_tup (pa_cons pe_str (pa_cons (pe_ix ix_str pe_str (pe_call G_Ltake (hr.mono (by decide)) (by rfl) T.g_Ltake T.F_Ltake.kp T.b_Ltake .nil pass0 (pa_cons (pv 0) (pa_cons pe_int pa_nil))) (fun _ _ => rfl)) pa_nil))))) pss_nil)
      (pss_cons (ps_if (pt_cmpR op_lt (pv 2) pe_int (nomark _)) (pss_one (ps_ret (pe_ix ix_tup (pe_tup (pa_cons (pe_tup (pa_cons pe_str (pa_cons (pv 3) pa_nil))) (pa_cons (pe_tup (pa_cons pe_str pa_nil)) (pa_cons (pe_tup (pa_cons pe_str pa_nil)) pa_nil)))) (pe_op op_sub (pv 2) pe_int) (fun _ _ => rfl)))) pss_nil)
      (pss_cons (ps_if (pt_cmpR op_eq (pv 2) pe_int (nomark _)) (pss_one (ps_ret (pe_ix ix_tup (pe_tup (pa_cons (pe_tup (pa_cons pe_str pa_nil)) (pa_cons (pe_tup (pa_cons pe_str pa_nil)) (pa_cons (pe_tup (pa_cons pe_str pa_nil)) pa_nil)))) (pe_call G_Ltake (hr.mono (by decide)) (by rfl) T.g_Ltake T.F_Ltake.kp T.b_Ltake .nil pass0 (pa_cons (pv 0) (pa_cons pe_int pa_nil))) (fun _ _ => rfl)))) pss_nil)
      (pss_cons (ps_if (pt_cmpR op_eq (pv 2) pe_int (nomark _)) (pss_one (ps_ret (pe_tup (pa_cons pe_str pa_nil)))) pss_nil)
      (pss_cons (ps_if (pt_cmpR op_eq (pv 2) pe_int (nomark _)) (pss_one (ps_ret (pe_tup (pa_cons pe_str (pa_cons (pe_op op_add pe_int (pe_call G_Ltake (hr.mono (by decide)) (by rfl) T.g_Ltake T.F_Ltake.kp T.b_Ltake .nil pass0 (pa_cons (pv 0) (pa_cons pe_int pa_nil)))) (pa_cons (pv 3) pa_nil)))))) pss_nil)
      (pss_one (ps_ret (pe_tup (pa_cons pe_str (pa_cons (pe_op op_add pe_int (pe_call G_Ltake (hr.mono (by decide)) (by rfl) T.g_Ltake T.F_Ltake.kp T.b_Ltake .nil pass0 (pa_cons (pv 0) (pa_cons pe_int pa_nil)))) pa_nil))))))))))))), ?_⟩
    refine ⟨.ref p, rfl, p, 12, rfl, by decide, by decide, hp, fun H1 k b1 hp1 k0 k1 => ?_⟩
    refine ⟨.ref p, rfl, .ref p, rfl, p, 2, rfl, by decide, by decide, hp1, fun H2 j b2 hp2 _ _ => ?_⟩
    refine ⟨rfl, p, _, rfl, hp2, fun H3 z b3 hp3 hz hk => ?_⟩
    have bt := (b1.trans b2).trans b3
    have x3 := x.but bt hp3
    refine ⟨fun σ H' => H3 = H' ∧ ∃ k : Int, 0 ≤ k ∧ k ≤ 11 ∧ (3 < k → b = true) ∧ σ = [some (.ref p), some (.bl b), some (.int k), some (.str z)], ?_, ?_⟩
    · refine ⟨.bl b, rfl, b, rfl, ?_⟩
      cases b with
      | true => exact ite2 (fun z => nomatch z) (fun _ => ⟨rfl, k, k0, by omega, fun _ => rfl, rfl⟩)
      | false =>
        refine iteT ⟨.int k, rfl, _, _, rfl, rfl, _, rfl, ite2 (fun e => ?_) (fun e => ?_)⟩
        · have := Int.emod_lt_of_pos k (show (0 : Int) < 4 by decide)
          exact ⟨.int k, rfl, _, _, rfl, rfl, (by show (0 : Int) < 4; decide), rfl, k % 4, Int.emod_nonneg k (by decide), by omega, fun z => by omega, rfl⟩
        · have : ¬ 3 < k := fun z => e (decide_eq_true z)
          exact ⟨rfl, k, k0, by omega, fun z => absurd z this, rfl⟩
    rintro σ H4 ⟨rfl, k, k0, k1, kb, rfl⟩
    have face : ∀ H5 (r : Int), But p H3 H5 → Pool H5 p → 0 ≤ r → r < 4 → ∃ c, atI (PySem.Str.ofString "nesw").cps.toList r = some c ∧ ∀ t, H5 t = none → Q (.ref t) (upd H5 t (.tup [.str "face", .str ⟨#[c]⟩])) := fun H5 r b5 hp5 r0 r1 => by
      obtain ⟨l, hc⟩ := nesw_lt r0 r1
      exact ⟨cd l, hc, fun t nt => q _ t (.face l) ((bt.trans b5).trans (But.of (same_upd nt))) (hp5.upd (hp5.ne_new nt)) (tupW (x.but (bt.trans b5) hp5) nt (.cons (.str _) (.cons (.str _) .nil))) trivial (fun z => nomatch z)⟩
    refine ⟨.int k, rfl, rfl, _, rfl, ite2 (fun e => ?_) (fun e => ?_)⟩
    · refine iteT ⟨.ref p, rfl, p, 4, rfl, by decide, by decide, hp3, fun H5 r b5 hp5 r0 r1 => ?_⟩
      obtain ⟨c, hc, qq⟩ := face H5 r b5 hp5 r0 r1
      exact ⟨_, r, c, rfl, rfl, by decide +kernel, hc, by show 2 ≤ sizeLine; decide, qq⟩
    refine ⟨.int k, rfl, _, _, rfl, rfl, _, rfl, ite2 (fun e2 => ?_) (fun e2 => ?_)⟩
    · refine ⟨.ref p, rfl, p, 4, rfl, by decide, by decide, hp3, fun H5 r b5 hp5 r0 r1 => ?_⟩
      obtain ⟨c, hc, qq⟩ := face H5 r b5 hp5 r0 r1
      exact ⟨_, r, c, rfl, rfl, by decide +kernel, hc, by show 2 ≤ sizeLine; decide, qq⟩
    have kn : k ≠ 0 := fun z => e (by rw [z]; exact decide_eq_true rfl)
    refine ⟨.int k, rfl, _, _, rfl, rfl, _, rfl, ite2 (fun e3 => ?_) (fun e3 => ?_)⟩
    · have k4 : k < 4 := of_decide_eq_true e3
      refine ⟨.str z, rfl, by show 2 ≤ sizeLine; decide, fun m1 n1 => ⟨by show 1 ≤ sizeLine; decide, fun m2 n2 => ⟨by show 1 ≤ sizeLine; decide, fun m3 n3 => ⟨by show 3 ≤ sizeLine; decide, fun t nt => ?_⟩⟩⟩⟩
      have s1 := same_upd (o := .tup [.str "sign", .str z]) n1
      have s2 := same_upd (o := .tup [.str "bare"]) n2
      have s3 := same_upd (o := .tup [.str "swap"]) n3
      have s4 := same_upd (o := .tup [.ref m1, .ref m2, .ref m3]) nt
      have d1 := tupW (K := K) (vs := [.str "sign", .str z]) (ds := [.str "sign", .str z]) x3 n1 (.cons (.str _) (.cons (.str _) .nil))
      have p1 := hp3.same s1
      have d2 := tupW (K := K) (vs := [.str "bare"]) (ds := [.str "bare"]) (x3.same s1) n2 (.cons (.str _) .nil)
      have p2 := p1.same s2
      have d3 := tupW (K := K) (vs := [.str "swap"]) (ds := [.str "swap"]) ((x3.same s1).same s2) n3 (.cons (.str _) .nil)
      have p3 := p2.same s3
      have p4 := p3.same s4
      have bz := bt.trans (But.of (((s1.trans s2).trans s3).trans s4))
      obtain rfl | rfl | rfl : k = 1 ∨ k = 2 ∨ k = 3 := by omega
      · exact ⟨_, rfl, _, _, rfl, rfl, t, _, 0, _, rfl, rfl, .inl (.inl upd_same), rfl, q _ m1 (.sign z) bz p4 (dp_same ((But.of ((s2.trans s3).trans s4)).wo x.1) _ _ d1) ⟨hz, hk⟩ (fun z => nomatch z)⟩
      · exact ⟨_, rfl, _, _, rfl, rfl, t, _, 1, _, rfl, rfl, .inl (.inl upd_same), rfl, q _ m2 .bare bz p4 (dp_same ((But.of (s3.trans s4)).wo x.1) _ _ d2) trivial (fun z => nomatch z)⟩
      · exact ⟨_, rfl, _, _, rfl, rfl, t, _, 2, _, rfl, rfl, .inl (.inl upd_same), rfl, q _ m3 .swap bz p4 (dp_same ((But.of s4).wo x.1) _ _ d3) trivial (fun z => nomatch z)⟩
    have kb := kb (by have : ¬ k < 4 := fun z => e3 (decide_eq_true z)
                      omega)
    refine ⟨.int k, rfl, rfl, _, rfl, ite2 (fun e4 => ?_) (fun e4 => ?_)⟩
    · refine ⟨by show 1 ≤ sizeLine; decide, fun m1 n1 => ⟨by show 1 ≤ sizeLine; decide, fun m2 n2 => ⟨by show 1 ≤ sizeLine; decide, fun m3 n3 => ⟨by show 3 ≤ sizeLine; decide, fun t nt => ?_⟩⟩⟩⟩
      have s1 := same_upd (o := .tup [.str "left"]) n1
      have s2 := same_upd (o := .tup [.str "right"]) n2
      have s3 := same_upd (o := .tup [.str "back"]) n3
      have s4 := same_upd (o := .tup [.ref m1, .ref m2, .ref m3]) nt
      have d1 := tupW (K := K) (vs := [.str "left"]) (ds := [.str "left"]) x3 n1 (.cons (.str _) .nil)
      have p1 := hp3.same s1
      have d2 := tupW (K := K) (vs := [.str "right"]) (ds := [.str "right"]) (x3.same s1) n2 (.cons (.str _) .nil)
      have p2 := p1.same s2
      have d3 := tupW (K := K) (vs := [.str "back"]) (ds := [.str "back"]) ((x3.same s1).same s2) n3 (.cons (.str _) .nil)
      have p3 := p2.same s3
      have p4 := p3.same s4
      refine ⟨.ref p, rfl, p, 3, rfl, by decide, by decide, p4, fun H5 r b5 hp5 r0 r1 => ?_⟩
      have et := b5 _ _ (p3.ne_new nt) upd_same
      have bz := (bt.trans (But.of (((s1.trans s2).trans s3).trans s4))).trans b5
      obtain rfl | rfl | rfl : r = 0 ∨ r = 1 ∨ r = 2 := by omega
      · exact ⟨t, _, 0, _, rfl, rfl, .inl (.inl et), rfl, q _ m1 (.turn 0) bz hp5 (dp_same (((But.of ((s2.trans s3).trans s4)).trans b5).wo x.1) _ _ d1) trivial (fun _ => kb)⟩
      · exact ⟨t, _, 1, _, rfl, rfl, .inl (.inl et), rfl, q _ m2 (.turn 1) bz hp5 (dp_same (((But.of (s3.trans s4)).trans b5).wo x.1) _ _ d2) trivial (fun _ => kb)⟩
      · exact ⟨t, _, 2, _, rfl, rfl, .inl (.inl et), rfl, q _ m3 (.turn 2) bz hp5 (dp_same (((But.of s4).trans b5).wo x.1) _ _ d3) trivial (fun _ => kb)⟩
    refine ⟨.int k, rfl, rfl, _, rfl, ite2 (fun e5 => ?_) (fun e5 => ?_)⟩
    · exact ⟨by show 1 ≤ sizeLine; decide, fun t nt => q _ t .bump (bt.trans (But.of (same_upd nt))) (hp3.upd (hp3.ne_new nt)) (tupW x3 nt (.cons (.str _) .nil)) trivial (fun _ => kb)⟩
    refine ⟨.int k, rfl, rfl, _, rfl, ite2 (fun e6 => ?_) (fun e6 => ?_)⟩
    · refine ⟨.ref p, rfl, p, 9, rfl, by decide, by decide, hp3, fun H5 r b5 hp5 r0 r1 => ⟨_, _, rfl, rfl, .str z, rfl, by show 3 ≤ sizeLine; decide, fun t nt => ?_⟩⟩
      obtain ⟨n, hn⟩ := nine r0 r1
      have ed : Ent.tup (.spy n z) = .tuple [.str "spy", .int (1 + r), .str z] := by rw [hn]; rfl
      exact q _ t (.spy n z) ((bt.trans b5).trans (But.of (same_upd nt))) (hp5.upd (hp5.ne_new nt)) (by rw [ed]; exact tupW (x.but (bt.trans b5) hp5) nt (.cons (.str _) (.cons (.int _) (.cons (.str _) .nil)))) ⟨hz, hk⟩ (fun _ => kb)
    refine ⟨.ref p, rfl, p, 9, rfl, by decide, by decide, hp3, fun H5 r b5 hp5 r0 r1 => ⟨_, _, rfl, rfl, by show 2 ≤ sizeLine; decide, fun t nt => ?_⟩⟩
    obtain ⟨n, hn⟩ := nine r0 r1
    have ed : Ent.tup (.go n) = .tuple [.str "go", .int (1 + r)] := by rw [hn]; rfl
    exact q _ t (.go n) ((bt.trans b5).trans (But.of (same_upd nt))) (hp5.upd (hp5.ne_new nt)) (by rw [ed]; exact tupW (x.but (bt.trans b5) hp5) nt (.cons (.str _) (.cons (.int _) .nil))) trivial (fun _ => kb)
--@@SPLIT
/-! ### a log drawn -/
theorem dpa_len2 {K : PySem.W.Frag} {H : Hp} {ds : List PyData} {vs : List V} (h : DpAll K H vs ds) : vs.length = ds.length := dpa_len ds vs h
theorem tup_at {K : PySem.W.Frag} {H : Hp} {t : Addr} {e : Ent} (h : Dp K H (.ref t) (Ent.tup e)) : ∃ xs, SqT K H t (.str (ws e.kind) :: xs) ∧ DpAll K H xs e.rest := by
  cases h with
  | @tup _ ys _ hs ha =>
    cases ha with
    | cons h1 h2 =>
      cases h1
      exact ⟨_, hs, h2⟩
theorem HX.or {p D : Addr} {X : Addr → Prop} {H : Hp} (x : HX p X H) (h : H D ≠ none) : HX p (fun b => X b ∨ b = D) H := ⟨.inl x.1, fun c z => z.elim (x.2 c) (fun e => by rw [e]; exact h)⟩
theorem some_ne {H : Hp} {b : Addr} {o : HO} (h : H b = some o) : H b ≠ none := by rw [h]; exact fun z => nomatch z
theorem wo_less {H : Hp} {X Y : Addr → Prop} (h : ∀ b, X b → Y b) : Same (wo H Y) (wo H X) := fun c o z => by
  have h2 := wo_some z
  rw [wo_in (X := X) (fun z => h2.1 (h c z))]
  exact h2.2
theorem wo_mut {H : Hp} {X : Addr → Prop} {D : Addr} {o : HO} (h : X D) : Same (wo H X) (wo (upd H D o) X) := fun c u z => by
  have h2 := wo_some z
  rw [wo_in (X := X) h2.1, upd_ne (fun z : c = D => h2.1 (by rw [z]; exact h))]
  exact h2.2
def spAnyLog (K : PySem.W.Frag) : Sp := fun vs H Q _ => ∃ (p : Addr) (m s : Int) (X : Addr → Prop), vs = [.ref p, .int m, .int s] ∧ 0 ≤ m ∧ m ≤ 100 ∧ Pool H p ∧ HX p X H ∧ ∀ H' t xs es, But p H H' → Pool H' p → H t = none → SqT K (wo H' X) t xs → DpAll K (wo H' X) xs (es.map Ent.tup) → (es.length : Int) = m → (∀ e ∈ es, e.ok) → Right es → ((swaps es : Int) ≤ s ∨ s < 0) → Q (.ref t) H'
theorem ok_Lany_log (T : Top w K mg) : FnOk P w K mg base CX0 5 T.a_Lany_log T.fd_Lany_log ["_law_pool_here", "_law_many", "_law_swaps"] (spAnyLog K) := by
  have G_Lany_entry := ok_Lany_entry (P := P) (w := w) (base := base) T
  refine T.F_Lany_log.ok sc_Lany_log (fun vs H Q E h => ?_) (fun cdv A outer s H vs Q E hr h => ?_)
  · obtain ⟨p, m, s, X, rfl, _⟩ := h
    rfl
  · obtain ⟨p, m, sw, X, rfl, m0, m1, hp, x, q⟩ := h
    refine ⟨_, (pss_cons (ps_set (i := 3) sc_Lany_log.nd rfl (.inl rfl) (pe_lst pa_nil))
      (pss_cons (ps_set (i := 4) sc_Lany_log.nd rfl (.inl rfl) pe_bl)
      (pss_cons (ps_set (i := 5) sc_Lany_log.nd rfl (.inl rfl) (pv 2))
      (pss_cons (ps_for PassesOwn.never rfl (pi_range1 (by rfl) T.m_range (pa_cons (pv 1) pa_nil)) (pg_name (i := 6) sc_Lany_log.nd rfl (.inl rfl)) (pss_cons (ps_set (i := 7) sc_Lany_log.nd rfl (.inl rfl) (pe_call G_Lany_entry hr (by rfl) T.g_Lany_entry T.F_Lany_entry.kp T.b_Lany_entry .nil pass0 (pa_cons (pv 0) (pa_cons (pv 4) pa_nil))))
      (Evl.pss_cut (ps_if (PW.pt (pw_and (pt_cmpR op_eq (pe_ix ix_tup (pv 7) pe_int (fun _ _ => rfl)) pe_str (nomark _)) (pw_and1 (pt_cmpR op_eq (pv 5) pe_int (nomark _))))) (pss_one (ps_set (i := 7) sc_Lany_log.nd rfl (.inl rfl) (pe_tup (pa_cons pe_str pa_nil)))) pss_nil)
      (Evl.pss_cut (ps_set (i := 5) sc_Lany_log.nd rfl (.inl rfl) (pe_op op_sub (pv 5) (pe_callTy call_int1 (by rfl) T.m_int (by decide +kernel) (pa_cons (pe_cmpR op_eq (pe_ix ix_tup (pv 7) pe_int (fun _ _ => rfl)) pe_str (nomark _)) pa_nil))))
      (Evl.pss_cut (ps_set (i := 4) sc_Lany_log.nd rfl (.inl rfl) (pe_or (pv 4) (pe_one (pe_cmpR op_eq (pe_ix ix_tup (pv 7) pe_int (fun _ _ => rfl)) pe_str (nomark _)))))
      (pss_one (ps_expr (pe_bm PySem.F.plainAttrs_list PySem.F.slot_list_append PySem.F.type_list_append mt_append (pv 3) (pa_cons (pv 7) pa_nil)))))))))
      (pss_one (ps_ret (pe_callTy call_tuple_of (by rfl) T.m_tuple (by decide +kernel) (pa_cons (pv 3) pa_nil)))))))), ?_⟩
    refine ⟨Nat.zero_le _, fun L nL => ?_⟩
    have nLp : L ≠ p := hp.ne_new nL
    have s0 := same_upd (o := .lst []) nL
    obtain ⟨n, rfl⟩ : ∃ n : Nat, m = n := ⟨m.toNat, by omega⟩
    refine ⟨_, rfl, .int n, rfl, n, rfl, by omega, by omega, for_range (n := n) (fun i σ H' => But p H H' ∧ Pool H' p ∧ ∃ (l : Int) (y6 y7 : Option V) (ys : List V) (es : List Ent), σ = [some (.ref p), some (.int n), some (.int sw), some (.ref L), some (.bl (es.any Ent.isFace)), some (.int l), y6, y7] ∧ H' L = some (.lst ys) ∧ es.length = i ∧ DpAll K (wo H' (fun b => X b ∨ b = L)) ys (es.map Ent.tup) ∧ (∀ e ∈ es, e.ok) ∧ Right es ∧ l = sw - swaps es ∧ (0 ≤ l ∨ sw < 0))
      ⟨But.of s0, hp.same s0, sw, none, none, [], [], rfl, upd_same, rfl, .nil, (fun d h => nomatch h), Right.nil, by show sw = sw - ((0 : Nat) : Int); omega, by omega⟩ ?_ ?_⟩
    · rintro i σ H1 hi ⟨b1, hp1, l, y6, y7, ys, es, rfl, eL, hl, ha, hg, hR, hl1, hl2⟩
      have x1 : HX p (fun b => X b ∨ b = L) H1 := (x.but b1 hp1).or (some_ne eL)
      refine ⟨.ref p, rfl, .bl _, rfl, p, _, _, rfl, hp1, x1, fun H2 t e b2 hp2 hd gd hn => ?_⟩
      have eL2 := b2 _ _ nLp eL
      have x2 := x1.but b2 hp2
      refine ⟨fun σ H' => Same H2 H' ∧ ∃ (y6 : Option V) (t : Addr) (e : Ent), σ = [some (.ref p), some (.int n), some (.int sw), some (.ref L), some (.bl (es.any Ent.isFace)), some (.int l), y6, some (.ref t)] ∧ Dp K (wo H' (fun b => X b ∨ b = L)) (.ref t) (Ent.tup e) ∧ e.ok ∧ (e.need = true → es.any Ent.isFace = true) ∧ (e.isSwap = true → l ≠ 0), ?_, ?_⟩
      · obtain ⟨us, hs, _⟩ := tup_at hd
        refine ⟨.ref t, rfl, t, _, 0, _, rfl, rfl, sqt_same wo_same hs, atI_nat (j := 0) rfl, rfl, _, rfl, ?_⟩
        have dw : decide (V.str (ws e.kind) = V.str (PySem.Str.ofString "swap")) = e.isSwap := (wsd e.kind 9).trans e.swap_iff.symm
        rw [dw]
        refine ite2 (fun e1 => ?_) (fun e1 => ?_)
        · refine ⟨.int l, rfl, rfl, _, rfl, ite2 (fun e2 => ?_) (fun e2 => ?_)⟩
          · exact ⟨by show 1 ≤ sizeLine; decide, fun t2 n2 => ⟨same_upd n2, _, t2, .bare, rfl, tupW x2 n2 (.cons (.str "bare") .nil), trivial, (fun z => nomatch z), fun z => nomatch z⟩⟩
          · exact ⟨Same.refl _, _, t, e, rfl, hd, gd, hn, fun _ z => e2 (by rw [z]; exact decide_eq_true rfl)⟩
        · exact ite2 (fun z => nomatch z) (fun _ => ⟨Same.refl _, _, t, e, rfl, hd, gd, hn, fun z => absurd z e1⟩)
      rintro σ H3 ⟨s3, y6, t, e, rfl, hd, gd, hn, hsw⟩
      obtain ⟨us, hs, _⟩ := tup_at hd
      have hs3 := sqt_same wo_same hs
      have dw : decide (V.str (ws e.kind) = V.str (PySem.Str.ofString "swap")) = e.isSwap := (wsd e.kind 9).trans e.swap_iff.symm
      have df : decide (V.str (ws e.kind) = V.str (PySem.Str.ofString "face")) = e.isFace := (wsd e.kind 0).trans e.face_iff.symm
      refine ⟨fun σ H' => H3 = H' ∧ σ = [some (.ref p), some (.int n), some (.int sw), some (.ref L), some (.bl (es.any Ent.isFace)), some (.int (l - (if e.isSwap = true then 1 else 0))), y6, some (.ref t)], ?_, ?_⟩
      · refine ⟨.int l, rfl, .ref t, rfl, t, _, 0, _, rfl, rfl, hs3, atI_nat (j := 0) rfl, rfl, .inr ⟨_, rfl, _, _, rfl, rfl, rfl, ?_⟩⟩
        show _ = _
        rw [dw]
        cases e.isSwap <;> rfl
      rintro σ H4 ⟨rfl, rfl⟩
      refine ⟨fun σ H' => H3 = H' ∧ σ = [some (.ref p), some (.int n), some (.int sw), some (.ref L), some (.bl ((es ++ [e]).any Ent.isFace)), some (.int (l - (if e.isSwap = true then 1 else 0))), y6, some (.ref t)], ?_, ?_⟩
      · have ea : (es ++ [e]).any Ent.isFace = (es.any Ent.isFace || e.isFace) := by
          rw [List.any_append]
          show (_ || (e.isFace || false)) = _
          rw [Bool.or_false]
        refine ⟨_, rfl, _, rfl, ?_⟩
        cases eb : es.any Ent.isFace with
        | true =>
          rw [ea, eb]
          exact iteT ⟨rfl, rfl⟩
        | false =>
          rw [ea, eb]
          refine iteF ⟨.ref t, rfl, t, _, 0, _, rfl, rfl, hs3, atI_nat (j := 0) rfl, rfl, rfl, ?_⟩
          show _ = _
          rw [df]
          rfl
      rintro σ H4 ⟨rfl, rfl⟩
      have eL3 := s3 _ _ eL2
      have lx := dpa_len2 ha
      rw [List.length_map] at lx
      refine ⟨.ref L, rfl, .inl ⟨rfl, _, .inl (.inl eL3)⟩, .ref t, rfl, L, ys, _, rfl, rfl, eL3, small1000 (by omega), ?_⟩
      have b3 := b2.trans (But.of s3)
      have m6 : Same (wo H3 (fun b => X b ∨ b = L)) (wo (upd H3 L (.lst (ys ++ [.ref t]))) (fun b => X b ∨ b = L)) := wo_mut (.inr rfl)
      refine ⟨(b1.trans b3).mut nL, (hp2.same s3).upd nLp, _, _, _, ys ++ [.ref t], es ++ [e], rfl, upd_same, ?_, ?_, ?_, hR.snoc hn, ?_, ?_⟩
      · rw [List.length_append, hl]
        rfl
      · rw [List.map_append]
        exact dpa_snoc (dp_same m6 _ _ hd) _ _ (dpa_same ((b3.wo (.inl x.1)).trans m6) _ _ ha)
      · intro d h
        rcases List.mem_append.mp h with h | h
        · exact hg d h
        · rw [List.mem_singleton.mp h]
          exact gd
      · rw [swaps_snoc]
        split <;> omega
      · cases es1 : e.isSwap with
        | false => rw [if_neg Bool.false_ne_true]; omega
        | true =>
          have := hsw es1
          rw [if_pos rfl]
          omega
    · rintro σ H1 ⟨b1, hp1, l, y6, y7, ys, es, rfl, eL, hl, ha, hg, hR, hl1, hl2⟩
      refine ⟨.ref L, rfl, L, ys, rfl, .inl ⟨.inl (.inl eL), fun r nr => ?_⟩⟩
      have x1 := x.but b1 hp1
      have sr := same_upd (o := .tup ys) nr
      have nr0 : H r = none := by
        cases e : H r with
        | none => rfl
        | some o =>
          by_cases z : r = p
          · rw [z] at nr
            exact absurd nr hp1.known
          · rw [b1 r o z e] at nr
            cases nr
      exact q _ r ys es (b1.trans (But.of sr)) (hp1.same sr) nr0 (.inl (.inl ((wo_in (X := X) (x1.fresh nr)).trans upd_same))) (dpa_same ((wo_less (fun b z => .inl z)).trans ((But.of sr).wo x.1)) _ _ ha) (by rw [hl]) hg hR (by omega)
--@@SPLIT
/-! ### handed in as lists or tuples; lots; legs -/
def lotV (a : Fin 8) : V := .int (a.val : Nat)
def spLots (K : PySem.W.Frag) : Sp := fun vs H Q _ => ∃ (p : Addr) (m : Nat), vs = [.ref p, .int m] ∧ m ≤ 200 ∧ Pool H p ∧ ∀ H' t (lots : List (Fin 8)), But p H H' → Pool H' p → H t = none → H' t = some (.tup (lots.map lotV)) → lots.length = m → Q (.ref t) H'
theorem eight {r : Int} (h0 : 0 ≤ r) (h1 : r < 8) : ∃ a : Fin 8, V.int r = lotV a := ⟨⟨r.toNat, by omega⟩, by show V.int r = .int ((r.toNat : Nat) : Int); rw [Int.toNat_of_nonneg h0]⟩
theorem ok_Llots (T : Top w K mg) : FnOk P w K mg base CX0 2 T.a_Llots T.fd_Llots ["_law_pool_here", "_law_many"] (spLots K) := by
  have G_Ltake := ok_Ltake (P := P) (w := w) (base := base) T
  refine T.F_Llots.ok sc_Llots (fun vs H Q E h => ?_) (fun cdv A outer s H vs Q E hr h => ?_)
  · obtain ⟨p, m, rfl, _⟩ := h
    rfl
  · obtain ⟨p, m, rfl, hm, hp, q⟩ := h
    refine ⟨_, (pss_one (ps_ret (pe_callTy call_tuple_of (by rfl) T.m_tuple (by decide +kernel) (pa_cons (pe_lc (own := [("_law_k", 2)]) (g := gName 2) (by rfl) sc_Llots.nd (pi_range1 (by rfl) T.m_range (pa_cons (pv 1) pa_nil)) (blkOk_by (own := [("_law_k", 2)]) (N := ["_law_pool_here", "_law_many", "_law_k"]) (sc := defScope s_Llots) (by decide +kernel)) (fun _ _ _ _ _ => (pg_name (i := 2) sc_Llots.nd rfl (Or.inl rfl))) (fun _ _ _ _ _ => pts_nil) (fun _ _ _ _ _ => (pe_call G_Ltake hr (by rfl) T.g_Ltake T.F_Ltake.kp T.b_Ltake .nil pass0 (pa_cons (pv 0) (pa_cons pe_int pa_nil))))) pa_nil)))), ?_⟩
    refine ⟨.int m, rfl, m, rfl, by omega, by omega, fun D hD => lc_it (walk_range (n := m)) (fun i H' => But p H H' ∧ Pool H' p ∧ ∃ lots : List (Fin 8), lots.length = i ∧ H' D = some (.lst (lots.map lotV))) ⟨But.of (same_upd hD), hp.same (same_upd hD), [], rfl, upd_same⟩ (fun i H' _ h => trivial) ?_ ?_⟩
    · rintro i v H1 H2 hi ⟨b1, hp1, lots, hl, eD⟩ ⟨rfl, rfl⟩
      have nD : D ≠ p := hp.ne_new hD
      refine ⟨rfl, .ref p, rfl, p, 8, rfl, by decide, by decide, hp1, fun H3 r b3 hp3 r0 r1 => ?_⟩
      obtain ⟨a, ea⟩ := eight r0 r1
      rw [ea]
      refine ⟨_, b3 _ _ nD eD, small1000 (by rw [List.length_map]; omega), (b1.trans b3).mut hD, hp3.upd nD, lots ++ [a], by rw [List.length_append, hl]; rfl, ?_⟩
      rw [upd_same, List.map_append]
      rfl
    · rintro H1 ⟨b1, hp1, lots, hl, eD⟩
      refine ⟨D, _, rfl, .inl ⟨.inl (.inl eD), fun r nr => ?_⟩⟩
      have sr := same_upd (o := .tup (lots.map lotV)) nr
      exact q _ r lots (b1.trans (But.of sr)) (hp1.same sr) (b1.free (hp1.ne_new nr) nr) upd_same hl
def spLegs (K : PySem.W.Frag) : Sp := fun vs H Q _ => ∃ (e : Addr) (xs : List V) (es : List Ent), vs = [.ref e] ∧ SqA K H e xs ∧ Rows K H xs es ∧ es.length ≤ 200 ∧ ∀ H', Same H H' → Q (.int (1 + (swaps es : Int))) H'
theorem swaps_at {es : List Ent} {i : Nat} {e : Ent} (h : es[i]? = some e) : swaps (es.take (i + 1)) = swaps (es.take i) + (if e.isSwap = true then 1 else 0) := by
  rw [List.take_add_one, h]
  exact swaps_snoc _ _
theorem isw (e : Ent) : decide (V.str (ws e.kind) = V.str (PySem.Str.ofString "swap")) = e.isSwap := (wsd e.kind 9).trans e.swap_iff.symm
theorem ok_legs_in (T : Top w K mg) : FnOk P w K mg base CX0 1 T.a_legs_in T.fd_legs_in ["log"] (spLegs K) := by
  refine T.F_legs_in.ok sc_legs_in (fun vs H Q E h => ?_) (fun cdv A outer s H vs Q E hr h => ?_)
  · obtain ⟨e, xs, es, rfl, _⟩ := h
    rfl
  · obtain ⟨e, xs, es, rfl, hs, ha, hlen, q⟩ := h
    have lx := ha.len
    refine ⟨_, (pss_one (ps_ret (pe_op op_add pe_int (pe_callB call_len_seq (by rfl) T.m_len (by decide +kernel) (pa_cons (pe_lc (own := [("entry", 1)]) (g := gName 1) (by rfl) sc_legs_in.nd (SeqW.pi_seq (pv 0)) (blkOk_by (own := [("entry", 1)]) (N := ["log", "entry"]) (sc := defScope s_legs_in) (by decide +kernel)) (fun _ _ _ _ _ => (pg_name (i := 1) sc_legs_in.nd rfl (Or.inl rfl))) (fun _ _ _ _ _ => (pts_one (pt_cmpR op_eq (pe_ix (r := rIx K) (SeqW.ix_seqK rfl) (pv 1) pe_int (fun _ _ => rfl)) pe_str (nomark _)))) (fun _ _ _ _ _ => (pv 1))) pa_nil))))), ?_⟩
    refine ⟨.ref e, rfl, e, xs, rfl, (fun H' => Same H H'), kpA hs, Same.refl _, fun J G wk hG D hD => lc_it wk (fun i H' => Same H H' ∧ ∃ ys : List V, ys.length = swaps (es.take i) ∧ H' D = some (.lst ys)) ⟨same_upd hD, [], rfl, upd_same⟩ (fun i H' _ h => hG _ h.1) ?_ ?_⟩
    · rintro i v H1 H2 hi ⟨sm, ys, ly, eD⟩ ⟨rfl, hx⟩
      obtain ⟨en, fe, a, us, rfl, hq, _⟩ := (ha.same sm).at_ hx
      have lg := swaps_le (es.take i)
      rw [List.length_take] at lg
      refine ⟨rfl, .ref a, rfl, ixA (j := 0) hq rfl ⟨rfl, _, rfl, ?_⟩⟩
      rw [isw]
      refine ite2 (fun e1 => ⟨.ref a, rfl, ys, eD, small1000 (by omega), (fun b o h => ?_), _, ?_, upd_same⟩) (fun e1 => ⟨sm, ys, ?_, eD⟩)
      · rw [upd_ne (ne_of_none h hD)]
        exact sm _ _ h
      · rw [List.length_append, ly, swaps_at fe, if_pos e1]
        rfl
      · rw [ly, swaps_at fe, if_neg e1]
        rfl
    · rintro H1 ⟨sm, ys, ly, eD⟩
      rw [lx, List.take_length] at ly
      refine ⟨D, ys, rfl, .inl (.inl (.inl eD)), _, _, rfl, rfl, ?_⟩
      rw [ly]
      exact q _ sm
theorem ok_Llegs (T : Top w K mg) : FnOk P w K mg base CX0 1 T.a_Llegs T.fd_Llegs ["_law_log"] (spLegs K) := by
  refine T.F_Llegs.ok sc_Llegs (fun vs H Q E h => ?_) (fun cdv A outer s H vs Q E hr h => ?_)
  · obtain ⟨e, xs, es, rfl, _⟩ := h
    rfl
  · obtain ⟨e, xs, es, rfl, hs, ha, hlen, q⟩ := h
    have lx := ha.len
    refine ⟨_, (pss_one (ps_ret (pe_op op_add pe_int (pe_callB call_len_seq (by rfl) T.m_len (by decide +kernel) (pa_cons (pe_lc (own := [("_law_entry", 1)]) (g := gName 1) (by rfl) sc_Llegs.nd (SeqW.pi_seq (pv 0)) (blkOk_by (own := [("_law_entry", 1)]) (N := ["_law_log", "_law_entry"]) (sc := defScope s_Llegs) (by decide +kernel)) (fun _ _ _ _ _ => (pg_name (i := 1) sc_Llegs.nd rfl (Or.inl rfl))) (fun _ _ _ _ _ => (pts_one (pt_cmpR op_eq (pe_ix (r := rIx K) (SeqW.ix_seqK rfl) (pv 1) pe_int (fun _ _ => rfl)) pe_str (nomark _)))) (fun _ _ _ _ _ => (pv 1))) pa_nil))))), ?_⟩
    refine ⟨.ref e, rfl, e, xs, rfl, (fun H' => Same H H'), kpA hs, Same.refl _, fun J G wk hG D hD => lc_it wk (fun i H' => Same H H' ∧ ∃ ys : List V, ys.length = swaps (es.take i) ∧ H' D = some (.lst ys)) ⟨same_upd hD, [], rfl, upd_same⟩ (fun i H' _ h => hG _ h.1) ?_ ?_⟩
    · rintro i v H1 H2 hi ⟨sm, ys, ly, eD⟩ ⟨rfl, hx⟩
      obtain ⟨en, fe, a, us, rfl, hq, _⟩ := (ha.same sm).at_ hx
      have lg := swaps_le (es.take i)
      rw [List.length_take] at lg
      refine ⟨rfl, .ref a, rfl, ixA (j := 0) hq rfl ⟨rfl, _, rfl, ?_⟩⟩
      rw [isw]
      refine ite2 (fun e1 => ⟨.ref a, rfl, ys, eD, small1000 (by omega), (fun b o h => ?_), _, ?_, upd_same⟩) (fun e1 => ⟨sm, ys, ?_, eD⟩)
      · rw [upd_ne (ne_of_none h hD)]
        exact sm _ _ h
      · rw [List.length_append, ly, swaps_at fe, if_pos e1]
        rfl
      · rw [ly, swaps_at fe, if_neg e1]
        rfl
    · rintro H1 ⟨sm, ys, ly, eD⟩
      rw [lx, List.take_length] at ly
      refine ⟨D, ys, rfl, .inl (.inl (.inl eD)), _, _, rfl, rfl, ?_⟩
      rw [ly]
      exact q _ sm
--@@SPLIT
def spIsLot : Sp := fun vs H Q _ => ∃ i : Int, vs = [.int i] ∧ 0 ≤ i ∧ i ≤ 7 ∧ Q (.bl true) H
def spRefuse : Sp := fun vs H Q _ => ∃ i : Int, vs = [.int i] ∧ 0 ≤ i ∧ i ≤ 7 ∧ Q .non H
def spMirrors : Sp := fun vs H Q _ => ∃ i : Int, vs = [.int i] ∧ Q (.bl (decide (4 ≤ i))) H
def spTrue : Sp := fun vs H Q _ => ∃ (a : Fin 8) (l : Fin 4), vs = [.int a.val, .str (Lt l)] ∧ Q (.str (Lt (tr a l))) H
def spShown : Sp := fun vs H Q _ => ∃ (a : Fin 8) (l : Fin 4), vs = [.int a.val, .str (Lt l)] ∧ Q (.str (Lt (tr (un a) l))) H
def spUndone : Sp := fun vs H Q _ => ∃ (a : Fin 8), vs = [.int a.val] ∧ Q (.int (un a).val) H
def spBoth : Sp := fun vs H Q _ => ∃ (a b : Fin 8), vs = [.int a.val, .int b.val] ∧ Q (.int (bo a b).val) H
theorem f8 (a : Fin 8) : (0 : Int) ≤ a.val ∧ (a.val : Int) ≤ 7 := by omega
theorem ok_is_whole (T : Top w K mg) : FnOk P w K mg base CX0 1 T.a_is_whole T.fd_is_whole ["thing"] spWhole := by
  refine T.F_is_whole.ok sc_is_whole (fun vs H Q E h => ?_) (fun cdv A outer s H vs Q E hr h => ?_)
  · obtain ⟨i, rfl, _⟩ := h
    rfl
  · obtain ⟨i, rfl, q⟩ := h
    refine ⟨_, (pss_one (ps_ret (pe_and (pe_callB call_isi (by rfl) T.m_isinstance (by decide +kernel) (pa_cons (pv 0) (pa_cons (pe_bltn (v := .ty "int") (by rfl) T.m_int (by decide +kernel) rfl) pa_nil))) (pe_one (pe_not (pe_callB call_isi (by rfl) T.m_isinstance (by decide +kernel) (pa_cons (pv 0) (pa_cons (pe_bltn (v := .ty "bool") (by rfl) T.m_bool (by decide +kernel) rfl) pa_nil)))))))), ?_⟩
    refine ⟨.int i, rfl, _, _, _, _, true, rfl, .ty _, .base (.int i), kit_ty (by decide +kernel), _, rfl, iteT ?_⟩
    exact ⟨.int i, rfl, _, _, _, _, false, rfl, .ty _, .base (.int i), kit_ty (by decide +kernel), _, rfl, q⟩
theorem ok_is_lot (T : Top w K mg) : FnOk P w K mg base CX0 2 T.a_is_lot T.fd_is_lot ["thing"] spIsLot := by
  have G_is_whole := ok_is_whole (P := P) (w := w) (base := base) T
  refine T.F_is_lot.ok sc_is_lot (fun vs H Q E h => ?_) (fun cdv A outer s H vs Q E hr h => ?_)
  · obtain ⟨i, rfl, _⟩ := h
    rfl
  · obtain ⟨i, rfl, h0, h7, q⟩ := h
    refine ⟨_, (pss_one (ps_ret (pe_and (pe_call G_is_whole hr (by rfl) T.g_is_whole T.F_is_whole.kp T.b_is_whole .nil pass0 (pa_cons (pv 0) pa_nil)) (pe_one (pe_chain op_le op_le pe_int (pv 0) pe_int))))), ?_⟩
    refine ⟨.int i, rfl, i, rfl, _, rfl, iteT ?_⟩
    refine ⟨.int i, rfl, _, _, rfl, rfl, _, rfl, ite2 (fun e => ?_) (fun e => absurd (decide_eq_true h0) e)⟩
    refine ⟨_, _, rfl, rfl, ?_⟩
    show Q (.bl (decide (i ≤ 7))) H
    rw [decide_eq_true h7]
    exact q
theorem ok_refuse_unless_lot (T : Top w K mg) : FnOk P w K mg base CX0 3 T.a_refuse_unless_lot T.fd_refuse_unless_lot ["thing"] spRefuse := by
  have G_is_lot := ok_is_lot (P := P) (w := w) (base := base) T
  refine T.F_refuse_unless_lot.ok sc_refuse_unless_lot (fun vs H Q E h => ?_) (fun cdv A outer s H vs Q E hr h => ?_)
  · obtain ⟨i, rfl, _⟩ := h
    rfl
  · obtain ⟨i, rfl, h0, h7, q⟩ := h
    refine ⟨_, (pss_one (ps_if (pt_not (pt_val (pe_call G_is_lot hr (by rfl) T.g_is_lot T.F_is_lot.kp T.b_is_lot .nil pass0 (pa_cons (pv 0) pa_nil)))) (pss_one ps_never) pss_nil)), ?_⟩
    exact ⟨.int i, rfl, i, rfl, h0, h7, _, rfl, iteF q⟩
theorem ok_mirrors (T : Top w K mg) : FnOk P w K mg base CX0 1 T.a_mirrors T.fd_mirrors ["lot"] spMirrors := by
  refine T.F_mirrors.ok sc_mirrors (fun vs H Q E h => ?_) (fun cdv A outer s H vs Q E hr h => ?_)
  · obtain ⟨i, rfl, _⟩ := h
    rfl
  · obtain ⟨i, rfl, q⟩ := h
    exact ⟨_, (pss_one (ps_ret (pe_cmpR op_ge (pv 0) pe_int (nomark _)))), .int i, rfl, _, _, rfl, rfl, q⟩
theorem ok_true (T : Top w K mg) : FnOk P w K mg base CX0 4 T.a_true T.fd_true ["lot", "letter"] spTrue := by
  have G_refuse_unless_lot := ok_refuse_unless_lot (P := P) (w := w) (base := base) T
  have G_mirrors := ok_mirrors (P := P) (w := w) (base := base) T
  refine T.F_true.ok sc_true (fun vs H Q E h => ?_) (fun cdv A outer s H vs Q E hr h => ?_)
  · obtain ⟨a, l, rfl, _⟩ := h
    rfl
  · obtain ⟨a, l, rfl, q⟩ := h
    refine ⟨_, (pss_cons (ps_expr (pe_call G_refuse_unless_lot hr (by rfl) T.g_refuse_unless_lot T.F_refuse_unless_lot.kp T.b_refuse_unless_lot .nil pass0 (pa_cons (pv 0) pa_nil)))
      (pss_cons (ps_set (i := 2) sc_true.nd rfl (.inl rfl) (pe_bm PySem.F.plainAttrs_str PySem.F.slot_str_index PySem.F.type_str_index mt_sindex (pe_glob (v := .str "nesw") (by rfl) T.g_LETTERS.choose_spec ⟨_, rfl⟩) (pa_cons (pv 1) pa_nil)))
      (pss_cons (ps_if (pt_val (pe_call G_mirrors (hr.mono (by decide)) (by rfl) T.g_mirrors T.F_mirrors.kp T.b_mirrors .nil pass0 (pa_cons (pv 0) pa_nil))) (pss_one (ps_ret (pe_ix ix_str (pe_glob (v := .str "nesw") (by rfl) T.g_LETTERS.choose_spec ⟨_, rfl⟩) (pe_op op_mod (pe_op op_sub (pv 0) (pv 2)) pe_int) (fun _ _ => rfl)))) pss_nil)
      (pss_one (ps_ret (pe_ix ix_str (pe_glob (v := .str "nesw") (by rfl) T.g_LETTERS.choose_spec ⟨_, rfl⟩) (pe_op op_mod (pe_op op_add (pv 0) (pv 2)) pe_int) (fun _ _ => rfl))))))), ?_⟩
    refine ⟨.int a.val, rfl, a.val, rfl, (f8 a).1, (f8 a).2, ?_⟩
    refine ⟨rfl, _, rfl, _, _, l.val, [], rfl, rfl, occ l, ?_⟩
    refine ⟨.int a.val, rfl, a.val, rfl, _, rfl, ite2 (fun e => ?_) (fun e => ?_)⟩
    · have e1 : (4 : Int) ≤ a.val := of_decide_eq_true e
      exact ⟨.int a.val, rfl, _, rfl, _, _, rfl, rfl, _, _, rfl, rfl, by show (0 : Int) < 4; decide, _, _, _, rfl, rfl, nesw_len, at_mir a l e1, q⟩
    · have e1 : ¬ (4 : Int) ≤ a.val := fun z => e (decide_eq_true z)
      exact ⟨.int a.val, rfl, _, rfl, _, _, rfl, rfl, _, _, rfl, rfl, by show (0 : Int) < 4; decide, _, _, _, rfl, rfl, nesw_len, at_tur a l e1, q⟩
def spStep (K : PySem.W.Frag) : Sp := fun vs H Q _ => ∃ (l : Fin 4), vs = [.str (Lt l)] ∧ ∀ q, (∀ H', SqT K H' q [.int (dx l), .int (dy l)]) → Q (.ref q) H
theorem steps_at (T : Top w K mg) : ∀ l : Fin 4, ∃ q, KDct K w T.a_STEPS (Lt l) (.ref q) ∧ ∀ H, SqT K H q [.int (dx l), .int (dy l)]
  | 0 => by rw [← lt0]; exact T.v_STEPS_0
  | 1 => by rw [← lt1]; exact T.v_STEPS_1
  | 2 => by rw [← lt2]; exact T.v_STEPS_2
  | 3 => by rw [← lt3]; exact T.v_STEPS_3
theorem ok_step (T : Top w K mg) : FnOk P w K mg base CX0 1 T.a_step T.fd_step ["letter"] (spStep K) := by
  refine T.F_step.ok sc_step (fun vs H Q E h => ?_) (fun cdv A outer s H vs Q E hr h => ?_)
  · obtain ⟨l, rfl, _⟩ := h
    rfl
  · obtain ⟨l, rfl, q⟩ := h
    obtain ⟨r, hk, ht⟩ := steps_at T l
    exact ⟨_, (pss_one (ps_ret (pe_ix ix_kdict (pe_glob (v := .ref T.a_STEPS) (by rfl) T.g_STEPS rfl) (pv 0) (fun _ _ => rfl)))), .str (Lt l), rfl, _, _, _, rfl, rfl, hk, q r ht⟩
theorem kit_same {K : PySem.W.Frag} {C : Addr} : PySem.W.kitOne K (.ref C) (.ref C) = some true := by
  unfold PySem.W.kitOne
  rw [if_pos (beq_self_eq_true _)]
theorem kit_other {K : PySem.W.Frag} {D C : Addr} {b : Bool} (hn : (Value.ref D == Value.ref C) = false) (h1 : PySem.W.isClsIn K C = true) (h2 : PySem.W.typeIn K (.ref C) = some (.type "type")) (h3 : PySem.W.subIn K (.ref D) (.ref C) = some b) : PySem.W.kitOne K (.ref D) (.ref C) = some b := by
  unfold PySem.W.kitOne
  rw [hn, if_neg Bool.false_ne_true]
  show (if ((PySem.W.clsIn K C).isSome && PySem.W.typeIn K (.ref C) == some (.type "type")) = true then PySem.W.subIn K (.ref D) (.ref C) else none) = some b
  rw [if_pos (by rw [show (PySem.W.clsIn K C).isSome = true from h1, h2]; rfl)]
  exact h3
theorem kit_ve {K : PySem.W.Frag} {D : Addr} (h : PySem.W.subIn K (.ref D) (.type "ValueError") = some true) : PySem.W.kitOne K (.ref D) (.type "ValueError") = some true := by
  unfold PySem.W.kitOne
  rw [show (Value.ref D == Value.type "ValueError") = false from rfl, if_neg Bool.false_ne_true]
  show (if PySem.W.kitMeta "ValueError" = true then PySem.W.subIn K (.ref D) (.type "ValueError") else none) = some true
  rw [if_pos (by decide +kernel)]
  exact h
def lotD : PyData → Bool
  | .int i => decide (0 ≤ i) && decide (i ≤ 7)
  | _ => false
def whD : PyData → Bool
  | .int _ => true
  | _ => false
def spWholeD (K : PySem.W.Frag) : Sp := fun vs H Q _ => ∃ (v : V) (d : PyData), vs = [v] ∧ Dp K H v d ∧ Q (.bl (whD d)) H
def spIsLotD (K : PySem.W.Frag) : Sp := fun vs H Q _ => ∃ (v : V) (d : PyData), vs = [v] ∧ Dp K H v d ∧ Q (.bl (lotD d)) H
theorem ok_is_wholeD (T : Top w K mg) : FnOk P w K mg base CX0 1 T.a_is_whole T.fd_is_whole ["thing"] (spWholeD K) := by
  refine T.F_is_whole.ok sc_is_whole (fun vs H Q E h => ?_) (fun cdv A outer s H vs Q E hr h => ?_)
  · obtain ⟨v, d, rfl, _⟩ := h
    rfl
  · obtain ⟨v, d, rfl, hd, q⟩ := h
    refine ⟨_, (pss_one (ps_ret (pe_and (pe_callB call_isi (by rfl) T.m_isinstance (by decide +kernel) (pa_cons (pv 0) (pa_cons (pe_bltn (v := .ty "int") (by rfl) T.m_int (by decide +kernel) rfl) pa_nil))) (pe_one (pe_not (pe_callB call_isi (by rfl) T.m_isinstance (by decide +kernel) (pa_cons (pv 0) (pa_cons (pe_bltn (v := .ty "bool") (by rfl) T.m_bool (by decide +kernel) rfl) pa_nil)))))))), ?_⟩
    cases hd with
    | non => exact ⟨.non, rfl, _, _, _, _, false, rfl, .ty _, .base .non, kit_ty (by decide +kernel), _, rfl, iteF q⟩
    | bl b => exact ⟨.bl b, rfl, _, _, _, _, true, rfl, .ty _, .base (.bl b), kit_ty (by decide +kernel), _, rfl, iteT ⟨.bl b, rfl, _, _, _, _, true, rfl, .ty _, .base (.bl b), kit_ty (by decide +kernel), _, rfl, q⟩⟩
    | int i => exact ⟨.int i, rfl, _, _, _, _, true, rfl, .ty _, .base (.int i), kit_ty (by decide +kernel), _, rfl, iteT ⟨.int i, rfl, _, _, _, _, false, rfl, .ty _, .base (.int i), kit_ty (by decide +kernel), _, rfl, q⟩⟩
    | str z => exact ⟨.str z, rfl, _, _, _, _, false, rfl, .ty _, .base (.str z), kit_ty (by decide +kernel), _, rfl, iteF q⟩
    | lst h _ => exact ⟨_, rfl, _, _, _, _, false, rfl, .ty _, ty_lst h, kit_ty (by decide +kernel), _, rfl, iteF q⟩
    | tup h _ => exact ⟨_, rfl, _, _, _, _, false, rfl, .ty _, ty_tup h, kit_ty (by decide +kernel), _, rfl, iteF q⟩
theorem ok_is_lotD (T : Top w K mg) : FnOk P w K mg base CX0 2 T.a_is_lot T.fd_is_lot ["thing"] (spIsLotD K) := by
  have G_is_whole := ok_is_wholeD (P := P) (w := w) (base := base) T
  refine T.F_is_lot.ok sc_is_lot (fun vs H Q E h => ?_) (fun cdv A outer s H vs Q E hr h => ?_)
  · obtain ⟨v, d, rfl, _⟩ := h
    rfl
  · obtain ⟨v, d, rfl, hd, q⟩ := h
    refine ⟨_, (pss_one (ps_ret (pe_and (pe_call G_is_whole hr (by rfl) T.g_is_whole T.F_is_whole.kp T.b_is_whole .nil pass0 (pa_cons (pv 0) pa_nil)) (pe_one (pe_chain op_le op_le pe_int (pv 0) pe_int))))), ?_⟩
    refine ⟨v, rfl, v, d, rfl, hd, _, rfl, ?_⟩
    cases hd with
    | int i =>
      refine iteT ⟨.int i, rfl, _, _, rfl, rfl, _, rfl, ite2 (fun e => ?_) (fun e => ?_)⟩
      · refine ⟨_, _, rfl, rfl, ?_⟩
        have e2 : lotD (.int i) = decide (i ≤ 7) := by
          show (decide (0 ≤ i) && decide (i ≤ 7)) = _
          rw [e]
          rfl
        rw [e2] at q
        exact q
      · have e2 : lotD (.int i) = false := by
          show (decide (0 ≤ i) && decide (i ≤ 7)) = _
          rw [Bool.eq_false_iff.mpr e]
          rfl
        rw [e2] at q
        exact q
    | non => exact iteF q
    | bl b => exact iteF q
    | str z => exact iteF q
    | lst h _ => exact iteF q
    | tup h _ => exact iteF q
/-! ### the refusal of lots -/
def spInit (K : PySem.W.Frag) (C : Addr) : Sp := fun vs H Q _ => ∃ (a : Addr) (i : Int), vs = [.ref a, .int i] ∧ H a = some (exo a C none) ∧
  ∀ H' dx, (∀ b o, b ≠ a → H b = some o → H' b = some o) → H dx = none → dx ≠ a → H' a = some (exo a C (some dx)) → H' dx = some (exd dx [("at", .int i)]) → Q .non H'
theorem ok_init (T : Top w K mg) : FnOk P w K mg base CX0 4 T.a_init T.fd_init ["self", "at"] (spInit K T.a_NoDealing) := by
  have G_kept := ok_kept (P := P) (w := w) (base := base) T
  refine T.F_init.ok sc_init (fun vs H Q E h => ?_) (fun cdv A outer s H vs Q E hr h => ?_)
  · obtain ⟨a, i, rfl, _⟩ := h
    rfl
  · obtain ⟨a, i, rfl, ha, q⟩ := h
    refine ⟨_, (pss_one (ps_ost (pv 0) (pe_call G_kept (hr.mono (by decide)) (by rfl) T.g_kept T.F_kept.kp T.b_kept .nil pass0 (pa_cons (pv 1) pa_nil)))), ?_⟩
    refine ⟨_, rfl, .int i, .int i, rfl, siz_int _, .int i, fun H1 v' s1 hv' => ?_⟩
    cases hv'
    refine ⟨.ref a, rfl, a, T.a_NoDealing, rfl, T.oex, T.no_at, .inl ⟨s1 _ _ ha, fun dx ndx ne => ?_⟩⟩
    refine q _ dx (fun b o hb h => ?_) (s1.free ndx) ne upd_same ?_
    · rw [upd_ne hb]
      exact same_upd ndx _ _ (s1 _ _ h)
    · rw [upd_ne ne]
      exact upd_same
/-- the first that is no lot -/
def firstBad : Nat → List PyData → Option Nat
  | _, [] => none
  | i, d :: r => if lotD d = true then firstBad (i + 1) r else some i
def badL (m : Nat) (ds : List PyData) : Option Nat := if ds.length = m then firstBad 0 ds else some m
theorem drop_at {ds : List PyData} {i : Nat} {d : PyData} (h : ds[i]? = some d) : ds.drop i = d :: ds.drop (i + 1) := by
  obtain ⟨hi, e⟩ := List.getElem?_eq_some_iff.mp h
  rw [List.drop_eq_getElem_cons hi, e]
def lotI (a : Fin 8) : PyData := .int (a.val : Nat)
theorem lotD_ex {d : PyData} (h : lotD d = true) : ∃ a : Fin 8, d = lotI a := by
  cases d with
  | int i =>
    obtain ⟨h1, h2⟩ := Bool.and_eq_true_iff.mp h
    have h1 : 0 ≤ i := of_decide_eq_true h1
    have h2 : i ≤ 7 := of_decide_eq_true h2
    exact ⟨⟨i.toNat, by omega⟩, by show PyData.int i = .int ((i.toNat : Nat) : Int); rw [Int.toNat_of_nonneg h1]⟩
  | _ => cases h
theorem lots_ex : ∀ {i : Nat} {ds : List PyData}, firstBad i ds = none → ∃ L : List (Fin 8), ds = L.map lotI
  | _, [], _ => ⟨[], rfl⟩
  | i, d :: r, h => by
    unfold firstBad at h
    by_cases hd : lotD d = true
    · rw [if_pos hd] at h
      obtain ⟨L, rfl⟩ := lots_ex h
      obtain ⟨a, rfl⟩ := lotD_ex hd
      exact ⟨a :: L, rfl⟩
    · rw [if_neg hd] at h
      cases h
theorem lots_vals {K : PySem.W.Frag} {H : Hp} : ∀ (L : List (Fin 8)) (zs : List V), DpAll K H zs (L.map lotI) → zs = L.map lotV
  | [], _, h => by cases h; rfl
  | a :: L, _, h => by
    cases h with
    | cons h1 h2 =>
      cases h1
      rw [lots_vals L _ h2]
      rfl
theorem bad_lots {K : PySem.W.Frag} {H : Hp} {m : Nat} {zs : List V} {ds : List PyData} (h : badL m ds = none) (ha : DpAll K H zs ds) : ∃ L : List (Fin 8), zs = L.map lotV ∧ L.length = m := by
  unfold badL at h
  by_cases hm : ds.length = m
  · rw [if_pos hm] at h
    obtain ⟨L, rfl⟩ := lots_ex h
    exact ⟨L, lots_vals L _ ha, by rw [List.length_map] at hm; exact hm⟩
  · rw [if_neg hm] at h
    cases h
def BadX (C : Addr) (H : Hp) (i : Nat) (E : XK) : Prop := ∀ H' dd, Same H H' → H dd = none → H' dd = some (.xd [("at", .int (i : Nat))]) → E (.ref C) (some dd) H'
def spRefX (K : PySem.W.Frag) (C : Addr) : Sp := fun vs H Q E => ∃ (e l : Addr) (xs zs : List V) (es : List Ent) (ds : List PyData), vs = [.ref e, .ref l] ∧ SqA K H e xs ∧ Rows K H xs es ∧ SqA K H l zs ∧ DpAll K H zs ds ∧ es.length ≤ 200 ∧ ds.length ≤ 200 ∧ (badL (1 + swaps es) ds = none → ∀ H', Same H H' → Q .non H') ∧ (∀ i, badL (1 + swaps es) ds = some i → BadX C H i E)
theorem ok_refuse_unless_lots (T : Top w K mg) : FnOk P w K mg base (L2.CX P w) 6 T.a_refuse_unless_lots T.fd_refuse_unless_lots ["log", "lots"] (spRefX K T.a_NoDealing) := by
  have G_legs_in := ok_legs_in (P := P) (w := w) (base := base) T
  have G_is_lot := ok_is_lotD (P := P) (w := w) (base := base) T
  have G_init := ok_init (P := P) (w := w) (base := base) T
  refine T.F_refuse_unless_lots.okX sc_refuse_unless_lots (fun vs H Q E h => ?_) (fun cdv A outer s H vs Q E hr h => ?_)
  · obtain ⟨e, l, xs, zs, es, ds, rfl, _⟩ := h
    rfl
  · obtain ⟨e, l, xs, zs, es, ds, rfl, hs, ha, hl, hd, hlen, hlen2, q, bad⟩ := h
    have lz := dpa_len ds zs hd
    have raise_ : ∀ i : Nat, badL (1 + swaps es) ds = some i → ∀ (iv : Int), iv = (i : Int) → ∀ (Hx : Hp), Same H Hx → ∀ a, Hx a = none → spInit K T.a_NoDealing (.ref a :: ([.int iv] ++ [])) (upd Hx a (exo a T.a_NoDealing none)) (fun v H2 => v = .non ∧ ∃ (d : Addr) (fs : List (Str × V)), H2 a = some (exo a T.a_NoDealing (some d)) ∧ H2 d = some (exd d fs) ∧ Hx d = none ∧ E (.ref T.a_NoDealing) (some d) (upd (del H2 a) d (.xd fs))) (fun _ _ _ => False) := fun i hbi iv hiv Hx sx a na =>
      ⟨a, _, rfl, upd_same, fun H4 dx keep ndx ne ea ed => by
        subst hiv
        rw [upd_ne ne] at ndx
        refine ⟨rfl, dx, _, ea, ed, ndx, bad i hbi _ dx (fun b o h => ?_) (sx.free ndx) upd_same⟩
        have h2 := sx _ _ h
        have na2 : b ≠ a := ne_of_none h2 na
        rw [upd_ne (ne_of_none h2 ndx), del_ne na2]
        exact keep b o na2 (by rw [upd_ne na2]; exact h2)⟩
    refine ⟨_, (pss_cons (ps_set (i := 2) sc_refuse_unless_lots.nd rfl (.inl rfl) (pe_call G_legs_in (hr.mono (by decide)) (by rfl) T.g_legs_in T.F_legs_in.kp T.b_legs_in .nil pass0 (pa_cons (pv 0) pa_nil)))
      (pss_cons (ps_if (pt_cmpR op_ne (pe_callB call_len_seq (by rfl) T.m_len (by decide +kernel) (pa_cons (pv 1) pa_nil)) (pv 2) (nomark _)) (pss_one (ps_raise rfl (takes_of rfl rfl rfl rfl) (pmk_oex T.oex T.iC T.tI G_init (hr.mono (by decide)) T.b_init .nil pass0 (by rfl) T.g_NoDealing (pa_cons (pv 2) pa_nil)))) pss_nil)
      (pss_one (ps_for (passes_of rfl) rfl (SeqW.pi_enumA (by rfl) T.m_enumerate (pa_cons (pv 1) pa_nil)) (pg_tup rfl (pgs_cons (pg_name (i := 3) sc_refuse_unless_lots.nd rfl (.inl rfl)) (pgs_cons (pg_name (i := 4) sc_refuse_unless_lots.nd rfl (.inl rfl)) pgs_nil))) (pss_one (ps_if (pt_not (pt_val (pe_call G_is_lot (hr.mono (by decide)) (by rfl) T.g_is_lot T.F_is_lot.kp T.b_is_lot .nil pass0 (pa_cons (pv 4) pa_nil)))) (pss_one (ps_raise rfl (takes_of rfl rfl rfl rfl) (pmk_oex T.oex T.iC T.tI G_init (hr.mono (by decide)) T.b_init .nil pass0 (by rfl) T.g_NoDealing (pa_cons (pv 3) pa_nil)))) pss_nil)))))), ?_⟩
    refine ⟨.ref e, rfl, e, xs, es, rfl, hs, ha, hlen, fun H1 s1 => ?_⟩
    refine ⟨.ref l, rfl, l, _, rfl, hl.same s1, _, rfl, rfl, _, rfl, ?_⟩
    by_cases hm : ds.length = 1 + swaps es
    · refine iteN (by rw [lz, hm]; show V.int ((1 + swaps es : Nat) : Int) = .int (1 + (swaps es : Int)); congr 1) ?_
      have hb0 : badL (1 + swaps es) ds = firstBad 0 ds := if_pos hm
      refine ⟨.ref l, rfl, l, _, rfl, (fun H' => Same H H'), kpA hl, s1, fun J G wk hG => for_it wk (fun i σ H' => Same H1 H' ∧ badL (1 + swaps es) ds = firstBad i (ds.drop i) ∧ ∃ y3 y4, σ = [some (.ref e), some (.ref l), some (.int (1 + (swaps es : Int))), y3, y4]) ⟨Same.refl _, hb0, none, none, rfl⟩ (fun i σ H' _ h => hG _ (s1.trans h.1)) ?_ ?_⟩
      · rintro i v σ H2 H3 hi ⟨sm, hb, y3, y4, rfl⟩ ⟨t, u1, u2, rfl, nt, rfl, e1, e2⟩
        cases e1
        have st := same_upd (o := .tup [.int (i : Nat), u2]) nt
        obtain ⟨d, fd, gd⟩ := dpa_at ds zs (dpa_same ((s1.trans sm).trans st) _ _ hd) i u2 e2
        rw [drop_at fd] at hb
        refine ⟨t, _, rfl, .inl (.inl upd_same), rfl, _, _, rfl, _, _, rfl, rfl, ?_⟩
        refine ⟨_, rfl, u2, d, rfl, gd, _, rfl, ?_⟩
        cases hld : lotD d with
        | true =>
          refine iteF ⟨sm.trans st, ?_, _, _, rfl⟩
          rw [hb]
          show (if lotD d = true then _ else _) = _
          rw [if_pos hld]
        | false =>
          have hbi : badL (1 + swaps es) ds = some i := by
            rw [hb]
            show (if lotD d = true then _ else _) = _
            rw [if_neg (by rw [hld]; decide)]
          exact iteT ⟨_, rfl, by show 1 ≤ 1000; decide, fun a na => raise_ i hbi _ rfl _ ((s1.trans sm).trans st) a na⟩
      · rintro σ H2 ⟨sm, hb, y3, y4, rfl⟩
        refine q ?_ _ (s1.trans sm)
        rw [hb, List.drop_of_length_le (by omega)]
        rfl
    · have hbi : badL (1 + swaps es) ds = some (1 + swaps es) := if_neg hm
      have ne : ¬ V.int (zs.length : Nat) = .int (1 + (swaps es : Int)) := fun z => hm (by
        have : ((zs.length : Nat) : Int) = 1 + (swaps es : Int) := V.int.inj z
        omega)
      refine iteDY (by rw [decide_eq_false ne]; rfl) ⟨_, rfl, by show 1 ≤ 1000; decide, fun a na => raise_ _ hbi _ (by omega) _ s1 a na⟩
--@@SPLIT
/-! ### the program's track -/
theorem lot_at {lots : List (Fin 8)} {i : Nat} {v : V} (h : (lots.map lotV)[i]? = some v) : ∃ a, lots[i]? = some a ∧ v = lotV a := by
  rw [List.getElem?_map] at h
  cases e : lots[i]? with
  | none => rw [e] at h; cases h
  | some a => rw [e] at h; exact ⟨a, rfl, (Option.some.inj h).symm⟩
def spLook (K : PySem.W.Frag) : Sp := fun vs H Q _ => ∃ (v : V) (e : Ent) (a : Fin 8) (look : Option (Fin 4)), vs = [v, lotV a, .str (lk look)] ∧ EntAt K H v e ∧ (e.need = true → look.isSome = true) ∧ Q (.str (lk (nlook a look e))) H
theorem at_turn : ∀ (l : Fin 4) (q : Fin 3), atI nesw.cps.toList (((l.val : Int) + ((tq q).val : Int)) % 4) = some (cd (l + tq q)) := by decide +kernel
theorem turnQ (T : Top w K mg) : ∀ (q : Fin 3), KDct K w T.a_QUARTERS (ws (Ent.kind (.turn q))) (.int ((tq q).val : Int))
  | 0 => T.v_QUARTERS_2
  | 1 => T.v_QUARTERS_0
  | 2 => T.v_QUARTERS_1
def Ent.isTurn : Ent → Bool
  | .turn _ => true
  | _ => false
theorem inQ (e : Ent) : (([PySem.Str.ofString "right", PySem.Str.ofString "back", PySem.Str.ofString "left"] : List Str).any fun s => s == ws e.kind) = e.isTurn := by
  have h : ∀ k : Fin 10, (([PySem.Str.ofString "right", PySem.Str.ofString "back", PySem.Str.ofString "left"] : List Str).any fun s => s == ws k) = decide (k = 1 ∨ k = 2 ∨ k = 3) := by decide +kernel
  rw [h]
  cases e with
  | turn q => match q with
    | 0 => rfl
    | 1 => rfl
    | 2 => rfl
  | _ => rfl
theorem isf (e : Ent) : decide (V.str (ws e.kind) = V.str (PySem.Str.ofString "face")) = e.isFace := (wsd e.kind 0).trans e.face_iff.symm
theorem ok_look_behind (T : Top w K mg) : FnOk P w K mg base CX0 5 T.a_look_behind T.fd_look_behind ["entry", "lot", "look"] (spLook K) := by
  have G_true := ok_true (P := P) (w := w) (base := base) T
  refine T.F_look_behind.ok sc_look_behind (fun vs H Q E h => ?_) (fun cdv A outer s H vs Q E hr h => ?_)
  · obtain ⟨v, e, a, look, rfl, _⟩ := h
    rfl
  · obtain ⟨v, e, a, look, rfl, ⟨p, us, rfl, hq, hu⟩, hn, q⟩ := h
    refine ⟨_, (pss_cons (ps_set (i := 3) sc_look_behind.nd rfl (.inl rfl) (pe_ix (r := rIx K) (SeqW.ix_seqK rfl) (pv 0) pe_int (fun _ _ => rfl)))
      (pss_cons (ps_if (pt_cmpR op_eq (pv 3) pe_str (nomark _)) (pss_one (ps_ret (pe_call G_true hr (by rfl) T.g_true T.F_true.kp T.b_true .nil pass0 (pa_cons (pv 1) (pa_cons (pe_ix (r := rIx K) (SeqW.ix_seqK rfl) (pv 0) pe_int (fun _ _ => rfl)) pa_nil))))) pss_nil)
      (pss_cons (ps_if (pt_cmpR (op_in_kd T.kd_QUARTERS) (pv 3) (pe_glob (v := .ref T.a_QUARTERS) (by rfl) T.g_QUARTERS rfl) (by rfl)) (pss_one (ps_ret (pe_ix ix_str (pe_glob (v := .str "nesw") (by rfl) T.g_LETTERS.choose_spec ⟨_, rfl⟩) (pe_op op_mod (pe_op op_add (pe_bm PySem.F.plainAttrs_str PySem.F.slot_str_index PySem.F.type_str_index mt_sindex (pe_glob (v := .str "nesw") (by rfl) T.g_LETTERS.choose_spec ⟨_, rfl⟩) (pa_cons (pv 2) pa_nil)) (pe_ix ix_kdict (pe_glob (v := .ref T.a_QUARTERS) (by rfl) T.g_QUARTERS rfl) (pv 3) (fun _ _ => rfl))) pe_int) (fun _ _ => rfl)))) pss_nil)
      (pss_one (ps_ret (pv 2)))))), ?_⟩
    refine ⟨.ref p, rfl, ixA (j := 0) hq rfl ⟨_, rfl, rfl, _, rfl, ?_⟩⟩
    rw [isf]
    obtain ⟨r, h1, h2⟩ := T.ns_QUARTERS (ws e.kind)
    rw [inQ] at h2
    cases e with
    | face l =>
      cases hu with
      | cons h3 h4 =>
        cases h3
        cases h4
        exact iteT ⟨_, rfl, .ref p, rfl, ixA (j := 1) hq rfl ⟨a, l, rfl, q⟩⟩
    | turn k =>
      cases look with
      | none => cases hn rfl
      | some l =>
        refine iteF ⟨_, rfl, _, r, rfl, rfl, h1, _, rfl, ?_⟩
        rw [h2]
        exact iteT ⟨rfl, _, rfl, _, _, l.val, [], rfl, rfl, occ l, _, rfl, _, _, _, rfl, rfl, turnQ T k, _, _, rfl, rfl, _, _, rfl, rfl, by show (0 : Int) < 4; decide, _, _, _, rfl, rfl, nesw_len, at_turn l k, q⟩
    | _ =>
      refine iteF ⟨_, rfl, _, r, rfl, rfl, h1, _, rfl, ?_⟩
      rw [h2]
      exact iteF ⟨_, rfl, q⟩
def spGone (K : PySem.W.Frag) : Sp := fun vs H Q _ => ∃ (p : Addr) (e n m : Int) (l : Fin 4), vs = [.ref p, .str (Lt l), .int m] ∧ SqT K H p [.int e, .int n] ∧ ∀ q, H q = none → Q (.ref q) (upd H q (.tup [.int (e + m * dx l), .int (n + m * dy l)]))
theorem ok_gone (T : Top w K mg) : FnOk P w K mg base CX0 2 T.a_gone T.fd_gone ["place", "letter", "many"] (spGone K) := by
  have G_step := ok_step (P := P) (w := w) (base := base) T
  refine T.F_gone.ok sc_gone (fun vs H Q E h => ?_) (fun cdv A outer s H vs Q E hr h => ?_)
  · obtain ⟨p, e, n, m, l, rfl, _⟩ := h
    rfl
  · obtain ⟨p, e, n, m, l, rfl, hp, q⟩ := h
    refine ⟨_, (pss_cons (ps_asg (pe_call G_step hr (by rfl) T.g_step T.F_step.kp T.b_step .nil pass0 (pa_cons (pv 1) pa_nil)) (pg_tup rfl (pgs_cons (pg_name (i := 3) sc_gone.nd rfl (.inl rfl)) (pgs_cons (pg_name (i := 4) sc_gone.nd rfl (.inl rfl)) pgs_nil))))
      (pss_one (ps_ret (pe_tup (pa_cons (pe_op op_add (pe_ix ix_tup (pv 0) pe_int (fun _ _ => rfl)) (pe_op op_mul (pv 2) (pv 3))) (pa_cons (pe_op op_add (pe_ix ix_tup (pv 0) pe_int (fun _ _ => rfl)) (pe_op op_mul (pv 2) (pv 4))) pa_nil)))))), ?_⟩
    refine ⟨.str (Lt l), rfl, l, rfl, fun q0 hq => ⟨q0, _, rfl, hq _, rfl, _, _, rfl, _, _, rfl, rfl, ?_⟩⟩
    refine ⟨.ref p, rfl, p, _, 0, .int e, rfl, rfl, hp, rfl, .int m, rfl, _, rfl, m, dx l, rfl, rfl, .inr (dxb l), _, _, rfl, rfl, ?_⟩
    exact ⟨.ref p, rfl, p, _, 1, .int n, rfl, rfl, hp, rfl, .int m, rfl, _, rfl, m, dy l, rfl, rfl, .inr (dyb l), _, _, rfl, rfl, by show 2 ≤ sizeLine; decide, fun r nr => q r nr⟩
--@@SPLIT
def spTrack (K : PySem.W.Frag) (C : Addr) : Sp := fun vs H Q E => ∃ (e l : Addr) (xs zs : List V) (es : List Ent) (ds : List PyData), vs = [.ref e, .ref l] ∧ SqA K H e xs ∧ Rows K H xs es ∧ SqA K H l zs ∧ DpAll K H zs ds ∧ es.length ≤ 200 ∧ ds.length ≤ 200 ∧ Right es ∧ (∀ L, badL (1 + swaps es) ds = none → zs = L.map lotV → ∀ H' r, Same H H' → Dp K H' (.ref r) (trackD L es) → Q (.ref r) H') ∧ (∀ i, badL (1 + swaps es) ds = some i → BadX C H i E)
theorem go_of_kind {e : Ent} (h : e.kind = 4) : ∃ n, e = .go n := by
  cases e with
  | go n => exact ⟨n, rfl⟩
  | turn q => exact absurd h (by match q with | 0 => decide | 1 => decide | 2 => decide)
  | _ => cases h
theorem one_int {K : PySem.W.Frag} {H : Hp} {us : List V} {i : Int} (h : DpAll K H us [.int i]) : ∃ v1, us = [v1] ∧ v1 = V.int i := by
  cases h with
  | cons h1 h2 =>
    cases h1
    cases h2
    exact ⟨_, rfl, rfl⟩
theorem isg (e : Ent) : decide (V.str (ws e.kind) = V.str (PySem.Str.ofString "go")) = decide (e.kind = 4) := wsd e.kind 4
theorem ok_track (T : Top w K mg) : FnOk P w K mg base (L2.CX P w) 7 T.a_track T.fd_track ["log", "lots"] (spTrack K T.a_NoDealing) := by
  have G_refuse_unless_lots := ok_refuse_unless_lots (P := P) (w := w) (base := base) T
  have G_look_behind := ok_look_behind (P := P) (w := w) (base := base) T
  have G_gone := ok_gone (P := P) (w := w) (base := base) T
  obtain ⟨q0, hS, hS0⟩ := T.v_START
  refine T.F_track.okX sc_track (fun vs H Q E h => ?_) (fun cdv A outer s H vs Q E hr h => ?_)
  · obtain ⟨e, l, xs, zs, es, ds, rfl, _⟩ := h
    rfl
  · obtain ⟨e, l, xs, zs, es, ds, rfl, hs, ha, hl0, hd0, hlen, hlen2, hR, q0', bad⟩ := h
    have lx := ha.len
    refine ⟨_, (pss_cons (ps_expr (pe_call G_refuse_unless_lots hr (by rfl) T.g_refuse_unless_lots T.F_refuse_unless_lots.kp T.b_refuse_unless_lots .nil (passes_call (takes_of rfl rfl rfl rfl) (fun _ _ _ _ h => h)) (pa_cons (pv 0) (pa_cons (pv 1) pa_nil))))
      (pss_cons (ps_asg (pe_glob (v := .ref T.a_START) (by rfl) T.g_START rfl) (pg_tup rfl (pgs_cons (pg_name (i := 2) sc_track.nd rfl (.inl rfl)) (pgs_cons (pg_name (i := 3) sc_track.nd rfl (.inl rfl)) pgs_nil))))
      (pss_cons (ps_set (i := 4) sc_track.nd rfl (.inl rfl) pe_int)
      (pss_cons (ps_set (i := 5) sc_track.nd rfl (.inl rfl) (pe_lst pa_nil))
      (pss_cons (ps_for (passes_of rfl) rfl (SeqW.pi_seq (pv 0)) (pg_name (i := 6) sc_track.nd rfl (.inl rfl)) (Evl.pss_cut (ps_if (pt_cmpR op_eq (pe_ix (r := rIx K) (SeqW.ix_seqK rfl) (pv 6) pe_int (fun _ _ => rfl)) pe_str (nomark _)) (pss_one (ps_aug (i := 4) sc_track.nd rfl (.inl rfl) pe_int ip_add)) pss_nil)
      (pss_cons (ps_set (i := 3) sc_track.nd rfl (.inl rfl) (pe_call G_look_behind (hr.mono (by decide)) (by rfl) T.g_look_behind T.F_look_behind.kp T.b_look_behind .nil pass0 (pa_cons (pv 6) (pa_cons (pe_ix (r := rIx K) (SeqW.ix_seqK rfl) (pv 1) (pv 4) (fun _ _ => rfl)) (pa_cons (pv 3) pa_nil)))))
      (pss_cons (ps_if (pt_cmpR op_eq (pe_ix (r := rIx K) (SeqW.ix_seqK rfl) (pv 6) pe_int (fun _ _ => rfl)) pe_str (nomark _)) (pss_one (ps_set (i := 2) sc_track.nd rfl (.inl rfl) (pe_call G_gone (hr.mono (by decide)) (by rfl) T.g_gone T.F_gone.kp T.b_gone .nil pass0 (pa_cons (pv 2) (pa_cons (pv 3) (pa_cons (pe_ix (r := rIx K) (SeqW.ix_seqK rfl) (pv 6) pe_int (fun _ _ => rfl)) pa_nil)))))) pss_nil)
      (pss_one (ps_expr (pe_bm PySem.F.plainAttrs_list PySem.F.slot_list_append PySem.F.type_list_append mt_append (pv 5) (pa_cons (pe_tup (pa_cons (pv 2) (pa_cons (pv 3) pa_nil))) pa_nil))))))))
      (pss_one (ps_ret (pe_callTy call_tuple_of (by rfl) T.m_tuple (by decide +kernel) (pa_cons (pv 5) pa_nil))))))))), ?_⟩
    refine ⟨.ref e, rfl, .ref l, rfl, e, l, xs, zs, es, ds, rfl, hs, ha, hl0, hd0, hlen, hlen2, fun hb H1 s1 => ?_, fun i hi => bad i hi⟩
    obtain ⟨lots, rfl, hn⟩ := bad_lots hb hd0
    have hl := hl0
    have q := q0' lots hb rfl
    refine ⟨T.a_START, _, rfl, hS _, rfl, _, _, rfl, _, _, rfl, rfl, ?_⟩
    refine ⟨Nat.zero_le _, fun S nS => ?_⟩
    have s2 := s1.trans (same_upd (o := .lst []) nS)
    have nS0 : H S = none := s1.free nS
    refine ⟨.ref e, rfl, e, xs, rfl, (fun H' => Same H H'), kpA hs, s2, fun J G wk hG => for_it wk (fun i σ H' => Same H H' ∧ ∃ pl ys y6, σ = [some (.ref e), some (.ref l), some (.ref pl), some (.str (lk (wat lots es i).look)), some (.int ((wat lots es i).leg : Nat)), some (.ref S), y6] ∧ SqT K (wo H' (fun b => b = S)) pl [.int (wat lots es i).x, .int (wat lots es i).y] ∧ H' S = some (.lst ys) ∧ DpAll K (wo H' (fun b => b = S)) ys (trackL lots es i))
      ⟨s2, q0, [], none, by rw [wat_zero]; rfl, by rw [wat_zero]; exact hS0 _, upd_same, .nil⟩ (fun i σ H' _ h => hG _ h.1) ?_ ?_⟩
    · rintro i v σ H2 H3 hi ⟨sm, pl, ys, y6, rfl, hpl, eS, hy⟩ ⟨rfl, hx⟩
      obtain ⟨en, fe, hen⟩ := (ha.same sm).at_ hx
      have hen0 := hen
      obtain ⟨a, us, rfl, hq, hu⟩ := hen
      have hw := wat_succ (lots := lots) fe
      have il : i < es.length := (List.getElem?_eq_some_iff.mp fe).1
      refine ⟨fun σ' H' => H3 = H' ∧ σ' = [some (.ref e), some (.ref l), some (.ref pl), some (.str (lk (wat lots es i).look)), some (.int ((wat lots es (i + 1)).leg : Nat)), some (.ref S), some (.ref a)], ?_, ?_⟩
      · refine ⟨.ref a, rfl, ixA (j := 0) hq rfl ⟨rfl, _, rfl, ?_⟩⟩
        rw [isw]
        have e1 : (wat lots es (i + 1)).leg = nleg (wat lots es i).leg en := by rw [hw]; rfl
        rw [e1]
        unfold nleg
        cases en.isSwap with
        | true => exact iteT ⟨_, rfl, _, _, rfl, rfl, rfl, rfl⟩
        | false => exact iteF ⟨rfl, rfl⟩
      rintro σ' H4 ⟨rfl, rfl⟩
      have lg : (wat lots es (i + 1)).leg < lots.length := by
        have h1 := wat_leg lots es (i + 1)
        have h2 := swaps_take es (i + 1)
        omega
      obtain ⟨lot, flot⟩ : ∃ lot, lots[(wat lots es (i + 1)).leg]? = some lot := ⟨_, List.getElem?_eq_getElem lg⟩
      have fl2 : (lots.map lotV)[(wat lots es (i + 1)).leg]? = some (lotV lot) := by rw [List.getElem?_map, flot]; rfl
      have e2 : (wat lots es (i + 1)).look = nlook lot (wat lots es i).look en := by
        have : lots.getD (wat lots es (i + 1)).leg 0 = lot := by rw [List.getD_eq_getElem?_getD, flot]; rfl
        rw [hw] at this ⊢
        show nlook (lots.getD (nleg (wat lots es i).leg en) 0) _ en = _
        rw [show lots.getD (nleg (wat lots es i).leg en) 0 = lot from this]
      have nl : en.need = true → (wat lots es i).look.isSome = true := fun h => by
        rw [wat_look]
        exact hR i en fe h
      refine ⟨.ref a, rfl, .ref l, rfl, _, rfl, ixA (hl.same sm) fl2 ⟨_, rfl, .ref a, en, lot, (wat lots es i).look, rfl, hen0, nl, ?_⟩⟩
      rw [← e2]
      refine ⟨.ref a, rfl, ixA (j := 0) hq rfl ⟨rfl, _, rfl, ?_⟩⟩
      rw [isg]
      have put : ∀ (H5 : Hp) (pl' : Addr), Same H3 H5 → SqT K (wo H5 (fun b => b = S)) pl' [.int (wat lots es (i + 1)).x, .int (wat lots es (i + 1)).y] → ∀ t, H5 t = none → ∃ l' b ys', V.ref S = .ref l' ∧ [V.ref t] = [b] ∧ upd H5 t (.tup [.ref pl', .str (lk (wat lots es (i + 1)).look)]) l' = some (.lst ys') ∧ ys'.length < sizeLine ∧ Same H (upd (upd H5 t (.tup [.ref pl', .str (lk (wat lots es (i + 1)).look)])) l' (.lst (ys' ++ [b]))) ∧ SqT K (wo (upd (upd H5 t (.tup [.ref pl', .str (lk (wat lots es (i + 1)).look)])) l' (.lst (ys' ++ [b]))) (fun b => b = S)) pl' [.int (wat lots es (i + 1)).x, .int (wat lots es (i + 1)).y] ∧ (∃ zs, (upd (upd H5 t (.tup [.ref pl', .str (lk (wat lots es (i + 1)).look)])) l' (.lst (ys' ++ [b]))) S = some (.lst zs) ∧ DpAll K (wo (upd (upd H5 t (.tup [.ref pl', .str (lk (wat lots es (i + 1)).look)])) l' (.lst (ys' ++ [b]))) (fun b => b = S)) zs (trackL lots es (i + 1))) := fun H5 pl' s5 hpl' t nt => by
        have st := same_upd (o := .tup [.ref pl', .str (lk (wat lots es (i + 1)).look)]) nt
        have eS5 := s5 _ _ eS
        have tS : t ≠ S := Ne.symm (ne_of_none eS5 nt)
        have m5 : Same (wo H3 (fun b => b = S)) (wo H5 (fun b => b = S)) := fun c o h => by
          have h2 := wo_some h
          rw [wo_in (X := fun b => b = S) h2.1]
          exact s5 _ _ h2.2
        have m6 : Same (wo H5 (fun b => b = S)) (wo (upd H5 t (.tup [.ref pl', .str (lk (wat lots es (i + 1)).look)])) (fun b => b = S)) := fun c o h => by
          have h2 := wo_some h
          rw [wo_in (X := fun b => b = S) h2.1]
          exact st _ _ h2.2
        have m7 : Same (wo (upd H5 t (.tup [.ref pl', .str (lk (wat lots es (i + 1)).look)])) (fun b => b = S)) (wo (upd (upd H5 t (.tup [.ref pl', .str (lk (wat lots es (i + 1)).look)])) S (.lst (ys ++ [.ref t]))) (fun b => b = S)) := wo_mut rfl
        have ly := dpa_len2 hy
        have lt : (trackL lots es i).length = i := by unfold trackL; rw [List.length_map, List.length_range]
        refine ⟨S, .ref t, ys, rfl, rfl, st _ _ eS5, small1000 (by omega), fun c o h => ?_, sqt_same (m6.trans m7) hpl', ys ++ [.ref t], upd_same, ?_⟩
        · rw [upd_ne (ne_of_none h nS0)]
          exact st _ _ (s5 _ _ (sm _ _ h))
        · rw [trackL_succ]
          refine dpa_snoc (.tup (.inl (.inl ?_)) (.cons (.tup (sqt_same (m6.trans m7) hpl') (.cons (.int _) (.cons (.int _) .nil))) (.cons (.str _) .nil))) _ _ (dpa_same (m5.trans (m6.trans m7)) _ _ hy)
          rw [wo_in (X := fun b => b = S) tS, upd_ne tS]
          exact upd_same
      by_cases hg : en.kind = 4
      · obtain ⟨n, rfl⟩ := go_of_kind hg
        obtain ⟨v1, rfl, hv1⟩ : ∃ v1, us = [v1] ∧ v1 = V.int ((n.val : Int) + 1) := one_int hu
        subst hv1
        obtain ⟨lt, elk⟩ : ∃ lt, (wat lots es i).look = some lt := Option.isSome_iff_exists.mp (nl rfl)
        have e3 : (wat lots es (i + 1)).look = some lt := by rw [e2, elk]; rfl
        refine iteDY (decide_eq_true rfl) ⟨_, rfl, _, rfl, .ref a, rfl, ixA (j := 1) hq rfl ⟨pl, (wat lots es i).x, (wat lots es i).y, (n.val : Int) + 1, lt, by rw [e3]; rfl, sqt_same wo_same hpl, fun p2 np2 => ?_⟩⟩
        have sp := same_upd (o := .tup [.int ((wat lots es i).x + ((n.val : Int) + 1) * dx lt), .int ((wat lots es i).y + ((n.val : Int) + 1) * dy lt)]) np2
        have ex : (wat lots es (i + 1)).x = (wat lots es i).x + ((n.val : Int) + 1) * dx lt := by
          rw [hw]
          show nx _ (wat lots es i).look (.go n) = _
          rw [elk]
          rfl
        have ey : (wat lots es (i + 1)).y = (wat lots es i).y + ((n.val : Int) + 1) * dy lt := by
          rw [hw]
          show ny _ (wat lots es i).look (.go n) = _
          rw [elk]
          rfl
        refine ⟨.ref S, rfl, .inl ⟨rfl, _, .inl (.inl (sp _ _ eS))⟩, _, rfl, _, rfl, by show 2 ≤ sizeLine; decide, fun t nt => ?_⟩
        have pS : p2 ≠ S := Ne.symm (ne_of_none eS np2)
        obtain ⟨l', b, ys', h1, h2, h3, h4, h5, h6, zs, h7, h8⟩ := put _ p2 sp (by rw [ex, ey]; exact .inl (.inl (by rw [wo_in (X := fun b => b = S) pS]; exact upd_same))) t nt
        exact ⟨l', ys', b, h1, h2, h3, h4, h5, p2, zs, _, rfl, h6, h7, h8⟩
      · have ex : (wat lots es (i + 1)).x = (wat lots es i).x := by
          rw [hw]
          cases en with
          | go n => exact absurd rfl hg
          | _ => rfl
        have ey : (wat lots es (i + 1)).y = (wat lots es i).y := by
          rw [hw]
          cases en with
          | go n => exact absurd rfl hg
          | _ => rfl
        refine iteDN (decide_eq_false hg) ⟨.ref S, rfl, .inl ⟨rfl, _, .inl (.inl eS)⟩, _, rfl, _, rfl, by show 2 ≤ sizeLine; decide, fun t nt => ?_⟩
        obtain ⟨l', b, ys', h1, h2, h3, h4, h5, h6, zs, h7, h8⟩ := put _ pl (Same.refl _) (by rw [ex, ey]; exact hpl) t nt
        exact ⟨l', ys', b, h1, h2, h3, h4, h5, pl, zs, _, rfl, h6, h7, h8⟩
    · rintro σ H2 ⟨sm, pl, ys, y6, rfl, hpl, eS, hy⟩
      refine ⟨.ref S, rfl, S, ys, rfl, .inl ⟨.inl (.inl eS), fun r nr => ?_⟩⟩
      have sr := same_upd (o := .tup ys) nr
      refine q _ r (sm.trans sr) (.tup (.inl (.inl upd_same)) ?_)
      rw [lx] at hy
      exact dpa_same (wo_same.trans sr) _ _ hy
--@@SPLIT
/-! ### facts -/
def wx (x : Int) : Fin 4 → Int
  | 3 => x - 1
  | _ => x
def wy (y : Int) : Fin 4 → Int
  | 2 => y - 1
  | _ => y
def wside : Fin 4 → Fin 4
  | 0 => 0
  | 1 => 1
  | 2 => 0
  | 3 => 1
def factD (i : Nat) (word : Str) (x y : Int) (what : Str) : PyData := .tuple [.int (i : Nat), .str word, .tuple [.int x, .int y], .str what]
def wayD (i : Nat) (word : Str) (x y : Int) (l : Fin 4) : PyData := factD i word (wx x l) (wy y l) (Lt (wside l))
def openL (i : Nat) (x y : Int) (l : Fin 4) (n : Nat) : List PyData := (List.range n).map fun k : Nat => wayD i "open" (x + (k : Int) * dx l) (y + (k : Int) * dy l) l
theorem openL_succ (i : Nat) (x y : Int) (l : Fin 4) (n : Nat) : openL i x y l (n + 1) = openL i x y l n ++ [wayD i "open" (x + (n : Int) * dx l) (y + (n : Int) * dy l) l] := by
  unfold openL
  rw [List.range_succ, List.map_append]
  rfl
def factsOf (i : Nat) (p : Wk) : Ent → List PyData
  | .sign z => [factD i "sign" p.x p.y z]
  | .bare => [factD i "bare" p.x p.y ""]
  | .spy n z => match p.look with
    | some l => [factD i "sign" (p.x + ((n.val : Int) + 1) * dx l) (p.y + ((n.val : Int) + 1) * dy l) z]
    | none => []
  | .go n => match p.look with
    | some l => openL i p.x p.y l (n.val + 1)
    | none => []
  | .bump => match p.look with
    | some l => [wayD i "shut" p.x p.y l]
    | none => []
  | _ => []
theorem factsOf_len (i : Nat) (p : Wk) (e : Ent) : (factsOf i p e).length ≤ 9 := by
  cases e with
  | go n =>
    unfold factsOf
    cases p.look with
    | none => exact Nat.zero_le _
    | some l =>
      show (openL i p.x p.y l (n.val + 1)).length ≤ 9
      unfold openL
      rw [List.length_map, List.length_range]
      omega
  | spy n z => unfold factsOf; cases p.look <;> simp
  | bump => unfold factsOf; cases p.look <;> simp
  | _ => unfold factsOf; simp
def factsAt (lots : List (Fin 8)) (es : List Ent) (i : Nat) : List PyData := match es[i]? with
  | some e => factsOf i (wat lots es i) e
  | none => []
theorem factsAt_eq {lots : List (Fin 8)} {es : List Ent} {i : Nat} {e : Ent} (h : es[i]? = some e) : factsAt lots es i = factsOf i (wat lots es i) e := by
  unfold factsAt
  rw [h]
def factsL (lots : List (Fin 8)) (es : List Ent) : Nat → List PyData
  | 0 => []
  | n + 1 => factsL lots es n ++ factsAt lots es n
theorem factsL_len (lots : List (Fin 8)) (es : List Ent) : ∀ n, (factsL lots es n).length ≤ 9 * n
  | 0 => Nat.le_refl _
  | n + 1 => by
    have h1 := factsL_len lots es n
    have h2 : (factsAt lots es n).length ≤ 9 := by
      unfold factsAt
      cases es[n]? with
      | none => exact Nat.zero_le _
      | some e => exact factsOf_len _ _ _
    show (factsL lots es n ++ factsAt lots es n).length ≤ _
    rw [List.length_append]
    omega
def factsD (lots : List (Fin 8)) (es : List Ent) : PyData := .tuple (factsL lots es es.length)
theorem sign_of_kind {e : Ent} (h : e.kind = 6) : ∃ z, e = .sign z := by
  cases e with
  | sign z => exact ⟨z, rfl⟩
  | turn q => exact absurd h (by match q with | 0 => decide | 1 => decide | 2 => decide)
  | _ => cases h
theorem spy_of_kind {e : Ent} (h : e.kind = 8) : ∃ n z, e = .spy n z := by
  cases e with
  | spy n z => exact ⟨n, z, rfl⟩
  | turn q => exact absurd h (by match q with | 0 => decide | 1 => decide | 2 => decide)
  | _ => cases h
theorem bare_of_kind {e : Ent} (h : e.kind = 7) : e = .bare := by
  cases e with
  | bare => rfl
  | turn q => exact absurd h (by match q with | 0 => decide | 1 => decide | 2 => decide)
  | _ => cases h
theorem bump_of_kind {e : Ent} (h : e.kind = 5) : e = .bump := by
  cases e with
  | bump => rfl
  | turn q => exact absurd h (by match q with | 0 => decide | 1 => decide | 2 => decide)
  | _ => cases h
/-! ### the program's facts -/
def spWay (K : PySem.W.Frag) : Sp := fun vs H Q _ => ∃ (p : Addr) (x y : Int) (l : Fin 4), vs = [.ref p, .str (Lt l)] ∧ SqT K H p [.int x, .int y] ∧ ∀ t, H t = none → Q (.ref t) (upd H t (.tup [.int (wx x l), .int (wy y l), .str (Lt (wside l))]))
theorem ok_way_of (T : Top w K mg) : FnOk P w K mg base CX0 1 T.a_way_of T.fd_way_of ["place", "letter"] (spWay K) := by
  refine T.F_way_of.ok sc_way_of (fun vs H Q E h => ?_) (fun cdv A outer s H vs Q E hr h => ?_)
  · obtain ⟨p, x, y, l, rfl, _⟩ := h
    rfl
  · obtain ⟨p, x, y, l, rfl, hp, q⟩ := h
    refine ⟨_, (pss_cons (ps_asg (pv 0) (pg_tup rfl (pgs_cons (pg_name (i := 2) sc_way_of.nd rfl (.inl rfl)) (pgs_cons (pg_name (i := 3) sc_way_of.nd rfl (.inl rfl)) pgs_nil))))
      (pss_cons (ps_if (pt_cmpR op_eq (pv 1) pe_str (nomark _)) (pss_one (ps_ret (pe_tup (pa_cons (pv 2) (pa_cons (pe_op op_sub (pv 3) pe_int) (pa_cons pe_str pa_nil)))))) pss_nil)
      (pss_cons (ps_if (pt_cmpR op_eq (pv 1) pe_str (nomark _)) (pss_one (ps_ret (pe_tup (pa_cons (pe_op op_sub (pv 2) pe_int) (pa_cons (pv 3) (pa_cons pe_str pa_nil)))))) pss_nil)
      (pss_one (ps_ret (pe_tup (pa_cons (pv 2) (pa_cons (pv 3) (pa_cons (pv 1) pa_nil))))))))), ?_⟩
    refine ⟨_, rfl, p, _, rfl, hp, rfl, _, _, rfl, _, _, rfl, rfl, ?_⟩
    refine ⟨_, rfl, rfl, _, rfl, ?_⟩
    rw [show decide (V.str (Lt l) = V.str (PySem.Str.ofString "s")) = decide (l = 2) by rw [lt2]; exact ltd l 2]
    match l, q with
    | 2, q => exact iteT ⟨_, rfl, _, rfl, _, _, rfl, rfl, by show 3 ≤ sizeLine; decide, fun t nt => q t nt⟩
    | 0, q =>
      refine iteF ⟨_, rfl, rfl, _, rfl, ?_⟩
      rw [show decide (V.str (Lt 0) = V.str (PySem.Str.ofString "w")) = decide ((0 : Fin 4) = 3) by rw [lt3]; exact ltd 0 3]
      exact iteF ⟨_, rfl, _, rfl, _, rfl, by show 3 ≤ sizeLine; decide, fun t nt => q t nt⟩
    | 1, q =>
      refine iteF ⟨_, rfl, rfl, _, rfl, ?_⟩
      rw [show decide (V.str (Lt 1) = V.str (PySem.Str.ofString "w")) = decide ((1 : Fin 4) = 3) by rw [lt3]; exact ltd 1 3]
      exact iteF ⟨_, rfl, _, rfl, _, rfl, by show 3 ≤ sizeLine; decide, fun t nt => q t nt⟩
    | 3, q =>
      refine iteF ⟨_, rfl, rfl, _, rfl, ?_⟩
      rw [show decide (V.str (Lt 3) = V.str (PySem.Str.ofString "w")) = decide ((3 : Fin 4) = 3) by rw [lt3]; exact ltd 3 3]
      exact iteT ⟨_, rfl, _, _, rfl, rfl, _, rfl, by show 3 ≤ sizeLine; decide, fun t nt => q t nt⟩
def spWayFact (K : PySem.W.Frag) : Sp := fun vs H Q _ => ∃ (p : Addr) (i : Nat) (z : Str) (x y : Int) (l : Fin 4), vs = [.int i, .str z, .ref p, .str (Lt l)] ∧ SqT K H p [.int x, .int y] ∧ ∀ H' u t, Same H H' → H u = none → H t = none → H' u = some (.tup [.int (wx x l), .int (wy y l)]) → H' t = some (.tup [.int i, .str z, .ref u, .str (Lt (wside l))]) → Q (.ref t) H'
theorem ok_way_fact (T : Top w K mg) : FnOk P w K mg base CX0 2 T.a_way_fact T.fd_way_fact ["at", "word", "place", "look"] (spWayFact K) := by
  have G_way_of := ok_way_of (P := P) (w := w) (base := base) T
  refine T.F_way_fact.ok sc_way_fact (fun vs H Q E h => ?_) (fun cdv A outer s H vs Q E hr h => ?_)
  · obtain ⟨p, i, z, x, y, l, rfl, _⟩ := h
    rfl
  · obtain ⟨p, i, z, x, y, l, rfl, hp, q⟩ := h
    refine ⟨_, (pss_cons (ps_asg (pe_call G_way_of hr (by rfl) T.g_way_of T.F_way_of.kp T.b_way_of .nil pass0 (pa_cons (pv 2) (pa_cons (pv 3) pa_nil))) (pg_tup rfl (pgs_cons (pg_name (i := 4) sc_way_fact.nd rfl (.inl rfl)) (pgs_cons (pg_name (i := 5) sc_way_fact.nd rfl (.inl rfl)) (pgs_cons (pg_name (i := 6) sc_way_fact.nd rfl (.inl rfl)) pgs_nil)))))
      (pss_one (ps_ret (pe_tup (pa_cons (pv 0) (pa_cons (pv 1) (pa_cons (pe_tup (pa_cons (pv 4) (pa_cons (pv 5) pa_nil))) (pa_cons (pv 6) pa_nil)))))))), ?_⟩
    refine ⟨_, rfl, _, rfl, p, x, y, l, rfl, hp, fun a na => ?_⟩
    have sa := same_upd (o := .tup [.int (wx x l), .int (wy y l), .str (Lt (wside l))]) na
    refine ⟨a, _, rfl, .inl (.inl upd_same), rfl, _, _, rfl, _, _, rfl, _, _, rfl, rfl, ?_⟩
    refine ⟨_, rfl, _, rfl, _, rfl, _, rfl, by show 2 ≤ sizeLine; decide, fun u nu => ⟨_, rfl, by show 4 ≤ sizeLine; decide, fun t nt => ?_⟩⟩
    have su := same_upd (o := .tup [.int (wx x l), .int (wy y l)]) nu
    have st := same_upd (o := .tup [.int (i : Int), .str z, .ref u, .str (Lt (wside l))]) nt
    exact q _ u t ((sa.trans su).trans st) (sa.free nu) ((sa.trans su).free nt) (st _ _ upd_same) upd_same
def Xk (X : Addr → Prop) (H : Hp) : Prop := ∀ b, X b → H b ≠ none
theorem Xk.same {X : Addr → Prop} {H H' : Hp} (x : Xk X H) (s : Same H H') : Xk X H' := fun b h => by
  cases o : H b with
  | none => exact absurd o (x b h)
  | some o' => rw [s b o' o]; exact fun z => nomatch z
theorem Xk.wo {X : Addr → Prop} {H H' : Hp} (s : Same H H') : Same (M.wo H X) (M.wo H' X) := fun b o h => by
  have h2 := wo_some h
  rw [wo_in (X := X) h2.1]
  exact s _ _ h2.2
theorem Xk.out {X : Addr → Prop} {H H' : Hp} {t : Addr} {o : HO} (x : Xk X H) (n : H t = none) (e : H' t = some o) : M.wo H' X t = some o := by
  rw [wo_in (X := X) (fun z => x t z n)]
  exact e
theorem way_dp {K : PySem.W.Frag} {H H' : Hp} {X : Addr → Prop} {i : Nat} {z : Str} {x y : Int} {l : Fin 4} {u t : Addr} (xk : Xk X H) (nu : H u = none) (nt : H t = none) (eu : H' u = some (.tup [.int (wx x l), .int (wy y l)])) (et : H' t = some (.tup [.int i, .str z, .ref u, .str (Lt (wside l))])) : Dp K (M.wo H' X) (.ref t) (wayD i z x y l) :=
  .tup (.inl (.inl (xk.out nt et))) (.cons (.int _) (.cons (.str _) (.cons (.tup (.inl (.inl (xk.out nu eu))) (.cons (.int _) (.cons (.int _) .nil))) (.cons (.str _) .nil))))
def spFactsOf (K : PySem.W.Frag) : Sp := fun vs H Q _ => ∃ (v : V) (p : Addr) (i : Nat) (k : Wk) (e : Ent) (X : Addr → Prop), vs = [.int i, v, .ref p, .str (lk k.look)] ∧ EntAt K H v e ∧ (e.need = true → k.look.isSome = true) ∧ Xk X H ∧ SqT K (M.wo H X) p [.int k.x, .int k.y] ∧ ∀ H' L ys, Same H H' → H L = none → H' L = some (.lst ys) → DpAll K (M.wo H' X) ys (factsOf i k e) → Q (.ref L) H'
theorem isk (e : Ent) (j : Fin 10) : decide (V.str (ws e.kind) = V.str (ws j)) = decide (e.kind = j) := wsd e.kind j
theorem ok_facts_of_entry (T : Top w K mg) : FnOk P w K mg base CX0 3 T.a_facts_of_entry T.fd_facts_of_entry ["at", "entry", "place", "look"] (spFactsOf K) := by
  have G_gone := ok_gone (P := P) (w := w) (base := base) T
  have G_way_fact := ok_way_fact (P := P) (w := w) (base := base) T
  refine T.F_facts_of_entry.ok sc_facts_of_entry (fun vs H Q E h => ?_) (fun cdv A outer s H vs Q E hr h => ?_)
  · obtain ⟨v, p, i, k, e, X, rfl, _⟩ := h
    rfl
  · obtain ⟨v, p, i, k, e, X, rfl, ⟨a, us, rfl, hq, hu⟩, hn, xk, hp, q⟩ := h
    refine ⟨_, (pss_cons (ps_set (i := 4) sc_facts_of_entry.nd rfl (.inl rfl) (pe_ix (r := rIx K) (SeqW.ix_seqK rfl) (pv 1) pe_int (fun _ _ => rfl)))
      (pss_cons (ps_if (pt_cmpR op_eq (pv 4) pe_str (nomark _)) (pss_one (ps_ret (pe_lst (pa_cons (pe_tup (pa_cons (pv 0) (pa_cons pe_str (pa_cons (pv 2) (pa_cons (pe_ix (r := rIx K) (SeqW.ix_seqK rfl) (pv 1) pe_int (fun _ _ => rfl)) pa_nil))))) pa_nil)))) pss_nil)
      (pss_cons (ps_if (pt_cmpR op_eq (pv 4) pe_str (nomark _)) (pss_one (ps_ret (pe_lst (pa_cons (pe_tup (pa_cons (pv 0) (pa_cons pe_str (pa_cons (pe_call G_gone hr (by rfl) T.g_gone T.F_gone.kp T.b_gone .nil pass0 (pa_cons (pv 2) (pa_cons (pv 3) (pa_cons (pe_ix (r := rIx K) (SeqW.ix_seqK rfl) (pv 1) pe_int (fun _ _ => rfl)) pa_nil)))) (pa_cons (pe_ix (r := rIx K) (SeqW.ix_seqK rfl) (pv 1) pe_int (fun _ _ => rfl)) pa_nil))))) pa_nil)))) pss_nil)
      (pss_cons (ps_if (pt_cmpR op_eq (pv 4) pe_str (nomark _)) (pss_one (ps_ret (pe_lst (pa_cons (pe_tup (pa_cons (pv 0) (pa_cons pe_str (pa_cons (pv 2) (pa_cons pe_str pa_nil))))) pa_nil)))) pss_nil)
      (pss_cons (ps_if (pt_cmpR op_eq (pv 4) pe_str (nomark _)) (pss_one (ps_ret (pe_lc (own := [("done", 5)]) (g := gName 5) (by rfl) sc_facts_of_entry.nd (pi_range1 (by rfl) T.m_range (pa_cons (pe_ix (r := rIx K) (SeqW.ix_seqK rfl) (pv 1) pe_int (fun _ _ => rfl)) pa_nil)) (blkOk_by (own := [("done", 5)]) (N := ["at", "entry", "place", "look", "word", "done"]) (sc := defScope s_facts_of_entry) (by decide +kernel)) (fun _ _ _ _ _ => (pg_name (i := 5) sc_facts_of_entry.nd rfl (Or.inl rfl))) (fun _ _ _ _ _ => pts_nil) (fun _ _ _ _ _ => (pe_call G_way_fact hr (by rfl) T.g_way_fact T.F_way_fact.kp T.b_way_fact .nil pass0 (pa_cons (pv 0) (pa_cons pe_str (pa_cons (pe_call G_gone hr (by rfl) T.g_gone T.F_gone.kp T.b_gone .nil pass0 (pa_cons (pv 2) (pa_cons (pv 3) (pa_cons (pv 5) pa_nil)))) (pa_cons (pv 3) pa_nil))))))))) pss_nil)
      (pss_cons (ps_if (pt_cmpR op_eq (pv 4) pe_str (nomark _)) (pss_one (ps_ret (pe_lst (pa_cons (pe_call G_way_fact hr (by rfl) T.g_way_fact T.F_way_fact.kp T.b_way_fact .nil pass0 (pa_cons (pv 0) (pa_cons pe_str (pa_cons (pv 2) (pa_cons (pv 3) pa_nil))))) pa_nil)))) pss_nil)
      (pss_one (ps_ret (pe_lst pa_nil))))))))), ?_⟩
    refine ⟨.ref a, rfl, ixA (j := 0) hq rfl ⟨_, rfl, rfl, _, rfl, ?_⟩⟩
    have hp0 := sqt_same wo_same hp
    have step1 : ∀ (j : Fin 10) (B C : Prop), (e.kind = j → B) → (e.kind ≠ j → C) → if decide (V.str (ws e.kind) = V.str (ws j)) = true then B else C := fun j B C h1 h2 => by
      rw [isk]
      exact ite2 (fun z => h1 (of_decide_eq_true z)) (fun z => h2 (fun y => z (decide_eq_true y)))
    refine step1 6 _ _ (fun h6 => ?_) (fun h6 => ⟨_, rfl, rfl, _, rfl, step1 8 _ _ (fun h8 => ?_) (fun h8 => ⟨_, rfl, rfl, _, rfl, step1 7 _ _ (fun h7 => ?_) (fun h7 => ⟨_, rfl, rfl, _, rfl, step1 4 _ _ (fun h4 => ?_) (fun h4 => ⟨_, rfl, rfl, _, rfl, step1 5 _ _ (fun h5 => ?_) (fun h5 => ?_)⟩)⟩)⟩)⟩)
    · obtain ⟨z, rfl⟩ : ∃ z, e = .sign z := sign_of_kind h6
      obtain ⟨v1, rfl, rfl⟩ : ∃ v1, us = [v1] ∧ v1 = V.str z := by
        cases hu with
        | cons h1 h2 => cases h1; cases h2; exact ⟨_, rfl, rfl⟩
      refine ⟨_, rfl, _, rfl, .ref a, rfl, ixA (j := 1) hq rfl ⟨by show 4 ≤ sizeLine; decide, fun t nt => ⟨by show 1 ≤ sizeLine; decide, fun L nL => ?_⟩⟩⟩
      have st := same_upd (o := .tup [.int (i : Int), .str "sign", .ref p, .str z]) nt
      have sL := same_upd (o := .lst [.ref t]) nL
      exact q _ L _ (st.trans sL) (st.free nL) upd_same (.cons (.tup (.inl (.inl (xk.out nt (sL _ _ upd_same)))) (.cons (.int _) (.cons (.str _) (.cons (.tup (sqt_same (Xk.wo (st.trans sL)) hp) (.cons (.int _) (.cons (.int _) .nil))) (.cons (.str _) .nil))))) .nil)
    · obtain ⟨n, z, rfl⟩ : ∃ n z, e = .spy n z := spy_of_kind h8
      obtain ⟨v1, v2, rfl, rfl, rfl⟩ : ∃ v1 v2, us = [v1, v2] ∧ v1 = V.int ((n.val : Int) + 1) ∧ v2 = V.str z := by
        cases hu with
        | cons h1 h2 =>
          cases h1
          cases h2 with
          | cons h3 h4 => cases h3; cases h4; exact ⟨_, _, rfl, rfl, rfl⟩
      obtain ⟨l, el⟩ := Option.isSome_iff_exists.mp (hn rfl)
      refine ⟨_, rfl, _, rfl, _, rfl, .ref a, rfl, ixA (j := 1) hq rfl ⟨p, k.x, k.y, (n.val : Int) + 1, l, by rw [el]; rfl, hp0, fun g ng => ?_⟩⟩
      have sg := same_upd (o := .tup [.int (k.x + ((n.val : Int) + 1) * dx l), .int (k.y + ((n.val : Int) + 1) * dy l)]) ng
      refine ⟨.ref a, rfl, ixA (j := 2) (hq.same sg) rfl ⟨by show 4 ≤ sizeLine; decide, fun t nt => ⟨by show 1 ≤ sizeLine; decide, fun L nL => ?_⟩⟩⟩
      have st := same_upd (o := .tup [.int (i : Int), .str "sign", .ref g, .str z]) nt
      have sL := same_upd (o := .lst [.ref t]) nL
      refine q _ L _ ((sg.trans st).trans sL) ((sg.trans st).free nL) upd_same ?_
      have ef : factsOf i k (.spy n z) = [factD i "sign" (k.x + ((n.val : Int) + 1) * dx l) (k.y + ((n.val : Int) + 1) * dy l) z] := by
        unfold factsOf
        rw [el]
      rw [ef]
      exact .cons (.tup (.inl (.inl (xk.out (sg.free nt) (sL _ _ upd_same)))) (.cons (.int _) (.cons (.str _) (.cons (.tup (.inl (.inl (xk.out ng (sL _ _ (st _ _ upd_same))))) (.cons (.int _) (.cons (.int _) .nil))) (.cons (.str _) .nil))))) .nil
    · obtain rfl : e = .bare := bare_of_kind h7
      refine ⟨_, rfl, _, rfl, by show 4 ≤ sizeLine; decide, fun t nt => ⟨by show 1 ≤ sizeLine; decide, fun L nL => ?_⟩⟩
      have st := same_upd (o := .tup [.int (i : Int), .str "bare", .ref p, .str ""]) nt
      have sL := same_upd (o := .lst [.ref t]) nL
      exact q _ L _ (st.trans sL) (st.free nL) upd_same (.cons (.tup (.inl (.inl (xk.out nt (sL _ _ upd_same)))) (.cons (.int _) (.cons (.str _) (.cons (.tup (sqt_same (Xk.wo (st.trans sL)) hp) (.cons (.int _) (.cons (.int _) .nil))) (.cons (.str _) .nil))))) .nil)
    · obtain ⟨n, rfl⟩ := go_of_kind h4
      obtain ⟨v1, rfl, rfl⟩ := one_int hu
      obtain ⟨l, el⟩ := Option.isSome_iff_exists.mp (hn rfl)
      have ef : factsOf i k (.go n) = openL i k.x k.y l (n.val + 1) := by
        unfold factsOf
        rw [el]
      refine ⟨.ref a, rfl, ixA (j := 1) hq rfl ⟨(n.val : Int) + 1, rfl, by omega, by omega, fun D hD => lc_it (walk_range (n := ((n.val : Int) + 1 - 0).toNat)) (fun j H' => Same H H' ∧ ∃ ys : List V, ys.length = j ∧ DpAll K (M.wo H' (fun b => X b ∨ b = D)) ys (openL i k.x k.y l j) ∧ H' D = some (.lst ys)) ⟨same_upd hD, [], rfl, .nil, upd_same⟩ (fun _ _ _ _ => trivial) ?_ ?_⟩⟩
      · rintro j v H1 H2 hj ⟨sm, ys, ly, hy, eD⟩ ⟨rfl, rfl⟩
        have x1 : Xk (fun b => X b ∨ b = D) H2 := fun b h => h.elim ((xk.same sm) b) (fun z => by rw [z, eD]; exact fun y => nomatch y)
        refine ⟨rfl, _, rfl, _, rfl, _, rfl, _, rfl, p, k.x, k.y, _, l, by rw [el]; rfl, sqt_same sm hp0, fun g ng => ?_⟩
        have e0 : (0 : Int) + (j : Int) = j := by omega
        rw [e0] at *
        have sg := same_upd (o := .tup [.int (k.x + (j : Int) * dx l), .int (k.y + (j : Int) * dy l)]) ng
        refine ⟨_, rfl, g, i, _, k.x + (j : Int) * dx l, k.y + (j : Int) * dy l, l, by rw [el]; rfl, .inl (.inl upd_same), fun H3 u t s3 nu nt eu et => ?_⟩
        have s23 := sg.trans s3
        have m6 : Same (M.wo H3 (fun b => X b ∨ b = D)) (M.wo (upd H3 D (.lst (ys ++ [.ref t]))) (fun b => X b ∨ b = D)) := wo_mut (X := fun b => X b ∨ b = D) (.inr rfl)
        refine ⟨ys, s23 _ _ eD, small1000 (by omega), fun b o h => ?_, ys ++ [.ref t], by rw [List.length_append, ly]; rfl, ?_, upd_same⟩
        · rw [upd_ne (ne_of_none h hD)]
          exact s23 _ _ (sm _ _ h)
        · rw [openL_succ]
          exact dpa_snoc (dp_same m6 _ _ (way_dp (x1.same sg) nu nt eu et)) _ _ (dpa_same ((Xk.wo s23).trans m6) _ _ hy)
      · rintro H1 ⟨sm, ys, ly, hy, eD⟩
        have en : ((n.val : Int) + 1 - 0).toNat = n.val + 1 := by omega
        rw [en, ← ef] at hy
        exact q _ D ys sm hD eD (dpa_same (wo_less (fun b z => .inl z)) _ _ hy)
    · obtain rfl : e = .bump := bump_of_kind h5
      obtain ⟨l, el⟩ := Option.isSome_iff_exists.mp (hn rfl)
      refine ⟨_, rfl, _, rfl, _, rfl, p, i, _, k.x, k.y, l, by rw [el]; rfl, hp0, fun H3 u t s3 nu nt eu et => ⟨by show 1 ≤ sizeLine; decide, fun L nL => ?_⟩⟩
      have sL := same_upd (o := .lst [.ref t]) nL
      have ef : factsOf i k .bump = [wayD i "shut" k.x k.y l] := by
        unfold factsOf
        rw [el]
      refine q _ L _ (s3.trans sL) (s3.free nL) upd_same ?_
      rw [ef]
      exact .cons (way_dp xk nu nt (sL _ _ eu) (sL _ _ et)) .nil
    · refine ⟨Nat.zero_le _, fun L nL => q _ L _ (same_upd nL) nL upd_same ?_⟩
      have ef : factsOf i k e = [] := by
        cases e with
        | face l => rfl
        | turn q => rfl
        | swap => rfl
        | sign z => exact absurd rfl h6
        | spy n z => exact absurd rfl h8
        | bare => exact absurd rfl h7
        | go n => exact absurd rfl h4
        | bump => exact absurd rfl h5
      rw [ef]
      exact .nil
--@@SPLIT
/-! ### all facts of a log -/
def posL (lots : List (Fin 8)) (es : List Ent) (n : Nat) : List PyData := (List.range n).map fun i : Nat => posD (wat lots es i)
theorem posL_eq (lots : List (Fin 8)) (es : List Ent) (n : Nat) : posL lots es (n + 1) = posD (wat lots es 0) :: trackL lots es n := by
  unfold posL trackL
  rw [List.range_succ_eq_map, List.map_cons, List.map_map]
  rfl
theorem posL_at {lots : List (Fin 8)} {es : List Ent} {n i : Nat} {d : PyData} (h : (posL lots es n)[i]? = some d) : d = posD (wat lots es i) := by
  unfold posL at h
  rw [List.getElem?_map] at h
  cases e : (List.range n)[i]? with
  | none => rw [e] at h; cases h
  | some j =>
    rw [e] at h
    obtain ⟨h1, h2⟩ := List.getElem?_eq_some_iff.mp e
    rw [List.getElem_range] at h2
    rw [← h2] at h
    exact (Option.some.inj h).symm
theorem pos_parts {K : PySem.W.Frag} {H : Hp} {v : V} {p : Wk} (h : Dp K H v (posD p)) : ∃ t pl, v = .ref t ∧ SqT K H t [.ref pl, .str (lk p.look)] ∧ SqT K H pl [.int p.x, .int p.y] := by
  cases h with
  | tup hs ha =>
    cases ha with
    | cons h1 h2 =>
      cases h2 with
      | cons h3 h4 =>
        cases h3
        cases h4
        cases h1 with
        | tup hp hq =>
          cases hq with
          | cons h5 h6 =>
            cases h5
            cases h6 with
            | cons h7 h8 =>
              cases h7
              cases h8
              exact ⟨_, _, rfl, hs, hp⟩
def spFacts (K : PySem.W.Frag) (C : Addr) : Sp := fun vs H Q E => ∃ (e l : Addr) (xs zs0 : List V) (es : List Ent) (ds : List PyData), vs = [.ref e, .ref l] ∧ SqA K H e xs ∧ Rows K H xs es ∧ SqA K H l zs0 ∧ DpAll K H zs0 ds ∧ es.length ≤ 100 ∧ ds.length ≤ 200 ∧ Right es ∧ (∀ L, badL (1 + swaps es) ds = none → zs0 = L.map lotV → ∀ H' r, Same H H' → Dp K H' (.ref r) (factsD L es) → Q (.ref r) H') ∧ (∀ i, badL (1 + swaps es) ds = some i → BadX C H i E)
theorem ok_facts (T : Top w K mg) : FnOk P w K mg base (L2.CX P w) 8 T.a_facts T.fd_facts ["log", "lots"] (spFacts K T.a_NoDealing) := by
  have G_track := ok_track (P := P) (w := w) (base := base) T
  have G_facts_of_entry := ok_facts_of_entry (P := P) (w := w) (base := base) T
  obtain ⟨q0, hS, hS0⟩ := T.v_START
  refine T.F_facts.okX sc_facts (fun vs H Q E h => ?_) (fun cdv A outer s H vs Q E hr h => ?_)
  · obtain ⟨e, l, xs, zs0, es, ds, rfl, _⟩ := h
    rfl
  · obtain ⟨e, l, xs, zs0, es, ds, rfl, hs, ha, hl, hd0, hlen, hlen2, hR, q0', bad⟩ := h
    have lx := ha.len
    refine ⟨_, (pss_cons (ps_set (i := 2) sc_facts.nd rfl (.inl rfl) (pe_call G_track hr (by rfl) T.g_track T.F_track.kp T.b_track .nil (passes_call (takes_of rfl rfl rfl rfl) (fun _ _ _ _ h => h)) (pa_cons (pv 0) (pa_cons (pv 1) pa_nil))))
      (pss_cons (ps_set (i := 3) sc_facts.nd rfl (.inl rfl) (pe_lst (pa_cons (pe_glob (v := .ref T.a_START) (by rfl) T.g_START rfl) (StX.pa_star (pv 2) pa_nil))))
      (pss_cons (ps_set (i := 4) sc_facts.nd rfl (.inl rfl) (pe_lst pa_nil))
      (pss_cons (ps_for (passes_of rfl) rfl (SeqW.pi_enumA (by rfl) T.m_enumerate (pa_cons (pv 0) pa_nil)) (pg_tup rfl (pgs_cons (pg_name (i := 5) sc_facts.nd rfl (.inl rfl)) (pgs_cons (pg_name (i := 6) sc_facts.nd rfl (.inl rfl)) pgs_nil))) (pss_cons (ps_asg (pe_ix ix_list (pv 3) (pv 5) (fun _ _ => rfl)) (pg_tup rfl (pgs_cons (pg_name (i := 7) sc_facts.nd rfl (.inl rfl)) (pgs_cons (pg_name (i := 8) sc_facts.nd rfl (.inl rfl)) pgs_nil))))
      (pss_one (ps_expr (pe_bm PySem.F.plainAttrs_list PySem.F.slot_list_extend PySem.F.type_list_extend mt_extend (pv 4) (pa_cons (pe_call G_facts_of_entry (hr.mono (by decide)) (by rfl) T.g_facts_of_entry T.F_facts_of_entry.kp T.b_facts_of_entry .nil pass0 (pa_cons (pv 5) (pa_cons (pv 6) (pa_cons (pv 7) (pa_cons (pv 8) pa_nil))))) pa_nil))))))
      (pss_one (ps_ret (pe_callTy call_tuple_of (by rfl) T.m_tuple (by decide +kernel) (pa_cons (pv 4) pa_nil)))))))), ?_⟩
    refine ⟨.ref e, rfl, .ref l, rfl, e, l, xs, zs0, es, ds, rfl, hs, ha, hl, hd0, by omega, hlen2, hR, fun lots hb hzl H1 r s1 hr1 => ?_, fun i hi => bad i hi⟩
    have q := q0' lots hb hzl
    obtain ⟨zs, hz1, hz2⟩ : ∃ zs, SqT K H1 r zs ∧ DpAll K H1 zs (trackL lots es es.length) := by
      cases hr1 with
      | tup h1 h2 => exact ⟨_, h1, h2⟩
    have lz := dpa_len2 hz2
    have lt : (trackL lots es es.length).length = es.length := by unfold trackL; rw [List.length_map, List.length_range]
    have hp : DpAll K H1 (.ref T.a_START :: zs) (posL lots es (es.length + 1)) := by
      rw [posL_eq, wat_zero]
      exact .cons (.tup (hS _) (.cons (.tup (hS0 _) (.cons (.int _) (.cons (.int _) .nil))) (.cons (.str _) .nil))) hz2
    refine ⟨.ref r, rfl, r, zs, rfl, .inl hz1, ?_, fun A0 nA => ?_⟩
    · show (.ref T.a_START :: (zs ++ [])).length ≤ sizeLine
      rw [List.append_nil]
      exact Nat.le_of_lt (small1000 (by rw [List.length_cons]; omega))
    refine ⟨Nat.zero_le _, fun F nF => ?_⟩
    have sA := same_upd (o := .lst (.ref T.a_START :: (zs ++ []))) nA
    have sF := same_upd (o := .lst []) nF
    have s2 := (s1.trans sA).trans sF
    have nF1 : H1 F = none := sA.free nF
    have AF : A0 ≠ F := ne_of_none upd_same nF
    refine ⟨.ref e, rfl, e, xs, rfl, (fun H' => Same H H'), kpA hs, s2, fun J G wk hG => for_it wk (fun i σ H' => Same H1 H' ∧ ∃ ys y5 y6 y7 y8, σ = [some (.ref e), some (.ref l), some (.ref r), some (.ref A0), some (.ref F), y5, y6, y7, y8] ∧ H' A0 = some (.lst (.ref T.a_START :: zs)) ∧ H' F = some (.lst ys) ∧ DpAll K (M.wo H' (fun b => b = F)) ys (factsL lots es i))
      ⟨sA.trans sF, [], none, none, none, none, rfl, sF _ _ (by rw [upd_same, List.append_nil]), upd_same, .nil⟩ (fun i σ H' _ h => hG _ (s1.trans h.1)) ?_ ?_⟩
    · rintro i v σ H2 H3 hi ⟨sm, ys, y5, y6, y7, y8, rfl, eA, eF, hy⟩ ⟨t, u1, u2, rfl, nt, rfl, e1, e2⟩
      cases e1
      have st := same_upd (o := .tup [.int (i : Nat), u2]) nt
      obtain ⟨en, fe, hen⟩ := (ha.same ((s1.trans sm).trans st)).at_ e2
      have il := (List.getElem?_eq_some_iff.mp fe).1
      obtain ⟨v, gv⟩ : ∃ v, (.ref T.a_START :: zs)[i]? = some v := ⟨_, List.getElem?_eq_getElem (by rw [List.length_cons]; omega)⟩
      have m3 : Same H1 (M.wo (upd H2 t (.tup [.int (i : Nat), u2])) (fun b => b = F)) := fun c o z => by
        rw [wo_in (X := fun b => b = F) (ne_of_none z nF1)]
        exact st _ _ (sm _ _ z)
      obtain ⟨d, fd, gd⟩ := dpa_at _ _ (dpa_same m3 _ _ hp) i v gv
      have := posL_at fd
      subst this
      obtain ⟨tp, pl, rfl, hp1, hp2⟩ := pos_parts gd
      have eF3 := st _ _ eF
      refine ⟨t, _, rfl, .inl (.inl upd_same), rfl, _, _, rfl, _, _, rfl, rfl, ?_⟩
      refine ⟨.ref A0, rfl, _, rfl, A0, _, _, _, rfl, rfl, .inl (.inl (st _ _ eA)), atI_nat gv, tp, _, rfl, sqt_same wo_same hp1, rfl, _, _, rfl, _, _, rfl, rfl, ?_⟩
      have nl : en.need = true → (wat lots es i).look.isSome = true := fun h => by
        rw [wat_look]
        exact hR i en fe h
      have xk : Xk (fun b => b = F) (upd H2 t (.tup [.int (i : Nat), u2])) := fun b h => by rw [h, eF3]; exact fun z => nomatch z
      refine ⟨.ref F, rfl, .inl ⟨rfl, _, .inl (.inl eF3)⟩, _, rfl, _, rfl, _, rfl, _, rfl, u2, pl, i, wat lots es i, en, (fun b => b = F), rfl, hen, nl, xk, hp2, fun H4 L fs s4 nL eL hf => ?_⟩
      have ly := dpa_len2 hy
      have lf := dpa_len2 hf
      have b1 := factsL_len lots es i
      have b2 := factsOf_len i (wat lots es i) en
      have m6 : Same (M.wo H4 (fun b => b = F)) (M.wo (upd H4 F (.lst (ys ++ fs))) (fun b => b = F)) := wo_mut rfl
      refine ⟨F, L, ys, fs, rfl, rfl, s4 _ _ eF3, eL, Nat.le_of_lt (small1000 (by omega)), fun c o z => ?_, ys ++ fs, _, _, _, _, rfl, ?_, upd_same, ?_⟩
      · rw [upd_ne (ne_of_none z nF1)]
        exact s4 _ _ (st _ _ (sm _ _ z))
      · rw [upd_ne AF]
        exact s4 _ _ (st _ _ eA)
      · show DpAll K _ (ys ++ fs) (factsL lots es i ++ factsAt lots es i)
        rw [factsAt_eq fe]
        exact dpa_app _ _ _ _ (dpa_same ((Xk.wo (st.trans s4)).trans m6) _ _ hy) (dpa_same m6 _ _ hf)
    · rintro σ H2 ⟨sm, ys, y5, y6, y7, y8, rfl, eA, eF, hy⟩
      refine ⟨.ref F, rfl, F, ys, rfl, .inl ⟨.inl (.inl eF), fun r2 nr => ?_⟩⟩
      have sr := same_upd (o := .tup ys) nr
      rw [lx] at hy
      exact q _ r2 ((s1.trans sm).trans sr) (.tup (.inl (.inl upd_same)) (dpa_same (wo_same.trans sr) _ _ hy))
--@@SPLIT
/-! ### of its own class alone -/
theorem count_vals {y : V} : ∀ {ys : List V} {us : List Value}, Vals ys us → ys.all flatV = true → us.countP (eqU y) = ys.countP (fun z => eqV z y)
  | _, _, .nil, _ => rfl
  | _, _, .cons r rs, h => by
    rw [List.all_cons] at h
    obtain ⟨h1, h2⟩ := Bool.and_eq_true_iff.mp h
    rw [List.countP_cons, List.countP_cons, count_vals rs h2, eqU_of r h1]
theorem mt_countV {X : Cx} : MtR X "list.count" (fun x xs H Q => ∃ (p : Addr) (ys : List V) (y : V), x = .ref p ∧ xs = [y] ∧ SqL X.K H p ys ∧ flatV y = true ∧ ys.all flatV = true ∧ Q (.int (ys.countP (fun z => eqV z y) : Nat)) H) := by
  intro pins s σ H x xs v us Q I rx rxs h
  obtain ⟨p, ys, y, rfl, rfl, hs, fy, fys, q⟩ := h
  cases rx
  obtain ⟨u, rfl, ru⟩ := rxs.one
  obtain ⟨its, rv, ⟨⟨cls, dd, data, sl⟩, n, ho, hc, hdn, hd⟩, hlen⟩ := I.list hs
  simp only at hc hd
  subst hc hd
  refine call_meets PySem.F.slot_list_count ⟨_, ho, rfl⟩ PySem.F.entry_list_count (PySem.F.args_list_count_2 _ _) (SeqAt.list_countAt p its.toArray n dd sl u (eqU y)) ⟨ho, fun z hz => mem_eqAt ru fy rv fys z (by simpa using hz), ?_⟩
  refine ⟨.int (ys.countP (fun z => eqV z y) : Nat), H, I.tok _, ⟨s.toks, ?_⟩, q⟩
  show Value.int ((its.toArray.toList.countP (eqU y) : Nat) : Int) s.toks = _
  rw [show its.toArray.toList = its from rfl, count_vals rv fys]
def spOwn (C : Addr) (a : Addr) (cls : Value) (d : Option Addr) : Sp := fun vs H Q _ => vs = [.ref a] ∧ cls = .ref C ∧ ∃ dd fs, d = some dd ∧ H dd = some (.xd fs) ∧ ∀ H', Same H H' → Q (.bl true) H'
theorem ok_Lown (T : Top w K mg) {a : Addr} {oe : Obj} {cls : Value} {d : Option Addr} (hz : Zc cls d oe) (hf : ∃ vs, oe.data = .fields vs) : ExcM.FnP P w K mg base (a, oe) 1 T.a_Lown T.fd_Lown ["_law_e"] (spOwn T.a_NoDealing a cls d) := by
  refine ExcM.fun_okP T.F_Lown sc_Lown (fun vs H Q E h => ?_) (fun cdv A outer s H vs Q E hr h => ?_)
  · obtain ⟨rfl, _⟩ := h
    rfl
  · obtain ⟨rfl, rfl, dd, fs, rfl, hd, q⟩ := h
    refine ⟨_, (pss_cons (ps_set (i := 1) sc_Lown.nd rfl (.inl rfl) (pe_lst (pa_cons (pe_callB (ExcM.call_isP T.exc List.mem_cons_self hz hf) (by rfl) T.m_isinstance (by decide +kernel) (pa_cons (pv 0) (pa_cons (pe_glob (v := .ref T.a_NoLot) (by rfl) T.g_NoLot rfl) pa_nil))) (pa_cons (pe_callB (ExcM.call_isP T.exc List.mem_cons_self hz hf) (by rfl) T.m_isinstance (by decide +kernel) (pa_cons (pv 0) (pa_cons (pe_glob (v := .ref T.a_BadLog) (by rfl) T.g_BadLog rfl) pa_nil))) (pa_cons (pe_callB (ExcM.call_isP T.exc List.mem_cons_self hz hf) (by rfl) T.m_isinstance (by decide +kernel) (pa_cons (pv 0) (pa_cons (pe_glob (v := .ref T.a_NoDealing) (by rfl) T.g_NoDealing rfl) pa_nil))) (pa_cons (pe_callB (ExcM.call_isP T.exc List.mem_cons_self hz hf) (by rfl) T.m_isinstance (by decide +kernel) (pa_cons (pv 0) (pa_cons (pe_glob (v := .ref T.a_BadBox) (by rfl) T.g_BadBox rfl) pa_nil))) pa_nil))))))
      (pss_cons (ps_set (i := 1) sc_Lown.nd rfl (.inl rfl) (pe_op op_cat (pv 1) (pe_lst (pa_cons (pe_callB (ExcM.call_isP T.exc List.mem_cons_self hz hf) (by rfl) T.m_isinstance (by decide +kernel) (pa_cons (pv 0) (pa_cons (pe_glob (v := .ref T.a_NoName) (by rfl) T.g_NoName rfl) pa_nil))) (pa_cons (pe_callB (ExcM.call_isP T.exc List.mem_cons_self hz hf) (by rfl) T.m_isinstance (by decide +kernel) (pa_cons (pv 0) (pa_cons (pe_glob (v := .ref T.a_Twice) (by rfl) T.g_Twice rfl) pa_nil))) (pa_cons (pe_callB (ExcM.call_isP T.exc List.mem_cons_self hz hf) (by rfl) T.m_isinstance (by decide +kernel) (pa_cons (pv 0) (pa_cons (pe_glob (v := .ref T.a_NoWalker) (by rfl) T.g_NoWalker rfl) pa_nil))) pa_nil))))))
      (pss_one (ps_ret (pe_and (pe_cmpR op_eq (pe_bm PySem.F.plainAttrs_list PySem.F.slot_list_count PySem.F.type_list_count mt_countV (pv 1) (pa_cons pe_bl pa_nil)) pe_int (nomark _)) (pe_and (pe_callB (ExcM.call_isP T.exc List.mem_cons_self hz hf) (by rfl) T.m_isinstance (by decide +kernel) (pa_cons (pv 0) (pa_cons (pe_glob (v := .ref T.a_NeedleError) (by rfl) T.g_NeedleError rfl) pa_nil))) (pe_one (pe_callB (ExcM.call_isP T.exc List.mem_cons_self hz hf) (by rfl) T.m_isinstance (by decide +kernel) (pa_cons (pv 0) (pa_cons (pe_bltn (v := .ty "ValueError") (by rfl) T.m_ValueError (by decide +kernel) rfl) pa_nil)))))))))), ?_⟩
    have ro : ∀ {C : Addr} (u : Value), RelV (.ref C) u → u = .ref C := fun u h => h
    refine ⟨_, rfl, _, _, _, fs, rfl, ro, hd, T.kit_NoLot, _, rfl, _, _, _, fs, rfl, ro, hd, T.kit_BadLog, _, rfl, _, _, _, fs, rfl, ro, hd, T.kit_NoDealing, _, rfl, _, _, _, fs, rfl, ro, hd, T.kit_BadBox, by show 4 ≤ sizeLine; decide, fun l1 n1 => ?_⟩
    have s1 := same_upd (o := .lst [.bl false, .bl false, .bl true, .bl false]) n1
    have hd1 := s1 _ _ hd
    refine ⟨.ref l1, rfl, _, rfl, _, _, _, fs, rfl, ro, hd1, T.kit_NoName, _, rfl, _, _, _, fs, rfl, ro, hd1, T.kit_Twice, _, rfl, _, _, _, fs, rfl, ro, hd1, T.kit_NoWalker, by show 3 ≤ sizeLine; decide, fun l2 n2 => ?_⟩
    have s2 := same_upd (o := .lst [.bl false, .bl false, .bl false]) n2
    refine ⟨l1, l2, _, _, rfl, rfl, s2 _ _ upd_same, upd_same, by show 7 ≤ sizeLine; decide, fun l3 n3 => ?_⟩
    have s3 := same_upd (o := .lst ([.bl false, .bl false, .bl true, .bl false] ++ [.bl false, .bl false, .bl false])) n3
    have hd3 := s3 _ _ (s2 _ _ hd1)
    refine ⟨.ref l3, rfl, .inl ⟨rfl, _, .inl (.inl upd_same)⟩, l3, _, _, rfl, rfl, .inl (.inl upd_same), rfl, rfl, rfl, _, rfl, ite2 (fun _ => ?_) (fun z => absurd (decide_eq_true rfl) z)⟩
    refine ⟨_, rfl, _, _, _, fs, rfl, ro, hd3, T.kit_NeedleError, _, rfl, iteT ?_⟩
    exact ⟨_, rfl, _, _, _, fs, rfl, (fun u h => h), hd3, T.kit_VE, q _ ((s1.trans s2).trans s3)⟩
def anyD : List PyData := [.none, .bool true, .bool false, .str "", .str "n", .str "N", .str "north", .int 0, .int 1, .int (-1), .int 7, .int 8, .int (10 ^ 29), .str "0", .tuple [], .tuple [.int 0], .tuple [.str "n"], .list [], .list [.int 0], .tuple [.str "a", .int 0]]
def spAnything (K : PySem.W.Frag) : Sp := fun vs H Q _ => ∃ p X, vs = [.ref p] ∧ Pool H p ∧ HX p X H ∧ ∀ H' v d, But p H H' → Pool H' p → d ∈ anyD → Dp K (wo H' X) v d → Q v H'
theorem ok_Lanything (T : Top w K mg) : FnOk P w K mg base CX0 2 T.a_Lanything T.fd_Lanything ["_law_pool_here"] (spAnything K) := by
  have G_Ltake := ok_Ltake (P := P) (w := w) (base := base) T
  refine T.F_Lanything.ok sc_Lanything (fun vs H Q E h => ?_) (fun cdv A outer s H vs Q E hr h => ?_)
  · obtain ⟨p, X, rfl, _⟩ := h
    rfl
  · obtain ⟨p, X, rfl, hp, x, q⟩ := h
    refine ⟨_, (pss_cons (ps_set (i := 1) sc_Lanything.nd rfl (.inl rfl) (pe_lst (pa_cons pe_non (pa_cons pe_bl (pa_cons pe_bl (pa_cons pe_str (pa_cons pe_str (pa_cons pe_str (pa_cons pe_str (pa_cons pe_int (pa_cons pe_int (pa_cons (pe_un un_neg pe_int) (pa_cons pe_int (pa_cons pe_int (pa_cons (pe_op op_pow pe_int pe_int) (pa_cons pe_str pa_nil))))))))))))))))
      (pss_one (ps_ret (pe_ix ix_list (pe_op op_cat (pv 1) (pe_lst (pa_cons (pe_tup pa_nil) (pa_cons (pe_tup (pa_cons pe_int pa_nil)) (pa_cons (pe_tup (pa_cons pe_str pa_nil)) (pa_cons (pe_lst pa_nil) (pa_cons (pe_lst (pa_cons pe_int pa_nil)) (pa_cons (pe_tup (pa_cons pe_str (pa_cons pe_int pa_nil))) pa_nil)))))))) (pe_call G_Ltake hr (by rfl) T.g_Ltake T.F_Ltake.kp T.b_Ltake .nil pass0 (pa_cons (pv 0) (pa_cons pe_int pa_nil))) (fun _ _ => rfl))))), ?_⟩
    refine ⟨_, rfl, _, _, rfl, rfl, ⟨by decide, by decide, by decide⟩, by show 14 ≤ sizeLine; decide, fun l1 n1 => ?_⟩
    refine ⟨.ref l1, rfl, Nat.zero_le _, fun t1 m1 => ⟨by show 1 ≤ sizeLine; decide, fun t2 m2 => ⟨by show 1 ≤ sizeLine; decide, fun t3 m3 => ⟨Nat.zero_le _, fun t4 m4 => ⟨by show 1 ≤ sizeLine; decide, fun t5 m5 => ⟨by show 2 ≤ sizeLine; decide, fun t6 m6 => ⟨by show 6 ≤ sizeLine; decide, fun l2 n2 => ?_⟩⟩⟩⟩⟩⟩⟩
    have z1 := same_upd (o := .lst [.non, .bl true, .bl false, .str "", .str "n", .str "N", .str "north", .int 0, .int 1, .int (-1), .int 7, .int 8, .int (10 ^ (Int.toNat 29)), .str "0"]) n1
    have z2 := same_upd (o := .tup []) m1
    have z3 := same_upd (o := .tup [.int 0]) m2
    have z4 := same_upd (o := .tup [.str "n"]) m3
    have z5 := same_upd (o := .lst []) m4
    have z6 := same_upd (o := .lst [.int 0]) m5
    have z7 := same_upd (o := .tup [.str "a", .int 0]) m6
    have z8 := same_upd (o := .lst [.ref t1, .ref t2, .ref t3, .ref t4, .ref t5, .ref t6]) n2
    refine ⟨l1, l2, _, _, rfl, rfl, z8 _ _ (z7 _ _ (z6 _ _ (z5 _ _ (z4 _ _ (z3 _ _ (z2 _ _ upd_same)))))), upd_same, by show 20 ≤ sizeLine; decide, fun l3 n3 => ?_⟩
    have z9 := same_upd (o := .lst ([.non, .bl true, .bl false, .str "", .str "n", .str "N", .str "north", .int 0, .int 1, .int (-1), .int 7, .int 8, .int (10 ^ (Int.toNat 29)), .str "0"] ++ [.ref t1, .ref t2, .ref t3, .ref t4, .ref t5, .ref t6])) n3
    have zA := (((((((z1.trans z2).trans z3).trans z4).trans z5).trans z6).trans z7).trans z8).trans z9
    have hp9 := hp.same zA
    refine ⟨.ref p, rfl, p, 20, rfl, by decide, by decide, hp9, fun H' r bt hp' r0 r1 => ?_⟩
    have e3 := bt _ _ ((hp.same ((((((((z1.trans z2).trans z3).trans z4).trans z5).trans z6).trans z7).trans z8))).ne_new n3) (upd_same (o := .lst ([.non, .bl true, .bl false, .str "", .str "n", .str "N", .str "north", .int 0, .int 1, .int (-1), .int 7, .int 8, .int (10 ^ (Int.toNat 29)), .str "0"] ++ [.ref t1, .ref t2, .ref t3, .ref t4, .ref t5, .ref t6])) (a := l3))
    have f1 := bt _ _ (hp9.ne_tup (z9 _ _ (z8 _ _ (z7 _ _ (z6 _ _ (z5 _ _ (z4 _ _ (z3 _ _ upd_same)))))))) (z9 _ _ (z8 _ _ (z7 _ _ (z6 _ _ (z5 _ _ (z4 _ _ (z3 _ _ (upd_same (a := t1) (o := .tup []))))))))) 
    have f2 := bt _ _ (hp9.ne_tup (z9 _ _ (z8 _ _ (z7 _ _ (z6 _ _ (z5 _ _ (z4 _ _ upd_same))))))) (z9 _ _ (z8 _ _ (z7 _ _ (z6 _ _ (z5 _ _ (z4 _ _ (upd_same (a := t2) (o := .tup [.int 0]))))))))
    have f3 := bt _ _ (hp9.ne_tup (z9 _ _ (z8 _ _ (z7 _ _ (z6 _ _ (z5 _ _ upd_same)))))) (z9 _ _ (z8 _ _ (z7 _ _ (z6 _ _ (z5 _ _ (upd_same (a := t3) (o := .tup [.str "n"])))))))
    have f4 := bt _ _ ((hp.same (((z1.trans z2).trans z3).trans z4)).ne_new m4) (z9 _ _ (z8 _ _ (z7 _ _ (z6 _ _ (upd_same (a := t4) (o := .lst []))))))
    have f5 := bt _ _ ((hp.same ((((z1.trans z2).trans z3).trans z4).trans z5)).ne_new m5) (z9 _ _ (z8 _ _ (z7 _ _ (upd_same (a := t5) (o := .lst [.int 0])))))
    have f6 := bt _ _ (hp9.ne_tup (z9 _ _ (z8 _ _ upd_same))) (z9 _ _ (z8 _ _ (upd_same (a := t6) (o := .tup [.str "a", .int 0]))))
    have f1 := (wo_in (H := H') (X := X) (b := t1) (x.fresh (z1.free m1))).trans f1
    have f2 := (wo_in (H := H') (X := X) (b := t2) (x.fresh ((z1.trans z2).free m2))).trans f2
    have f3 := (wo_in (H := H') (X := X) (b := t3) (x.fresh (((z1.trans z2).trans z3).free m3))).trans f3
    have f4 := (wo_in (H := H') (X := X) (b := t4) (x.fresh ((((z1.trans z2).trans z3).trans z4).free m4))).trans f4
    have f5 := (wo_in (H := H') (X := X) (b := t5) (x.fresh (((((z1.trans z2).trans z3).trans z4).trans z5).free m5))).trans f5
    have f6 := (wo_in (H := H') (X := X) (b := t6) (x.fresh ((((((z1.trans z2).trans z3).trans z4).trans z5).trans z6).free m6))).trans f6
    have bA : But p H H' := (But.of zA).trans bt
    obtain ⟨k, rfl⟩ : ∃ k : Nat, r = k := ⟨r.toNat, by omega⟩
    have hk : k < 20 := by omega
    have go : ∀ v d, ([.non, .bl true, .bl false, .str "", .str "n", .str "N", .str "north", .int 0, .int 1, .int (-1), .int 7, .int 8, .int (10 ^ (Int.toNat 29)), .str "0"] ++ [.ref t1, .ref t2, .ref t3, .ref t4, .ref t5, .ref t6] : List V)[k]? = some v → anyD[k]? = some d → Dp K (wo H' X) v d → rIxL K (.ref l3) (.int (k : Int)) H' Q := fun v d h1 h2 h3 =>
      ⟨l3, _, _, v, rfl, rfl, .inl (.inl e3), atI_nat h1, q H' v d bA hp' (List.mem_of_getElem? h2) h3⟩
    match k, hk, go with
    | 0, _, go => exact go _ _ rfl rfl .non
    | 1, _, go => exact go _ _ rfl rfl (.bl _)
    | 2, _, go => exact go _ _ rfl rfl (.bl _)
    | 3, _, go => exact go _ _ rfl rfl (.str _)
    | 4, _, go => exact go _ _ rfl rfl (.str _)
    | 5, _, go => exact go _ _ rfl rfl (.str _)
    | 6, _, go => exact go _ _ rfl rfl (.str _)
    | 7, _, go => exact go _ _ rfl rfl (.int _)
    | 8, _, go => exact go _ _ rfl rfl (.int _)
    | 9, _, go => exact go _ _ rfl rfl (.int _)
    | 10, _, go => exact go _ _ rfl rfl (.int _)
    | 11, _, go => exact go _ _ rfl rfl (.int _)
    | 12, _, go => exact go _ _ rfl rfl (.int _)
    | 13, _, go => exact go _ _ rfl rfl (.str _)
    | 14, _, go => exact go _ _ rfl rfl (.tup (.inl (.inl f1)) .nil)
    | 15, _, go => exact go _ _ rfl rfl (.tup (.inl (.inl f2)) (.cons (.int _) .nil))
    | 16, _, go => exact go _ _ rfl rfl (.tup (.inl (.inl f3)) (.cons (.str _) .nil))
    | 17, _, go => exact go _ _ rfl rfl (.lst (.inl (.inl f4)) .nil)
    | 18, _, go => exact go _ _ rfl rfl (.lst (.inl (.inl f5)) (.cons (.int _) .nil))
    | 19, _, go => exact go _ _ rfl rfl (.tup (.inl (.inl f6)) (.cons (.str _) (.cons (.int _) .nil)))
    | k + 20, h, _ => exact absurd h (by omega)
--@@SPLIT
theorem ok_LwholeD (T : Top w K mg) : FnOk P w K mg base CX0 1 T.a_Lwhole T.fd_Lwhole ["_law_thing"] (spWholeD K) := by
  refine T.F_Lwhole.ok sc_Lwhole (fun vs H Q E h => ?_) (fun cdv A outer s H vs Q E hr h => ?_)
  · obtain ⟨v, d, rfl, _⟩ := h
    rfl
  · obtain ⟨v, d, rfl, hd, q⟩ := h
    refine ⟨_, (pss_one (ps_ret (pe_and (pe_callB call_isi (by rfl) T.m_isinstance (by decide +kernel) (pa_cons (pv 0) (pa_cons (pe_bltn (v := .ty "int") (by rfl) T.m_int (by decide +kernel) rfl) pa_nil))) (pe_one (pe_not (pe_callB call_isi (by rfl) T.m_isinstance (by decide +kernel) (pa_cons (pv 0) (pa_cons (pe_bltn (v := .ty "bool") (by rfl) T.m_bool (by decide +kernel) rfl) pa_nil)))))))), ?_⟩
    cases hd with
    | non => exact ⟨.non, rfl, _, _, _, _, false, rfl, .ty _, .base .non, kit_ty (by decide +kernel), _, rfl, iteF q⟩
    | bl b => exact ⟨.bl b, rfl, _, _, _, _, true, rfl, .ty _, .base (.bl b), kit_ty (by decide +kernel), _, rfl, iteT ⟨.bl b, rfl, _, _, _, _, true, rfl, .ty _, .base (.bl b), kit_ty (by decide +kernel), _, rfl, q⟩⟩
    | int i => exact ⟨.int i, rfl, _, _, _, _, true, rfl, .ty _, .base (.int i), kit_ty (by decide +kernel), _, rfl, iteT ⟨.int i, rfl, _, _, _, _, false, rfl, .ty _, .base (.int i), kit_ty (by decide +kernel), _, rfl, q⟩⟩
    | str z => exact ⟨.str z, rfl, _, _, _, _, false, rfl, .ty _, .base (.str z), kit_ty (by decide +kernel), _, rfl, iteF q⟩
    | lst h _ => exact ⟨_, rfl, _, _, _, _, false, rfl, .ty _, ty_lst h, kit_ty (by decide +kernel), _, rfl, iteF q⟩
    | tup h _ => exact ⟨_, rfl, _, _, _, _, false, rfl, .ty _, ty_tup h, kit_ty (by decide +kernel), _, rfl, iteF q⟩
theorem lot8 (i : Int) : lotD (.int i) = (decide (0 ≤ i) && decide (i < 8)) := by
  show (decide (0 ≤ i) && decide (i ≤ 7)) = _
  by_cases h : i < 8
  · rw [decide_eq_true h, decide_eq_true (show i ≤ 7 by omega)]
  · rw [decide_eq_false h, decide_eq_false (show ¬ i ≤ 7 by omega)]
/-! ### asked, and what is due -/
def dueV : Option Nat → V
  | some i => .int (i : Nat)
  | none => .str "told"
def dueD2 : Option Nat → PyData
  | some i => .int (i : Nat)
  | none => .str "told"
theorem due_dp {K : PySem.W.Frag} {H : Hp} : ∀ o, Dp K H (dueV o) (dueD2 o)
  | some _ => .int _
  | none => .str _
def tw2 : Fin 2 → Str
  | 0 => PySem.Str.ofString "track"
  | 1 => PySem.Str.ofString "facts"
theorem tw2d : ∀ j : Fin 2, decide (V.str (tw2 j) = V.str (PySem.Str.ofString "track")) = decide (j = 0) := by decide +kernel
def spAsked (K : PySem.W.Frag) : Sp := fun vs H Q _ => ∃ (j : Fin 2) (e l : Addr) (xs zs : List V) (es : List Ent) (ds : List PyData), vs = [.str (tw2 j), .ref e, .ref l] ∧ SqA K H e xs ∧ Rows K H xs es ∧ SqA K H l zs ∧ DpAll K H zs ds ∧ es.length ≤ 100 ∧ ds.length ≤ 200 ∧ Right es ∧ ∀ H', Same H H' → Q (dueV (badL (1 + swaps es) ds)) H'
theorem ok_Lasked (T : Top w K mg) : FnOk P w K mg base CX0 9 T.a_Lasked T.fd_Lasked ["_law_word", "_law_log", "_law_lots_here"] (spAsked K) := by
  have G_track := ok_track (P := P) (w := w) (base := base) T
  have G_facts := ok_facts (P := P) (w := w) (base := base) T
  refine T.F_Lasked.ok sc_Lasked (fun vs H Q E h => ?_) (fun cdv A outer s H vs Q E hr h => ?_)
  · obtain ⟨j, e, l, xs, zs, es, ds, rfl, _⟩ := h
    rfl
  · obtain ⟨j, e, l, xs, zs, es, ds, rfl, hs, ha, hl, hd, hlen, hlen2, hR, q⟩ := h
    refine ⟨_, (pss_cons (ps_try_as (i := 3) rfl rfl sc_Lasked.nd rfl rfl ⟨rfl, by decide, .inl T.g_NoDealing⟩ takes0 (fun W pn xe tk _ => (pss_one (ps_if (pt_cmpR op_eq (pv 0) pe_str (nomark _)) (pss_one (ps_expr (pe_callS G_track (hr.mono (by decide)) (by rfl) T.g_track T.F_track.kp T.b_track (fun σ => passAt tk σ) (pa_cons (pv 1) (pa_cons (pv 2) pa_nil))))) (pss_one (ps_expr (pe_callS G_facts hr (by rfl) T.g_facts T.F_facts.kp T.b_facts (fun σ => passAt tk σ) (pa_cons (pv 1) (pa_cons (pv 2) pa_nil)))))))) (fun a oe cls d pn hz hf => (pss_one (ps_ret (pe_ifExp (pt_val (ExcM.pe_callP (ok_Lown (P := P) (w := w) (base := base) T hz hf) ⟨(L2H.roomH_of (hr.mono (by decide : 1 ≤ 8))).dp, (L2H.roomH_of (hr.mono (by decide : 1 ≤ 8))).un⟩ List.mem_cons_self (by rfl) T.g_Lown T.F_Lown.kp T.b_Lown (pa_cons (pv 3) pa_nil))) (pe_xf T.xf T.no_at hz hf (pv 3)) pe_str)))))
      (pss_one (ps_ret pe_str))), ?_⟩
    refine ⟨_, rfl, rfl, _, rfl, ?_⟩
    rw [tw2d]
    match j with
    | 0 =>
      refine iteT ⟨_, rfl, _, rfl, e, l, xs, zs, es, ds, rfl, hs, ha, hl, hd, by omega, hlen2, hR, fun L hb hz H1 r s1 hr1 => ?_, fun i hi H1 dd s1 ndd edd => ?_⟩
      · have := q H1 s1
        rw [hb] at this
        exact this
      · exact ⟨true, T.exm, (fun _ a0 _ => ⟨.ref a0, rfl, rfl, rfl, dd, _, rfl, edd, fun H2 s2 => ⟨_, rfl, iteT ⟨.ref a0, rfl, rfl, rfl, dd, _, .int (i : Nat), rfl, s2 _ _ edd, by simp [List.lookup], by
          have := q H2 (s1.trans s2)
          rw [hi] at this
          exact this⟩⟩⟩), fun z => Bool.noConfusion z⟩
    | 1 =>
      refine iteF ⟨_, rfl, _, rfl, e, l, xs, zs, es, ds, rfl, hs, ha, hl, hd, by omega, hlen2, hR, fun L hb hz H1 r s1 hr1 => ?_, fun i hi H1 dd s1 ndd edd => ?_⟩
      · have := q H1 s1
        rw [hb] at this
        exact this
      · exact ⟨true, T.exm, (fun _ a0 _ => ⟨.ref a0, rfl, rfl, rfl, dd, _, rfl, edd, fun H2 s2 => ⟨_, rfl, iteT ⟨.ref a0, rfl, rfl, rfl, dd, _, .int (i : Nat), rfl, s2 _ _ edd, by simp [List.lookup], by
          have := q H2 (s1.trans s2)
          rw [hi] at this
          exact this⟩⟩⟩), fun z => Bool.noConfusion z⟩
--@@SPLIT
def spDue12 (K : PySem.W.Frag) : Sp := fun vs H Q _ => ∃ (e l : Addr) (xs zs : List V) (es : List Ent) (ds : List PyData), vs = [.ref e, .ref l] ∧ SqA K H e xs ∧ Rows K H xs es ∧ SqA K H l zs ∧ DpAll K H zs ds ∧ es.length ≤ 100 ∧ ds.length ≤ 200 ∧ ∀ H', Same H H' → Q (dueV (badL (1 + swaps es) ds)) H'
theorem ok_Ldue12 (T : Top w K mg) : FnOk P w K mg base CX0 2 T.a_Ldue T.fd_Ldue ["_law_log", "_law_lots_here"] (spDue12 K) := by
  have G_Llegs := ok_Llegs (P := P) (w := w) (base := base) T
  have G_Lwhole := ok_LwholeD (P := P) (w := w) (base := base) T
  refine T.F_Ldue.ok sc_Ldue (fun vs H Q E h => ?_) (fun cdv A outer s H vs Q E hr h => ?_)
  · obtain ⟨e, l, xs, zs, es, ds, rfl, _⟩ := h
    rfl
  · obtain ⟨e, l, xs, zs, es, ds, rfl, hs, ha, hl, hd, hlen, hlen2, q⟩ := h
    have lz := dpa_len ds zs hd
    refine ⟨_, (pss_cons (ps_if (pt_cmpR op_ne (pe_callB call_len_seq (by rfl) T.m_len (by decide +kernel) (pa_cons (pv 1) pa_nil)) (pe_call G_Llegs hr (by rfl) T.g_Llegs T.F_Llegs.kp T.b_Llegs .nil pass0 (pa_cons (pv 0) pa_nil)) (nomark _)) (pss_one (ps_ret (pe_call G_Llegs hr (by rfl) T.g_Llegs T.F_Llegs.kp T.b_Llegs .nil pass0 (pa_cons (pv 0) pa_nil)))) pss_nil)
      (pss_cons (ps_for PassesOwn.never rfl (SeqW.pi_enumA (by rfl) T.m_enumerate (pa_cons (pv 1) pa_nil)) (pg_tup rfl (pgs_cons (pg_name (i := 2) sc_Ldue.nd rfl (.inl rfl)) (pgs_cons (pg_name (i := 3) sc_Ldue.nd rfl (.inl rfl)) pgs_nil))) (pss_one (ps_if (PW.pt (pw_or (pt_not (pt_val (pe_call G_Lwhole hr (by rfl) T.g_Lwhole T.F_Lwhole.kp T.b_Lwhole .nil pass0 (pa_cons (pv 3) pa_nil)))) (pw_or1 (pt_not (pt_chain op_le op_lt pe_int (pv 3) pe_int))))) (pss_one (ps_ret (pv 2))) pss_nil)))
      (pss_one (ps_ret pe_str)))), ?_⟩
    refine ⟨.ref l, rfl, l, zs, rfl, hl, .ref e, rfl, e, xs, es, rfl, hs, ha, by omega, fun H1 s1 => ⟨rfl, _, rfl, ?_⟩⟩
    by_cases hm : ds.length = 1 + swaps es
    · refine iteN (by rw [lz, hm]; show V.int ((1 + swaps es : Nat) : Int) = .int (1 + (swaps es : Int)); congr 1) ?_
      have hb0 : badL (1 + swaps es) ds = firstBad 0 ds := if_pos hm
      refine ⟨.ref l, rfl, l, _, rfl, (fun H' => Same H H'), kpA hl, s1, fun J G wk hG => for_it wk (fun i σ H' => Same H1 H' ∧ badL (1 + swaps es) ds = firstBad i (ds.drop i) ∧ ∃ y2 y3, σ = [some (.ref e), some (.ref l), y2, y3]) ⟨Same.refl _, hb0, none, none, rfl⟩ (fun i σ H' _ h => hG _ (s1.trans h.1)) ?_ ?_⟩
      · rintro i v σ H2 H3 hi ⟨sm, hb, y3, y4, rfl⟩ ⟨t, u1, u2, rfl, nt, rfl, e1, e2⟩
        cases e1
        have st := same_upd (o := .tup [.int (i : Nat), u2]) nt
        obtain ⟨d, fd, gd⟩ := dpa_at ds zs (dpa_same ((s1.trans sm).trans st) _ _ hd) i u2 e2
        rw [drop_at fd] at hb
        refine ⟨t, _, rfl, .inl (.inl upd_same), rfl, _, _, rfl, _, _, rfl, rfl, ?_⟩
        refine ⟨_, rfl, u2, d, rfl, gd, _, rfl, ?_⟩
        have yes : lotD d = true → badL (1 + swaps es) ds = firstBad (i + 1) (ds.drop (i + 1)) := fun h => by
          rw [hb]
          show (if lotD d = true then _ else _) = _
          rw [if_pos h]
        have no : lotD d = false → Q (.int (i : Nat)) (upd H2 t (.tup [.int (i : Nat), u2])) := fun h => by
          have hbi : badL (1 + swaps es) ds = some i := by
            rw [hb]
            show (if lotD d = true then _ else _) = _
            rw [if_neg (by rw [h]; decide)]
          have := q _ ((s1.trans sm).trans st)
          rw [hbi] at this
          exact this
        cases gd with
        | int j =>
          refine iteF ⟨_, rfl, _, _, rfl, rfl, _, rfl, ite2 (fun e0 => ?_) (fun e0 => ?_)⟩
          · have g0 : 0 ≤ j := of_decide_eq_true e0
            refine ⟨_, _, rfl, rfl, _, rfl, ite2 (fun e8 => ?_) (fun e8 => ?_)⟩
            · have g8 : ¬ j < 8 := fun z => by
                rw [decide_eq_true z] at e8
                cases e8
              exact ⟨_, rfl, no (by show (decide (0 ≤ j) && decide (j ≤ 7)) = false; rw [decide_eq_false (show ¬ j ≤ 7 by omega), Bool.and_false])⟩
            · have g8 : j < 8 := by
                by_cases z : j < 8
                · exact z
                · rw [decide_eq_false z] at e8
                  exact absurd rfl e8
              exact ⟨sm.trans st, yes (by show (decide (0 ≤ j) && decide (j ≤ 7)) = true; rw [decide_eq_true g0, decide_eq_true (show j ≤ 7 by omega)]; rfl), _, _, rfl⟩
          · have g0 : ¬ 0 ≤ j := fun z => e0 (decide_eq_true z)
            exact ⟨_, rfl, iteT ⟨_, rfl, no (by show (decide (0 ≤ j) && decide (j ≤ 7)) = false; rw [decide_eq_false g0]; rfl)⟩⟩
        | non => exact iteT ⟨_, rfl, no rfl⟩
        | bl b => exact iteT ⟨_, rfl, no rfl⟩
        | str z => exact iteT ⟨_, rfl, no rfl⟩
        | lst h _ => exact iteT ⟨_, rfl, no rfl⟩
        | tup h _ => exact iteT ⟨_, rfl, no rfl⟩
      · rintro σ H2 ⟨sm, hb, y3, y4, rfl⟩
        have := q _ (s1.trans sm)
        rw [hb, List.drop_of_length_le (by omega)] at this
        exact this
    · have hbi : badL (1 + swaps es) ds = some (1 + swaps es) := if_neg hm
      have ne : ¬ V.int (zs.length : Nat) = .int (1 + (swaps es : Int)) := fun z => hm (by
        have : ((zs.length : Nat) : Int) = 1 + (swaps es : Int) := V.int.inj z
        omega)
      refine iteDY (by rw [decide_eq_false ne]; rfl) ⟨.ref e, rfl, e, xs, es, rfl, hs.same s1, ha.same s1, by omega, fun H2 s2 => ?_⟩
      have := q _ (s1.trans s2)
      rw [hbi] at this
      have e1 : dueV (some (1 + swaps es)) = .int (1 + (swaps es : Int)) := by
        show V.int ((1 + swaps es : Nat) : Int) = _
        congr 1
      rw [e1] at this
      exact this
--@@SPLIT
/-! ### the law -/
theorem dpa_erase {K : PySem.W.Frag} {H : Hp} : ∀ (n : Nat) (ds : List PyData) (xs : List V), DpAll K H xs ds → DpAll K H (xs.eraseIdx n) (ds.eraseIdx n)
  | _, [], _, h => by cases h; exact .nil
  | 0, d :: ds, _, h => by
    cases h with
    | cons h1 h2 => exact h2
  | n + 1, d :: ds, _, h => by
    cases h with
    | cons h1 h2 => exact .cons h1 (dpa_erase n ds _ h2)
theorem small200 {m : Int} (h : m ≤ 1000) : m < 2 ^ 200 := by
  have : (1000 : Int) < 2 ^ 200 := by decide
  omega
theorem lots_dp {K : PySem.W.Frag} {H : Hp} : ∀ L : List (Fin 8), DpAll K H (L.map lotV) (L.map lotI)
  | [] => .nil
  | a :: L => .cons (.int _) (lots_dp L)
/-- what is changed, at the spring and at the lots alone -/
def B2 (p q : Addr) (H H' : Hp) : Prop := ∀ b o, b ≠ p → b ≠ q → H b = some o → H' b = some o
theorem B2.but {p q : Addr} {H H1 H2 : Hp} (a : B2 p q H H1) (b : But p H1 H2) : B2 p q H H2 := fun c o h1 h2 h => b c o h1 (a c o h1 h2 h)
theorem B2.upd {p q : Addr} {H H1 : Hp} {o : HO} (a : B2 p q H H1) : B2 p q H (L2.upd H1 q o) := fun c u h1 h2 h => by
  rw [upd_ne h2]
  exact a c u h1 h2 h
theorem B2.wo {p q : Addr} {H H' : Hp} (a : B2 p q H H') : Same (M.wo H (fun b => b = p ∨ b = q)) (M.wo H' (fun b => b = p ∨ b = q)) := fun c o h => by
  have h2 := wo_some h
  rw [wo_in (X := fun b => b = p ∨ b = q) h2.1]
  exact a c o (fun z => h2.1 (.inl z)) (fun z => h2.1 (.inr z)) h2.2
/-- the lots as they stand -/
def LS (K : PySem.W.Frag) (p q : Addr) (H8 : Hp) (lo hi : Nat) (H' : Hp) : Prop := B2 p q H8 H' ∧ Pool H' p ∧ ∃ zs ds, H' q = some (.lst zs) ∧ DpAll K (M.wo H' (fun b => b = p ∨ b = q)) zs ds ∧ lo ≤ ds.length ∧ ds.length ≤ hi
theorem LS.more {K : PySem.W.Frag} {p q : Addr} {H8 H' : Hp} {lo hi lo' hi' : Nat} (h : LS K p q H8 lo hi H') (h1 : lo' ≤ lo) (h2 : hi ≤ hi') : LS K p q H8 lo' hi' H' := by
  obtain ⟨b, hp, zs, ds, e, hd, l1, l2⟩ := h
  exact ⟨b, hp, zs, ds, e, hd, by omega, by omega⟩
theorem LS.put {K : PySem.W.Frag} {p q : Addr} {H8 H1 H2 : Hp} {lo hi : Nat} {zs : List V} {ds : List PyData} (pq : q ≠ p) (b : B2 p q H8 H1) (b2 : But p H1 H2) (hp : Pool H2 p) (hd : DpAll K (M.wo H2 (fun b => b = p ∨ b = q)) zs ds) (l1 : lo ≤ ds.length) (l2 : ds.length ≤ hi) : LS K p q H8 lo hi (L2.upd H2 q (.lst zs)) :=
  ⟨(b.but b2).upd, hp.upd pq, zs, ds, upd_same, dpa_same (wo_mut (X := fun b => b = p ∨ b = q) (.inr rfl)) _ _ hd, l1, l2⟩
theorem Xk12 {X : Addr → Prop} {H H' : Hp} (s : Same H H') : Same (M.wo H X) (M.wo H' X) := Xk.wo s
def spLaw (K : PySem.W.Frag) : Sp := fun vs H Q _ => ∃ (a : Addr) (ns : List Int), vs = [.ref a] ∧ SqL K H a (ns.map V.int) ∧ ns.length ≤ 63 ∧ ∀ H', Q (.bl true) H'
theorem ok_law (T : Top w K mg) : FnOk P w K mg base CX0 10 T.a_law T.fd_law ["_law_script"] (spLaw K) := by
  have G_Lpool := ok_Lpool (P := P) (w := w) (base := base) T
  have G_Ltake := ok_Ltake (P := P) (w := w) (base := base) T
  have G_Lany_log := ok_Lany_log (P := P) (w := w) (base := base) T
  have G_Llots := ok_Llots (P := P) (w := w) (base := base) T
  have G_Llegs := ok_Llegs (P := P) (w := w) (base := base) T
  have G_Lanything := ok_Lanything (P := P) (w := w) (base := base) T
  have G_Lasked := ok_Lasked (P := P) (w := w) (base := base) T
  have G_Ldue := ok_Ldue12 (P := P) (w := w) (base := base) T
  have G_Lsame := ok_Lsame (P := P) (w := w) (base := base) T 0
  refine T.F_law.ok sc_law (fun vs H Q E h => ?_) (fun cdv A0 outer s H vs Q E hr h => ?_)
  · obtain ⟨a, ns, rfl, _⟩ := h
    rfl
  · obtain ⟨a, ns, rfl, hS, hlen, q⟩ := h
    refine ⟨_, (pss_cons (ps_for PassesOwn.never rfl (pi_range1 (by rfl) T.m_range (pa_cons pe_int pa_nil)) (pg_name (i := 1) sc_law.nd rfl (.inl rfl)) (pss_cons (ps_set (i := 2) sc_law.nd rfl (.inl rfl) (pe_call G_Lpool (hr.mono (by decide)) (by rfl) T.g_Lpool T.F_Lpool.kp T.b_Lpool .nil pass0 (pa_cons (pv 0) (pa_cons (pv 1) pa_nil))))
      (pss_cons (ps_set (i := 3) sc_law.nd rfl (.inl rfl) (pe_call G_Lany_log (hr.mono (by decide)) (by rfl) T.g_Lany_log T.F_Lany_log.kp T.b_Lany_log .nil pass0 (pa_cons (pv 2) (pa_cons (pe_call G_Ltake (hr.mono (by decide)) (by rfl) T.g_Ltake T.F_Ltake.kp T.b_Ltake .nil pass0 (pa_cons (pv 2) (pa_cons pe_int pa_nil))) (pa_cons (pe_call G_Ltake (hr.mono (by decide)) (by rfl) T.g_Ltake T.F_Ltake.kp T.b_Ltake .nil pass0 (pa_cons (pv 2) (pa_cons pe_int pa_nil))) pa_nil)))))
      (pss_cons (ps_set (i := 4) sc_law.nd rfl (.inl rfl) (pe_callTy call_list_of (by rfl) T.m_list (by decide +kernel) (pa_cons (pe_call G_Llots (hr.mono (by decide)) (by rfl) T.g_Llots T.F_Llots.kp T.b_Llots .nil pass0 (pa_cons (pv 2) (pa_cons (pe_call G_Llegs (hr.mono (by decide)) (by rfl) T.g_Llegs T.F_Llegs.kp T.b_Llegs .nil pass0 (pa_cons (pv 3) pa_nil)) pa_nil))) pa_nil)))
      (pss_cons (ps_set (i := 5) sc_law.nd rfl (.inl rfl) (pe_call G_Ltake (hr.mono (by decide)) (by rfl) T.g_Ltake T.F_Ltake.kp T.b_Ltake .nil pass0 (pa_cons (pv 2) (pa_cons pe_int pa_nil))))
      (Evl.pss_cut (ps_if (pt_cmpR op_eq (pv 5) pe_int (nomark _)) (pss_one (ps_expr (pe_bm PySem.F.plainAttrs_list PySem.F.slot_list_append PySem.F.type_list_append mt_append (pv 4) (pa_cons (pe_call G_Ltake (hr.mono (by decide)) (by rfl) T.g_Ltake T.F_Ltake.kp T.b_Ltake .nil pass0 (pa_cons (pv 2) (pa_cons pe_int pa_nil))) pa_nil)))) pss_nil)
      (Evl.pss_cut (ps_if (pt_cmpR op_eq (pv 5) pe_int (nomark _)) (pss_one (ps_expr (pe_bm PySem.F.plainAttrs_list PySem.F.slot_list_pop PySem.F.type_list_pop mt_popAt (pv 4) (pa_cons (pe_call G_Ltake (hr.mono (by decide)) (by rfl) T.g_Ltake T.F_Ltake.kp T.b_Ltake .nil pass0 (pa_cons (pv 2) (pa_cons (pe_callB call_len_seq (by rfl) T.m_len (by decide +kernel) (pa_cons (pv 4) pa_nil)) pa_nil))) pa_nil)))) pss_nil)
      (Evl.pss_cut (ps_if (pt_cmpR op_gt (pv 5) pe_int (nomark _)) (pss_one (ps_for PassesOwn.never rfl (pi_range1 (by rfl) T.m_range (pa_cons (pe_call G_Ltake (hr.mono (by decide)) (by rfl) T.g_Ltake T.F_Ltake.kp T.b_Ltake .nil pass0 (pa_cons (pv 2) (pa_cons pe_int pa_nil))) pa_nil)) (pg_name (i := 6) sc_law.nd rfl (.inl rfl)) (pss_cons (ps_expr (pe_bm PySem.F.plainAttrs_list PySem.F.slot_list_insert PySem.F.type_list_insert mt_insert (pv 4) (pa_cons (pe_call G_Ltake (hr.mono (by decide)) (by rfl) T.g_Ltake T.F_Ltake.kp T.b_Ltake .nil pass0 (pa_cons (pv 2) (pa_cons (pe_op op_add (pe_callB call_len_seq (by rfl) T.m_len (by decide +kernel) (pa_cons (pv 4) pa_nil)) pe_int) pa_nil))) (pa_cons (pe_call G_Lanything (hr.mono (by decide)) (by rfl) T.g_Lanything T.F_Lanything.kp T.b_Lanything .nil pass0 (pa_cons (pv 2) pa_nil)) pa_nil))))
      (pss_one (ps_expr (pe_bm PySem.F.plainAttrs_list PySem.F.slot_list_pop PySem.F.type_list_pop mt_popAt (pv 4) (pa_cons (pe_call G_Ltake (hr.mono (by decide)) (by rfl) T.g_Ltake T.F_Ltake.kp T.b_Ltake .nil pass0 (pa_cons (pv 2) (pa_cons (pe_callB call_len_seq (by rfl) T.m_len (by decide +kernel) (pa_cons (pv 4) pa_nil)) pa_nil))) pa_nil))))))) pss_nil)
      (pss_one (ps_for PassesOwn.never rfl (pi_tup (pe_tup (pa_cons pe_str (pa_cons pe_str (pa_cons pe_str pa_nil))))) (pg_name (i := 7) sc_law.nd rfl (.inl rfl)) (pss_one (ps_if (pt_not (pt_val (pe_call G_Lsame (hr.mono (by decide)) (by rfl) T.g_Lsame T.F_Lsame.kp T.b_Lsame .nil pass0 (pa_cons (pe_call G_Lasked hr (by rfl) T.g_Lasked T.F_Lasked.kp T.b_Lasked .nil pass0 (pa_cons (pv 7) (pa_cons (pv 3) (pa_cons (pe_ix ix_tup (pe_tup (pa_cons (pv 4) (pa_cons (pe_callTy call_tuple_of (by rfl) T.m_tuple (by decide +kernel) (pa_cons (pv 4) pa_nil)) pa_nil))) (pe_call G_Ltake (hr.mono (by decide)) (by rfl) T.g_Ltake T.F_Ltake.kp T.b_Ltake .nil pass0 (pa_cons (pv 2) (pa_cons pe_int pa_nil))) (fun _ _ => rfl)) pa_nil)))) (pa_cons (pe_call G_Ldue (hr.mono (by decide)) (by rfl) T.g_Ldue T.F_Ldue.kp T.b_Ldue .nil pass0 (pa_cons (pv 3) (pa_cons (pv 4) pa_nil))) pa_nil))))) (pss_one (ps_ret pe_bl)) pss_nil))))))))))))
      (pss_one (ps_ret pe_bl))), ?_⟩
    refine ⟨4, rfl, by decide, by decide, for_range (n := 4) (fun i σ H' => Same H H' ∧ ∃ y1 y2 y3 y4 y5 y6 y7, σ = [some (.ref a), y1, y2, y3, y4, y5, y6, y7]) ⟨Same.refl _, none, none, none, none, none, none, none, rfl⟩ ?_ (fun σ H' _ => q H')⟩
    rintro i0 σ H1 hi0 ⟨s1, y1, y2, y3, y4, y5, y6, y7, rfl⟩
    refine ⟨.ref a, rfl, _, rfl, a, ns, _, rfl, s1.seq hS, hlen, by omega, fun H2 p s2 np hp => ?_⟩
    refine ⟨.ref p, rfl, .ref p, rfl, p, 13, rfl, by decide, by decide, hp, fun H3 k b3 hp3 k0 k1 => ?_⟩
    refine ⟨.ref p, rfl, p, 6, rfl, by decide, by decide, hp3, fun H4 sw b4 hp4 sw0 sw1 => ?_⟩
    refine ⟨p, k, sw, (fun b => b = p), rfl, k0, by omega, hp4, ⟨rfl, fun b h => h ▸ hp4.known⟩, fun H5 t xs es b5 hp5 nt hs ha hl hok hR hsw => ?_⟩
    have lx := dpa_len2 ha
    rw [List.length_map] at lx
    have sl := swaps_le es
    have sl5 : swaps es ≤ 5 := by omega
    refine ⟨.ref p, rfl, .ref t, rfl, t, xs, es, rfl, .inr (sqt_same wo_same hs), rows_tup (dpa_same wo_same _ _ ha), by omega, fun H6 s6 => ?_⟩
    refine ⟨p, 1 + swaps es, ?_, by omega, hp5.same s6, fun H7 lo A b7 hp7 nlo elo lA => ?_⟩
    · show [V.ref p, V.int (1 + (swaps es : Int))] = [.ref p, .int ((1 + swaps es : Nat) : Int)]
      congr 3
    refine ⟨lo, _, rfl, .inr (.inl (.inl elo)), fun Lo nLo => ?_⟩
    have sLo := same_upd (o := .lst (A.map lotV)) nLo
    have pq : Lo ≠ p := hp7.ne_new nLo
    have b27 : But p H2 H7 := ((((b3.trans b4).trans b5).trans (But.of s6)).trans b7)
    have s12 : Same H (upd H7 Lo (.lst (A.map lotV))) := fun c o z => sLo _ _ (b27 _ _ (ne_of_none (s1 _ _ z) np) (s2 _ _ (s1 _ _ z)))
    have b58 : But p H5 (upd H7 Lo (.lst (A.map lotV))) := ((But.of s6).trans b7).trans (But.of sLo)
    have nLo5 : H5 Lo = none := ((But.of s6).trans b7).free pq nLo
    have nLo0 : H Lo = none := by
      cases e : H Lo with
      | none => rfl
      | some o => rw [b27 _ _ (ne_of_none (s1 _ _ e) np) (s2 _ _ (s1 _ _ e))] at nLo; cases nLo
    have w58 : Same (M.wo H5 (fun b => b = p)) (M.wo (upd H7 Lo (.lst (A.map lotV))) (fun b => b = p ∨ b = Lo)) := fun c o z => by
      have h2 := wo_some z
      rw [wo_in (X := fun b => b = p ∨ b = Lo) (fun y => y.elim h2.1 (ne_of_none h2.2 nLo5))]
      exact b58 _ _ h2.1 h2.2
    have ht := sqt_same w58 hs
    have hrow := rows_tup (dpa_same w58 _ _ ha)
    have eLo8 : upd H7 Lo (.lst (A.map lotV)) Lo = some (.lst (A.map lotV)) := upd_same
    have hp8 := hp7.same sLo
    generalize upd H7 Lo (.lst (A.map lotV)) = H8 at *
    refine ⟨.ref p, rfl, p, 5, rfl, by decide, by decide, hp8, fun H9 pk b9 hp9 pk0 pk1 => ?_⟩
    have L0 : LS K p Lo H8 (1 + swaps es) (1 + swaps es) H9 := ⟨fun c o h1 _ h => b9 c o h1 h, hp9, A.map lotV, A.map lotI, b9 _ _ pq eLo8, lots_dp A, by rw [List.length_map]; omega, by rw [List.length_map]; omega⟩
    refine ⟨fun σ' H' => LS K p Lo H8 1 9 H' ∧ σ' = [some (.ref a), some (.int (0 + (i0 : Int))), some (.ref p), some (.ref t), some (.ref Lo), some (.int pk), y6, y7], ?_, ?_⟩
    · refine ⟨_, rfl, rfl, _, rfl, ite2 (fun e => ?_) (fun e => ⟨L0.more (by omega) (by omega), rfl⟩)⟩
      obtain ⟨bb, hpb, zs, ds, eq, hd, l1, l2⟩ := L0
      have ly := dpa_len2 hd
      refine ⟨.ref Lo, rfl, .inl ⟨rfl, _, .inl (.inl eq)⟩, .ref p, rfl, p, 8, rfl, by decide, by decide, hpb, fun H10 r b10 hp10 _ _ => ?_⟩
      exact ⟨Lo, zs, _, rfl, rfl, b10 _ _ pq eq, small1000 (by omega), LS.put pq bb b10 hp10 (dpa_snoc (.int r) _ _ (dpa_same (b10.wo (X := fun b => b = p ∨ b = Lo) (.inl rfl)) _ _ hd)) (by rw [List.length_append]; omega) (by rw [List.length_append]; show ds.length + 1 ≤ 9; omega), rfl⟩
    rintro σ' Ha ⟨La, rfl⟩
    have popAt : ∀ (H' : Hp) (lo hi : Nat), 1 ≤ lo → hi ≤ 900 → LS K p Lo H8 lo hi H' → ∃ zs, H' Lo = some (.lst zs) ∧ 0 < ((zs.length : Nat) : Int) ∧ ((zs.length : Nat) : Int) < 2 ^ 200 ∧ ∀ (H'' : Hp) (r : Int), But p H' H'' → Pool H'' p → 0 ≤ r → r < ((zs.length : Nat) : Int) → ∃ k y, H'' Lo = some (.lst zs) ∧ -(2 ^ 63) ≤ r ∧ r < 2 ^ 63 ∧ seqIndex? r zs.length = some k ∧ zs[k]? = some y ∧ LS K p Lo H8 (lo - 1) (hi - 1) (upd H'' Lo (.lst (zs.eraseIdx k))) := fun H' lo hi h1 h2 h => by
      obtain ⟨bb, hpb, zs, ds, eq, hd, l1, l2⟩ := h
      have ly := dpa_len2 hd
      refine ⟨zs, eq, by omega, small200 (by omega), fun H'' r b10 hp10 r0 r1 => ?_⟩
      obtain ⟨k, rfl⟩ : ∃ k : Nat, r = k := ⟨r.toNat, by omega⟩
      have kl : k < zs.length := by omega
      have hx := (ixN_seq (Evl.ixN_nat kl)).1
      refine ⟨k, zs[k], b10 _ _ pq eq, by omega, by omega, hx, List.getElem?_eq_getElem kl, LS.put pq bb b10 hp10 (dpa_erase k _ _ (dpa_same (b10.wo (X := fun b => b = p ∨ b = Lo) (.inl rfl)) _ _ hd)) ?_ ?_⟩
      · rw [List.length_eraseIdx, if_pos (by omega)]
        omega
      · rw [List.length_eraseIdx, if_pos (by omega)]
        omega
    refine ⟨fun σ' H' => LS K p Lo H8 0 9 H' ∧ σ' = [some (.ref a), some (.int (0 + (i0 : Int))), some (.ref p), some (.ref t), some (.ref Lo), some (.int pk), y6, y7], ?_, ?_⟩
    · refine ⟨_, rfl, rfl, _, rfl, ite2 (fun e => ?_) (fun e => ⟨La.more (by omega) (by omega), rfl⟩)⟩
      obtain ⟨zs, eq, l0, l200, pop⟩ := popAt Ha 1 9 (by omega) (by omega) La
      refine ⟨.ref Lo, rfl, .inl ⟨rfl, _, .inl (.inl eq)⟩, .ref p, rfl, .ref Lo, rfl, Lo, zs, rfl, .inl (.inl (.inl eq)), p, _, rfl, l0, l200, La.2.1, fun Hb r bb hpb r0 r1 => ?_⟩
      obtain ⟨k, y, h1, h2, h3, h4, h5, h6⟩ := pop Hb r bb hpb r0 r1
      exact ⟨Lo, zs, r, k, y, rfl, rfl, h1, h2, h3, h4, h5, h6.more (by omega) (by omega), rfl⟩
    rintro σ' Hb ⟨Lb, rfl⟩
    refine ⟨fun σ' H' => LS K p Lo H8 0 9 H' ∧ ∃ y6, σ' = [some (.ref a), some (.int (0 + (i0 : Int))), some (.ref p), some (.ref t), some (.ref Lo), some (.int pk), y6, y7], ?_, ?_⟩
    · refine ⟨_, rfl, _, _, rfl, rfl, _, rfl, ite2 (fun e => ?_) (fun e => ⟨Lb, _, rfl⟩)⟩
      refine ⟨.ref p, rfl, p, 3, rfl, by decide, by decide, Lb.2.1, fun Hc m bc hpc m0 m1 => ?_⟩
      have Lc : LS K p Lo H8 0 9 Hc := by
        obtain ⟨bb, hpb, zs, ds, eq, hd, l1, l2⟩ := Lb
        exact ⟨bb.but bc, hpc, zs, ds, bc _ _ pq eq, dpa_same (bc.wo (X := fun b => b = p ∨ b = Lo) (.inl rfl)) _ _ hd, l1, l2⟩
      obtain ⟨mn, rfl⟩ : ∃ mn : Nat, m = mn := ⟨m.toNat, by omega⟩
      refine ⟨mn, rfl, by omega, by omega, for_range (n := mn) (fun j σ' H' => LS K p Lo H8 0 9 H' ∧ ∃ y6, σ' = [some (.ref a), some (.int (0 + (i0 : Int))), some (.ref p), some (.ref t), some (.ref Lo), some (.int pk), y6, y7]) ⟨Lc, _, rfl⟩ ?_ (fun σ' H' h => h)⟩
      rintro j σ' He hj ⟨Ld, y6, rfl⟩
      obtain ⟨bb, hpb, zs, ds, eq, hd, l1, l2⟩ := Ld
      have ly := dpa_len2 hd
      refine ⟨.ref Lo, rfl, .inl ⟨rfl, _, .inl (.inl eq)⟩, .ref p, rfl, .ref Lo, rfl, Lo, zs, rfl, .inl (.inl (.inl eq)), _, _, rfl, rfl, p, _, rfl, by omega, small200 (by omega), hpb, fun Hf r bf hpf r0 r1 => ?_⟩
      have xf : HX p (fun b => b = p ∨ b = Lo) Hf := ⟨.inl rfl, fun b h => h.elim (fun z => by rw [z]; exact hpf.known) (fun z => by rw [z, bf _ _ pq eq]; exact fun y => nomatch y)⟩
      refine ⟨.ref p, rfl, p, (fun b => b = p ∨ b = Lo), rfl, hpf, xf, fun Hg v d bg hpg hda hv => ?_⟩
      have eqg := bg _ _ pq (bf _ _ pq eq)
      have hdg := dpa_same ((bf.trans bg).wo (X := fun b => b = p ∨ b = Lo) (.inl rfl)) _ _ hd
      have Lg : LS K p Lo H8 1 10 (upd Hg Lo (.lst (zs.take r.toNat ++ [v] ++ zs.drop r.toNat))) := LS.put pq bb (bf.trans bg) hpg (ds := ds.take r.toNat ++ [d] ++ ds.drop r.toNat) (dpa_app _ _ _ _ (dpa_app _ _ _ _ (dpa_takeK _ _ _ hdg) (.cons hv .nil)) (dpa_dropK _ _ _ hdg)) (by rw [List.length_append, List.length_append]; show 1 ≤ _ + 1 + _; omega) (by rw [List.length_append, List.length_append, List.length_take, List.length_drop]; show _ + 1 + _ ≤ 10; omega)
      refine ⟨Lo, zs, r, v, rfl, rfl, eqg, small1000 (by omega), r0, by omega, ?_⟩
      obtain ⟨zs2, eq2, l0, l200, pop⟩ := popAt _ 1 10 (by omega) (by omega) Lg
      refine ⟨.ref Lo, rfl, .inl ⟨rfl, _, .inl (.inl eq2)⟩, .ref p, rfl, .ref Lo, rfl, Lo, zs2, rfl, .inl (.inl (.inl eq2)), p, _, rfl, l0, l200, Lg.2.1, fun Hh r2 bh hph q0 q1 => ?_⟩
      obtain ⟨k2, y2, h1, h2, h3, h4, h5, h6⟩ := pop Hh r2 bh hph q0 q1
      exact ⟨Lo, zs2, r2, k2, y2, rfl, rfl, h1, h2, h3, h4, h5, h6, _, rfl⟩
    rintro σ' Hc ⟨Lc, y6, rfl⟩
    obtain ⟨bc, hpc, zs, ds, eqc, hdc, l1, l2⟩ := Lc
    have ly := dpa_len2 hdc
    refine ⟨by show 3 ≤ sizeLine; decide, fun t3 nt3 => ?_⟩
    have st3 := same_upd (o := .tup [.str "track", .str "facts", .str "track"]) nt3
    have t3p : t3 ≠ p := hpc.ne_new nt3
    have t3L : t3 ≠ Lo := Ne.symm (ne_of_none eqc nt3)
    refine ⟨t3, rfl, ⟨_, .inl (.inl upd_same)⟩, for_it (walk_tup (xs := [.str "track", .str "facts", .str "track"])) (fun j σ' H' => B2 p Lo H8 H' ∧ Pool H' p ∧ H' Lo = some (.lst zs) ∧ DpAll K (M.wo H' (fun b => b = p ∨ b = Lo)) zs ds ∧ H' t3 = some (.tup [.str "track", .str "facts", .str "track"]) ∧ ∃ y7, σ' = [some (.ref a), some (.int (0 + (i0 : Int))), some (.ref p), some (.ref t), some (.ref Lo), some (.int pk), y6, y7])
      ⟨bc.but (But.of st3), hpc.same st3, st3 _ _ eqc, dpa_same (Xk12 st3) _ _ hdc, upd_same, _, rfl⟩ (fun j σ' H' _ h => .inl (.inl h.2.2.2.2.1)) ?_ ?_⟩
    · rintro j v σ' Hd He hj ⟨bd, hpd, eqd, hdd, et3, y7, rfl⟩ ⟨rfl, hx⟩
      obtain ⟨jw, rfl⟩ : ∃ jw : Fin 2, v = .str (tw2 jw) := by
        match j, hj, hx with
        | 0, _, hx => cases hx; exact ⟨0, rfl⟩
        | 1, _, hx => cases hx; exact ⟨1, rfl⟩
        | 2, _, hx => cases hx; exact ⟨0, rfl⟩
      refine ⟨_, rfl, .ref t, rfl, .ref Lo, rfl, .ref Lo, rfl, Lo, zs, rfl, .inl ⟨.inl (.inl eqd), fun c nc => ?_⟩⟩
      have sc := same_upd (o := .tup zs) nc
      refine ⟨by show 2 ≤ sizeLine; decide, fun t2 nt2 => ?_⟩
      have st2 := same_upd (o := .tup [.ref Lo, .ref c]) nt2
      have hp2 := (hpd.same sc).same st2
      have sc2 := sc.trans st2
      refine ⟨.ref p, rfl, p, 2, rfl, by decide, by decide, hp2, fun Hf r bf hpf r0 r1 => ?_⟩
      have bdf : But p He Hf := (But.of sc2).trans bf
      have eqf := bdf _ _ pq eqd
      have et2 := bf _ _ ((hpd.same sc).ne_new nt2) upd_same
      have ecf := bf _ _ (hpd.ne_new nc) (st2 _ _ upd_same)
      obtain ⟨ad, hat, had⟩ : ∃ ad, atI [V.ref Lo, V.ref c] r = some (.ref ad) ∧ SqA K Hf ad zs := by
        obtain rfl | rfl : r = 0 ∨ r = 1 := by omega
        · exact ⟨Lo, rfl, .inl (.inl (.inl eqf))⟩
        · exact ⟨c, rfl, .inr (.inl (.inl ecf))⟩
      have hdf := dpa_same (bdf.wo (X := fun b => b = p ∨ b = Lo) (.inl rfl)) _ _ hdd
      have wf := (bd.but bdf).wo
      have htf := sqt_same (wf.trans wo_same) ht
      have hrf := hrow.same (wf.trans wo_same)
      have hzf := dpa_same wo_same _ _ hdf
      refine ⟨t2, _, _, _, rfl, rfl, .inl (.inl et2), hat, jw, t, ad, xs, zs, es, ds, rfl, .inr htf, hrf, had, hzf, by omega, by omega, hR, fun Hg sg => ?_⟩
      refine ⟨.ref t, rfl, .ref Lo, rfl, t, Lo, xs, zs, es, ds, rfl, .inr (sqt_same sg htf), hrf.same sg, .inl (.inl (.inl (sg _ _ eqf))), dpa_same sg _ _ hzf, by omega, by omega, fun Hh sh => ?_⟩
      refine ⟨_, _, dueD2 (badL (1 + swaps es) ds), rfl, due_dp _, due_dp _, ?_, fun Hi si => ⟨_, rfl, iteF ?_⟩⟩
      · cases badL (1 + swaps es) ds <;> rfl
      have sgi := (sg.trans sh).trans si
      exact ⟨(bd.but bdf).but (But.of sgi), hpf.same sgi, sgi _ _ eqf, dpa_same (Xk12 sgi) _ _ hdf, sgi _ _ (bdf _ _ t3p et3), _, rfl⟩
    · rintro σ' Hd ⟨bd, hpd, eqd, hdd, et3, y7, rfl⟩
      refine ⟨fun c o z => bd c o (fun y => ?_) (ne_of_none z nLo0) (s12 _ _ z), _, _, _, _, _, _, _, rfl⟩
      rw [y] at z
      rw [s1 _ _ z] at np
      cases np
--@@SPLIT
end
theorem all_mk {l : PySem.W.OpenLaw} {w : World} {K : PySem.W.Frag} {h : Heap} {mg : Str → Option Value} {fa : Addr} (X : K.In h) (G : h.Ns mainGlobals mg) (hfa : mg "law" = some (.ref fa))
    {f_is_whole : Addr} {od_is_whole an_is_whole : Option Addr} {sl_is_whole : Array (Option Value)} {oc_is_whole kV_is_whole dc_is_whole pm_is_whole cd_is_whole ct_is_whole : Value}
    {f_is_row : Addr} {od_is_row an_is_row : Option Addr} {sl_is_row : Array (Option Value)} {oc_is_row kV_is_row dc_is_row pm_is_row cd_is_row ct_is_row : Value}
    {f_laid_out : Addr} {od_laid_out an_laid_out : Option Addr} {sl_laid_out : Array (Option Value)} {oc_laid_out kV_laid_out dc_laid_out pm_laid_out cd_laid_out ct_laid_out : Value}
    {f_kept : Addr} {od_kept an_kept : Option Addr} {sl_kept : Array (Option Value)} {oc_kept kV_kept dc_kept pm_kept cd_kept ct_kept : Value}
    {f_step : Addr} {od_step an_step : Option Addr} {sl_step : Array (Option Value)} {oc_step kV_step dc_step pm_step cd_step ct_step : Value}
    {f_way_of : Addr} {od_way_of an_way_of : Option Addr} {sl_way_of : Array (Option Value)} {oc_way_of kV_way_of dc_way_of pm_way_of cd_way_of ct_way_of : Value}
    {f_is_lot : Addr} {od_is_lot an_is_lot : Option Addr} {sl_is_lot : Array (Option Value)} {oc_is_lot kV_is_lot dc_is_lot pm_is_lot cd_is_lot ct_is_lot : Value}
    {f_refuse_unless_lot : Addr} {od_refuse_unless_lot an_refuse_unless_lot : Option Addr} {sl_refuse_unless_lot : Array (Option Value)} {oc_refuse_unless_lot kV_refuse_unless_lot dc_refuse_unless_lot pm_refuse_unless_lot cd_refuse_unless_lot ct_refuse_unless_lot : Value}
    {f_mirrors : Addr} {od_mirrors an_mirrors : Option Addr} {sl_mirrors : Array (Option Value)} {oc_mirrors kV_mirrors dc_mirrors pm_mirrors cd_mirrors ct_mirrors : Value}
    {f_true : Addr} {od_true an_true : Option Addr} {sl_true : Array (Option Value)} {oc_true kV_true dc_true pm_true cd_true ct_true : Value}
    {f_legs_in : Addr} {od_legs_in an_legs_in : Option Addr} {sl_legs_in : Array (Option Value)} {oc_legs_in kV_legs_in dc_legs_in pm_legs_in cd_legs_in ct_legs_in : Value}
    {f_refuse_unless_lots : Addr} {od_refuse_unless_lots an_refuse_unless_lots : Option Addr} {sl_refuse_unless_lots : Array (Option Value)} {oc_refuse_unless_lots kV_refuse_unless_lots dc_refuse_unless_lots pm_refuse_unless_lots cd_refuse_unless_lots ct_refuse_unless_lots : Value}
    {f_gone : Addr} {od_gone an_gone : Option Addr} {sl_gone : Array (Option Value)} {oc_gone kV_gone dc_gone pm_gone cd_gone ct_gone : Value}
    {f_look_behind : Addr} {od_look_behind an_look_behind : Option Addr} {sl_look_behind : Array (Option Value)} {oc_look_behind kV_look_behind dc_look_behind pm_look_behind cd_look_behind ct_look_behind : Value}
    {f_track : Addr} {od_track an_track : Option Addr} {sl_track : Array (Option Value)} {oc_track kV_track dc_track pm_track cd_track ct_track : Value}
    {f_way_fact : Addr} {od_way_fact an_way_fact : Option Addr} {sl_way_fact : Array (Option Value)} {oc_way_fact kV_way_fact dc_way_fact pm_way_fact cd_way_fact ct_way_fact : Value}
    {f_facts_of_entry : Addr} {od_facts_of_entry an_facts_of_entry : Option Addr} {sl_facts_of_entry : Array (Option Value)} {oc_facts_of_entry kV_facts_of_entry dc_facts_of_entry pm_facts_of_entry cd_facts_of_entry ct_facts_of_entry : Value}
    {f_facts : Addr} {od_facts an_facts : Option Addr} {sl_facts : Array (Option Value)} {oc_facts kV_facts dc_facts pm_facts cd_facts ct_facts : Value}
    {f_Lany_entry : Addr} {od_Lany_entry an_Lany_entry : Option Addr} {sl_Lany_entry : Array (Option Value)} {oc_Lany_entry kV_Lany_entry dc_Lany_entry pm_Lany_entry cd_Lany_entry ct_Lany_entry : Value}
    {f_Lany_log : Addr} {od_Lany_log an_Lany_log : Option Addr} {sl_Lany_log : Array (Option Value)} {oc_Lany_log kV_Lany_log dc_Lany_log pm_Lany_log cd_Lany_log ct_Lany_log : Value}
    {f_Llots : Addr} {od_Llots an_Llots : Option Addr} {sl_Llots : Array (Option Value)} {oc_Llots kV_Llots dc_Llots pm_Llots cd_Llots ct_Llots : Value}
    {f_Lown : Addr} {od_Lown an_Lown : Option Addr} {sl_Lown : Array (Option Value)} {oc_Lown kV_Lown dc_Lown pm_Lown cd_Lown ct_Lown : Value}
    {f_Lpool : Addr} {od_Lpool an_Lpool : Option Addr} {sl_Lpool : Array (Option Value)} {oc_Lpool kV_Lpool dc_Lpool pm_Lpool cd_Lpool ct_Lpool : Value}
    {f_Ltake : Addr} {od_Ltake an_Ltake : Option Addr} {sl_Ltake : Array (Option Value)} {oc_Ltake kV_Ltake dc_Ltake pm_Ltake cd_Ltake ct_Ltake : Value}
    {f_Lwhole : Addr} {od_Lwhole an_Lwhole : Option Addr} {sl_Lwhole : Array (Option Value)} {oc_Lwhole kV_Lwhole dc_Lwhole pm_Lwhole cd_Lwhole ct_Lwhole : Value}
    {f_Lsame : Addr} {od_Lsame an_Lsame : Option Addr} {sl_Lsame : Array (Option Value)} {oc_Lsame kV_Lsame dc_Lsame pm_Lsame cd_Lsame ct_Lsame : Value}
    {f_Lanything : Addr} {od_Lanything an_Lanything : Option Addr} {sl_Lanything : Array (Option Value)} {oc_Lanything kV_Lanything dc_Lanything pm_Lanything cd_Lanything ct_Lanything : Value}
    {f_Lname : Addr} {od_Lname an_Lname : Option Addr} {sl_Lname : Array (Option Value)} {oc_Lname kV_Lname dc_Lname pm_Lname cd_Lname ct_Lname : Value}
    {f_Lsign : Addr} {od_Lsign an_Lsign : Option Addr} {sl_Lsign : Array (Option Value)} {oc_Lsign kV_Lsign dc_Lsign pm_Lsign cd_Lsign ct_Lsign : Value}
    {f_Llegs : Addr} {od_Llegs an_Llegs : Option Addr} {sl_Llegs : Array (Option Value)} {oc_Llegs kV_Llegs dc_Llegs pm_Llegs cd_Llegs ct_Llegs : Value}
    {f_Lasked : Addr} {od_Lasked an_Lasked : Option Addr} {sl_Lasked : Array (Option Value)} {oc_Lasked kV_Lasked dc_Lasked pm_Lasked cd_Lasked ct_Lasked : Value}
    {f_Ldue : Addr} {od_Ldue an_Ldue : Option Addr} {sl_Ldue : Array (Option Value)} {oc_Ldue kV_Ldue dc_Ldue pm_Ldue cd_Ldue ct_Ldue : Value}
    {f_law : Addr} {od_law an_law : Option Addr} {sl_law : Array (Option Value)} {oc_law kV_law dc_law pm_law cd_law ct_law : Value}
    {t_LETTERS : Tok}
    {f_STEPS : Addr}
    {es_STEPS : Array DictEntry} {n_STEPS : Nat}
    
    {q_STEPS_0 : Addr}
    {dd_STEPS_0 : Option Addr} {sl_STEPS_0 : Array (Option Value)} {nn_STEPS_0 : Nat} {tk_STEPS_0_0 : Tok} {tk_STEPS_0_1 : Tok}
    {q_STEPS_1 : Addr}
    {dd_STEPS_1 : Option Addr} {sl_STEPS_1 : Array (Option Value)} {nn_STEPS_1 : Nat} {tk_STEPS_1_0 : Tok} {tk_STEPS_1_1 : Tok}
    {q_STEPS_2 : Addr}
    {dd_STEPS_2 : Option Addr} {sl_STEPS_2 : Array (Option Value)} {nn_STEPS_2 : Nat} {tk_STEPS_2_0 : Tok} {tk_STEPS_2_1 : Tok}
    {q_STEPS_3 : Addr}
    {dd_STEPS_3 : Option Addr} {sl_STEPS_3 : Array (Option Value)} {nn_STEPS_3 : Nat} {tk_STEPS_3_0 : Tok} {tk_STEPS_3_1 : Tok}
    {f_QUARTERS : Addr}
    {es_QUARTERS : Array DictEntry} {n_QUARTERS : Nat}
    
    
    
    {tk_QUARTERS_0 : Tok}
    {tk_QUARTERS_1 : Tok}
    {tk_QUARTERS_2 : Tok}
    {f_START : Addr}
    {tk_START_1 : Tok}
    {dd_START : Option Addr} {sl_START : Array (Option Value)} {nn_START : Nat}
    {q_START_0 : Addr} {dd_START_0 : Option Addr} {sl_START_0 : Array (Option Value)} {nn_START_0 : Nat} {tk_START_0_0 : Tok} {tk_START_0_1 : Tok}
    {f_NoLot : Addr}
    {f_BadLog : Addr}
    {f_NoDealing : Addr}
    {f_BadBox : Addr}
    {f_NoName : Addr}
    {f_Twice : Addr}
    {f_NoWalker : Addr}
    {f_NeedleError : Addr}
    {nm_D qn_D : Str} {ns_D : Addr} {bs_D bm_D : List Value} {sn_D : List Str} {sub_D : List Value} {ab_D : Bool} {col_D : Option Bool} {dd_D : Option Addr} {m0_D m1_D m2_D m3_D m5_D : Option Value}
    {f_init : Addr} {od_init an_init : Option Addr} {sl_init : Array (Option Value)} {oc_init kV_init dc_init pm_init cd_init ct_init : Value}
    (A_is_whole : PySem.W.nsIn K mainGlobals "is_whole" = some (some (.ref f_is_whole))) (L_is_whole : K.lookup f_is_whole = some ⟨oc_is_whole, od_is_whole, .func (PySem.W.fnOf "is_whole" "is_whole" (defArgs s_is_whole) (defBody s_is_whole) (defScope s_is_whole) .none kV_is_whole dc_is_whole pm_is_whole an_is_whole cd_is_whole ct_is_whole), sl_is_whole⟩) (C_is_whole : PySem.W.codeIn K cd_is_whole "is_whole" = true) (K_is_whole : PySem.W.keepIn K (.ref f_is_whole) = true)
    (A_is_row : PySem.W.nsIn K mainGlobals "is_row" = some (some (.ref f_is_row))) (L_is_row : K.lookup f_is_row = some ⟨oc_is_row, od_is_row, .func (PySem.W.fnOf "is_row" "is_row" (defArgs s_is_row) (defBody s_is_row) (defScope s_is_row) .none kV_is_row dc_is_row pm_is_row an_is_row cd_is_row ct_is_row), sl_is_row⟩) (C_is_row : PySem.W.codeIn K cd_is_row "is_row" = true) (K_is_row : PySem.W.keepIn K (.ref f_is_row) = true)
    (A_laid_out : PySem.W.nsIn K mainGlobals "laid_out" = some (some (.ref f_laid_out))) (L_laid_out : K.lookup f_laid_out = some ⟨oc_laid_out, od_laid_out, .func (PySem.W.fnOf "laid_out" "laid_out" (defArgs s_laid_out) (defBody s_laid_out) (defScope s_laid_out) .none kV_laid_out dc_laid_out pm_laid_out an_laid_out cd_laid_out ct_laid_out), sl_laid_out⟩) (C_laid_out : PySem.W.codeIn K cd_laid_out "laid_out" = true) (K_laid_out : PySem.W.keepIn K (.ref f_laid_out) = true)
    (A_kept : PySem.W.nsIn K mainGlobals "kept" = some (some (.ref f_kept))) (L_kept : K.lookup f_kept = some ⟨oc_kept, od_kept, .func (PySem.W.fnOf "kept" "kept" (defArgs s_kept) (defBody s_kept) (defScope s_kept) .none kV_kept dc_kept pm_kept an_kept cd_kept ct_kept), sl_kept⟩) (C_kept : PySem.W.codeIn K cd_kept "kept" = true) (K_kept : PySem.W.keepIn K (.ref f_kept) = true)
    (A_step : PySem.W.nsIn K mainGlobals "step" = some (some (.ref f_step))) (L_step : K.lookup f_step = some ⟨oc_step, od_step, .func (PySem.W.fnOf "step" "step" (defArgs s_step) (defBody s_step) (defScope s_step) .none kV_step dc_step pm_step an_step cd_step ct_step), sl_step⟩) (C_step : PySem.W.codeIn K cd_step "step" = true) (K_step : PySem.W.keepIn K (.ref f_step) = true)
    (A_way_of : PySem.W.nsIn K mainGlobals "way_of" = some (some (.ref f_way_of))) (L_way_of : K.lookup f_way_of = some ⟨oc_way_of, od_way_of, .func (PySem.W.fnOf "way_of" "way_of" (defArgs s_way_of) (defBody s_way_of) (defScope s_way_of) .none kV_way_of dc_way_of pm_way_of an_way_of cd_way_of ct_way_of), sl_way_of⟩) (C_way_of : PySem.W.codeIn K cd_way_of "way_of" = true) (K_way_of : PySem.W.keepIn K (.ref f_way_of) = true)
    (A_is_lot : PySem.W.nsIn K mainGlobals "is_lot" = some (some (.ref f_is_lot))) (L_is_lot : K.lookup f_is_lot = some ⟨oc_is_lot, od_is_lot, .func (PySem.W.fnOf "is_lot" "is_lot" (defArgs s_is_lot) (defBody s_is_lot) (defScope s_is_lot) .none kV_is_lot dc_is_lot pm_is_lot an_is_lot cd_is_lot ct_is_lot), sl_is_lot⟩) (C_is_lot : PySem.W.codeIn K cd_is_lot "is_lot" = true) (K_is_lot : PySem.W.keepIn K (.ref f_is_lot) = true)
    (A_refuse_unless_lot : PySem.W.nsIn K mainGlobals "refuse_unless_lot" = some (some (.ref f_refuse_unless_lot))) (L_refuse_unless_lot : K.lookup f_refuse_unless_lot = some ⟨oc_refuse_unless_lot, od_refuse_unless_lot, .func (PySem.W.fnOf "refuse_unless_lot" "refuse_unless_lot" (defArgs s_refuse_unless_lot) (defBody s_refuse_unless_lot) (defScope s_refuse_unless_lot) .none kV_refuse_unless_lot dc_refuse_unless_lot pm_refuse_unless_lot an_refuse_unless_lot cd_refuse_unless_lot ct_refuse_unless_lot), sl_refuse_unless_lot⟩) (C_refuse_unless_lot : PySem.W.codeIn K cd_refuse_unless_lot "refuse_unless_lot" = true) (K_refuse_unless_lot : PySem.W.keepIn K (.ref f_refuse_unless_lot) = true)
    (A_mirrors : PySem.W.nsIn K mainGlobals "mirrors" = some (some (.ref f_mirrors))) (L_mirrors : K.lookup f_mirrors = some ⟨oc_mirrors, od_mirrors, .func (PySem.W.fnOf "mirrors" "mirrors" (defArgs s_mirrors) (defBody s_mirrors) (defScope s_mirrors) .none kV_mirrors dc_mirrors pm_mirrors an_mirrors cd_mirrors ct_mirrors), sl_mirrors⟩) (C_mirrors : PySem.W.codeIn K cd_mirrors "mirrors" = true) (K_mirrors : PySem.W.keepIn K (.ref f_mirrors) = true)
    (A_true : PySem.W.nsIn K mainGlobals "true" = some (some (.ref f_true))) (L_true : K.lookup f_true = some ⟨oc_true, od_true, .func (PySem.W.fnOf "true" "true" (defArgs s_true) (defBody s_true) (defScope s_true) .none kV_true dc_true pm_true an_true cd_true ct_true), sl_true⟩) (C_true : PySem.W.codeIn K cd_true "true" = true) (K_true : PySem.W.keepIn K (.ref f_true) = true)
    (A_legs_in : PySem.W.nsIn K mainGlobals "legs_in" = some (some (.ref f_legs_in))) (L_legs_in : K.lookup f_legs_in = some ⟨oc_legs_in, od_legs_in, .func (PySem.W.fnOf "legs_in" "legs_in" (defArgs s_legs_in) (defBody s_legs_in) (defScope s_legs_in) .none kV_legs_in dc_legs_in pm_legs_in an_legs_in cd_legs_in ct_legs_in), sl_legs_in⟩) (C_legs_in : PySem.W.codeIn K cd_legs_in "legs_in" = true) (K_legs_in : PySem.W.keepIn K (.ref f_legs_in) = true)
    (A_refuse_unless_lots : PySem.W.nsIn K mainGlobals "refuse_unless_lots" = some (some (.ref f_refuse_unless_lots))) (L_refuse_unless_lots : K.lookup f_refuse_unless_lots = some ⟨oc_refuse_unless_lots, od_refuse_unless_lots, .func (PySem.W.fnOf "refuse_unless_lots" "refuse_unless_lots" (defArgs s_refuse_unless_lots) (defBody s_refuse_unless_lots) (defScope s_refuse_unless_lots) .none kV_refuse_unless_lots dc_refuse_unless_lots pm_refuse_unless_lots an_refuse_unless_lots cd_refuse_unless_lots ct_refuse_unless_lots), sl_refuse_unless_lots⟩) (C_refuse_unless_lots : PySem.W.codeIn K cd_refuse_unless_lots "refuse_unless_lots" = true) (K_refuse_unless_lots : PySem.W.keepIn K (.ref f_refuse_unless_lots) = true)
    (A_gone : PySem.W.nsIn K mainGlobals "gone" = some (some (.ref f_gone))) (L_gone : K.lookup f_gone = some ⟨oc_gone, od_gone, .func (PySem.W.fnOf "gone" "gone" (defArgs s_gone) (defBody s_gone) (defScope s_gone) .none kV_gone dc_gone pm_gone an_gone cd_gone ct_gone), sl_gone⟩) (C_gone : PySem.W.codeIn K cd_gone "gone" = true) (K_gone : PySem.W.keepIn K (.ref f_gone) = true)
    (A_look_behind : PySem.W.nsIn K mainGlobals "look_behind" = some (some (.ref f_look_behind))) (L_look_behind : K.lookup f_look_behind = some ⟨oc_look_behind, od_look_behind, .func (PySem.W.fnOf "look_behind" "look_behind" (defArgs s_look_behind) (defBody s_look_behind) (defScope s_look_behind) .none kV_look_behind dc_look_behind pm_look_behind an_look_behind cd_look_behind ct_look_behind), sl_look_behind⟩) (C_look_behind : PySem.W.codeIn K cd_look_behind "look_behind" = true) (K_look_behind : PySem.W.keepIn K (.ref f_look_behind) = true)
    (A_track : PySem.W.nsIn K mainGlobals "track" = some (some (.ref f_track))) (L_track : K.lookup f_track = some ⟨oc_track, od_track, .func (PySem.W.fnOf "track" "track" (defArgs s_track) (defBody s_track) (defScope s_track) .none kV_track dc_track pm_track an_track cd_track ct_track), sl_track⟩) (C_track : PySem.W.codeIn K cd_track "track" = true) (K_track : PySem.W.keepIn K (.ref f_track) = true)
    (A_way_fact : PySem.W.nsIn K mainGlobals "way_fact" = some (some (.ref f_way_fact))) (L_way_fact : K.lookup f_way_fact = some ⟨oc_way_fact, od_way_fact, .func (PySem.W.fnOf "way_fact" "way_fact" (defArgs s_way_fact) (defBody s_way_fact) (defScope s_way_fact) .none kV_way_fact dc_way_fact pm_way_fact an_way_fact cd_way_fact ct_way_fact), sl_way_fact⟩) (C_way_fact : PySem.W.codeIn K cd_way_fact "way_fact" = true) (K_way_fact : PySem.W.keepIn K (.ref f_way_fact) = true)
    (A_facts_of_entry : PySem.W.nsIn K mainGlobals "facts_of_entry" = some (some (.ref f_facts_of_entry))) (L_facts_of_entry : K.lookup f_facts_of_entry = some ⟨oc_facts_of_entry, od_facts_of_entry, .func (PySem.W.fnOf "facts_of_entry" "facts_of_entry" (defArgs s_facts_of_entry) (defBody s_facts_of_entry) (defScope s_facts_of_entry) .none kV_facts_of_entry dc_facts_of_entry pm_facts_of_entry an_facts_of_entry cd_facts_of_entry ct_facts_of_entry), sl_facts_of_entry⟩) (C_facts_of_entry : PySem.W.codeIn K cd_facts_of_entry "facts_of_entry" = true) (K_facts_of_entry : PySem.W.keepIn K (.ref f_facts_of_entry) = true)
    (A_facts : PySem.W.nsIn K mainGlobals "facts" = some (some (.ref f_facts))) (L_facts : K.lookup f_facts = some ⟨oc_facts, od_facts, .func (PySem.W.fnOf "facts" "facts" (defArgs s_facts) (defBody s_facts) (defScope s_facts) .none kV_facts dc_facts pm_facts an_facts cd_facts ct_facts), sl_facts⟩) (C_facts : PySem.W.codeIn K cd_facts "facts" = true) (K_facts : PySem.W.keepIn K (.ref f_facts) = true)
    (A_Lany_entry : PySem.W.nsIn K mainGlobals "_law_any_entry" = some (some (.ref f_Lany_entry))) (L_Lany_entry : K.lookup f_Lany_entry = some ⟨oc_Lany_entry, od_Lany_entry, .func (PySem.W.fnOf "_law_any_entry" "_law_any_entry" (defArgs s_Lany_entry) (defBody s_Lany_entry) (defScope s_Lany_entry) .none kV_Lany_entry dc_Lany_entry pm_Lany_entry an_Lany_entry cd_Lany_entry ct_Lany_entry), sl_Lany_entry⟩) (C_Lany_entry : PySem.W.codeIn K cd_Lany_entry "_law_any_entry" = true) (K_Lany_entry : PySem.W.keepIn K (.ref f_Lany_entry) = true)
    (A_Lany_log : PySem.W.nsIn K mainGlobals "_law_any_log" = some (some (.ref f_Lany_log))) (L_Lany_log : K.lookup f_Lany_log = some ⟨oc_Lany_log, od_Lany_log, .func (PySem.W.fnOf "_law_any_log" "_law_any_log" (defArgs s_Lany_log) (defBody s_Lany_log) (defScope s_Lany_log) .none kV_Lany_log dc_Lany_log pm_Lany_log an_Lany_log cd_Lany_log ct_Lany_log), sl_Lany_log⟩) (C_Lany_log : PySem.W.codeIn K cd_Lany_log "_law_any_log" = true) (K_Lany_log : PySem.W.keepIn K (.ref f_Lany_log) = true)
    (A_Llots : PySem.W.nsIn K mainGlobals "_law_lots" = some (some (.ref f_Llots))) (L_Llots : K.lookup f_Llots = some ⟨oc_Llots, od_Llots, .func (PySem.W.fnOf "_law_lots" "_law_lots" (defArgs s_Llots) (defBody s_Llots) (defScope s_Llots) .none kV_Llots dc_Llots pm_Llots an_Llots cd_Llots ct_Llots), sl_Llots⟩) (C_Llots : PySem.W.codeIn K cd_Llots "_law_lots" = true) (K_Llots : PySem.W.keepIn K (.ref f_Llots) = true)
    (A_Lown : PySem.W.nsIn K mainGlobals "_law_own" = some (some (.ref f_Lown))) (L_Lown : K.lookup f_Lown = some ⟨oc_Lown, od_Lown, .func (PySem.W.fnOf "_law_own" "_law_own" (defArgs s_Lown) (defBody s_Lown) (defScope s_Lown) .none kV_Lown dc_Lown pm_Lown an_Lown cd_Lown ct_Lown), sl_Lown⟩) (C_Lown : PySem.W.codeIn K cd_Lown "_law_own" = true) (K_Lown : PySem.W.keepIn K (.ref f_Lown) = true)
    (A_Lpool : PySem.W.nsIn K mainGlobals "_law_pool" = some (some (.ref f_Lpool))) (L_Lpool : K.lookup f_Lpool = some ⟨oc_Lpool, od_Lpool, .func (PySem.W.fnOf "_law_pool" "_law_pool" (defArgs s_Lpool) (defBody s_Lpool) (defScope s_Lpool) .none kV_Lpool dc_Lpool pm_Lpool an_Lpool cd_Lpool ct_Lpool), sl_Lpool⟩) (C_Lpool : PySem.W.codeIn K cd_Lpool "_law_pool" = true) (K_Lpool : PySem.W.keepIn K (.ref f_Lpool) = true)
    (A_Ltake : PySem.W.nsIn K mainGlobals "_law_take" = some (some (.ref f_Ltake))) (L_Ltake : K.lookup f_Ltake = some ⟨oc_Ltake, od_Ltake, .func (PySem.W.fnOf "_law_take" "_law_take" (defArgs s_Ltake) (defBody s_Ltake) (defScope s_Ltake) .none kV_Ltake dc_Ltake pm_Ltake an_Ltake cd_Ltake ct_Ltake), sl_Ltake⟩) (C_Ltake : PySem.W.codeIn K cd_Ltake "_law_take" = true) (K_Ltake : PySem.W.keepIn K (.ref f_Ltake) = true)
    (A_Lwhole : PySem.W.nsIn K mainGlobals "_law_whole" = some (some (.ref f_Lwhole))) (L_Lwhole : K.lookup f_Lwhole = some ⟨oc_Lwhole, od_Lwhole, .func (PySem.W.fnOf "_law_whole" "_law_whole" (defArgs s_Lwhole) (defBody s_Lwhole) (defScope s_Lwhole) .none kV_Lwhole dc_Lwhole pm_Lwhole an_Lwhole cd_Lwhole ct_Lwhole), sl_Lwhole⟩) (C_Lwhole : PySem.W.codeIn K cd_Lwhole "_law_whole" = true) (K_Lwhole : PySem.W.keepIn K (.ref f_Lwhole) = true)
    (A_Lsame : PySem.W.nsIn K mainGlobals "_law_same" = some (some (.ref f_Lsame))) (L_Lsame : K.lookup f_Lsame = some ⟨oc_Lsame, od_Lsame, .func (PySem.W.fnOf "_law_same" "_law_same" (defArgs s_Lsame) (defBody s_Lsame) (defScope s_Lsame) .none kV_Lsame dc_Lsame pm_Lsame an_Lsame cd_Lsame ct_Lsame), sl_Lsame⟩) (C_Lsame : PySem.W.codeIn K cd_Lsame "_law_same" = true) (K_Lsame : PySem.W.keepIn K (.ref f_Lsame) = true)
    (A_Lanything : PySem.W.nsIn K mainGlobals "_law_anything" = some (some (.ref f_Lanything))) (L_Lanything : K.lookup f_Lanything = some ⟨oc_Lanything, od_Lanything, .func (PySem.W.fnOf "_law_anything" "_law_anything" (defArgs s_Lanything) (defBody s_Lanything) (defScope s_Lanything) .none kV_Lanything dc_Lanything pm_Lanything an_Lanything cd_Lanything ct_Lanything), sl_Lanything⟩) (C_Lanything : PySem.W.codeIn K cd_Lanything "_law_anything" = true) (K_Lanything : PySem.W.keepIn K (.ref f_Lanything) = true)
    (A_Lname : PySem.W.nsIn K mainGlobals "_law_name" = some (some (.ref f_Lname))) (L_Lname : K.lookup f_Lname = some ⟨oc_Lname, od_Lname, .func (PySem.W.fnOf "_law_name" "_law_name" (defArgs s_Lname) (defBody s_Lname) (defScope s_Lname) .none kV_Lname dc_Lname pm_Lname an_Lname cd_Lname ct_Lname), sl_Lname⟩) (C_Lname : PySem.W.codeIn K cd_Lname "_law_name" = true) (K_Lname : PySem.W.keepIn K (.ref f_Lname) = true)
    (A_Lsign : PySem.W.nsIn K mainGlobals "_law_sign" = some (some (.ref f_Lsign))) (L_Lsign : K.lookup f_Lsign = some ⟨oc_Lsign, od_Lsign, .func (PySem.W.fnOf "_law_sign" "_law_sign" (defArgs s_Lsign) (defBody s_Lsign) (defScope s_Lsign) .none kV_Lsign dc_Lsign pm_Lsign an_Lsign cd_Lsign ct_Lsign), sl_Lsign⟩) (C_Lsign : PySem.W.codeIn K cd_Lsign "_law_sign" = true) (K_Lsign : PySem.W.keepIn K (.ref f_Lsign) = true)
    (A_Llegs : PySem.W.nsIn K mainGlobals "_law_legs" = some (some (.ref f_Llegs))) (L_Llegs : K.lookup f_Llegs = some ⟨oc_Llegs, od_Llegs, .func (PySem.W.fnOf "_law_legs" "_law_legs" (defArgs s_Llegs) (defBody s_Llegs) (defScope s_Llegs) .none kV_Llegs dc_Llegs pm_Llegs an_Llegs cd_Llegs ct_Llegs), sl_Llegs⟩) (C_Llegs : PySem.W.codeIn K cd_Llegs "_law_legs" = true) (K_Llegs : PySem.W.keepIn K (.ref f_Llegs) = true)
    (A_Lasked : PySem.W.nsIn K mainGlobals "_law_asked" = some (some (.ref f_Lasked))) (L_Lasked : K.lookup f_Lasked = some ⟨oc_Lasked, od_Lasked, .func (PySem.W.fnOf "_law_asked" "_law_asked" (defArgs s_Lasked) (defBody s_Lasked) (defScope s_Lasked) .none kV_Lasked dc_Lasked pm_Lasked an_Lasked cd_Lasked ct_Lasked), sl_Lasked⟩) (C_Lasked : PySem.W.codeIn K cd_Lasked "_law_asked" = true) (K_Lasked : PySem.W.keepIn K (.ref f_Lasked) = true)
    (A_Ldue : PySem.W.nsIn K mainGlobals "_law_due" = some (some (.ref f_Ldue))) (L_Ldue : K.lookup f_Ldue = some ⟨oc_Ldue, od_Ldue, .func (PySem.W.fnOf "_law_due" "_law_due" (defArgs s_Ldue) (defBody s_Ldue) (defScope s_Ldue) .none kV_Ldue dc_Ldue pm_Ldue an_Ldue cd_Ldue ct_Ldue), sl_Ldue⟩) (C_Ldue : PySem.W.codeIn K cd_Ldue "_law_due" = true) (K_Ldue : PySem.W.keepIn K (.ref f_Ldue) = true)
    (A_law : PySem.W.nsIn K mainGlobals "law" = some (some (.ref f_law))) (L_law : K.lookup f_law = some ⟨oc_law, od_law, .func (PySem.W.fnOf "law" "law" (defArgs s_law) (defBody s_law) (defScope s_law) .none kV_law dc_law pm_law an_law cd_law ct_law), sl_law⟩) (C_law : PySem.W.codeIn K cd_law "law" = true) (K_law : PySem.W.keepIn K (.ref f_law) = true)
    (A_LETTERS : PySem.W.nsIn K mainGlobals "LETTERS" = some (some (.str "nesw" t_LETTERS)))
    (A_STEPS : PySem.W.nsIn K mainGlobals "STEPS" = some (some (.ref f_STEPS)))
    (D_STEPS : K.lookup f_STEPS = some ⟨.type "dict", none, .dict es_STEPS n_STEPS, #[]⟩)
    (Y_STEPS : PySem.W.KeysLit w.params es_STEPS.toList)
    (N_STEPS_0 : PySem.W.nsIn K f_STEPS "n" = some (some (.ref q_STEPS_0)))
    (V_STEPS_0 : K.lookup q_STEPS_0 = some ⟨.type "tuple", dd_STEPS_0, .seq #[.int (0) tk_STEPS_0_0, .int (1) tk_STEPS_0_1] nn_STEPS_0, sl_STEPS_0⟩)
    (N_STEPS_1 : PySem.W.nsIn K f_STEPS "e" = some (some (.ref q_STEPS_1)))
    (V_STEPS_1 : K.lookup q_STEPS_1 = some ⟨.type "tuple", dd_STEPS_1, .seq #[.int (1) tk_STEPS_1_0, .int (0) tk_STEPS_1_1] nn_STEPS_1, sl_STEPS_1⟩)
    (N_STEPS_2 : PySem.W.nsIn K f_STEPS "s" = some (some (.ref q_STEPS_2)))
    (V_STEPS_2 : K.lookup q_STEPS_2 = some ⟨.type "tuple", dd_STEPS_2, .seq #[.int (0) tk_STEPS_2_0, .int (-1) tk_STEPS_2_1] nn_STEPS_2, sl_STEPS_2⟩)
    (N_STEPS_3 : PySem.W.nsIn K f_STEPS "w" = some (some (.ref q_STEPS_3)))
    (V_STEPS_3 : K.lookup q_STEPS_3 = some ⟨.type "tuple", dd_STEPS_3, .seq #[.int (-1) tk_STEPS_3_0, .int (0) tk_STEPS_3_1] nn_STEPS_3, sl_STEPS_3⟩)
    (A_QUARTERS : PySem.W.nsIn K mainGlobals "QUARTERS" = some (some (.ref f_QUARTERS)))
    (D_QUARTERS : K.lookup f_QUARTERS = some ⟨.type "dict", none, .dict es_QUARTERS n_QUARTERS, #[]⟩)
    (Y_QUARTERS : PySem.W.KeysLit w.params es_QUARTERS.toList)
    (lo_QUARTERS : (f_QUARTERS == sysModules) = false)
    (ke_QUARTERS : Keys es_QUARTERS.toList ["right", "back", "left"])
    (N_QUARTERS_0 : PySem.W.nsIn K f_QUARTERS "right" = some (some (.int 1 tk_QUARTERS_0)))
    (N_QUARTERS_1 : PySem.W.nsIn K f_QUARTERS "back" = some (some (.int 2 tk_QUARTERS_1)))
    (N_QUARTERS_2 : PySem.W.nsIn K f_QUARTERS "left" = some (some (.int 3 tk_QUARTERS_2)))
    (A_START : PySem.W.nsIn K mainGlobals "START" = some (some (.ref f_START)))
    (V_START : K.lookup f_START = some ⟨.type "tuple", dd_START, .seq #[.ref q_START_0, .str "" tk_START_1] nn_START, sl_START⟩)
    (V_START_0 : K.lookup q_START_0 = some ⟨.type "tuple", dd_START_0, .seq #[.int (0) tk_START_0_0, .int (0) tk_START_0_1] nn_START_0, sl_START_0⟩)
    (Z_abs : PySem.W.nsIn K mainGlobals "abs" = some none)
    (Z_all : PySem.W.nsIn K mainGlobals "all" = some none)
    (Z_any : PySem.W.nsIn K mainGlobals "any" = some none)
    (Z_bool : PySem.W.nsIn K mainGlobals "bool" = some none)
    (Z_enumerate : PySem.W.nsIn K mainGlobals "enumerate" = some none)
    (Z_int : PySem.W.nsIn K mainGlobals "int" = some none)
    (Z_isinstance : PySem.W.nsIn K mainGlobals "isinstance" = some none)
    (Z_len : PySem.W.nsIn K mainGlobals "len" = some none)
    (Z_list : PySem.W.nsIn K mainGlobals "list" = some none)
    (Z_range : PySem.W.nsIn K mainGlobals "range" = some none)
    (Z_str : PySem.W.nsIn K mainGlobals "str" = some none)
    (Z_tuple : PySem.W.nsIn K mainGlobals "tuple" = some none)
    (Z_zip : PySem.W.nsIn K mainGlobals "zip" = some none)
    (A_NoLot : PySem.W.nsIn K mainGlobals "NoLot" = some (some (.ref f_NoLot)))
    (A_BadLog : PySem.W.nsIn K mainGlobals "BadLog" = some (some (.ref f_BadLog)))
    (A_NoDealing : PySem.W.nsIn K mainGlobals "NoDealing" = some (some (.ref f_NoDealing)))
    (A_BadBox : PySem.W.nsIn K mainGlobals "BadBox" = some (some (.ref f_BadBox)))
    (A_NoName : PySem.W.nsIn K mainGlobals "NoName" = some (some (.ref f_NoName)))
    (A_Twice : PySem.W.nsIn K mainGlobals "Twice" = some (some (.ref f_Twice)))
    (A_NoWalker : PySem.W.nsIn K mainGlobals "NoWalker" = some (some (.ref f_NoWalker)))
    (A_NeedleError : PySem.W.nsIn K mainGlobals "NeedleError" = some (some (.ref f_NeedleError)))
    (ic_NoLot : PySem.W.isClsIn K f_NoLot = true) (ty_NoLot : PySem.W.typeIn K (.ref f_NoLot) = some (.type "type")) (su_NoLot : PySem.W.subIn K (.ref f_NoDealing) (.ref f_NoLot) = some false)
    (ne_NoLot : (Value.ref f_NoDealing == Value.ref f_NoLot) = false)
    (ic_BadLog : PySem.W.isClsIn K f_BadLog = true) (ty_BadLog : PySem.W.typeIn K (.ref f_BadLog) = some (.type "type")) (su_BadLog : PySem.W.subIn K (.ref f_NoDealing) (.ref f_BadLog) = some false)
    (ne_BadLog : (Value.ref f_NoDealing == Value.ref f_BadLog) = false)
    (ic_NoDealing : PySem.W.isClsIn K f_NoDealing = true) (ty_NoDealing : PySem.W.typeIn K (.ref f_NoDealing) = some (.type "type")) (su_NoDealing : PySem.W.subIn K (.ref f_NoDealing) (.ref f_NoDealing) = some true)
    (ic_BadBox : PySem.W.isClsIn K f_BadBox = true) (ty_BadBox : PySem.W.typeIn K (.ref f_BadBox) = some (.type "type")) (su_BadBox : PySem.W.subIn K (.ref f_NoDealing) (.ref f_BadBox) = some false)
    (ne_BadBox : (Value.ref f_NoDealing == Value.ref f_BadBox) = false)
    (ic_NoName : PySem.W.isClsIn K f_NoName = true) (ty_NoName : PySem.W.typeIn K (.ref f_NoName) = some (.type "type")) (su_NoName : PySem.W.subIn K (.ref f_NoDealing) (.ref f_NoName) = some false)
    (ne_NoName : (Value.ref f_NoDealing == Value.ref f_NoName) = false)
    (ic_Twice : PySem.W.isClsIn K f_Twice = true) (ty_Twice : PySem.W.typeIn K (.ref f_Twice) = some (.type "type")) (su_Twice : PySem.W.subIn K (.ref f_NoDealing) (.ref f_Twice) = some false)
    (ne_Twice : (Value.ref f_NoDealing == Value.ref f_Twice) = false)
    (ic_NoWalker : PySem.W.isClsIn K f_NoWalker = true) (ty_NoWalker : PySem.W.typeIn K (.ref f_NoWalker) = some (.type "type")) (su_NoWalker : PySem.W.subIn K (.ref f_NoDealing) (.ref f_NoWalker) = some false)
    (ne_NoWalker : (Value.ref f_NoDealing == Value.ref f_NoWalker) = false)
    (ic_NeedleError : PySem.W.isClsIn K f_NeedleError = true) (ty_NeedleError : PySem.W.typeIn K (.ref f_NeedleError) = some (.type "type")) (su_NeedleError : PySem.W.subIn K (.ref f_NoDealing) (.ref f_NeedleError) = some true)
    (ne_NeedleError : (Value.ref f_NoDealing == Value.ref f_NeedleError) = false)
    (Z_ValueError : PySem.W.nsIn K mainGlobals "ValueError" = some none)
    (su_VE : PySem.W.subIn K (.ref f_NoDealing) (.type "ValueError") = some true)
    (X_D : K.lookup f_NoDealing = some (excClassObj nm_D qn_D f_NoDealing ns_D bs_D bm_D true sn_D sub_D ab_D col_D dd_D m0_D m1_D m2_D m3_D m5_D "ValueError.__new__")) (bm_ok : PySem.HandSPX.refsVE bm_D = true)
    (sa_D : PySem.W.findIn K (.ref f_NoDealing) "__setattr__" = some (some (.builtin "object.__setattr__"))) (ga_D : PySem.W.findIn K (.ref f_NoDealing) "__getattribute__" = some (some (.builtin "BaseException.__getattribute__"))) (gg_D : PySem.W.findIn K (.ref f_NoDealing) "__getattr__" = some none)
    (no_at : PySem.W.findIn K (.ref f_NoDealing) "at" = some none)
    (I_D : PySem.W.findIn K (.ref f_NoDealing) "__init__" = some (some (.ref f_init))) (t_init : PySem.W.typeIn K (.ref f_init) = some (.type "function"))
    (L_init : K.lookup f_init = some ⟨oc_init, od_init, .func (PySem.W.fnOf "__init__" "NoDealing.__init__" (defArgs s_init) (defBody s_init) (defScope s_init) .none kV_init dc_init pm_init an_init cd_init ct_init), sl_init⟩) (C_init : PySem.W.codeIn K cd_init "NoDealing.__init__" = true) (K_init : PySem.W.keepIn K (.ref f_init) = true)
    (k_D : PySem.W.keepIn K (.ref f_NoDealing) = true) (e_D : PySem.W.subIn K (.ref f_NoDealing) (.type "BaseException") = some true) (h_D : PySem.W.hasDictIn K f_NoDealing = true)
    (ca_D : PySem.W.findIn K (.ref f_NoDealing) "__class__" = some (some (.builtin "object.__class__"))) (cn_D : PySem.W.specialIn K (.builtin "object.__class__") "__get__" = some (some (.builtin "getset_descriptor.__get__"))) (ct_D : PySem.W.takesIn K (.builtin "object.__class__") = some true) (cm_D : PySem.W.mroIn K f_NoDealing (.type "object") = some true) :
    ∃ fd : FuncData, (∀ (s : Shared) (v : Value), BindsTo s fd ⟨[v], []⟩ [("_law_script", v)]) ∧ ∀ base : Heap, K.In base → base.Ns mainGlobals mg → FnOk l.prog w K mg base CX0 10 fa fd ["_law_script"] (spLaw K) := by
  have e := hfa.symm.trans (PySem.W.mg_of X G A_law)
  cases e
  let T : Top w K mg := {
    a_is_whole := f_is_whole, fd_is_whole := _, F_is_whole := fun_mk (st := s_is_whole) L_is_whole C_is_whole K_is_whole,
    b_is_whole := (fun_mk (st := s_is_whole) L_is_whole C_is_whole K_is_whole).binds (ps := ["thing"]) fun _ _ _ _ _ _ us hl => match us, hl with | [_], _ => rfl,
    g_is_whole := PySem.W.mg_of X G A_is_whole,
    a_is_row := f_is_row, fd_is_row := _, F_is_row := fun_mk (st := s_is_row) L_is_row C_is_row K_is_row,
    b_is_row := (fun_mk (st := s_is_row) L_is_row C_is_row K_is_row).binds (ps := ["thing"]) fun _ _ _ _ _ _ us hl => match us, hl with | [_], _ => rfl,
    g_is_row := PySem.W.mg_of X G A_is_row,
    a_laid_out := f_laid_out, fd_laid_out := _, F_laid_out := fun_mk (st := s_laid_out) L_laid_out C_laid_out K_laid_out,
    b_laid_out := (fun_mk (st := s_laid_out) L_laid_out C_laid_out K_laid_out).binds (ps := ["thing"]) fun _ _ _ _ _ _ us hl => match us, hl with | [_], _ => rfl,
    g_laid_out := PySem.W.mg_of X G A_laid_out,
    a_kept := f_kept, fd_kept := _, F_kept := fun_mk (st := s_kept) L_kept C_kept K_kept,
    b_kept := (fun_mk (st := s_kept) L_kept C_kept K_kept).binds (ps := ["thing"]) fun _ _ _ _ _ _ us hl => match us, hl with | [_], _ => rfl,
    g_kept := PySem.W.mg_of X G A_kept,
    a_step := f_step, fd_step := _, F_step := fun_mk (st := s_step) L_step C_step K_step,
    b_step := (fun_mk (st := s_step) L_step C_step K_step).binds (ps := ["letter"]) fun _ _ _ _ _ _ us hl => match us, hl with | [_], _ => rfl,
    g_step := PySem.W.mg_of X G A_step,
    a_way_of := f_way_of, fd_way_of := _, F_way_of := fun_mk (st := s_way_of) L_way_of C_way_of K_way_of,
    b_way_of := (fun_mk (st := s_way_of) L_way_of C_way_of K_way_of).binds (ps := ["place", "letter"]) fun _ _ _ _ _ _ us hl => match us, hl with | [_, _], _ => rfl,
    g_way_of := PySem.W.mg_of X G A_way_of,
    a_is_lot := f_is_lot, fd_is_lot := _, F_is_lot := fun_mk (st := s_is_lot) L_is_lot C_is_lot K_is_lot,
    b_is_lot := (fun_mk (st := s_is_lot) L_is_lot C_is_lot K_is_lot).binds (ps := ["thing"]) fun _ _ _ _ _ _ us hl => match us, hl with | [_], _ => rfl,
    g_is_lot := PySem.W.mg_of X G A_is_lot,
    a_refuse_unless_lot := f_refuse_unless_lot, fd_refuse_unless_lot := _, F_refuse_unless_lot := fun_mk (st := s_refuse_unless_lot) L_refuse_unless_lot C_refuse_unless_lot K_refuse_unless_lot,
    b_refuse_unless_lot := (fun_mk (st := s_refuse_unless_lot) L_refuse_unless_lot C_refuse_unless_lot K_refuse_unless_lot).binds (ps := ["thing"]) fun _ _ _ _ _ _ us hl => match us, hl with | [_], _ => rfl,
    g_refuse_unless_lot := PySem.W.mg_of X G A_refuse_unless_lot,
    a_mirrors := f_mirrors, fd_mirrors := _, F_mirrors := fun_mk (st := s_mirrors) L_mirrors C_mirrors K_mirrors,
    b_mirrors := (fun_mk (st := s_mirrors) L_mirrors C_mirrors K_mirrors).binds (ps := ["lot"]) fun _ _ _ _ _ _ us hl => match us, hl with | [_], _ => rfl,
    g_mirrors := PySem.W.mg_of X G A_mirrors,
    a_true := f_true, fd_true := _, F_true := fun_mk (st := s_true) L_true C_true K_true,
    b_true := (fun_mk (st := s_true) L_true C_true K_true).binds (ps := ["lot", "letter"]) fun _ _ _ _ _ _ us hl => match us, hl with | [_, _], _ => rfl,
    g_true := PySem.W.mg_of X G A_true,
    a_legs_in := f_legs_in, fd_legs_in := _, F_legs_in := fun_mk (st := s_legs_in) L_legs_in C_legs_in K_legs_in,
    b_legs_in := (fun_mk (st := s_legs_in) L_legs_in C_legs_in K_legs_in).binds (ps := ["log"]) fun _ _ _ _ _ _ us hl => match us, hl with | [_], _ => rfl,
    g_legs_in := PySem.W.mg_of X G A_legs_in,
    a_refuse_unless_lots := f_refuse_unless_lots, fd_refuse_unless_lots := _, F_refuse_unless_lots := fun_mk (st := s_refuse_unless_lots) L_refuse_unless_lots C_refuse_unless_lots K_refuse_unless_lots,
    b_refuse_unless_lots := (fun_mk (st := s_refuse_unless_lots) L_refuse_unless_lots C_refuse_unless_lots K_refuse_unless_lots).binds (ps := ["log", "lots"]) fun _ _ _ _ _ _ us hl => match us, hl with | [_, _], _ => rfl,
    g_refuse_unless_lots := PySem.W.mg_of X G A_refuse_unless_lots,
    a_gone := f_gone, fd_gone := _, F_gone := fun_mk (st := s_gone) L_gone C_gone K_gone,
    b_gone := (fun_mk (st := s_gone) L_gone C_gone K_gone).binds (ps := ["place", "letter", "many"]) fun _ _ _ _ _ _ us hl => match us, hl with | [_, _, _], _ => rfl,
    g_gone := PySem.W.mg_of X G A_gone,
    a_look_behind := f_look_behind, fd_look_behind := _, F_look_behind := fun_mk (st := s_look_behind) L_look_behind C_look_behind K_look_behind,
    b_look_behind := (fun_mk (st := s_look_behind) L_look_behind C_look_behind K_look_behind).binds (ps := ["entry", "lot", "look"]) fun _ _ _ _ _ _ us hl => match us, hl with | [_, _, _], _ => rfl,
    g_look_behind := PySem.W.mg_of X G A_look_behind,
    a_track := f_track, fd_track := _, F_track := fun_mk (st := s_track) L_track C_track K_track,
    b_track := (fun_mk (st := s_track) L_track C_track K_track).binds (ps := ["log", "lots"]) fun _ _ _ _ _ _ us hl => match us, hl with | [_, _], _ => rfl,
    g_track := PySem.W.mg_of X G A_track,
    a_way_fact := f_way_fact, fd_way_fact := _, F_way_fact := fun_mk (st := s_way_fact) L_way_fact C_way_fact K_way_fact,
    b_way_fact := (fun_mk (st := s_way_fact) L_way_fact C_way_fact K_way_fact).binds (ps := ["at", "word", "place", "look"]) fun _ _ _ _ _ _ us hl => match us, hl with | [_, _, _, _], _ => rfl,
    g_way_fact := PySem.W.mg_of X G A_way_fact,
    a_facts_of_entry := f_facts_of_entry, fd_facts_of_entry := _, F_facts_of_entry := fun_mk (st := s_facts_of_entry) L_facts_of_entry C_facts_of_entry K_facts_of_entry,
    b_facts_of_entry := (fun_mk (st := s_facts_of_entry) L_facts_of_entry C_facts_of_entry K_facts_of_entry).binds (ps := ["at", "entry", "place", "look"]) fun _ _ _ _ _ _ us hl => match us, hl with | [_, _, _, _], _ => rfl,
    g_facts_of_entry := PySem.W.mg_of X G A_facts_of_entry,
    a_facts := f_facts, fd_facts := _, F_facts := fun_mk (st := s_facts) L_facts C_facts K_facts,
    b_facts := (fun_mk (st := s_facts) L_facts C_facts K_facts).binds (ps := ["log", "lots"]) fun _ _ _ _ _ _ us hl => match us, hl with | [_, _], _ => rfl,
    g_facts := PySem.W.mg_of X G A_facts,
    a_Lany_entry := f_Lany_entry, fd_Lany_entry := _, F_Lany_entry := fun_mk (st := s_Lany_entry) L_Lany_entry C_Lany_entry K_Lany_entry,
    b_Lany_entry := (fun_mk (st := s_Lany_entry) L_Lany_entry C_Lany_entry K_Lany_entry).binds (ps := ["_law_pool_here", "_law_looks"]) fun _ _ _ _ _ _ us hl => match us, hl with | [_, _], _ => rfl,
    g_Lany_entry := PySem.W.mg_of X G A_Lany_entry,
    a_Lany_log := f_Lany_log, fd_Lany_log := _, F_Lany_log := fun_mk (st := s_Lany_log) L_Lany_log C_Lany_log K_Lany_log,
    b_Lany_log := (fun_mk (st := s_Lany_log) L_Lany_log C_Lany_log K_Lany_log).binds (ps := ["_law_pool_here", "_law_many", "_law_swaps"]) fun _ _ _ _ _ _ us hl => match us, hl with | [_, _, _], _ => rfl,
    g_Lany_log := PySem.W.mg_of X G A_Lany_log,
    a_Llots := f_Llots, fd_Llots := _, F_Llots := fun_mk (st := s_Llots) L_Llots C_Llots K_Llots,
    b_Llots := (fun_mk (st := s_Llots) L_Llots C_Llots K_Llots).binds (ps := ["_law_pool_here", "_law_many"]) fun _ _ _ _ _ _ us hl => match us, hl with | [_, _], _ => rfl,
    g_Llots := PySem.W.mg_of X G A_Llots,
    a_Lown := f_Lown, fd_Lown := _, F_Lown := fun_mk (st := s_Lown) L_Lown C_Lown K_Lown,
    b_Lown := (fun_mk (st := s_Lown) L_Lown C_Lown K_Lown).binds (ps := ["_law_e"]) fun _ _ _ _ _ _ us hl => match us, hl with | [_], _ => rfl,
    g_Lown := PySem.W.mg_of X G A_Lown,
    a_Lpool := f_Lpool, fd_Lpool := _, F_Lpool := fun_mk (st := s_Lpool) L_Lpool C_Lpool K_Lpool,
    b_Lpool := (fun_mk (st := s_Lpool) L_Lpool C_Lpool K_Lpool).binds (ps := ["_law_script", "_law_k"]) fun _ _ _ _ _ _ us hl => match us, hl with | [_, _], _ => rfl,
    g_Lpool := PySem.W.mg_of X G A_Lpool,
    a_Ltake := f_Ltake, fd_Ltake := _, F_Ltake := fun_mk (st := s_Ltake) L_Ltake C_Ltake K_Ltake,
    b_Ltake := (fun_mk (st := s_Ltake) L_Ltake C_Ltake K_Ltake).binds (ps := ["_law_pool_here", "_law_wide"]) fun _ _ _ _ _ _ us hl => match us, hl with | [_, _], _ => rfl,
    g_Ltake := PySem.W.mg_of X G A_Ltake,
    a_Lwhole := f_Lwhole, fd_Lwhole := _, F_Lwhole := fun_mk (st := s_Lwhole) L_Lwhole C_Lwhole K_Lwhole,
    b_Lwhole := (fun_mk (st := s_Lwhole) L_Lwhole C_Lwhole K_Lwhole).binds (ps := ["_law_thing"]) fun _ _ _ _ _ _ us hl => match us, hl with | [_], _ => rfl,
    g_Lwhole := PySem.W.mg_of X G A_Lwhole,
    a_Lsame := f_Lsame, fd_Lsame := _, F_Lsame := fun_mk (st := s_Lsame) L_Lsame C_Lsame K_Lsame,
    b_Lsame := (fun_mk (st := s_Lsame) L_Lsame C_Lsame K_Lsame).binds (ps := ["_law_found", "_law_due_here"]) fun _ _ _ _ _ _ us hl => match us, hl with | [_, _], _ => rfl,
    g_Lsame := PySem.W.mg_of X G A_Lsame,
    a_Lanything := f_Lanything, fd_Lanything := _, F_Lanything := fun_mk (st := s_Lanything) L_Lanything C_Lanything K_Lanything,
    b_Lanything := (fun_mk (st := s_Lanything) L_Lanything C_Lanything K_Lanything).binds (ps := ["_law_pool_here"]) fun _ _ _ _ _ _ us hl => match us, hl with | [_], _ => rfl,
    g_Lanything := PySem.W.mg_of X G A_Lanything,
    a_Lname := f_Lname, fd_Lname := _, F_Lname := fun_mk (st := s_Lname) L_Lname C_Lname K_Lname,
    b_Lname := (fun_mk (st := s_Lname) L_Lname C_Lname K_Lname).binds (ps := ["_law_pool_here"]) fun _ _ _ _ _ _ us hl => match us, hl with | [_], _ => rfl,
    g_Lname := PySem.W.mg_of X G A_Lname,
    a_Lsign := f_Lsign, fd_Lsign := _, F_Lsign := fun_mk (st := s_Lsign) L_Lsign C_Lsign K_Lsign,
    b_Lsign := (fun_mk (st := s_Lsign) L_Lsign C_Lsign K_Lsign).binds (ps := ["_law_pool_here", "_law_lone"]) fun _ _ _ _ _ _ us hl => match us, hl with | [_, _], _ => rfl,
    g_Lsign := PySem.W.mg_of X G A_Lsign,
    a_Llegs := f_Llegs, fd_Llegs := _, F_Llegs := fun_mk (st := s_Llegs) L_Llegs C_Llegs K_Llegs,
    b_Llegs := (fun_mk (st := s_Llegs) L_Llegs C_Llegs K_Llegs).binds (ps := ["_law_log"]) fun _ _ _ _ _ _ us hl => match us, hl with | [_], _ => rfl,
    g_Llegs := PySem.W.mg_of X G A_Llegs,
    a_Lasked := f_Lasked, fd_Lasked := _, F_Lasked := fun_mk (st := s_Lasked) L_Lasked C_Lasked K_Lasked,
    b_Lasked := (fun_mk (st := s_Lasked) L_Lasked C_Lasked K_Lasked).binds (ps := ["_law_word", "_law_log", "_law_lots_here"]) fun _ _ _ _ _ _ us hl => match us, hl with | [_, _, _], _ => rfl,
    g_Lasked := PySem.W.mg_of X G A_Lasked,
    a_Ldue := f_Ldue, fd_Ldue := _, F_Ldue := fun_mk (st := s_Ldue) L_Ldue C_Ldue K_Ldue,
    b_Ldue := (fun_mk (st := s_Ldue) L_Ldue C_Ldue K_Ldue).binds (ps := ["_law_log", "_law_lots_here"]) fun _ _ _ _ _ _ us hl => match us, hl with | [_, _], _ => rfl,
    g_Ldue := PySem.W.mg_of X G A_Ldue,
    a_law := fa, fd_law := _, F_law := fun_mk (st := s_law) L_law C_law K_law,
    b_law := (fun_mk (st := s_law) L_law C_law K_law).binds (ps := ["_law_script"]) fun _ _ _ _ _ _ us hl => match us, hl with | [_], _ => rfl,
    g_law := PySem.W.mg_of X G A_law,
    g_LETTERS := ⟨_, PySem.W.mg_of X G A_LETTERS⟩,
    a_STEPS := f_STEPS, g_STEPS := PySem.W.mg_of X G A_STEPS,
    v_STEPS_0 := ⟨_, ⟨_, _, _, D_STEPS, Y_STEPS, N_STEPS_0, rfl⟩, fun H => .inr ⟨_, _, _, V_STEPS_0, rfl, rfl, by show 2 ≤ sizeLine; decide, (.cons ⟨_, rfl⟩ (.cons ⟨_, rfl⟩ .nil))⟩⟩,
    v_STEPS_1 := ⟨_, ⟨_, _, _, D_STEPS, Y_STEPS, N_STEPS_1, rfl⟩, fun H => .inr ⟨_, _, _, V_STEPS_1, rfl, rfl, by show 2 ≤ sizeLine; decide, (.cons ⟨_, rfl⟩ (.cons ⟨_, rfl⟩ .nil))⟩⟩,
    v_STEPS_2 := ⟨_, ⟨_, _, _, D_STEPS, Y_STEPS, N_STEPS_2, rfl⟩, fun H => .inr ⟨_, _, _, V_STEPS_2, rfl, rfl, by show 2 ≤ sizeLine; decide, (.cons ⟨_, rfl⟩ (.cons ⟨_, rfl⟩ .nil))⟩⟩,
    v_STEPS_3 := ⟨_, ⟨_, _, _, D_STEPS, Y_STEPS, N_STEPS_3, rfl⟩, fun H => .inr ⟨_, _, _, V_STEPS_3, rfl, rfl, by show 2 ≤ sizeLine; decide, (.cons ⟨_, rfl⟩ (.cons ⟨_, rfl⟩ .nil))⟩⟩,
    a_QUARTERS := f_QUARTERS, g_QUARTERS := PySem.W.mg_of X G A_QUARTERS,
    es_QUARTERS := _, n_QUARTERS := _, kd_QUARTERS := ⟨D_QUARTERS, Y_QUARTERS, lo_QUARTERS⟩,
    ns_QUARTERS := ns_keys D_QUARTERS ke_QUARTERS,
    v_QUARTERS_0 := ⟨_, _, _, D_QUARTERS, Y_QUARTERS, N_QUARTERS_0, ⟨_, rfl⟩⟩,
    v_QUARTERS_1 := ⟨_, _, _, D_QUARTERS, Y_QUARTERS, N_QUARTERS_1, ⟨_, rfl⟩⟩,
    v_QUARTERS_2 := ⟨_, _, _, D_QUARTERS, Y_QUARTERS, N_QUARTERS_2, ⟨_, rfl⟩⟩,
    a_START := f_START, g_START := PySem.W.mg_of X G A_START,
    v_START := ⟨_, fun H => .inr ⟨_, _, _, V_START, rfl, rfl, by show 2 ≤ sizeLine; decide, (.cons rfl (.cons ⟨_, rfl⟩ .nil))⟩, fun H => .inr ⟨_, _, _, V_START_0, rfl, rfl, by show 2 ≤ sizeLine; decide, (.cons ⟨_, rfl⟩ (.cons ⟨_, rfl⟩ .nil))⟩⟩,
    a_NoLot := f_NoLot,
    g_NoLot := PySem.W.mg_of X G A_NoLot,
    a_BadLog := f_BadLog,
    g_BadLog := PySem.W.mg_of X G A_BadLog,
    a_NoDealing := f_NoDealing,
    g_NoDealing := PySem.W.mg_of X G A_NoDealing,
    a_BadBox := f_BadBox,
    g_BadBox := PySem.W.mg_of X G A_BadBox,
    a_NoName := f_NoName,
    g_NoName := PySem.W.mg_of X G A_NoName,
    a_Twice := f_Twice,
    g_Twice := PySem.W.mg_of X G A_Twice,
    a_NoWalker := f_NoWalker,
    g_NoWalker := PySem.W.mg_of X G A_NoWalker,
    a_NeedleError := f_NeedleError,
    g_NeedleError := PySem.W.mg_of X G A_NeedleError,
    kit_NoLot := kit_other ne_NoLot ic_NoLot ty_NoLot su_NoLot,
    kit_BadLog := kit_other ne_BadLog ic_BadLog ty_BadLog su_BadLog,
    kit_NoDealing := kit_same,
    kit_BadBox := kit_other ne_BadBox ic_BadBox ty_BadBox su_BadBox,
    kit_NoName := kit_other ne_NoName ic_NoName ty_NoName su_NoName,
    kit_Twice := kit_other ne_Twice ic_Twice ty_Twice su_Twice,
    kit_NoWalker := kit_other ne_NoWalker ic_NoWalker ty_NoWalker su_NoWalker,
    kit_NeedleError := kit_other ne_NeedleError ic_NeedleError ty_NeedleError su_NeedleError,
    m_ValueError := PySem.W.mg_none_of X G Z_ValueError,
    kit_VE := kit_ve su_VE,
    no_at := no_at,
    oex := ⟨⟨_, _, _, _, _, _, _, _, _, _, _, _, _, _, _, X_D, bm_ok⟩, sa_D, e_D, ty_NoDealing, k_D⟩,
    a_init := f_init,
    fd_init := _,
    F_init := fun_mk (st := s_init) L_init C_init K_init,
    b_init := (fun_mk (st := s_init) L_init C_init K_init).binds (ps := ["self", "at"]) fun _ _ _ _ _ _ us hl => match us, hl with | [_, _], _ => rfl,
    iC := I_D,
    tI := t_init,
    xf := ⟨ga_D, gg_D, e_D, h_D⟩,
    exc := ⟨ga_D, gg_D, e_D, h_D, ca_D, cn_D, ct_D, cm_D⟩,
    exm := PySem.W.exm_ref e_D h_D ty_NoDealing su_NoDealing,
    m_abs := PySem.W.mg_none_of X G Z_abs, m_all := PySem.W.mg_none_of X G Z_all, m_any := PySem.W.mg_none_of X G Z_any, m_bool := PySem.W.mg_none_of X G Z_bool, m_enumerate := PySem.W.mg_none_of X G Z_enumerate, m_int := PySem.W.mg_none_of X G Z_int, m_isinstance := PySem.W.mg_none_of X G Z_isinstance, m_len := PySem.W.mg_none_of X G Z_len, m_list := PySem.W.mg_none_of X G Z_list, m_range := PySem.W.mg_none_of X G Z_range, m_str := PySem.W.mg_none_of X G Z_str, m_tuple := PySem.W.mg_none_of X G Z_tuple, m_zip := PySem.W.mg_none_of X G Z_zip }
  exact ⟨T.fd_law, fun s v => .of_eq rfl, fun base _ _ => ok_law T⟩
end M
open PySem PySem.W PyProof.Rows
set_option maxHeartbeats 0 in
theorem PySem.Challenge.cw_wayneedle_k12_lots_refused_holds : PySem.Challenge.rw_wayneedle_k12_lots_refused.Holds := by
  w_on; o_law; k_head; (case hw => w_witness2)
  k_fill
  refine L2.walk_of (l := PySem.Challenge.rw_wayneedle_k12_lots_refused) (n := 63) (k := 10) (x := "_law_script") (CX := fun _ => L2.CX0) (sp := fun w => M.spLaw _) rfl (by decide) rfl ⟨rfl, by decide, by decide⟩ (fun w h Y => PySem.W.kIn_of Y) ?F (fun _ _ a ns hl _ hS => ⟨a, ns, rfl, hS, hl, fun _ => rfl⟩) (fun _ _ _ _ _ h => h)
  case F =>
    intro w mg fa h KX G hmg
    refine' M.all_mk KX G hmg ?A_is_whole ?L_is_whole ?C_is_whole ?K_is_whole ?A_is_row ?L_is_row ?C_is_row ?K_is_row ?A_laid_out ?L_laid_out ?C_laid_out ?K_laid_out ?A_kept ?L_kept ?C_kept ?K_kept ?A_step ?L_step ?C_step ?K_step ?A_way_of ?L_way_of ?C_way_of ?K_way_of ?A_is_lot ?L_is_lot ?C_is_lot ?K_is_lot ?A_refuse_unless_lot ?L_refuse_unless_lot ?C_refuse_unless_lot ?K_refuse_unless_lot ?A_mirrors ?L_mirrors ?C_mirrors ?K_mirrors ?A_true ?L_true ?C_true ?K_true ?A_legs_in ?L_legs_in ?C_legs_in ?K_legs_in ?A_refuse_unless_lots ?L_refuse_unless_lots ?C_refuse_unless_lots ?K_refuse_unless_lots ?A_gone ?L_gone ?C_gone ?K_gone ?A_look_behind ?L_look_behind ?C_look_behind ?K_look_behind ?A_track ?L_track ?C_track ?K_track ?A_way_fact ?L_way_fact ?C_way_fact ?K_way_fact ?A_facts_of_entry ?L_facts_of_entry ?C_facts_of_entry ?K_facts_of_entry ?A_facts ?L_facts ?C_facts ?K_facts ?A_Lany_entry ?L_Lany_entry ?C_Lany_entry ?K_Lany_entry ?A_Lany_log ?L_Lany_log ?C_Lany_log ?K_Lany_log ?A_Llots ?L_Llots ?C_Llots ?K_Llots ?A_Lown ?L_Lown ?C_Lown ?K_Lown ?A_Lpool ?L_Lpool ?C_Lpool ?K_Lpool ?A_Ltake ?L_Ltake ?C_Ltake ?K_Ltake ?A_Lwhole ?L_Lwhole ?C_Lwhole ?K_Lwhole ?A_Lsame ?L_Lsame ?C_Lsame ?K_Lsame ?A_Lanything ?L_Lanything ?C_Lanything ?K_Lanything ?A_Lname ?L_Lname ?C_Lname ?K_Lname ?A_Lsign ?L_Lsign ?C_Lsign ?K_Lsign ?A_Llegs ?L_Llegs ?C_Llegs ?K_Llegs ?A_Lasked ?L_Lasked ?C_Lasked ?K_Lasked ?A_Ldue ?L_Ldue ?C_Ldue ?K_Ldue ?A_law ?L_law ?C_law ?K_law ?A_LETTERS ?A_STEPS ?D_STEPS ?Y_STEPS ?N_STEPS_0 ?V_STEPS_0 ?N_STEPS_1 ?V_STEPS_1 ?N_STEPS_2 ?V_STEPS_2 ?N_STEPS_3 ?V_STEPS_3 ?A_QUARTERS ?D_QUARTERS ?Y_QUARTERS ?lo_QUARTERS ?ke_QUARTERS ?N_QUARTERS_0 ?N_QUARTERS_1 ?N_QUARTERS_2 ?A_START ?V_START ?V_START_0 ?Z_abs ?Z_all ?Z_any ?Z_bool ?Z_enumerate ?Z_int ?Z_isinstance ?Z_len ?Z_list ?Z_range ?Z_str ?Z_tuple ?Z_zip ?A_NoLot ?A_BadLog ?A_NoDealing ?A_BadBox ?A_NoName ?A_Twice ?A_NoWalker ?A_NeedleError ?ic_NoLot ?ty_NoLot ?su_NoLot ?ne_NoLot ?ic_BadLog ?ty_BadLog ?su_BadLog ?ne_BadLog ?ic_NoDealing ?ty_NoDealing ?su_NoDealing ?ic_BadBox ?ty_BadBox ?su_BadBox ?ne_BadBox ?ic_NoName ?ty_NoName ?su_NoName ?ne_NoName ?ic_Twice ?ty_Twice ?su_Twice ?ne_Twice ?ic_NoWalker ?ty_NoWalker ?su_NoWalker ?ne_NoWalker ?ic_NeedleError ?ty_NeedleError ?su_NeedleError ?ne_NeedleError ?Z_ValueError ?su_VE ?X_D ?bm_ok ?sa_D ?ga_D ?gg_D ?no_at ?I_D ?t_init ?L_init ?C_init ?K_init ?k_D ?e_D ?h_D ?ca_D ?cn_D ?ct_D ?cm_D
    (case A_is_whole => k_is); (case L_is_whole => k_is); (case C_is_whole => k_is); (case K_is_whole => k_is); (case A_is_row => k_is); (case L_is_row => k_is); (case C_is_row => k_is); (case K_is_row => k_is); (case A_laid_out => k_is); (case L_laid_out => k_is); (case C_laid_out => k_is); (case K_laid_out => k_is); (case A_kept => k_is); (case L_kept => k_is); (case C_kept => k_is); (case K_kept => k_is); (case A_step => k_is); (case L_step => k_is); (case C_step => k_is); (case K_step => k_is); (case A_way_of => k_is); (case L_way_of => k_is); (case C_way_of => k_is); (case K_way_of => k_is); (case A_is_lot => k_is); (case L_is_lot => k_is); (case C_is_lot => k_is); (case K_is_lot => k_is); (case A_refuse_unless_lot => k_is); (case L_refuse_unless_lot => k_is); (case C_refuse_unless_lot => k_is); (case K_refuse_unless_lot => k_is); (case A_mirrors => k_is); (case L_mirrors => k_is); (case C_mirrors => k_is); (case K_mirrors => k_is); (case A_true => k_is); (case L_true => k_is); (case C_true => k_is); (case K_true => k_is); (case A_legs_in => k_is); (case L_legs_in => k_is); (case C_legs_in => k_is); (case K_legs_in => k_is); (case A_refuse_unless_lots => k_is); (case L_refuse_unless_lots => k_is); (case C_refuse_unless_lots => k_is); (case K_refuse_unless_lots => k_is); (case A_gone => k_is); (case L_gone => k_is); (case C_gone => k_is); (case K_gone => k_is); (case A_look_behind => k_is); (case L_look_behind => k_is); (case C_look_behind => k_is); (case K_look_behind => k_is); (case A_track => k_is); (case L_track => k_is); (case C_track => k_is); (case K_track => k_is); (case A_way_fact => k_is); (case L_way_fact => k_is); (case C_way_fact => k_is); (case K_way_fact => k_is); (case A_facts_of_entry => k_is); (case L_facts_of_entry => k_is); (case C_facts_of_entry => k_is); (case K_facts_of_entry => k_is); (case A_facts => k_is); (case L_facts => k_is); (case C_facts => k_is); (case K_facts => k_is); (case A_Lany_entry => k_is); (case L_Lany_entry => k_is); (case C_Lany_entry => k_is); (case K_Lany_entry => k_is); (case A_Lany_log => k_is); (case L_Lany_log => k_is); (case C_Lany_log => k_is); (case K_Lany_log => k_is); (case A_Llots => k_is); (case L_Llots => k_is); (case C_Llots => k_is); (case K_Llots => k_is); (case A_Lown => k_is); (case L_Lown => k_is); (case C_Lown => k_is); (case K_Lown => k_is); (case A_Lpool => k_is); (case L_Lpool => k_is); (case C_Lpool => k_is); (case K_Lpool => k_is); (case A_Ltake => k_is); (case L_Ltake => k_is); (case C_Ltake => k_is); (case K_Ltake => k_is); (case A_Lwhole => k_is); (case L_Lwhole => k_is); (case C_Lwhole => k_is); (case K_Lwhole => k_is); (case A_Lsame => k_is); (case L_Lsame => k_is); (case C_Lsame => k_is); (case K_Lsame => k_is); (case A_Lanything => k_is); (case L_Lanything => k_is); (case C_Lanything => k_is); (case K_Lanything => k_is); (case A_Lname => k_is); (case L_Lname => k_is); (case C_Lname => k_is); (case K_Lname => k_is); (case A_Lsign => k_is); (case L_Lsign => k_is); (case C_Lsign => k_is); (case K_Lsign => k_is); (case A_Llegs => k_is); (case L_Llegs => k_is); (case C_Llegs => k_is); (case K_Llegs => k_is); (case A_Lasked => k_is); (case L_Lasked => k_is); (case C_Lasked => k_is); (case K_Lasked => k_is); (case A_Ldue => k_is); (case L_Ldue => k_is); (case C_Ldue => k_is); (case K_Ldue => k_is); (case A_law => k_is); (case L_law => k_is); (case C_law => k_is); (case K_law => k_is); (case A_LETTERS => k_is); (case A_STEPS => k_is); (case D_STEPS => k_is); (case Y_STEPS => k_keys); (case N_STEPS_0 => k_is); (case V_STEPS_0 => k_is); (case N_STEPS_1 => k_is); (case V_STEPS_1 => k_is); (case N_STEPS_2 => k_is); (case V_STEPS_2 => k_is); (case N_STEPS_3 => k_is); (case V_STEPS_3 => k_is); (case A_QUARTERS => k_is); (case D_QUARTERS => k_is); (case Y_QUARTERS => k_keys); (case lo_QUARTERS => first | rfl | decide +kernel); (case ke_QUARTERS => exact ⟨⟨_, rfl⟩, ⟨_, rfl⟩, ⟨_, rfl⟩, True.intro⟩); (case N_QUARTERS_0 => k_is); (case N_QUARTERS_1 => k_is); (case N_QUARTERS_2 => k_is); (case A_START => k_is); (case V_START => k_is); (case V_START_0 => k_is); (case Z_abs => k_is); (case Z_all => k_is); (case Z_any => k_is); (case Z_bool => k_is); (case Z_enumerate => k_is); (case Z_int => k_is); (case Z_isinstance => k_is); (case Z_len => k_is); (case Z_list => k_is); (case Z_range => k_is); (case Z_str => k_is); (case Z_tuple => k_is); (case Z_zip => k_is); (case A_NoLot => k_is); (case A_BadLog => k_is); (case A_NoDealing => k_is); (case A_BadBox => k_is); (case A_NoName => k_is); (case A_Twice => k_is); (case A_NoWalker => k_is); (case A_NeedleError => k_is); (case ic_NoLot => k_is); (case ty_NoLot => k_is); (case su_NoLot => first | rfl | k_is); (case ne_NoLot => first | rfl | decide +kernel); (case ic_BadLog => k_is); (case ty_BadLog => k_is); (case su_BadLog => first | rfl | k_is); (case ne_BadLog => first | rfl | decide +kernel); (case ic_NoDealing => k_is); (case ty_NoDealing => k_is); (case su_NoDealing => first | rfl | k_is); (case ic_BadBox => k_is); (case ty_BadBox => k_is); (case su_BadBox => first | rfl | k_is); (case ne_BadBox => first | rfl | decide +kernel); (case ic_NoName => k_is); (case ty_NoName => k_is); (case su_NoName => first | rfl | k_is); (case ne_NoName => first | rfl | decide +kernel); (case ic_Twice => k_is); (case ty_Twice => k_is); (case su_Twice => first | rfl | k_is); (case ne_Twice => first | rfl | decide +kernel); (case ic_NoWalker => k_is); (case ty_NoWalker => k_is); (case su_NoWalker => first | rfl | k_is); (case ne_NoWalker => first | rfl | decide +kernel); (case ic_NeedleError => k_is); (case ty_NeedleError => k_is); (case su_NeedleError => first | rfl | k_is); (case ne_NeedleError => first | rfl | decide +kernel); (case Z_ValueError => k_is); (case su_VE => k_is); (case X_D => k_is); (case bm_ok => decide +kernel); (case sa_D => k_is); (case ga_D => k_is); (case gg_D => k_is); (case no_at => k_is); (case I_D => k_is); (case t_init => k_is); (case L_init => k_is); (case C_init => k_is); (case K_init => k_is); (case k_D => k_is); (case e_D => k_is); (case h_D => k_is); (case ca_D => k_is); (case cn_D => k_is); (case ct_D => k_is); (case cm_D => k_is)
