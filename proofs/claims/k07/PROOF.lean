import PyProof.Rows.All
import Wide.All
import OpenK.AllK
import Wide.FinOn
import HandS.ForMost
import HandS.ForExc
import HandS.HotCalls
import HandS.ExcIs
import HandS.ExcInit
import HandS.ExcField
import HandS.Defaults
import HandS.CallSlots
import HandS.Deep
import KE.GoesEnum
import KE.GoesNew
import HandS.IsInst
import HandS.Replace
import HandS.Wide
import HandS.NoneIn
import HandS.Walk
import HandS.Evl
import HandS.More
import HandS.Zip
import HandS.Conv
import KE.KxIndex
import PySem.Challenge.RW_wayneedle_k07_logs_held
import HandS.TupMul
set_option Elab.async false
set_option linter.all false
set_option maxRecDepth 100000
set_option maxHeartbeats 4000000

namespace ExcM
open PySem PySem.W PySem.Spec PySem.Calls PyProof.Rows L2
section
variable {prog : Program} {w : World} {A : Around} {E : Value → Shared → Prop} {s : Shared} {K : PySem.W.Frag} {x D : Addr} {ox od : Obj}
/-- the way of a test that fails -/
theorem not_so {α : Type} {b : Bool} {x y : Sem α} {Q : α → Shared → Prop} (hb : b = false) (q : wpAny (model prog w) A y Q E s) : wpAny (model prog w) A (if b = true then x else y) Q E s := by
  subst hb
  exact q
/-- the class of an own exception that has a dict, asked of its instance -/
theorem asked_class {Q : Option Value → Shared → Prop} (C : ExcC K D) (X : K.In s.heap) (I : PySem.W.InstAt s.heap x ox D (some od)) (h : Q (some (.ref D)) { s with toks := s.toks + 1 }) :
    wpAny (model prog w) A (getAttr? (.ref x) "__class__") Q E s := by
  have found := findObj_data (K := K) (C := D) (od := od) (name := "__class__") (by obtain ⟨q, hq, _⟩ := any_some C.hd; rw [hq]; rfl) C.ha C.hn C.ht
  obtain ⟨hp, g, d, t, os⟩ := s
  have lType := I.type (M := model prog w)
  have lGa := looks_findIn (M := model prog w) X C.hg
  have lGt := looks_findIn (M := model prog w) X C.hk
  have lFind := looks_find (M := model prog w) X I found
  have isB : Looks (model prog w) hp (isInstance (.ref x) (.type "BaseException")) true := lType.andThen (looks_subIn X C.hs)
  have n1 : (false && onTheHeap (Value.builtin "BaseException.__getattribute__")) = false := rfl
  have n2 : (onTheHeap (Value.ref D) && Value.builtin "BaseException.__getattribute__" == Value.builtin "object.__getattribute__") = false := by
    rw [show (Value.builtin "BaseException.__getattribute__" == Value.builtin "object.__getattribute__") = false by decide +kernel]; rfl
  unfold getAttr? getAttrBy?; unfold getAttrBy
  refine wpAny_bind (wpAny_mkText (wpAny_bind (wpAny_attempt (wpAny_holding (wpAny_bind (lType.at (wpAny_bind (lGa.at ?_))))))))
  refine not_so n2 ?_; unfold getAttrByItsOwn hookBefore
  refine wpAny_bind ?_; rw [if_pos (show onTheHeap (Value.ref D) = true from rfl)]
  refine lGt.at ?_; refine wpAny_bind (wpAny_attempt (wpAny_holding ?_))
  unfold callGetattribute; rw [n1, if_neg Bool.false_ne_true]; unfold boundAndCalled
  rw [PySem.F.excAttr_ValueError.ga.bind (.ref x)]; refine wpAny_bind (wpAny_pure ?_)
  refine show wpAny _ _ (call (.builtin "BaseException.__getattribute__") [.ref x, .str "__class__" t]) _ _ _ from wpAny_call (codeAny_call_builtin PySem.F.excAttr_ValueError.ga.plain PySem.F.entry_bexc_ga ?_)
  refine @check_slot (model prog w) _ _ ⟨hp, g, d, t + 1, os⟩ "BaseException.__getattribute__" "BaseException" "__getattribute__" (.ref x) [.str "__class__" t] [] _ (by decide +kernel) (by decide +kernel) isB (PySem.F.args_bexc_ga (.ref x) (.str "__class__" t)) ?_
  unfold Builtin.«object.__getattribute__»; refine wpAny_bind (wpAny_of_eq (a := ((Value.ref x : Value), [Value.str "__class__" t])) (by first | rfl | (simp only [slotArgs]; rfl)) ?_)
  refine wpAny_bind (wpAny_pure (wpAny_bind (lType.at (wpAny_bind (lFind.at ?_)))))
  refine show wpAny _ _ (holding [Value.builtin "object.__class__"] (call (.builtin "getset_descriptor.__get__") [.builtin "object.__class__", .ref x, .ref D]) >>= ret) _ _ _ from wpAny_bind (wpAny_holding (wpAny_call (class_get (s := ⟨hp, g, d, t + 1, os⟩) (ox := ox) (od := some od) X I C.hm ?_)))
  refine wpAny_pure ?_; show wpAny _ _ (handedOut (.ref D)) _ _ _; rw [handedOut_of (v := .ref D) rfl]
  first | exact wpAny_pure (wpAny_pure h) | exact wpAny_pure h | exact wpAny_pure (wpAny_bind (wpAny_pure (wpAny_pure h)))
theorem kit_exc (C : ExcC K D) : KitX K (.ref x) (.ref D) (fun h => PySem.W.InstAt h x ox D (some od)) where
  ty := fun _ _ _ I => I.type
  it := fun _ _ X _ => by
    obtain ⟨q, hq, _⟩ := any_some C.hd
    unfold clsIn at hq; split at hq
    · rename_i c1 d1 q1 l1 ho
      intro A1 Q1 E1 s1 k z; unfold isType loadHead
      exact wpAny_bind (wpAny_loadPart (k _ _ (X _ _ ho)) (wpAny_pure z))
    · cases hq
  ne := fun hh tp tdd tis tn tsl X htp => by
    obtain ⟨q, hq, _⟩ := any_some C.hd
    refine Bool.eq_false_iff.mpr fun z => ?_
    have e : D = tp := Value.ref.inj (beq_iff_eq.mp z)
    subst e; unfold clsIn at hq; split at hq
    · rename_i c1 d1 q1 l1 ho
      cases (X _ _ ho).symm.trans htp
    · cases hq
  ca := fun X I k => asked_class C X I k
end
section
variable {X : Cx}
/-- isinstance of a pinned exception of the class at D, its dict tracked -/
theorem call_isP {D a : Addr} {oe : Obj} {d : Addr} (C : ExcC X.K D) (hp : (a, oe) ∈ X.pn) (hz : Zc (.ref D) (some d) oe) (hf : ∃ vs, oe.data = .fields vs) :
    CallR X (.builtin "isinstance") (fun xs H Q => ∃ (c : V) (cv : Value) (b : Bool) (fs : List (Str × V)), xs = [.ref a, c] ∧ (∀ u, RelV c u → u = cv) ∧ H d = some (.xd fs) ∧ PySem.W.kitOne X.K (.ref D) cv = some b ∧ Q (.bl b) H) := by
  intro pins s σ H xs us Q I rel ask
  obtain ⟨c, cv, b, fs, rfl, hcv, hd, e, q1⟩ := ask
  obtain ⟨w1, w2, rfl, l1, l2⟩ := vals2 rel
  cases (l1 : w1 = Value.ref a)
  cases hcv _ l2
  have P1 := I.pin (a, oe) (List.mem_append_left _ hp)
  obtain ⟨vs, hv⟩ := hf
  obtain ⟨mA, hns, _⟩ := (show ObjOk X.prog X.w H s.heap d (.xd fs) from I.hok d _ hd)
  obtain ⟨od, ho, _⟩ := lookIn_ns hns
  have J : PySem.W.InstAt s.heap a oe D (some od) := ⟨P1.1, hz.1, by unfold PySem.W.notCls; rw [hv] <;> rfl, by rw [hz.2]; exact ho⟩
  exact PySem.W.kia_one (kit_exc C) I.kIn J e (fun z => nomatch z) fun tk => ⟨.bl b, H, I.tok tk, rfl, q1⟩
end
end ExcM
namespace ExcM
open PySem PySem.W PySem.Spec PySem.Calls PyProof.Rows L2
/-! ### a def that is told of the exception that is handled -/
/-- what a def promises where p's object is pinned, whatever is handled -/
structure FnP (P : Program) (w : World) (K : PySem.W.Frag) (mg : Str → Option Value) (base : Heap) (p : Addr × Obj) (k : Nat) (f : Addr) (fd : FuncData) (ps : List Str) (sp : Sp) : Prop where
  len : ∀ (vs : List V) (H : Hp) (Q : VK) (E : XK), sp vs H Q E → vs.length = ps.length
  run : ∀ (A : Around) (outer : List Env) (s : Shared) (H : Hp) (args : Args) (us : List Value) (vs : List V) (Q : VK) (E : XK), L2H.RoomH k A → L2H.PinOk outer H s p → Env0 P w K mg base A outer s H →
    BindsTo s fd args (ps.zip us) → Vals vs us → sp vs H Q E → codeAny (model P w) A (.call (.ref f) args) (CR CX0 outer P w H s Q E) s
section
variable {P : Program} {w : World} {K : PySem.W.Frag} {mg : Str → Option Value} {base : Heap} {p : Addr × Obj}
theorem fun_okP {x qual : Str} {st : Stmt} {f : Addr} {fd : FuncData} {N ps : List Str} {k : Nat} {sp : Sp} (F : Fun K x qual st f fd) (S : FnScope N ps (defScope st)) (len : ∀ vs H Q E, sp vs H Q E → vs.length = ps.length)
    (hbody : ∀ (cdv : Value) (A : Around) (outer : List Env) (s : Shared) (H : Hp) (vs : List V) (Q : VK) (E : XK), L2H.RoomH k (A.deeper (envOfC qual (defScope st) s.heap.objs.size f cdv)) → sp vs H Q E →
      ∃ t, PSs (L2H.cxH CX0 P w K mg base N qual (defScope st) f cdv A outer s H E p) (defBody st) t ∧ t { nx := fun _ H' => Q .non H', rt := Q } (start N vs) H) : FnP P w K mg base p (k + 1) f fd ps sp := by
  obtain ⟨_, _, _, _, _, _, cdv, _, _, rfl, lk, hcd⟩ := F.ex
  refine ⟨len, fun A outer s H args us vs Q E hr hpin e0 hb r hsp => ?_⟩
  have KX : K.In s.heap := e0.mod.kin.keeps (fun b o e => (e0.bs b o e).1)
  have hk2 : ∀ y ∈ ps.zip us, (defScope st).names.lookup y.1 = some .local ∨ ((defScope st).names.lookup y.1 = some .cell ∧ ((cellsFrom (s.heap.objs.size + 1) (defScope st).names []).lookup y.1).isSome = true) := fun ⟨n, v⟩ hy =>
    (S.par n (List.of_mem_zip hy).1).elim .inl (fun q => .inr ⟨q, PySem.W.cellsFrom_some _ _ _ (.inl q)⟩)
  refine codeAny_call_function hr.depth (KX _ _ lk) rfl S.co S.gen rfl (PySem.W.codeRec_of KX hcd) (hb _ _ _ _ (wpAny_newFunctionEnv_cells S.kind hk2 fun env he s1 x => ?_))
  subst he
  refine ⟨(e0.mod.nolimit.keeps fun b o e => (e0.bs b o e).1).keeps x.toInCall.keep, codeAny_func ?_⟩
  obtain ⟨t, ht, hq⟩ := hbody cdv A outer s H vs Q E (hr.deeper _) hsp
  have I := L2H.inv_startH (CX := CX0) (E := E) S hpin e0 (len _ _ _ _ hsp) r x
  refine wpAny_mono (ht.run [] s1 (start N vs) H _ I hq) (fun fl s' hs => ?_) (fun e s' hs => hs)
  match fl, hs with
  | .ret u, ⟨v, σ', H', J, rv, q⟩ => exact ⟨v, H', J.os, J.bare, J.base, J.hok, rv, q⟩
  | .next, ⟨σ', H', J, q⟩ => exact ⟨.non, H', J.os, J.bare, J.base, J.hok, rfl, q⟩
  | .brk, ⟨_, _, _, q⟩ => exact q.elim
  | .cont, ⟨_, _, _, q⟩ => exact q.elim
end
section
variable {X : Cx} {k : Nat} {f : Addr} {fd : FuncData} {ps : List Str} {sp : Sp} {x : Str} {q pos : Pos} {e : Expr} {es : List Expr} {t : TA} {p : Addr × Obj}
theorem pe_callP (F : FnP X.prog X.w X.K X.mg X.base p k f fd ps sp) (hr : L2H.RoomH k X.A) (hp : p ∈ X.pn) (hg : Gl X x) (hm : X.mg x = some (.ref f)) (hk : PySem.W.keepIn X.K (.ref f) = true) (hb : Binds X.K fd ps [])
    (ha : PA X (e :: es) t) (hdb : (x == ("__debug__" : Str)) = false := by decide) (he : starEach (e :: es) X.env = (false, eval e X.env) :: starEach es X.env := by rfl)
    (hpl : (backTo pos (starEach es X.env)).any (·.1) = false := by rfl) : PE X (.Call (.Name x q) (e :: es) [] pos) (tCall sp [] E0 t) := by
  refine ⟨fun pins s σ H Q I h => wpAny_Call_Name_kw (ld_glob I hg hm ?_ hdb)⟩
  refine PySem.W.callWith_K (h₀ := X.base) I.ok.mod.kin hk (thn (ha.run pos pins s σ H _ I h) fun us s1 hh => ?_) he hpl
  obtain ⟨vs, H1, I1, r, q1⟩ := hh
  rw [List.append_nil] at q1
  refine ⟨I1.kIn, ?_⟩
  have hl : us.length = ps.length := by
    rw [← r.length]
    exact F.len _ _ _ _ q1
  have b := hb s1 us I1.kIn (by rw [List.append_nil]; exact hl)
  rw [List.append_nil] at b
  have P1 := I1.pin p (List.mem_append_left _ hp)
  have pin : L2H.PinOk X.stack H1 s1 p := ⟨P1.1, P1.2.1, (fun hm => (List.mem_cons.mp (I1.stkSub p.1 hm)).elim P1.2.2.1 P1.2.2.2.1), P1.2.2.2.2⟩
  refine wpAny_call (codeAny_mono (F.run X.A X.stack s1 H1 ⟨us, []⟩ us vs Q E0 hr pin I1.env0 b r q1) fun r s' hq => ?_)
  match r, hq with
  | .error _, hq => exact hq.elim
  | .ok (.ret u), hq => exact I1.after hq
  | .ok .next, hq => exact hq.elim
  | .ok .brk, hq => exact hq.elim
  | .ok .cont, hq => exact hq.elim
end
end ExcM
/-! ### iterators that hand out pairs (enumerate, zip), over what is a list or a tuple: one turn for all of them, by GoesN -/
namespace PairW
open PySem PySem.Spec PyProof.Rows L2
/-- a sequence and an iterator over it: a tuple (true) or a list (false) -/
def SqB (t : Bool) (h : Heap) (l : Addr) (xs : Array Value) : Prop := match t with
  | true => h.IsTuple l xs
  | false => h.IsList l xs
def ItB (t : Bool) (h : Heap) (it l : Addr) (k : Nat) : Prop := match t with
  | true => h.IsTupleIter it l k
  | false => h.IsListIter it l k
def SqV (t : Bool) (K : PySem.W.Frag) (H : Hp) (a : Addr) (xs : List V) : Prop := match t with
  | true => SqT K H a xs
  | false => SqL K H a xs
def itO (t : Bool) (l : Addr) : Obj := match t with
  | true => { cls := .type "tuple_iterator", data := .fields #[.ref l, .int 0 0] }
  | false => { cls := .type "list_iterator", data := .fields #[.ref l, .int 0 0] }
theorem SqB.lt {t : Bool} {h : Heap} {a : Addr} {xs : Array Value} (q : SqB t h a xs) : a < h.objs.size := by
  cases t <;> (obtain ⟨o, e, _⟩ := q; exact Heap.lt_size e)
theorem ItB.at {t : Bool} {h h' : Heap} {a l : Addr} {k : Nat} (x : ItB t h a l k) (e : ∀ o, h.get? a = some o → h'.get? a = some o) : ItB t h' a l k := by
  cases t
  · exact Heap.IsListIter.at x e
  · exact Heap.IsTupleIter.at x e
theorem ItB.obj {t : Bool} {h : Heap} {a l : Addr} {k : Nat} (x : ItB t h a l k) : ∃ o, h.get? a = some o ∧ ∀ v, o.data ≠ .cell v := by
  cases t <;> (obtain ⟨o, e, _, d⟩ := x; exact ⟨o, e, fun v q => by rw [d] at q; cases q⟩)
theorem itO_is {t : Bool} {h : Heap} {a l : Addr} (e : h.get? a = some (itO t l)) : ItB t h a l 0 := by
  cases t <;> exact ⟨_, e, rfl, rfl⟩
theorem sqv_get {X : Cx} {pins : List (Addr × Obj)} {σ : L2.St} {H : Hp} {s : Shared} {t : Bool} {a : Addr} {xs : List V} (I : Inv X pins σ H s) (h : SqV t X.K H a xs) : ∃ its, Vals xs its ∧ SqB t s.heap a its.toArray := by
  cases t
  · obtain ⟨its, rv, there, _⟩ := I.list h
    exact ⟨its, rv, there.isList⟩
  · obtain ⟨its, rv, there, _⟩ := I.tuple h
    exact ⟨its, rv, there⟩
theorem sqv_inj {X : Cx} {pins : List (Addr × Obj)} {σ : L2.St} {H : Hp} {s : Shared} {t : Bool} {a : Addr} {xs ys : List V} (I : Inv X pins σ H s) (h : SqV t X.K H a xs) (h' : SqV t X.K H a ys) : xs = ys := by
  cases t
  · exact I.list_inj h h'
  · exact I.tuple_inj h h'
theorem draws {prog : Program} {w : World} {A : Around} (hh : A.handled = none) (t : Bool) {it l : Addr} (ne : l ≠ it) (items : Array Value) :
    Draws prog w A it [it, l] items.size (fun i v => items[i]? = some v) (fun i h => ItB t h it l i ∧ SqB t h l items) := by
  cases t
  · exact Draws.list hh it l ne items
  · exact Draws.tuple hh it l ne items
theorem begins (t : Bool) (l : Addr) (items : Array Value) : Begins (.ref l) (itO t l) (fun h => SqB t h l items) := by
  cases t
  · exact begins_list l items
  · exact begins_tuple l items
/-- an iterator stands, made of new cells alone -/
theorem begun {X : Cx} {pins : List (Addr × Obj)} {σ : L2.St} {H : Hp} {s : Shared} {tg : Expr} {J : It} {fp : List Addr} {it : Addr} {tn : Nat → Heap → Prop} {R : It → Hp → Prop} {h' : Heap} (I : Inv X pins σ H s)
    (old : ∀ b o, s.heap.get? b = some o → h'.get? b = some o) (T : Turn X.prog X.w X.K tg J fp it tn) (st : tn 0 h') (new : ∀ b ∈ fp, s.heap.objs.size ≤ b) (q : R J H) : PIE X pins σ tg R (.ref it) { s with heap := h' } :=
  ⟨it, fp, tn, J, H, rfl, I.kept (t' := s.toks) old, T, st, fun b m => I.fpOk (new b m) (I.hok.fresh (new b m)), q⟩
/-- pairs: when there is one, of what it is, when there is none any more -/
structure Prs where
  go : Nat → Hp → Prop
  are : Nat → Hp → V → V → Prop
  stop : Nat → Hp → Prop
def Prs.it (p : Prs) : It where
  go := p.go
  yld := fun i H v H' => ∃ T x y, v = .ref T ∧ H T = none ∧ H' = upd H T (.tup [x, y]) ∧ p.are i H x y
  stop := p.stop
/-- what the iterator that stands at i over the sequences as they are now does: the library's GoesN, with what its pairs are -/
def Does (P : Program) (w : World) (X : Cx) (tg : Expr) (p : Prs) (it : Addr) (wr : List Addr) (tn : Nat → Heap → Prop) (i : Nat) (H : Hp) (s : Shared) : Prop :=
  ∃ (n : Nat) (fp : List Addr) (Y : Nat → Heap → Value → Heap → Prop) (St : Nat → Heap → Prop), GoesN P w X.A tg it fp wr n Y St ∧ St i s.heap ∧ (∀ h, St (i + 1) h → tn (i + 1) h) ∧ (p.stop i H → i = n) ∧
    (p.go i H → i < n ∧ ∀ h0 v h, Y i h0 v h → ∃ T a b x y, v = .ref T ∧ h0.objs.size ≤ T ∧ h.IsTuple T #[a, b] ∧ RelV x a ∧ RelV y b ∧ p.are i H x y)
theorem turn_prs {P : Program} {w : World} {K : PySem.W.Frag} {tg : Expr} {it : Addr} {fp wr : List Addr} {tn : Nat → Heap → Prop} (p : Prs) (mine : it ∈ fp) (hwr : ∀ b ∈ wr, b ∈ fp)
    (obj : ∀ i h, tn i h → ∀ b ∈ fp, ∃ o, h.get? b = some o ∧ ∀ v, o.data ≠ .cell v) (keep : ∀ i h h', tn i h → (∀ b ∈ fp, ∀ o, h.get? b = some o → h'.get? b = some o) → tn i h')
    (self : ∀ (A : Around) (i : Nat) (s : Shared) (Q : Value → Shared → Prop) (E : Value → Shared → Prop), tn i s.heap → Q (.ref it) s → wpAny (model P w) A (pyIter (.ref it)) Q E s)
    (does : ∀ (X : Cx), X.prog = P → X.w = w → X.K = K → X.calm = true → ∀ i pins s σ H, Inv X pins σ H s → tn i s.heap → (p.go i H ∨ p.stop i H) → Does P w X tg p it wr tn i H s) : Turn P w K tg p.it fp it tn where
  mem := mine
  obj := obj
  keep := keep
  self := self
  item := fun X e1 e2 e3 calm i pins s σ H E I free st more => by
    obtain ⟨n, fp', Y, St, W, here, next, _, far⟩ := does X e1 e2 e3 calm i pins s σ H I st (.inl more)
    obtain ⟨lt, pair⟩ := far more
    refine W.goes i s (fun u s2 => ∃ x H', Inv X pins σ H' s2 ∧ RelV x u ∧ p.it.yld i H x H' ∧ tn (i + 1) s2.heap ∧ ∀ b ∈ fp, H' b = none) E lt here fun v h' tk told st' old _ => ?_
    obtain ⟨T, a, b, x, y, rfl, new, tup, ra, rb, are⟩ := pair _ _ _ told
    refine ⟨.ref T, upd H T (.tup [x, y]), I.turnedNew (ch := wr) old (fun c m => free c (hwr c m)) new ⟨by show 2 ≤ sizeLine; decide, [a, b], .cons ra (.cons rb .nil), tup⟩, rfl, ⟨T, x, y, rfl, I.hok.fresh new, rfl, are⟩, next _ st', fun c m => ?_⟩
    obtain ⟨o, ho, _⟩ := obj i _ st c m
    exact (upd_ne (Nat.ne_of_lt (Nat.lt_of_lt_of_le (Heap.lt_size ho) new))).trans (free c m).1
  done := fun X e1 e2 e3 calm i pins s σ H E I free st none => by
    obtain ⟨n, fp', Y, St, W, here, _, last, _⟩ := does X e1 e2 e3 calm i pins s σ H I st (.inr none)
    rw [last none] at here
    exact W.stops s (fun s1 => Inv X pins σ H s1) E here fun h' tk old _ => I.turnedL (ch := wr) old fun c m => free c (hwr c m)
/-! enumerate, from k0 on -/
def PrE (t : Bool) (k0 : Int) (K : PySem.W.Frag) (a : Addr) : Prs where
  go := fun i H => ∃ xs : List V, SqV t K H a xs ∧ i < xs.length
  are := fun i H x y => x = .int (k0 + (i : Nat)) ∧ ∀ xs, SqV t K H a xs → xs[i]? = some y
  stop := fun i H => ∃ xs : List V, SqV t K H a xs ∧ i = xs.length
def TnE (t : Bool) (k0 : Int) (a e it : Addr) (i : Nat) (h : Heap) : Prop := (∃ old, IsEnum h e it (k0 + (i : Int)) old) ∧ ItB t h it a i
theorem turn_e {P : Program} {w : World} {K : PySem.W.Frag} {elts : List Expr} {kk : Nat} {tpos : Pos} {t : Bool} {k0 : Int} {a e it : Addr} (hai : a ≠ it) (hae : a ≠ e) (hei : e ≠ it) :
    Turn P w K (.Tuple elts kk tpos) (PrE t k0 K a).it [e, it] e (TnE t k0 a e it) := by
  refine turn_prs (wr := [e, it]) _ (by simp) (fun _ m => m) (fun i h st b m => ?_) (fun i h h' st k => ?_) (fun A i s Q E st q => ?_) fun X e1 e2 e3 calm i pins s σ H I st told => ?_
  · obtain ⟨⟨_, he⟩, hi⟩ := st
    rcases List.mem_cons.mp m with z | m
    · exact z ▸ ⟨_, he, fun _ q => nomatch q⟩
    · exact List.mem_singleton.mp m ▸ hi.obj
  · obtain ⟨⟨old, he⟩, hi⟩ := st
    exact ⟨⟨old, k e (by simp) _ he⟩, hi.at fun o => k it (by simp) o⟩
  · exact wpAny_pyIter_enum st.1.choose_spec q
  · subst e1 e2 e3
    obtain ⟨xs, hq⟩ : ∃ xs : List V, SqV t X.K H a xs := told.elim (fun ⟨xs, q, _⟩ => ⟨xs, q⟩) fun ⟨xs, q, _⟩ => ⟨xs, q⟩
    obtain ⟨its, rv, there⟩ := sqv_get I hq
    have many : xs.length = its.toArray.size := by rw [List.size_toArray]; exact rv.length
    have D := draws (prog := X.prog) (w := X.w) (A := X.A.in1) (I.ok.hd calm) t hai its.toArray
    refine ⟨_, _, _, _, GoesN.enumFrom k0 D e hei (by simp; exact ⟨hei, Ne.symm hae⟩) (by simp), ⟨st.1, st.2, there⟩, fun h q => ⟨q.1, q.2.1⟩, fun ⟨ys, q, n⟩ => by rw [n, sqv_inj I q hq, many], fun ⟨ys, q, n⟩ => ⟨?_, ?_⟩⟩
    · rw [sqv_inj I q hq, many] at n; exact n
    · rintro h0 v h ⟨T, tk, u, rfl, new, hu, tup⟩
      have ix : i < xs.length := by rw [← sqv_inj I q hq]; exact n
      obtain ⟨u', hu', ru⟩ := rv.get (List.getElem?_eq_getElem ix)
      have same : u' = u := Option.some.inj (hu'.symm.trans (by simpa using hu))
      exact ⟨T, _, u, .int (k0 + (i : Nat)), xs[i], rfl, new, tup, ⟨tk, rfl⟩, same ▸ ru, rfl, fun zs hz => by rw [sqv_inj I hz hq]; exact List.getElem?_eq_getElem ix⟩
theorem walk_e {t : Bool} {k0 : Int} {K : PySem.W.Frag} {a : Addr} {xs : List V} : Walk (PrE t k0 K a).it xs.length (fun H => SqV t K H a xs) (YPair (fun i => some (.int (k0 + (i : Nat)))) (fun i => xs[i]?)) where
  goes := fun i H lt q => ⟨xs, q, lt⟩
  stops := fun H q => ⟨xs, q, rfl⟩
  yields := fun i H v H' _ q ⟨T, x, y, e1, e2, e3, e4, e5⟩ => ⟨T, x, y, e1, e2, e3, by rw [e4], e5 xs q⟩
/-- the two cells of an enumerate that was made just now -/
theorem pie_e {X : Cx} {pins : List (Addr × Obj)} {σ : L2.St} {H : Hp} {s : Shared} {elts : List Expr} {kk : Nat} {tpos : Pos} {t : Bool} {k0 : Int} {a : Addr} {xs : List V} {R : It → Hp → Prop} {h' : Heap} (I : Inv X pins σ H s) (hq : SqV t X.K H a xs)
    (he : IsEnum h' (s.heap.objs.size + 1) s.heap.objs.size k0 .none) (hi : h'.get? s.heap.objs.size = some (itO t a)) (old : ∀ b o, s.heap.get? b = some o → h'.get? b = some o) (q : R (PrE t k0 X.K a).it H) :
    wpAny (model X.prog X.w) X.A (pyIter (.ref (s.heap.objs.size + 1))) (PIE X pins σ (.Tuple elts kk tpos) R) X.xe { s with heap := h' } := by
  obtain ⟨its, _, there⟩ := sqv_get I hq
  have lt := there.lt
  refine wpAny_pyIter_enum he (begun I old (turn_e (t := t) (k0 := k0) (Nat.ne_of_lt lt) (Nat.ne_of_lt (Nat.lt_succ_of_lt lt)) (Nat.succ_ne_self _)) ⟨⟨.none, ?_⟩, itO_is hi⟩ (fun b m => ?_) q)
  · show IsEnum h' _ _ (k0 + 0) _
    rw [Int.add_zero]; exact he
  · rcases List.mem_cons.mp m with z | m
    · exact z ▸ Nat.le_succ _
    · exact Nat.le_of_eq (List.mem_singleton.mp m).symm
/-- enumerate of one thing, whatever its iterator is -/
theorem made_one {v : Value} {o : Obj} {G : Heap → Prop} (B : Begins v o G) : Meets (Builtin.«enumerate.__new__» ⟨[.type "enumerate", v], []⟩) (fun _ R s => G s.heap ∧
    R (.ok (.ret (.ref (s.heap.push o).objs.size))) { s with heap := (s.heap.push o).push { cls := .type "enumerate", data := .fields #[.none, .bool false, .ref s.heap.objs.size, rawInt 0, .none, .none] } }) := .of_wp fun prog w A R ⟨hp, g, dr, tk, os⟩ ⟨stands, ends⟩ => by
  have known := sub_enumerate
  have first : ∀ {A' : Around} {E Q : Value → Shared → Prop}, Q (.ref hp.objs.size) ⟨hp.push o, g, dr, tk, os⟩ → wpAny (model prog w) A' (pyIter v) Q E ⟨hp, g, dr, tk, os⟩ := fun q => B.iter prog w _ _ ⟨hp, g, dr, tk, os⟩ _ stands q
  wp_walk using first
  refine wpAny_stack_any (fun _ => wpAny_pure ?_)
  split
  next c _ _ _ _ _ => cases (c == Value.type "enumerate") <;> (wp_walk using first; exact ⟨_, rfl, ends⟩)
  next => wp_walk using first; exact ⟨_, rfl, ends⟩
theorem call_one {prog : Program} {w : World} {A : Around} {E : Value → Shared → Prop} {s : Shared} {v : Value} {o : Obj} {G : Heap → Prop} {Q : Value → Shared → Prop} (B : Begins v o G) (stands : G s.heap)
    (then_ : ∀ h', IsEnum h' (s.heap.objs.size + 1) s.heap.objs.size 0 .none → h'.get? s.heap.objs.size = some o → (∀ b o, s.heap.get? b = some o → h'.get? b = some o) → Q (.ref (s.heap.objs.size + 1)) { s with heap := h' }) :
    wpAny (model prog w) A (call (.type "enumerate") [v]) Q E s := by
  refine callType_new F.called_enumerate (by decide) (F.typeCall_enumerate_1 _) (F.newCall_enumerate_1 _) (fun obj => F.args_object_init_2 obj _) F.entry_enumerate_new (made_one B) ⟨stands, ?_⟩
  have n1 := Heap.size_push s.heap o
  have last : IsEnum ((s.heap.push o).push { cls := .type "enumerate", data := .fields #[.none, .bool false, .ref s.heap.objs.size, rawInt 0, .none, .none] }) (s.heap.objs.size + 1) s.heap.objs.size 0 .none := n1 ▸ Heap.get?_push_size (s.heap.push o) rfl
  refine n1.symm ▸ ⟨⟨_, last, rfl⟩, then_ _ last ?_ fun b u z => ?_⟩
  · exact Heap.get?_push_of_some _ (Heap.get?_push_size _ B.free)
  · exact Heap.get?_push_of_some _ (Heap.get?_push_of_some _ z)
end PairW
namespace EnumT
open PySem PySem.Spec PyProof.Rows L2 PairW
theorem walk_enumT {K : PySem.W.Frag} {a : Addr} {xs : List V} : Walk (PrE true 0 K a).it xs.length (fun H => SqT K H a xs) (YPair (fun i => some (.int (i : Nat))) (fun i => xs[i]?)) := by
  have w := walk_e (t := true) (k0 := 0) (K := K) (a := a) (xs := xs)
  simp only [Int.zero_add] at w
  exact w
def iEnumT (K : PySem.W.Frag) (ta : TA) : TI := fun σ H R => ta σ H fun vs H1 => ∃ a xs, vs = [.ref a] ∧ SqT K H1 a xs ∧ R (PrE true 0 K a).it H1
theorem pi_enumT {X : Cx} {e : Expr} {ta : TA} {p pos tpos : Pos} {elts : List Expr} {kk : Nat} (hg : Gl X "enumerate") (hm : X.mg "enumerate" = none) (ha : PA X [e] ta)
    (hs : starEach [e] X.env = [(false, eval e X.env)] := by rfl) : PI X (.Tuple elts kk tpos) (.Call (.Name "enumerate" p) [e] [] pos) (iEnumT X.K ta) where
  run := fun pins s σ H R I h => Call_ (ld_blt I hg hm boot_enumerate (PyProof.Rows.callWith_type1 (thn (ha.run pos pins s σ H _ I h) fun us s1 ⟨vs, H1, I1, rv, a, xs, e, hq, q⟩ => by
    subst e
    obtain ⟨_, rfl, rfl⟩ := vals1 rv
    obtain ⟨its, _, there⟩ := sqv_get (t := true) I1 hq
    exact call_one (begins true a its.toArray) there fun h' he hi old => pie_e (t := true) (xs := xs) I1 hq he hi old q) hs rfl))
end EnumT
namespace M
open PySem PySem.Spec PyProof.Rows L2
def topS (i : Nat) : Stmt := PySem.Challenge.pw_wayneedle_k07_logs_held.main.body.getD i (.Pass ⟨0, 0, 0, 0⟩)
abbrev s_is_whole : Stmt := topS 1
theorem sc_is_whole : FnScope ["thing"] ["thing"] (defScope s_is_whole) := ⟨rfl, rfl, rfl, by decide +kernel, rfl, by decide +kernel, by decide +kernel⟩
abbrev s_is_row : Stmt := topS 2
theorem sc_is_row : FnScope ["thing"] ["thing"] (defScope s_is_row) := ⟨rfl, rfl, rfl, by decide +kernel, rfl, by decide +kernel, by decide +kernel⟩
abbrev s_laid_out : Stmt := topS 3
theorem sc_laid_out : FnScope ["thing", "things", "begins", "whole"] ["thing"] (defScope s_laid_out) := ⟨rfl, rfl, rfl, by decide +kernel, rfl, by decide +kernel, by decide +kernel⟩
abbrev s_kept : Stmt := topS 4
theorem sc_kept : FnScope ["thing", "things", "begins", "at", "anew", "whole", "begin", "end"] ["thing"] (defScope s_kept) := ⟨rfl, rfl, rfl, by decide +kernel, rfl, by decide +kernel, by decide +kernel⟩
abbrev s_is_letter : Stmt := topS 16
theorem sc_is_letter : FnScope ["thing"] ["thing"] (defScope s_is_letter) := ⟨rfl, rfl, rfl, by decide +kernel, rfl, by decide +kernel, by decide +kernel⟩
abbrev s_is_short_text : Stmt := topS 23
theorem sc_is_short_text : FnScope ["thing"] ["thing"] (defScope s_is_short_text) := ⟨rfl, rfl, rfl, by decide +kernel, rfl, by decide +kernel, by decide +kernel⟩
abbrev s_are_small : Stmt := topS 24
theorem sc_are_small : FnScope ["text", "letter"] ["text"] (defScope s_are_small) := ⟨rfl, rfl, rfl, by decide +kernel, rfl, by decide +kernel, by decide +kernel⟩
abbrev s_is_name : Stmt := topS 25
theorem sc_is_name : FnScope ["thing"] ["thing"] (defScope s_is_name) := ⟨rfl, rfl, rfl, by decide +kernel, rfl, by decide +kernel, by decide +kernel⟩
abbrev s_is_lone : Stmt := topS 26
theorem sc_is_lone : FnScope ["thing"] ["thing"] (defScope s_is_lone) := ⟨rfl, rfl, rfl, by decide +kernel, rfl, by decide +kernel, by decide +kernel⟩
abbrev s_is_sign : Stmt := topS 27
theorem sc_is_sign : FnScope ["thing"] ["thing"] (defScope s_is_sign) := ⟨rfl, rfl, rfl, by decide +kernel, rfl, by decide +kernel, by decide +kernel⟩
abbrev s_is_many : Stmt := topS 28
theorem sc_is_many : FnScope ["thing"] ["thing"] (defScope s_is_many) := ⟨rfl, rfl, rfl, by decide +kernel, rfl, by decide +kernel, by decide +kernel⟩
abbrev s_is_pair_entry : Stmt := topS 29
theorem sc_is_pair_entry : FnScope ["word", "part"] ["word", "part"] (defScope s_is_pair_entry) := ⟨rfl, rfl, rfl, by decide +kernel, rfl, by decide +kernel, by decide +kernel⟩
abbrev s_is_entry : Stmt := topS 30
theorem sc_is_entry : FnScope ["thing"] ["thing"] (defScope s_is_entry) := ⟨rfl, rfl, rfl, by decide +kernel, rfl, by decide +kernel, by decide +kernel⟩
abbrev s_held_log : Stmt := topS 31
theorem sc_held_log : FnScope ["entries", "faced", "log", "at", "thing"] ["entries"] (defScope s_held_log) := ⟨rfl, rfl, rfl, by decide +kernel, rfl, by decide +kernel, by decide +kernel⟩
abbrev s_legs_in : Stmt := topS 32
theorem sc_legs_in : FnScope ["log", "entry"] ["log"] (defScope s_legs_in) := ⟨rfl, rfl, rfl, by decide +kernel, rfl, by decide +kernel, by decide +kernel⟩
abbrev s_Lany_entry : Stmt := topS 34
theorem sc_Lany_entry : FnScope ["_law_pool_here", "_law_looks", "_law_pick", "_law_sign_here"] ["_law_pool_here", "_law_looks"] (defScope s_Lany_entry) := ⟨rfl, rfl, rfl, by decide +kernel, rfl, by decide +kernel, by decide +kernel⟩
abbrev s_Lany_log : Stmt := topS 35
theorem sc_Lany_log : FnScope ["_law_pool_here", "_law_many", "_law_swaps", "_law_log", "_law_looks", "_law_left", "_law_k", "_law_entry"] ["_law_pool_here", "_law_many", "_law_swaps"] (defScope s_Lany_log) := ⟨rfl, rfl, rfl, by decide +kernel, rfl, by decide +kernel, by decide +kernel⟩
abbrev s_Lis_name : Stmt := topS 36
theorem sc_Lis_name : FnScope ["_law_thing", "_law_letter"] ["_law_thing"] (defScope s_Lis_name) := ⟨rfl, rfl, rfl, by decide +kernel, rfl, by decide +kernel, by decide +kernel⟩
abbrev s_Lis_sign : Stmt := topS 37
theorem sc_Lis_sign : FnScope ["_law_thing", "_law_first"] ["_law_thing"] (defScope s_Lis_sign) := ⟨rfl, rfl, rfl, by decide +kernel, rfl, by decide +kernel, by decide +kernel⟩
abbrev s_Lis_many : Stmt := topS 38
theorem sc_Lis_many : FnScope ["_law_thing"] ["_law_thing"] (defScope s_Lis_many) := ⟨rfl, rfl, rfl, by decide +kernel, rfl, by decide +kernel, by decide +kernel⟩
abbrev s_Lis_entry : Stmt := topS 39
theorem sc_Lis_entry : FnScope ["_law_thing"] ["_law_thing"] (defScope s_Lis_entry) := ⟨rfl, rfl, rfl, by decide +kernel, rfl, by decide +kernel, by decide +kernel⟩
abbrev s_Lbad_at : Stmt := topS 40
theorem sc_Lbad_at : FnScope ["_law_entries_here", "_law_looks", "_law_at", "_law_entry"] ["_law_entries_here"] (defScope s_Lbad_at) := ⟨rfl, rfl, rfl, by decide +kernel, rfl, by decide +kernel, by decide +kernel⟩
abbrev s_Llisted : Stmt := topS 41
theorem sc_Llisted : FnScope ["_law_pool_here", "_law_log", "_law_rows", "_law_entry"] ["_law_pool_here", "_law_log"] (defScope s_Llisted) := ⟨rfl, rfl, rfl, by decide +kernel, rfl, by decide +kernel, by decide +kernel⟩
abbrev s_Lown : Stmt := topS 42
theorem sc_Lown : FnScope ["_law_e", "_law_some"] ["_law_e"] (defScope s_Lown) := ⟨rfl, rfl, rfl, by decide +kernel, rfl, by decide +kernel, by decide +kernel⟩
abbrev s_Lpool : Stmt := topS 43
theorem sc_Lpool : FnScope ["_law_script", "_law_k", "_law_cell", "_law_left"] ["_law_script", "_law_k"] (defScope s_Lpool) := ⟨rfl, rfl, rfl, by decide +kernel, rfl, by decide +kernel, by decide +kernel⟩
abbrev s_Ltake : Stmt := topS 44
theorem sc_Ltake : FnScope ["_law_pool_here", "_law_wide", "_law_found", "_law_primes", "_law_one", "_law_two"] ["_law_pool_here", "_law_wide"] (defScope s_Ltake) := ⟨rfl, rfl, rfl, by decide +kernel, rfl, by decide +kernel, by decide +kernel⟩
abbrev s_Lwhole : Stmt := topS 45
theorem sc_Lwhole : FnScope ["_law_thing"] ["_law_thing"] (defScope s_Lwhole) := ⟨rfl, rfl, rfl, by decide +kernel, rfl, by decide +kernel, by decide +kernel⟩
abbrev s_Lsame : Stmt := topS 46
theorem sc_Lsame : FnScope ["_law_found", "_law_due", "_law_one", "_law_other"] ["_law_found", "_law_due"] (defScope s_Lsame) := ⟨rfl, rfl, rfl, by decide +kernel, rfl, by decide +kernel, by decide +kernel⟩
abbrev s_Lname : Stmt := topS 47
theorem sc_Lname : FnScope ["_law_pool_here", "_law_letters", "_law_k"] ["_law_pool_here"] (defScope s_Lname) := ⟨rfl, rfl, rfl, by decide +kernel, rfl, by decide +kernel, by decide +kernel⟩
abbrev s_Lsign : Stmt := topS 48
theorem sc_Lsign : FnScope ["_law_pool_here", "_law_lone", "_law_sign_here"] ["_law_pool_here", "_law_lone"] (defScope s_Lsign) := ⟨rfl, rfl, rfl, by decide +kernel, rfl, by decide +kernel, by decide +kernel⟩
abbrev s_Llegs : Stmt := topS 49
theorem sc_Llegs : FnScope ["_law_log", "_law_entry"] ["_law_log"] (defScope s_Llegs) := ⟨rfl, rfl, rfl, by decide +kernel, rfl, by decide +kernel, by decide +kernel⟩
abbrev s_Lentries : Stmt := topS 50
theorem sc_Lentries : FnScope ["_law_pool_here", "_law_many", "_law_k"] ["_law_pool_here"] (defScope s_Lentries) := ⟨rfl, rfl, rfl, by decide +kernel, rfl, by decide +kernel, by decide +kernel⟩
abbrev s_Lheld : Stmt := topS 51
theorem sc_Lheld : FnScope ["_law_entries_here", "_law_e"] ["_law_entries_here"] (defScope s_Lheld) := ⟨rfl, rfl, rfl, by decide +kernel, rfl, by decide +kernel, by decide +kernel⟩
abbrev s_law : Stmt := topS 52
theorem sc_law : FnScope ["_law_script", "_law_pool_here", "_law_k", "_law_entries_here", "_law_at", "_law_due", "_law_handed", "_law_rows", "_law_found", "_law_row", "_law_entry"] ["_law_script"] (defScope s_law) := ⟨rfl, rfl, rfl, by decide +kernel, rfl, by decide +kernel, by decide +kernel⟩
abbrev s_init : Stmt := inClass (topS 8) 0
theorem sc_init : FnScope ["self", "name", "at"] ["self", "name", "at"] (defScope s_init) := ⟨rfl, rfl, rfl, by decide +kernel, rfl, by decide +kernel, by decide +kernel⟩
/-- what the top has left -/
structure Top (w : World) (K : PySem.W.Frag) (mg : Str → Option Value) where
  a_is_whole : Addr
  fd_is_whole : FuncData
  F_is_whole : Fun K "is_whole" "is_whole" s_is_whole a_is_whole fd_is_whole
  b_is_whole : Binds K fd_is_whole ["thing"] []
  g_is_whole : mg "is_whole" = some (.ref a_is_whole)
  a_is_row : Addr
  fd_is_row : FuncData
  F_is_row : Fun K "is_row" "is_row" s_is_row a_is_row fd_is_row
  b_is_row : Binds K fd_is_row ["thing"] []
  g_is_row : mg "is_row" = some (.ref a_is_row)
  a_laid_out : Addr
  fd_laid_out : FuncData
  F_laid_out : Fun K "laid_out" "laid_out" s_laid_out a_laid_out fd_laid_out
  b_laid_out : Binds K fd_laid_out ["thing"] []
  g_laid_out : mg "laid_out" = some (.ref a_laid_out)
  a_kept : Addr
  fd_kept : FuncData
  F_kept : Fun K "kept" "kept" s_kept a_kept fd_kept
  b_kept : Binds K fd_kept ["thing"] []
  g_kept : mg "kept" = some (.ref a_kept)
  a_is_letter : Addr
  fd_is_letter : FuncData
  F_is_letter : Fun K "is_letter" "is_letter" s_is_letter a_is_letter fd_is_letter
  b_is_letter : Binds K fd_is_letter ["thing"] []
  g_is_letter : mg "is_letter" = some (.ref a_is_letter)
  a_is_short_text : Addr
  fd_is_short_text : FuncData
  F_is_short_text : Fun K "is_short_text" "is_short_text" s_is_short_text a_is_short_text fd_is_short_text
  b_is_short_text : Binds K fd_is_short_text ["thing"] []
  g_is_short_text : mg "is_short_text" = some (.ref a_is_short_text)
  a_are_small : Addr
  fd_are_small : FuncData
  F_are_small : Fun K "are_small" "are_small" s_are_small a_are_small fd_are_small
  b_are_small : Binds K fd_are_small ["text"] []
  g_are_small : mg "are_small" = some (.ref a_are_small)
  a_is_name : Addr
  fd_is_name : FuncData
  F_is_name : Fun K "is_name" "is_name" s_is_name a_is_name fd_is_name
  b_is_name : Binds K fd_is_name ["thing"] []
  g_is_name : mg "is_name" = some (.ref a_is_name)
  a_is_lone : Addr
  fd_is_lone : FuncData
  F_is_lone : Fun K "is_lone" "is_lone" s_is_lone a_is_lone fd_is_lone
  b_is_lone : Binds K fd_is_lone ["thing"] []
  g_is_lone : mg "is_lone" = some (.ref a_is_lone)
  a_is_sign : Addr
  fd_is_sign : FuncData
  F_is_sign : Fun K "is_sign" "is_sign" s_is_sign a_is_sign fd_is_sign
  b_is_sign : Binds K fd_is_sign ["thing"] []
  g_is_sign : mg "is_sign" = some (.ref a_is_sign)
  a_is_many : Addr
  fd_is_many : FuncData
  F_is_many : Fun K "is_many" "is_many" s_is_many a_is_many fd_is_many
  b_is_many : Binds K fd_is_many ["thing"] []
  g_is_many : mg "is_many" = some (.ref a_is_many)
  a_is_pair_entry : Addr
  fd_is_pair_entry : FuncData
  F_is_pair_entry : Fun K "is_pair_entry" "is_pair_entry" s_is_pair_entry a_is_pair_entry fd_is_pair_entry
  b_is_pair_entry : Binds K fd_is_pair_entry ["word", "part"] []
  g_is_pair_entry : mg "is_pair_entry" = some (.ref a_is_pair_entry)
  a_is_entry : Addr
  fd_is_entry : FuncData
  F_is_entry : Fun K "is_entry" "is_entry" s_is_entry a_is_entry fd_is_entry
  b_is_entry : Binds K fd_is_entry ["thing"] []
  g_is_entry : mg "is_entry" = some (.ref a_is_entry)
  a_held_log : Addr
  fd_held_log : FuncData
  F_held_log : Fun K "held_log" "held_log" s_held_log a_held_log fd_held_log
  b_held_log : Binds K fd_held_log ["entries"] []
  g_held_log : mg "held_log" = some (.ref a_held_log)
  a_legs_in : Addr
  fd_legs_in : FuncData
  F_legs_in : Fun K "legs_in" "legs_in" s_legs_in a_legs_in fd_legs_in
  b_legs_in : Binds K fd_legs_in ["log"] []
  g_legs_in : mg "legs_in" = some (.ref a_legs_in)
  a_Lany_entry : Addr
  fd_Lany_entry : FuncData
  F_Lany_entry : Fun K "_law_any_entry" "_law_any_entry" s_Lany_entry a_Lany_entry fd_Lany_entry
  b_Lany_entry : Binds K fd_Lany_entry ["_law_pool_here", "_law_looks"] []
  g_Lany_entry : mg "_law_any_entry" = some (.ref a_Lany_entry)
  a_Lany_log : Addr
  fd_Lany_log : FuncData
  F_Lany_log : Fun K "_law_any_log" "_law_any_log" s_Lany_log a_Lany_log fd_Lany_log
  b_Lany_log : Binds K fd_Lany_log ["_law_pool_here", "_law_many", "_law_swaps"] []
  g_Lany_log : mg "_law_any_log" = some (.ref a_Lany_log)
  a_Lis_name : Addr
  fd_Lis_name : FuncData
  F_Lis_name : Fun K "_law_is_name" "_law_is_name" s_Lis_name a_Lis_name fd_Lis_name
  b_Lis_name : Binds K fd_Lis_name ["_law_thing"] []
  g_Lis_name : mg "_law_is_name" = some (.ref a_Lis_name)
  a_Lis_sign : Addr
  fd_Lis_sign : FuncData
  F_Lis_sign : Fun K "_law_is_sign" "_law_is_sign" s_Lis_sign a_Lis_sign fd_Lis_sign
  b_Lis_sign : Binds K fd_Lis_sign ["_law_thing"] []
  g_Lis_sign : mg "_law_is_sign" = some (.ref a_Lis_sign)
  a_Lis_many : Addr
  fd_Lis_many : FuncData
  F_Lis_many : Fun K "_law_is_many" "_law_is_many" s_Lis_many a_Lis_many fd_Lis_many
  b_Lis_many : Binds K fd_Lis_many ["_law_thing"] []
  g_Lis_many : mg "_law_is_many" = some (.ref a_Lis_many)
  a_Lis_entry : Addr
  fd_Lis_entry : FuncData
  F_Lis_entry : Fun K "_law_is_entry" "_law_is_entry" s_Lis_entry a_Lis_entry fd_Lis_entry
  b_Lis_entry : Binds K fd_Lis_entry ["_law_thing"] []
  g_Lis_entry : mg "_law_is_entry" = some (.ref a_Lis_entry)
  a_Lbad_at : Addr
  fd_Lbad_at : FuncData
  F_Lbad_at : Fun K "_law_bad_at" "_law_bad_at" s_Lbad_at a_Lbad_at fd_Lbad_at
  b_Lbad_at : Binds K fd_Lbad_at ["_law_entries_here"] []
  g_Lbad_at : mg "_law_bad_at" = some (.ref a_Lbad_at)
  a_Llisted : Addr
  fd_Llisted : FuncData
  F_Llisted : Fun K "_law_listed" "_law_listed" s_Llisted a_Llisted fd_Llisted
  b_Llisted : Binds K fd_Llisted ["_law_pool_here", "_law_log"] []
  g_Llisted : mg "_law_listed" = some (.ref a_Llisted)
  a_Lown : Addr
  fd_Lown : FuncData
  F_Lown : Fun K "_law_own" "_law_own" s_Lown a_Lown fd_Lown
  b_Lown : Binds K fd_Lown ["_law_e"] []
  g_Lown : mg "_law_own" = some (.ref a_Lown)
  a_Lpool : Addr
  fd_Lpool : FuncData
  F_Lpool : Fun K "_law_pool" "_law_pool" s_Lpool a_Lpool fd_Lpool
  b_Lpool : Binds K fd_Lpool ["_law_script", "_law_k"] []
  g_Lpool : mg "_law_pool" = some (.ref a_Lpool)
  a_Ltake : Addr
  fd_Ltake : FuncData
  F_Ltake : Fun K "_law_take" "_law_take" s_Ltake a_Ltake fd_Ltake
  b_Ltake : Binds K fd_Ltake ["_law_pool_here", "_law_wide"] []
  g_Ltake : mg "_law_take" = some (.ref a_Ltake)
  a_Lwhole : Addr
  fd_Lwhole : FuncData
  F_Lwhole : Fun K "_law_whole" "_law_whole" s_Lwhole a_Lwhole fd_Lwhole
  b_Lwhole : Binds K fd_Lwhole ["_law_thing"] []
  g_Lwhole : mg "_law_whole" = some (.ref a_Lwhole)
  a_Lsame : Addr
  fd_Lsame : FuncData
  F_Lsame : Fun K "_law_same" "_law_same" s_Lsame a_Lsame fd_Lsame
  b_Lsame : Binds K fd_Lsame ["_law_found", "_law_due"] []
  g_Lsame : mg "_law_same" = some (.ref a_Lsame)
  a_Lname : Addr
  fd_Lname : FuncData
  F_Lname : Fun K "_law_name" "_law_name" s_Lname a_Lname fd_Lname
  b_Lname : Binds K fd_Lname ["_law_pool_here"] []
  g_Lname : mg "_law_name" = some (.ref a_Lname)
  a_Lsign : Addr
  fd_Lsign : FuncData
  F_Lsign : Fun K "_law_sign" "_law_sign" s_Lsign a_Lsign fd_Lsign
  b_Lsign : Binds K fd_Lsign ["_law_pool_here", "_law_lone"] []
  g_Lsign : mg "_law_sign" = some (.ref a_Lsign)
  a_Llegs : Addr
  fd_Llegs : FuncData
  F_Llegs : Fun K "_law_legs" "_law_legs" s_Llegs a_Llegs fd_Llegs
  b_Llegs : Binds K fd_Llegs ["_law_log"] []
  g_Llegs : mg "_law_legs" = some (.ref a_Llegs)
  a_Lentries : Addr
  fd_Lentries : FuncData
  F_Lentries : Fun K "_law_entries" "_law_entries" s_Lentries a_Lentries fd_Lentries
  b_Lentries : Binds K fd_Lentries ["_law_pool_here"] []
  g_Lentries : mg "_law_entries" = some (.ref a_Lentries)
  a_Lheld : Addr
  fd_Lheld : FuncData
  F_Lheld : Fun K "_law_held" "_law_held" s_Lheld a_Lheld fd_Lheld
  b_Lheld : Binds K fd_Lheld ["_law_entries_here"] []
  g_Lheld : mg "_law_held" = some (.ref a_Lheld)
  a_law : Addr
  fd_law : FuncData
  F_law : Fun K "law" "law" s_law a_law fd_law
  b_law : Binds K fd_law ["_law_script"] []
  g_law : mg "law" = some (.ref a_law)
  a_STEPS : Addr
  g_STEPS : mg "STEPS" = some (.ref a_STEPS)
  es_STEPS : Array DictEntry
  n_STEPS : Nat
  kd_STEPS : KDict K w a_STEPS es_STEPS n_STEPS
  ns_STEPS : ∀ z : Str, ∃ r, PySem.W.nsIn K a_STEPS z = some r ∧ r.isSome = ((["n", "e", "s", "w"] : List Str).any fun s => s == z)
  v_STEPS_0 : ∃ q, KDct K w a_STEPS "n" (.ref q) ∧ ∀ H, SqT K H q [.int (0), .int (1)]
  v_STEPS_1 : ∃ q, KDct K w a_STEPS "e" (.ref q) ∧ ∀ H, SqT K H q [.int (1), .int (0)]
  v_STEPS_2 : ∃ q, KDct K w a_STEPS "s" (.ref q) ∧ ∀ H, SqT K H q [.int (0), .int (-1)]
  v_STEPS_3 : ∃ q, KDct K w a_STEPS "w" (.ref q) ∧ ∀ H, SqT K H q [.int (-1), .int (0)]
  g_SMALL : ∃ t, mg "SMALL" = some (.str "abcdefghijklmnopqrstuvwxyz" t)
  g_GREAT : ∃ t, mg "GREAT" = some (.str "ABCDEFGHIJKLMNOPQRSTUVWXYZ" t)
  g_LONGEST : ∃ t, mg "LONGEST" = some (.int 8 t)
  a_WORDS_ALONE : Addr
  g_WORDS_ALONE : mg "WORDS_ALONE" = some (.ref a_WORDS_ALONE)
  v_WORDS_ALONE : ∀ H, SqT K H a_WORDS_ALONE [.str "left", .str "right", .str "back", .str "bump", .str "bare", .str "swap"]
  a_WORDS_BEHIND_A_FACE : Addr
  g_WORDS_BEHIND_A_FACE : mg "WORDS_BEHIND_A_FACE" = some (.ref a_WORDS_BEHIND_A_FACE)
  v_WORDS_BEHIND_A_FACE : ∀ H, SqT K H a_WORDS_BEHIND_A_FACE [.str "left", .str "right", .str "back", .str "go", .str "bump", .str "spy"]
  m_abs : mg "abs" = none
  m_all : mg "all" = none
  m_any : mg "any" = none
  m_bool : mg "bool" = none
  m_enumerate : mg "enumerate" = none
  m_int : mg "int" = none
  m_isinstance : mg "isinstance" = none
  m_len : mg "len" = none
  m_list : mg "list" = none
  m_range : mg "range" = none
  m_str : mg "str" = none
  m_tuple : mg "tuple" = none
  m_zip : mg "zip" = none
  a_NoLot : Addr
  g_NoLot : mg "NoLot" = some (.ref a_NoLot)
  a_BadLog : Addr
  g_BadLog : mg "BadLog" = some (.ref a_BadLog)
  a_NoDealing : Addr
  g_NoDealing : mg "NoDealing" = some (.ref a_NoDealing)
  a_BadBox : Addr
  g_BadBox : mg "BadBox" = some (.ref a_BadBox)
  a_NoName : Addr
  g_NoName : mg "NoName" = some (.ref a_NoName)
  a_Twice : Addr
  g_Twice : mg "Twice" = some (.ref a_Twice)
  a_NoWalker : Addr
  g_NoWalker : mg "NoWalker" = some (.ref a_NoWalker)
  a_NeedleError : Addr
  g_NeedleError : mg "NeedleError" = some (.ref a_NeedleError)
  kit_NoLot : PySem.W.kitOne K (.ref a_BadLog) (.ref a_NoLot) = some false
  kit_BadLog : PySem.W.kitOne K (.ref a_BadLog) (.ref a_BadLog) = some true
  kit_NoDealing : PySem.W.kitOne K (.ref a_BadLog) (.ref a_NoDealing) = some false
  kit_BadBox : PySem.W.kitOne K (.ref a_BadLog) (.ref a_BadBox) = some false
  kit_NoName : PySem.W.kitOne K (.ref a_BadLog) (.ref a_NoName) = some false
  kit_Twice : PySem.W.kitOne K (.ref a_BadLog) (.ref a_Twice) = some false
  kit_NoWalker : PySem.W.kitOne K (.ref a_BadLog) (.ref a_NoWalker) = some false
  kit_NeedleError : PySem.W.kitOne K (.ref a_BadLog) (.ref a_NeedleError) = some true
  m_ValueError : mg "ValueError" = none
  kit_VE : PySem.W.kitOne K (.ref a_BadLog) (.type "ValueError") = some true
  oex : OexC K a_BadLog
  a_init : Addr
  fd_init : FuncData
  F_init : Fun K "__init__" "BadLog.__init__" s_init a_init fd_init
  b_init : Binds K fd_init ["self", "name", "at"] []
  iC : PySem.W.findIn K (.ref a_BadLog) "__init__" = some (some (.ref a_init))
  tI : PySem.W.typeIn K (.ref a_init) = some (.type "function")
  xf : XfC K a_BadLog
  exc : ExcC K a_BadLog
  exm : PySem.W.exmOne K (.ref a_BadLog) (.ref a_BadLog) = some true
  no_name : PySem.W.findIn K (.ref a_BadLog) "name" = some none
  no_at : PySem.W.findIn K (.ref a_BadLog) "at" = some none
/-! ### heaps, pools -/
/-- all but what stands at p is as it was -/
def But (p : Addr) (H H' : Hp) : Prop := ∀ b o, b ≠ p → H b = some o → H' b = some o
theorem But.refl (p : Addr) (H : Hp) : But p H H := fun _ _ _ h => h
theorem But.trans {p : Addr} {H H1 H2 : Hp} (a : But p H H1) (b : But p H1 H2) : But p H H2 := fun c o hc h => b c o hc (a c o hc h)
theorem But.of {p : Addr} {H H' : Hp} (a : Same H H') : But p H H' := fun b o _ h => a b o h
theorem But.upd {p : Addr} {H H' : Hp} {o : HO} (a : But p H H') : But p H (upd H' p o) := fun b u hb h => by
  rw [upd_ne hb]
  exact a b u hb h
theorem same_upd {H : Hp} {p : Addr} {o : HO} (h : H p = none) : Same H (upd H p o) := fun b x e => by
  rw [upd_ne (ne_of_none e h)]
  exact e
/-- changed at a new place alone -/
theorem But.same {p : Addr} {H H1 H2 : Hp} (n : H p = none) (a : Same H H1) (b : But p H1 H2) : Same H H2 := fun c o h => b c o (ne_of_none h n) (a c o h)
theorem But.free {p l : Addr} {H H1 : Hp} (a : But p H H1) (n : l ≠ p) (h : H1 l = none) : H l = none := by
  cases e : H l with
  | none => rfl
  | some o =>
    rw [a l o n e] at h
    cases h
/-- a change at a place that H doesn't know -/
theorem But.mut {p l : Addr} {H H1 : Hp} {o : HO} (a : But p H H1) (n : H l = none) : But p H (L2.upd H1 l o) := fun b u hb h => by
  rw [upd_ne (ne_of_none h n)]
  exact a b u hb h
/-- the spring of draws: four whole numbers, the first not below nought -/
def Pool (H : Hp) (p : Addr) : Prop := ∃ l c k n : Int, 0 ≤ l ∧ H p = some (.lst [.int l, .int c, .int k, .int n])
theorem Pool.same {H H' : Hp} {p : Addr} (h : Pool H p) (e : Same H H') : Pool H' p := by
  obtain ⟨l, c, k, n, h0, h1⟩ := h
  exact ⟨l, c, k, n, h0, e _ _ h1⟩
theorem Pool.ne_tup {H : Hp} {p q : Addr} {xs : List V} (h : Pool H p) (e : H q = some (.tup xs)) : q ≠ p := by
  obtain ⟨l, c, k, n, h0, h1⟩ := h
  exact ne_of e h1 (by intro z; cases z)
theorem Pool.ne_new {H : Hp} {p q : Addr} (h : Pool H p) (e : H q = none) : q ≠ p := by
  obtain ⟨l, c, k, n, h0, h1⟩ := h
  intro z
  rw [z, h1] at e
  cases e
theorem Pool.upd {H : Hp} {p q : Addr} {o : HO} (h : Pool H p) (e : q ≠ p) : Pool (L2.upd H q o) p := by
  obtain ⟨l, c, k, n, h0, h1⟩ := h
  refine ⟨l, c, k, n, h0, ?_⟩
  rw [upd_ne (Ne.symm e)]
  exact h1
theorem seq_but {K : PySem.W.Frag} {H H' : Hp} {p a : Addr} {xs : List V} (e : But p H H') (n : a ≠ p) (h : SqL K H a xs) : SqL K H' a xs := by
  rcases h with (h | ⟨o, h⟩) | h
  · exact .inl (.inl (e _ _ n h))
  · exact .inl (.inr ⟨o, e _ _ n h⟩)
  · exact .inr h
theorem abs_if (n : Int) : 0 ≤ (if n < 0 then -n else n) := by
  split <;> omega
local macro_rules | `(tactic| walk_at "go") => `(tactic| repeat (first
  | (with_reducible exact rfl)
  | (refine ⟨_, _, rfl, rfl, ?_⟩)
  | (refine ⟨_, rfl, ?_⟩)
  | (refine ⟨rfl, ?_⟩)))
def spPool (K : PySem.W.Frag) : Sp := fun vs H Q _ => ∃ (a : Addr) (ns : List Int) (k : Int), vs = [.ref a, .int k] ∧ SqL K H a (ns.map V.int) ∧ ns.length ≤ 63 ∧ 0 ≤ k ∧ ∀ H' p, Same H H' → H p = none → Pool H' p → Q (.ref p) H'
def spTake : Sp := fun vs H Q _ => ∃ (p : Addr) (m : Int), vs = [.ref p, .int m] ∧ 0 < m ∧ m < 2 ^ 200 ∧ Pool H p ∧ ∀ H' (r : Int), But p H H' → Pool H' p → 0 ≤ r → r < m → Q (.int r) H'
theorem iteY {c A B : Prop} [Decidable c] (hc : c) (h : A) : if decide c = true then A else B := by
  rw [if_pos (decide_eq_true hc)]
  exact h
theorem iteYn {c A B : Prop} [Decidable c] (hc : c) (h : B) : if (!decide c) = true then A else B := by
  rw [decide_eq_true hc]
  exact h
theorem iteDN {b : Bool} {A B : Prop} (hb : b = false) (h : B) : if b = true then A else B := by
  rw [hb]
  exact h
theorem iteDY {b : Bool} {A B : Prop} (hb : b = true) (h : A) : if b = true then A else B := by
  rw [hb]
  exact h
theorem iteNE {d e : PyData} {A B : Prop} (h : d = e) (hs : SeqAt.shaped d = true) (hB : B) : if (!PyData.eqv d e) = true then A else B := by
  subst h
  rw [SeqAt.eqv_refl d (SeqAt.canLay_of_shaped hs)]
  exact hB
theorem ne_no {x y : V} (e : x = y) : (!decide (x = y)) = false := by
  rw [decide_eq_true e]
  rfl
theorem iteN {x y : V} {A B : Prop} (e : x = y) (h : B) : if (!decide (x = y)) = true then A else B := by
  rw [ne_no e, if_neg Bool.false_ne_true]
  exact h
section
variable {P : Program} {w : World} {K : PySem.W.Frag} {mg : Str → Option Value} {base : Heap}
theorem ok_Lpool (T : Top w K mg) : FnOk P w K mg base CX0 1 T.a_Lpool T.fd_Lpool ["_law_script", "_law_k"] (spPool K) := by
  refine T.F_Lpool.ok sc_Lpool (fun vs H Q E h => ?_) (fun cdv A outer s H vs Q E hr h => ?_)
  · obtain ⟨a, ns, k, rfl, _⟩ := h
    rfl
  · obtain ⟨a, ns, k, rfl, hS, hlen, hk, q⟩ := h
    refine ⟨_, (pss_cons (ps_set (i := 2) sc_Lpool.nd rfl (.inl rfl) pe_int)
      (Evl.pss_cut (ps_if (pt_cmpR op_gt (pe_callB call_len_seq (by rfl) T.m_len (by decide +kernel) (pa_cons (pv 0) pa_nil)) pe_int (nomark _)) (pss_one (ps_set (i := 2) sc_Lpool.nd rfl (.inl rfl) (pe_ix ix_list (pv 0) (pe_op op_mod (pv 1) (pe_callB call_len_seq (by rfl) T.m_len (by decide +kernel) (pa_cons (pv 0) pa_nil))) (fun _ _ => rfl)))) pss_nil)
      (pss_cons (ps_set (i := 3) sc_Lpool.nd rfl (.inl rfl) pe_int)
      (pss_cons (ps_if (PW.pt (pw_and (pt_cmpR op_lt (pv 1) (pe_callB call_len_seq (by rfl) T.m_len (by decide +kernel) (pa_cons (pv 0) pa_nil)) (nomark _)) (pw_and1 (pt_cmpR op_ge (pe_callB call_abs (by rfl) T.m_abs (by decide +kernel) (pa_cons (pv 2) pa_nil)) (pe_op op_pow pe_int pe_int) (nomark _))))) (pss_one (ps_set (i := 3) sc_Lpool.nd rfl (.inl rfl) (pe_callB call_abs (by rfl) T.m_abs (by decide +kernel) (pa_cons (pv 2) pa_nil)))) pss_nil)
      (pss_one (ps_ret (pe_lst (pa_cons (pv 3) (pa_cons (pv 2) (pa_cons (pv 1) (pa_cons pe_int pa_nil))))))))))), ?_⟩
    have hL : ((ns.map V.int).length : Int) = ns.length := by rw [List.length_map]
    have fin : ∀ (l c : Int), 0 ≤ l → ∀ p, H p = none → Q (.ref p) (upd H p (.lst [.int l, .int c, .int k, .int 0])) := fun l c hl p hp =>
      q _ p (same_upd hp) hp ⟨l, c, k, 0, hl, upd_same⟩
    refine ⟨fun σ H' => H' = H ∧ ∃ c : Int, σ = [some (.ref a), some (.int k), some (.int c), none], ?_, ?_⟩
    · refine ⟨.ref a, rfl, a, ns.map V.int, rfl, .inl hS, _, _, rfl, rfl, _, rfl, ite2 (fun e => ?_) (fun e => ?_)⟩
      · have e0 : (0 : Int) < ((ns.map V.int).length : Int) := of_decide_eq_true e
        refine ⟨.ref a, rfl, .int k, rfl, .ref a, rfl, a, ns.map V.int, rfl, .inl hS, k, _, rfl, rfl, e0, ?_⟩
        have h1 := Int.emod_nonneg k (show ((ns.map V.int).length : Int) ≠ 0 by omega)
        have h2 := Int.emod_lt_of_pos k e0
        obtain ⟨j, hj⟩ : ∃ j : Nat, k % ((ns.map V.int).length : Int) = j := ⟨(k % ((ns.map V.int).length : Int)).toNat, by omega⟩
        have hj2 : j < ns.length := by omega
        have g : (ns.map V.int)[j]? = some (.int ns[j]) := by
          rw [List.getElem?_map, List.getElem?_eq_getElem hj2]
          rfl
        have gi : atI (ns.map V.int) (k % ((ns.map V.int).length : Int)) = some (.int ns[j]) := by
          rw [hj]
          exact atI_nat g
        exact ⟨a, _, _, _, rfl, rfl, hS, gi, rfl, _, rfl⟩
      · exact ⟨rfl, 0, rfl⟩
    · rintro σ H' ⟨rfl, c, rfl⟩
      refine ⟨.int k, rfl, .ref a, rfl, a, ns.map V.int, rfl, .inl hS, _, _, rfl, rfl, _, rfl, ite2 (fun e => ?_) (fun e => ?_)⟩
      · refine ⟨.int c, rfl, c, rfl, _, _, rfl, rfl, ⟨by decide, by decide, by decide⟩, _, _, rfl, rfl, _, rfl, ite2 (fun e => ?_) (fun e => ?_)⟩
        · exact ⟨.int c, rfl, c, rfl, _, rfl, _, rfl, _, rfl, by show 4 ≤ sizeLine; decide, fin _ c (abs_if c)⟩
        · exact ⟨_, rfl, _, rfl, _, rfl, by show 4 ≤ sizeLine; decide, fin 0 c (by decide)⟩
      · refine ite2 (fun e2 => by cases e2) (fun _ => ?_)
        exact ⟨_, rfl, _, rfl, _, rfl, by show 4 ≤ sizeLine; decide, fin 0 c (by decide)⟩
def primes : List Int := [2147483629, 2147483587, 2147483579, 2147483563, 2147483549, 2147483543, 2147483497, 2147483489]
theorem primes_at {i : Int} (h0 : 0 ≤ i) (h1 : i < 8) : ∃ p : Int, atI (primes.map V.int) i = some (.int p) ∧ 0 < p ∧ p < 2147483647 := by
  obtain rfl | rfl | rfl | rfl | rfl | rfl | rfl | rfl : i = 0 ∨ i = 1 ∨ i = 2 ∨ i = 3 ∨ i = 4 ∨ i = 5 ∨ i = 6 ∨ i = 7 := by omega
  all_goals exact ⟨_, rfl, by decide, by decide⟩
theorem pow_ok (a : Int) : CPow (a % 2147483647) 5 := by
  have h1 := Int.emod_nonneg a (show (2147483647 : Int) ≠ 0 by decide)
  have h2 := Int.emod_lt_of_pos a (show (0 : Int) < 2147483647 by decide)
  exact ⟨by decide, by decide, by omega⟩
theorem ok_Ltake (T : Top w K mg) : FnOk P w K mg base CX0 1 T.a_Ltake T.fd_Ltake ["_law_pool_here", "_law_wide"] spTake := by
  refine T.F_Ltake.ok sc_Ltake (fun vs H Q E h => ?_) (fun cdv A outer s H vs Q E hr h => ?_)
  · obtain ⟨p, m, rfl, _⟩ := h
    rfl
  · obtain ⟨p, m, rfl, hm, hb, ⟨l, c, k, n, hl, hp⟩, q⟩ := h
    refine ⟨_, (pss_cons (ps_if (pt_cmpR op_gt (pe_ix ix_list (pv 0) pe_int (fun _ _ => rfl)) pe_int (nomark _)) (pss_cons (ps_set (i := 2) sc_Ltake.nd rfl (.inl rfl) (pe_op op_mod (pe_ix ix_list (pv 0) pe_int (fun _ _ => rfl)) (pv 1)))
      (pss_cons (ps_asg (pe_op op_fdivW (pe_ix ix_list (pv 0) pe_int (fun _ _ => rfl)) (pv 1)) (pg_sub (pv 0) pe_int set_list))
      (pss_one (ps_ret (pv 2))))) pss_nil)
      (pss_cons (ps_asg (pe_op op_add (pe_ix ix_list (pv 0) pe_int (fun _ _ => rfl)) pe_int) (pg_sub (pv 0) pe_int set_list))
      (pss_cons (ps_set (i := 3) sc_Ltake.nd rfl (.inl rfl) (pe_lst (pa_cons pe_int (pa_cons pe_int (pa_cons pe_int (pa_cons pe_int (pa_cons pe_int (pa_cons pe_int (pa_cons pe_int (pa_cons pe_int pa_nil))))))))))
      (pss_cons (ps_set (i := 4) sc_Ltake.nd rfl (.inl rfl) (pe_op op_mod (pe_op op_add (pe_op op_add (pe_op op_add (pe_ix ix_list (pv 0) pe_int (fun _ _ => rfl)) (pe_op op_mul pe_int (pe_ix ix_list (pv 0) pe_int (fun _ _ => rfl)))) (pe_op op_mul pe_int (pe_ix ix_list (pv 0) pe_int (fun _ _ => rfl)))) pe_int) pe_int))
      (pss_cons (ps_set (i := 4) sc_Ltake.nd rfl (.inl rfl) (pe_op op_mod (pe_op op_pow (pv 4) pe_int) (pe_ix ix_list (pv 3) (pe_op op_mod (pe_ix ix_list (pv 0) pe_int (fun _ _ => rfl)) pe_int) (fun _ _ => rfl))))
      (pss_cons (ps_set (i := 5) sc_Ltake.nd rfl (.inl rfl) (pe_op op_mod (pe_op op_add (pe_op op_add (pv 4) (pe_op op_mul pe_int (pe_ix ix_list (pv 0) pe_int (fun _ _ => rfl)))) (pe_ix ix_list (pv 0) pe_int (fun _ _ => rfl))) pe_int))
      (pss_one (ps_ret (pe_op op_mod (pe_op op_add (pe_op op_mul (pe_op op_mod (pe_op op_pow (pv 5) pe_int) pe_int) pe_int) (pv 4)) (pv 1)))))))))), ?_⟩
    refine ⟨.ref p, rfl, p, _, 0, .int l, rfl, rfl, .inl (.inl hp), rfl, _, _, rfl, rfl, _, rfl, ite2 (fun e => ?_) (fun e => ?_)⟩
    · refine ⟨.ref p, rfl, p, _, 0, .int l, rfl, rfl, .inl (.inl hp), rfl, .int m, rfl, l, m, rfl, rfl, hm, ?_⟩
      refine ⟨.ref p, rfl, p, _, 0, .int l, rfl, rfl, .inl (.inl hp), rfl, .int m, rfl, l, m, rfl, rfl, wide_div (b := 200) hm (by omega) (by decide) (by decide), ?_⟩
      refine ⟨.ref p, rfl, p, _, 0, 0, rfl, rfl, hp, rfl, ?_⟩
      refine ⟨_, rfl, q _ _ (But.refl p H).upd ⟨l / m, c, k, n, Int.ediv_nonneg hl (by omega), ?_⟩ (Int.emod_nonneg l (by omega)) (Int.emod_lt_of_pos l hm)⟩
      exact upd_same
    · refine ⟨.ref p, rfl, p, _, 3, .int n, rfl, rfl, .inl (.inl hp), rfl, n, 1, rfl, rfl, .ref p, rfl, p, _, 3, 3, rfl, rfl, hp, rfl, ?_⟩
      refine ⟨by show 8 ≤ sizeLine; decide, fun o no => ?_⟩
      have hop : o ≠ p := fun z => by
        rw [z, upd_same] at no
        cases no
      have h3 : (upd (upd H p (.lst [.int l, .int c, .int k, .int (n + 1)])) o (.lst (primes.map V.int))) p = some (.lst [.int l, .int c, .int k, .int (n + 1)]) := by
        rw [upd_ne (Ne.symm hop), upd_same]
      have h4 : (upd (upd H p (.lst [.int l, .int c, .int k, .int (n + 1)])) o (.lst (primes.map V.int))) o = some (.lst (primes.map V.int)) := upd_same
      have bt : But p H (upd (upd H p (.lst [.int l, .int c, .int k, .int (n + 1)])) o (.lst (primes.map V.int))) := fun b u hb h => by
        have nb : b ≠ o := fun z => by
          have : (upd H p (.lst [.int l, .int c, .int k, .int (n + 1)])) b = some u := by
            rw [upd_ne hb]
            exact h
          rw [z] at this
          exact absurd (this.symm.trans no) (by intro z; cases z)
        rw [upd_ne nb, upd_ne hb]
        exact h
      have i8 : 0 ≤ (n + 1) % 8 := Int.emod_nonneg _ (by decide)
      have j8 : (n + 1) % 8 < 8 := Int.emod_lt_of_pos _ (by decide)
      obtain ⟨pr, hpr, pr0, pr1⟩ := primes_at i8 j8
      refine ⟨.ref p, rfl, p, _, 1, .int c, rfl, rfl, .inl (.inl h3), rfl, .ref p, rfl, p, _, 2, .int k, rfl, rfl, .inl (.inl h3), rfl, 7919, k, rfl, rfl, .inl ⟨by decide, by decide⟩, _, _, rfl, rfl, .ref p, rfl, p, _, 3, .int (n + 1), rfl, rfl, .inl (.inl h3), rfl, 104729, n + 1, rfl, rfl, .inl ⟨by decide, by decide⟩, _, _, rfl, rfl, _, _, rfl, rfl, _, _, rfl, rfl, (by show (0 : Int) < 2147483647; decide), ?_⟩
      refine ⟨_, rfl, _, _, rfl, rfl, pow_ok _, .ref o, rfl, .ref p, rfl, p, _, 3, .int (n + 1), rfl, rfl, .inl (.inl h3), rfl, _, _, rfl, rfl, (by show (0 : Int) < 8; decide), o, _, _, .int pr, rfl, rfl, .inl (.inl h4), hpr, _, _, rfl, rfl, pr0, ?_⟩
      refine ⟨_, rfl, .ref p, rfl, p, _, 2, .int k, rfl, rfl, .inl (.inl h3), rfl, 40692, k, rfl, rfl, .inl ⟨by decide, by decide⟩, _, _, rfl, rfl, .ref p, rfl, p, _, 3, .int (n + 1), rfl, rfl, .inl (.inl h3), rfl, _, _, rfl, rfl, _, _, rfl, rfl, (by show (0 : Int) < 2147483647; decide), ?_⟩
      refine ⟨_, rfl, _, _, rfl, rfl, pow_ok _, _, _, rfl, rfl, (by show (0 : Int) < 2147483647; decide), _, _, rfl, rfl, .inr ⟨by decide, by decide⟩, _, rfl, _, _, rfl, rfl, .int m, rfl, _, _, rfl, rfl, hm, ?_⟩
      exact q _ _ bt ⟨l, c, k, n + 1, hl, h3⟩ (Int.emod_nonneg _ (by omega)) (Int.emod_lt_of_pos _ hm)
/-! ### data alike -/
theorem sqt_same {K : PySem.W.Frag} {H H' : Hp} {a : Addr} {xs : List V} (e : Same H H') (h : SqT K H a xs) : SqT K H' a xs := Evl.ex_t (show Evl.Ex H H' from e) h
mutual
theorem dp_same {K : PySem.W.Frag} {H H' : Hp} (e : Same H H') : ∀ (d : PyData) (v : V), Dp K H v d → Dp K H' v d
  | .none, _, h => by cases h; exact .non
  | .bool b, _, h => by cases h; exact .bl b
  | .int i, _, h => by cases h; exact .int i
  | .str x, _, h => by cases h; exact .str x
  | .list ds, _, h => by
    cases h with
    | lst hs ha => exact .lst (e.seq hs) (dpa_same e ds _ ha)
  | .tuple ds, _, h => by
    cases h with
    | tup hs ha => exact .tup (sqt_same e hs) (dpa_same e ds _ ha)
  | .dict _, _, h => by cases h
theorem dpa_same {K : PySem.W.Frag} {H H' : Hp} (e : Same H H') : ∀ (ds : List PyData) (vs : List V), DpAll K H vs ds → DpAll K H' vs ds
  | [], _, h => by cases h; exact .nil
  | d :: ds, _, h => by
    cases h with
    | cons h1 h2 => exact .cons (dp_same e d _ h1) (dpa_same e ds _ h2)
end
theorem dpa_len {K : PySem.W.Frag} {H : Hp} : ∀ (ds : List PyData) (vs : List V), DpAll K H vs ds → vs.length = ds.length
  | [], _, h => by cases h; rfl
  | d :: ds, _, h => by
    cases h with
    | cons h1 h2 =>
      rw [List.length_cons, List.length_cons, dpa_len ds _ h2]
theorem dpa_at {K : PySem.W.Frag} {H : Hp} : ∀ (ds : List PyData) (vs : List V), DpAll K H vs ds → ∀ (i : Nat) (v : V), vs[i]? = some v → ∃ d, ds[i]? = some d ∧ Dp K H v d
  | [], _, h, i, v, e => by cases h; cases e
  | d :: ds, _, h, i, v, e => by
    cases h with
    | cons h1 h2 =>
      cases i with
      | zero =>
        cases e
        exact ⟨d, rfl, h1⟩
      | succ j => exact dpa_at ds _ h2 j v e
theorem ty_tup {K : PySem.W.Frag} {H : Hp} {a : Addr} {xs : List V} (h : SqT K H a xs) : TyX K H (.ref a) (.type "tuple") := by
  rcases h with (h | ⟨o, h⟩) | ⟨o, its, n, lk, hc, _⟩
  · exact .base (.tup h)
  · exact .fTuple h
  · exact .kTuple lk hc
/-- none, truths, whole numbers, texts, and tuples of these, at most n deep -/
def okD : Nat → PyData → Bool
  | _, .none => true
  | _, .bool _ => true
  | _, .int _ => true
  | _, .str _ => true
  | n + 1, .tuple ds => decide (ds.length ≤ 1000) && ds.all fun d => okD n d
  | _, _ => false
theorem walk_zipT {K : PySem.W.Frag} {a b : Addr} {xs ys : List V} {n : Nat} (hn : n = min xs.length ys.length) : Walk (RZ.ItzT K a b) n (fun H => SqT K H a xs ∧ SqT K H b ys) (YPair (fun i => xs[i]?) (fun i => ys[i]?)) where
  goes := fun i H lt ⟨p, q⟩ => ⟨xs, ys, _, _, p, q, List.getElem?_eq_getElem (by omega), List.getElem?_eq_getElem (by omega)⟩
  stops := fun H ⟨p, q⟩ => ⟨xs, ys, p, q, by omega⟩
  yields := fun i H v H' _ ⟨p, q⟩ ⟨T, x, y, e1, e2, e3, e4, e5⟩ => ⟨T, x, y, e1, e2, e3, e4 xs p, e5 ys q⟩
theorem all_true : ∀ n : Nat, (List.replicate n true).all id = true
  | 0 => rfl
  | n + 1 => by rw [List.replicate_succ, List.all_cons, all_true n]; rfl
def spWhole : Sp := fun vs H Q _ => ∃ i : Int, vs = [.int i] ∧ Q (.bl true) H
theorem ok_Lwhole (T : Top w K mg) : FnOk P w K mg base CX0 1 T.a_Lwhole T.fd_Lwhole ["_law_thing"] spWhole := by
  refine T.F_Lwhole.ok sc_Lwhole (fun vs H Q E h => ?_) (fun cdv A outer s H vs Q E hr h => ?_)
  · obtain ⟨i, rfl, _⟩ := h
    rfl
  · obtain ⟨i, rfl, q⟩ := h
    refine ⟨_, (pss_one (ps_ret (pe_and (pe_callB call_isi (by rfl) T.m_isinstance (by decide +kernel) (pa_cons (pv 0) (pa_cons (pe_bltn (v := .ty "int") (by rfl) T.m_int (by decide +kernel) rfl) pa_nil))) (pe_one (pe_not (pe_callB call_isi (by rfl) T.m_isinstance (by decide +kernel) (pa_cons (pv 0) (pa_cons (pe_bltn (v := .ty "bool") (by rfl) T.m_bool (by decide +kernel) rfl) pa_nil)))))))), ?_⟩
    refine ⟨.int i, rfl, _, _, _, _, true, rfl, .ty _, .base (.int i), kit_ty (by decide +kernel), _, rfl, iteT ?_⟩
    exact ⟨.int i, rfl, _, _, _, _, false, rfl, .ty _, .base (.int i), kit_ty (by decide +kernel), _, rfl, q⟩
def spSame (K : PySem.W.Frag) (n : Nat) : Sp := fun vs H Q _ => ∃ (x y : V) (d : PyData), vs = [x, y] ∧ Dp K H x d ∧ Dp K H y d ∧ okD n d = true ∧ ∀ H', Same H H' → Q (.bl true) H'
theorem ok_Lsame0 (T : Top w K mg) : FnOk P w K mg base CX0 2 T.a_Lsame T.fd_Lsame ["_law_found", "_law_due"] (spSame K 0) := by
  have G_Lwhole := ok_Lwhole (P := P) (w := w) (base := base) T
  refine T.F_Lsame.ok sc_Lsame (fun vs H Q E h => ?_) (fun cdv A outer s H vs Q E hr h => ?_)
  · obtain ⟨x, y, d, rfl, _⟩ := h
    rfl
  · obtain ⟨x, y, d, rfl, hx, hy, ok, q⟩ := h
    refine ⟨_, (pss_cons (ps_if (pt_val (pe_callB call_isi (by rfl) T.m_isinstance (by decide +kernel) (pa_cons (pv 1) (pa_cons (pe_bltn (v := .ty "tuple") (by rfl) T.m_tuple (by decide +kernel) rfl) pa_nil)))) pss_never pss_nil)
      (pss_cons (ps_if (pt_cmpR op_isN (pv 1) pe_non (nomark _)) (pss_one (ps_ret (pe_cmpR op_isN (pv 0) pe_non (nomark _)))) pss_nil)
      (pss_cons (ps_if (pt_val (pe_callB call_isi (by rfl) T.m_isinstance (by decide +kernel) (pa_cons (pv 1) (pa_cons (pe_bltn (v := .ty "bool") (by rfl) T.m_bool (by decide +kernel) rfl) pa_nil)))) (pss_one (ps_ret (pe_and (pe_callB call_isi (by rfl) T.m_isinstance (by decide +kernel) (pa_cons (pv 0) (pa_cons (pe_bltn (v := .ty "bool") (by rfl) T.m_bool (by decide +kernel) rfl) pa_nil))) (pe_one (pe_cmpR op_eq (pv 0) (pv 1) (nomark _)))))) pss_nil)
      (pss_cons (ps_if (pt_val (pe_callB call_isi (by rfl) T.m_isinstance (by decide +kernel) (pa_cons (pv 1) (pa_cons (pe_bltn (v := .ty "str") (by rfl) T.m_str (by decide +kernel) rfl) pa_nil)))) (pss_one (ps_ret (pe_and (pe_callB call_isi (by rfl) T.m_isinstance (by decide +kernel) (pa_cons (pv 0) (pa_cons (pe_bltn (v := .ty "str") (by rfl) T.m_str (by decide +kernel) rfl) pa_nil))) (pe_one (pe_cmpR op_eq (pv 0) (pv 1) (nomark _)))))) pss_nil)
      (pss_one (ps_ret (pe_and (pe_call G_Lwhole (hr.mono (by omega)) (by rfl) T.g_Lwhole T.F_Lwhole.kp T.b_Lwhole .nil pass0 (pa_cons (pv 0) pa_nil)) (pe_one (pe_cmpR op_eq (pv 0) (pv 1) (nomark _)))))))))), ?_⟩
    have Q0 := q H (Same.refl H)
    cases d with
    | none =>
      cases hx
      cases hy
      exact ⟨.non, rfl, _, _, _, _, false, rfl, .ty _, .base .non, kit_ty (by decide +kernel), _, rfl, iteF ⟨.non, rfl, rfl, _, rfl, iteT ⟨.non, rfl, rfl, Q0⟩⟩⟩
    | bool b =>
      cases hx
      cases hy
      refine ⟨.bl b, rfl, _, _, _, _, false, rfl, .ty _, .base (.bl b), kit_ty (by decide +kernel), _, rfl, iteF ⟨.bl b, rfl, rfl, _, rfl, iteF ?_⟩⟩
      refine ⟨.bl b, rfl, _, _, _, _, true, rfl, .ty _, .base (.bl b), kit_ty (by decide +kernel), _, rfl, iteT ?_⟩
      refine ⟨.bl b, rfl, _, _, _, _, true, rfl, .ty _, .base (.bl b), kit_ty (by decide +kernel), _, rfl, iteT ⟨.bl b, rfl, .bl b, rfl, rfl, ?_⟩⟩
      rw [decide_eq_true rfl]
      exact Q0
    | int i =>
      cases hx
      cases hy
      refine ⟨.int i, rfl, _, _, _, _, false, rfl, .ty _, .base (.int i), kit_ty (by decide +kernel), _, rfl, iteF ⟨.int i, rfl, rfl, _, rfl, iteF ?_⟩⟩
      refine ⟨.int i, rfl, _, _, _, _, false, rfl, .ty _, .base (.int i), kit_ty (by decide +kernel), _, rfl, iteF ?_⟩
      refine ⟨.int i, rfl, _, _, _, _, false, rfl, .ty _, .base (.int i), kit_ty (by decide +kernel), _, rfl, iteF ?_⟩
      refine ⟨.int i, rfl, i, rfl, _, rfl, iteT ⟨.int i, rfl, .int i, rfl, rfl, ?_⟩⟩
      rw [decide_eq_true rfl]
      exact Q0
    | str z =>
      cases hx
      cases hy
      refine ⟨.str z, rfl, _, _, _, _, false, rfl, .ty _, .base (.str z), kit_ty (by decide +kernel), _, rfl, iteF ⟨.str z, rfl, rfl, _, rfl, iteF ?_⟩⟩
      refine ⟨.str z, rfl, _, _, _, _, false, rfl, .ty _, .base (.str z), kit_ty (by decide +kernel), _, rfl, iteF ?_⟩
      refine ⟨.str z, rfl, _, _, _, _, true, rfl, .ty _, .base (.str z), kit_ty (by decide +kernel), _, rfl, iteT ?_⟩
      refine ⟨.str z, rfl, _, _, _, _, true, rfl, .ty _, .base (.str z), kit_ty (by decide +kernel), _, rfl, iteT ⟨.str z, rfl, .str z, rfl, rfl, ?_⟩⟩
      rw [decide_eq_true rfl]
      exact Q0
    | list ds => cases ok
    | tuple ds => cases ok
    | dict ds => cases ok
theorem ok_LsameS (T : Top w K mg) {n : Nat} (G_Lsame : FnOk P w K mg base CX0 (n + 2) T.a_Lsame T.fd_Lsame ["_law_found", "_law_due"] (spSame K n)) : FnOk P w K mg base CX0 (n + 3) T.a_Lsame T.fd_Lsame ["_law_found", "_law_due"] (spSame K (n + 1)) := by
  have G_Lwhole := ok_Lwhole (P := P) (w := w) (base := base) T
  refine T.F_Lsame.ok sc_Lsame (fun vs H Q E h => ?_) (fun cdv A outer s H vs Q E hr h => ?_)
  · obtain ⟨x, y, d, rfl, _⟩ := h
    rfl
  · obtain ⟨x, y, d, rfl, hx, hy, ok, q⟩ := h
    refine ⟨_, (pss_cons (ps_if (pt_val (pe_callB call_isi (by rfl) T.m_isinstance (by decide +kernel) (pa_cons (pv 1) (pa_cons (pe_bltn (v := .ty "tuple") (by rfl) T.m_tuple (by decide +kernel) rfl) pa_nil)))) (pss_cons (ps_if (PW.pt (pw_or (pt_not (pt_val (pe_callB call_isi (by rfl) T.m_isinstance (by decide +kernel) (pa_cons (pv 0) (pa_cons (pe_bltn (v := .ty "tuple") (by rfl) T.m_tuple (by decide +kernel) rfl) pa_nil))))) (pw_or1 (pt_cmpR op_ne (pe_callB call_len_seq (by rfl) T.m_len (by decide +kernel) (pa_cons (pv 0) pa_nil)) (pe_callB call_len_seq (by rfl) T.m_len (by decide +kernel) (pa_cons (pv 1) pa_nil)) (nomark _))))) (pss_one (ps_ret pe_bl)) pss_nil)
      (pss_one (ps_ret (pe_callB (cr_all rfl) (by rfl) T.m_all (by decide +kernel) (pa_cons (pe_lc (own := [("_law_one", 2), ("_law_other", 3)]) (g := gTup K 2 (gCons (gName 2) (gCons (gName 3) gNil))) (by rfl) sc_Lsame.nd (RZ.pi_zipA (by rfl) T.m_zip (pa_cons (pv 0) (pa_cons (pv 1) pa_nil))) (blkOk_by (own := [("_law_one", 2), ("_law_other", 3)]) (N := ["_law_found", "_law_due", "_law_one", "_law_other"]) (sc := defScope s_Lsame) (by decide +kernel)) (fun _ _ _ _ _ => (pg_tup rfl (pgs_cons (pg_name (i := 2) sc_Lsame.nd rfl (Or.inl rfl)) (pgs_cons (pg_name (i := 3) sc_Lsame.nd rfl (Or.inl rfl)) pgs_nil)))) (fun _ _ _ _ _ => pts_nil) (fun _ _ _ _ _ => (pe_call G_Lsame hr (by rfl) T.g_Lsame T.F_Lsame.kp T.b_Lsame .nil pass0 (pa_cons (pv 2) (pa_cons (pv 3) pa_nil))))) pa_nil))))) pss_nil)
      (pss_cons (ps_if (pt_cmpR op_isN (pv 1) pe_non (nomark _)) (pss_one (ps_ret (pe_cmpR op_isN (pv 0) pe_non (nomark _)))) pss_nil)
      (pss_cons (ps_if (pt_val (pe_callB call_isi (by rfl) T.m_isinstance (by decide +kernel) (pa_cons (pv 1) (pa_cons (pe_bltn (v := .ty "bool") (by rfl) T.m_bool (by decide +kernel) rfl) pa_nil)))) (pss_one (ps_ret (pe_and (pe_callB call_isi (by rfl) T.m_isinstance (by decide +kernel) (pa_cons (pv 0) (pa_cons (pe_bltn (v := .ty "bool") (by rfl) T.m_bool (by decide +kernel) rfl) pa_nil))) (pe_one (pe_cmpR op_eq (pv 0) (pv 1) (nomark _)))))) pss_nil)
      (pss_cons (ps_if (pt_val (pe_callB call_isi (by rfl) T.m_isinstance (by decide +kernel) (pa_cons (pv 1) (pa_cons (pe_bltn (v := .ty "str") (by rfl) T.m_str (by decide +kernel) rfl) pa_nil)))) (pss_one (ps_ret (pe_and (pe_callB call_isi (by rfl) T.m_isinstance (by decide +kernel) (pa_cons (pv 0) (pa_cons (pe_bltn (v := .ty "str") (by rfl) T.m_str (by decide +kernel) rfl) pa_nil))) (pe_one (pe_cmpR op_eq (pv 0) (pv 1) (nomark _)))))) pss_nil)
      (pss_one (ps_ret (pe_and (pe_call G_Lwhole (hr.mono (by omega)) (by rfl) T.g_Lwhole T.F_Lwhole.kp T.b_Lwhole .nil pass0 (pa_cons (pv 0) pa_nil)) (pe_one (pe_cmpR op_eq (pv 0) (pv 1) (nomark _)))))))))), ?_⟩
    have Q0 := q H (Same.refl H)
    cases d with
    | none =>
      cases hx
      cases hy
      exact ⟨.non, rfl, _, _, _, _, false, rfl, .ty _, .base .non, kit_ty (by decide +kernel), _, rfl, iteF ⟨.non, rfl, rfl, _, rfl, iteT ⟨.non, rfl, rfl, Q0⟩⟩⟩
    | bool b =>
      cases hx
      cases hy
      refine ⟨.bl b, rfl, _, _, _, _, false, rfl, .ty _, .base (.bl b), kit_ty (by decide +kernel), _, rfl, iteF ⟨.bl b, rfl, rfl, _, rfl, iteF ?_⟩⟩
      refine ⟨.bl b, rfl, _, _, _, _, true, rfl, .ty _, .base (.bl b), kit_ty (by decide +kernel), _, rfl, iteT ?_⟩
      refine ⟨.bl b, rfl, _, _, _, _, true, rfl, .ty _, .base (.bl b), kit_ty (by decide +kernel), _, rfl, iteT ⟨.bl b, rfl, .bl b, rfl, rfl, ?_⟩⟩
      rw [decide_eq_true rfl]
      exact Q0
    | int i =>
      cases hx
      cases hy
      refine ⟨.int i, rfl, _, _, _, _, false, rfl, .ty _, .base (.int i), kit_ty (by decide +kernel), _, rfl, iteF ⟨.int i, rfl, rfl, _, rfl, iteF ?_⟩⟩
      refine ⟨.int i, rfl, _, _, _, _, false, rfl, .ty _, .base (.int i), kit_ty (by decide +kernel), _, rfl, iteF ?_⟩
      refine ⟨.int i, rfl, _, _, _, _, false, rfl, .ty _, .base (.int i), kit_ty (by decide +kernel), _, rfl, iteF ?_⟩
      refine ⟨.int i, rfl, i, rfl, _, rfl, iteT ⟨.int i, rfl, .int i, rfl, rfl, ?_⟩⟩
      rw [decide_eq_true rfl]
      exact Q0
    | str z =>
      cases hx
      cases hy
      refine ⟨.str z, rfl, _, _, _, _, false, rfl, .ty _, .base (.str z), kit_ty (by decide +kernel), _, rfl, iteF ⟨.str z, rfl, rfl, _, rfl, iteF ?_⟩⟩
      refine ⟨.str z, rfl, _, _, _, _, false, rfl, .ty _, .base (.str z), kit_ty (by decide +kernel), _, rfl, iteF ?_⟩
      refine ⟨.str z, rfl, _, _, _, _, true, rfl, .ty _, .base (.str z), kit_ty (by decide +kernel), _, rfl, iteT ?_⟩
      refine ⟨.str z, rfl, _, _, _, _, true, rfl, .ty _, .base (.str z), kit_ty (by decide +kernel), _, rfl, iteT ⟨.str z, rfl, .str z, rfl, rfl, ?_⟩⟩
      rw [decide_eq_true rfl]
      exact Q0
    | list ds => cases ok
    | dict ds => cases ok
    | tuple ds =>
      cases hx with
      | @tup a xs _ sx ax =>
        cases hy with
        | @tup b ys _ sy ay =>
          have lx := dpa_len ds xs ax
          have ly := dpa_len ds ys ay
          obtain ⟨okL, okA⟩ := Bool.and_eq_true_iff.mp (show (decide (ds.length ≤ 1000) && ds.all fun d => okD n d) = true from ok)
          have okl : ds.length ≤ 1000 := of_decide_eq_true okL
          refine ⟨.ref b, rfl, _, _, _, _, true, rfl, .ty _, ty_tup sy, kit_ty (by decide +kernel), _, rfl, iteT ?_⟩
          refine ⟨.ref a, rfl, _, _, _, _, true, rfl, .ty _, ty_tup sx, kit_ty (by decide +kernel), _, rfl, iteF ?_⟩
          refine ⟨.ref a, rfl, a, xs, rfl, .inr sx, .ref b, rfl, b, ys, rfl, .inr sy, rfl, _, rfl, iteN (by rw [lx, ly]) ?_⟩
          refine ⟨.ref a, rfl, .ref b, rfl, a, b, xs, ys, rfl, .inr ⟨sx, sy, fun D hD => lc_it (walk_zipT (xs := xs) (ys := ys) (n := ds.length) (by omega)) (fun i H' => Same H H' ∧ H' D = some (.lst ((List.replicate i true).map V.bl))) ⟨same_upd hD, upd_same⟩ (fun i H' _ h => ⟨sqt_same h.1 sx, sqt_same h.1 sy⟩) ?_ ?_⟩⟩
          · rintro i v H1 H2 hi ⟨sm, eD⟩ ⟨t, u1, u2, rfl, nt, rfl, e1, e2⟩
            have st : Same H1 (upd H1 t (.tup [u1, u2])) := same_upd nt
            obtain ⟨d1, f1, g1⟩ := dpa_at ds xs ax i u1 e1
            obtain ⟨d2, f2, g2⟩ := dpa_at ds ys ay i u2 e2
            have ed : d2 = d1 := Option.some.inj (f2.symm.trans f1)
            subst ed
            have okd : okD n d2 = true := List.all_eq_true.mp okA d2 (List.mem_of_getElem? f1)
            refine ⟨t, [u1, u2], rfl, .inl (.inl upd_same), rfl, u1, [u2], rfl, u2, [], rfl, rfl, rfl, ?_⟩
            refine ⟨u1, rfl, u2, rfl, u1, u2, d2, rfl, dp_same (sm.trans st) d2 u1 g1, dp_same (sm.trans st) d2 u2 g2, okd, fun H3 s3 => ?_⟩
            refine ⟨_, s3 _ _ (st _ _ eD), ?_, ?_, ?_⟩
            · rw [List.length_map, List.length_replicate]
              exact small1000 (by omega)
            · exact fun b' o e => by
                rw [upd_ne (ne_of_none e hD)]
                exact s3 _ _ (st _ _ (sm _ _ e))
            · rw [upd_same, List.replicate_succ', List.map_append]
              rfl
          · rintro H1 ⟨sm, eD⟩
            refine ⟨_, List.replicate ds.length true, rfl, .inl (.inl eD), ?_⟩
            rw [all_true]
            exact q _ sm
theorem ok_Lsame (T : Top w K mg) : ∀ n : Nat, FnOk P w K mg base CX0 (n + 2) T.a_Lsame T.fd_Lsame ["_law_found", "_law_due"] (spSame K n)
  | 0 => ok_Lsame0 T
  | n + 1 => ok_LsameS T (ok_Lsame T n)
/-! ### data, whatever else stands in the heap -/
def isSeq : HO → Bool
  | .lst _ => true
  | .tup _ => true
  | .frz _ _ => true
  | _ => false
/-- all lists and tuples as they were -/
def Seqs (H H' : Hp) : Prop := ∀ b o, isSeq o = true → H b = some o → H' b = some o
theorem Seqs.of {H H' : Hp} (e : Same H H') : Seqs H H' := fun b o _ h => e b o h
theorem Seqs.trans {H H1 H2 : Hp} (a : Seqs H H1) (b : Seqs H1 H2) : Seqs H H2 := fun c o z h => b c o z (a c o z h)
theorem Seqs.upd {H : Hp} {a : Addr} {o u : HO} (e : H a = some u) (n : isSeq u = false) : Seqs H (L2.upd H a o) := fun b v z h => by
  rw [upd_ne (fun y => by rw [y, e] at h; cases h; rw [n] at z; cases z)]
  exact h
theorem Seqs.new {H : Hp} {a : Addr} {o : HO} (e : H a = none) : Seqs H (L2.upd H a o) := Seqs.of (same_upd e)
theorem seqs_l {K : PySem.W.Frag} {H H' : Hp} {a : Addr} {xs : List V} (e : Seqs H H') (h : SqL K H a xs) : SqL K H' a xs := by
  rcases h with (h | ⟨o, h⟩) | h
  · exact .inl (.inl (e _ _ rfl h))
  · exact .inl (.inr ⟨o, e _ _ rfl h⟩)
  · exact .inr h
theorem seqs_t {K : PySem.W.Frag} {H H' : Hp} {a : Addr} {xs : List V} (e : Seqs H H') (h : SqT K H a xs) : SqT K H' a xs := by
  rcases h with (h | ⟨o, h⟩) | h
  · exact .inl (.inl (e _ _ rfl h))
  · exact .inl (.inr ⟨o, e _ _ rfl h⟩)
  · exact .inr h
mutual
theorem dp_seqs {K : PySem.W.Frag} {H H' : Hp} (e : Seqs H H') : ∀ (d : PyData) (v : V), Dp K H v d → Dp K H' v d
  | .none, _, h => by cases h; exact .non
  | .bool b, _, h => by cases h; exact .bl b
  | .int i, _, h => by cases h; exact .int i
  | .str x, _, h => by cases h; exact .str x
  | .list ds, _, h => by
    cases h with
    | lst hs ha => exact .lst (seqs_l e hs) (dpa_seqs e ds _ ha)
  | .tuple ds, _, h => by
    cases h with
    | tup hs ha => exact .tup (seqs_t e hs) (dpa_seqs e ds _ ha)
  | .dict _, _, h => by cases h
theorem dpa_seqs {K : PySem.W.Frag} {H H' : Hp} (e : Seqs H H') : ∀ (ds : List PyData) (vs : List V), DpAll K H vs ds → DpAll K H' vs ds
  | [], _, h => by cases h; exact .nil
  | d :: ds, _, h => by
    cases h with
    | cons h1 h2 => exact .cons (dp_seqs e d _ h1) (dpa_seqs e ds _ h2)
end
theorem dpa_snoc {K : PySem.W.Frag} {H : Hp} {v : V} {d : PyData} (h : Dp K H v d) : ∀ (ds : List PyData) (vs : List V), DpAll K H vs ds → DpAll K H (vs ++ [v]) (ds ++ [d])
  | [], _, a => by cases a; exact .cons h .nil
  | x :: ds, _, a => by
    cases a with
    | cons h1 h2 => exact .cons h1 (dpa_snoc h ds _ h2)
/-- the heap without the places of X -/
noncomputable def wo (H : Hp) (X : Addr → Prop) : Hp := fun b => by
  classical
  exact if X b then none else H b
theorem wo_in {H : Hp} {X : Addr → Prop} {b : Addr} (h : ¬ X b) : wo H X b = H b := by
  unfold wo
  exact if_neg h
theorem wo_some {H : Hp} {X : Addr → Prop} {b : Addr} {o : HO} (h : wo H X b = some o) : ¬ X b ∧ H b = some o := by
  unfold wo at h
  by_cases hx : X b
  · rw [if_pos hx] at h
    cases h
  · rw [if_neg hx] at h
    exact ⟨hx, h⟩
theorem wo_same {H : Hp} {X : Addr → Prop} : Same (wo H X) H := fun b o h => (wo_some h).2
theorem wo_none {H : Hp} : wo H (fun _ => False) = H := by
  funext b
  exact wo_in (fun h => h)
/-! ### kinds of things -/
theorem ty_lst {K : PySem.W.Frag} {H : Hp} {a : Addr} {xs : List V} (h : SqL K H a xs) : TyX K H (.ref a) (.type "list") := by
  rcases h with (h | ⟨o, h⟩) | ⟨o, its, n, lk, hc, _⟩
  · exact .base (.lst h)
  · exact .base (.frz h)
  · exact .kList lk hc
theorem kit_any2 {K : PySem.W.Frag} {t a b : String} {x y : Bool} (h1 : kitB t a = some x) (h2 : kitB t b = some y) : PySem.W.kitAny K (.type t) [.type a, .type b] = some (x || y) := by
  unfold PySem.W.kitAny
  rw [kit_ty h1]
  cases x with
  | true => rfl
  | false =>
    unfold PySem.W.kitAny
    rw [kit_ty h2]
    cases y <;> rfl
/-- the type's name -/
def tyD : PyData → String
  | .none => "NoneType"
  | .bool _ => "bool"
  | .int _ => "int"
  | .str _ => "str"
  | .list _ => "list"
  | .tuple _ => "tuple"
  | .dict _ => "dict"
theorem ty_dp {K : PySem.W.Frag} {H : Hp} {v : V} {d : PyData} (h : Dp K H v d) : TyX K H v (.type (tyD d)) := by
  cases h with
  | non => exact .base .non
  | bl b => exact .base (.bl b)
  | int i => exact .base (.int i)
  | str z => exact .base (.str z)
  | lst h _ => exact ty_lst h
  | tup h _ => exact ty_tup h
def seqD : PyData → Option (List PyData)
  | .list ds => some ds
  | .tuple ds => some ds
  | _ => none
def strD : PyData → Bool
  | .str _ => true
  | _ => false
theorem kit_seq (d : PyData) : ∃ x y, kitB (tyD d) "tuple" = some x ∧ kitB (tyD d) "list" = some y ∧ (x || y) = (seqD d).isSome := by
  cases d with
  | list ds => exact ⟨false, true, by show kitB "list" "tuple" = some false; decide +kernel, by show kitB "list" "list" = some true; decide +kernel, rfl⟩
  | tuple ds => exact ⟨true, false, by show kitB "tuple" "tuple" = some true; decide +kernel, by show kitB "tuple" "list" = some false; decide +kernel, rfl⟩
  | none => exact ⟨false, false, by show kitB "NoneType" "tuple" = some false; decide +kernel, by show kitB "NoneType" "list" = some false; decide +kernel, rfl⟩
  | bool b => exact ⟨false, false, by show kitB "bool" "tuple" = some false; decide +kernel, by show kitB "bool" "list" = some false; decide +kernel, rfl⟩
  | int i => exact ⟨false, false, by show kitB "int" "tuple" = some false; decide +kernel, by show kitB "int" "list" = some false; decide +kernel, rfl⟩
  | str z => exact ⟨false, false, by show kitB "str" "tuple" = some false; decide +kernel, by show kitB "str" "list" = some false; decide +kernel, rfl⟩
  | dict z => exact ⟨false, false, by show kitB "dict" "tuple" = some false; decide +kernel, by show kitB "dict" "list" = some false; decide +kernel, rfl⟩
theorem kit_str (d : PyData) : kitB (tyD d) "str" = some (strD d) := by
  cases d with
  | list ds => show kitB "list" "str" = some false; decide +kernel
  | tuple ds => show kitB "tuple" "str" = some false; decide +kernel
  | none => show kitB "NoneType" "str" = some false; decide +kernel
  | bool b => show kitB "bool" "str" = some false; decide +kernel
  | int i => show kitB "int" "str" = some false; decide +kernel
  | str z => show kitB "str" "str" = some true; decide +kernel
  | dict z => show kitB "dict" "str" = some false; decide +kernel
def SqA (K : PySem.W.Frag) (H : Hp) (a : Addr) (xs : List V) : Prop := SqL K H a xs ∨ SqT K H a xs
theorem SqA.same {K : PySem.W.Frag} {H H' : Hp} {a : Addr} {xs : List V} (e : Same H H') (h : SqA K H a xs) : SqA K H' a xs := h.elim (fun h => .inl (e.seq h)) (fun h => .inr (sqt_same e h))
theorem seq_dp {K : PySem.W.Frag} {H : Hp} {v : V} {d : PyData} {ds : List PyData} (h : Dp K H v d) (e : seqD d = some ds) : ∃ a xs, v = .ref a ∧ SqA K H a xs ∧ DpAll K H xs ds := by
  cases h with
  | lst h a => cases e; exact ⟨_, _, rfl, .inl h, a⟩
  | tup h a => cases e; exact ⟨_, _, rfl, .inr h, a⟩
  | _ => cases e
theorem ixA {K : PySem.W.Frag} {H : Hp} {a : Addr} {xs : List V} {j : Nat} {v : V} {Q : VK} (h : SqA K H a xs) (hj : xs[j]? = some v) (q : Q v H) : rIx K (.ref a) (.int (j : Int)) H Q :=
  h.elim (fun h => .inl ⟨a, xs, j, v, rfl, rfl, h, atI_nat hj, q⟩) (fun h => .inr (.inl ⟨a, xs, j, v, rfl, rfl, h, atI_nat hj, q⟩))
theorem kpA {K : PySem.W.Frag} {H : Hp} {a : Addr} {xs : List V} (h : SqA K H a xs) : (∀ H', Same H H' → SqL K H' a xs) ∨ (∀ H', Same H H' → SqT K H' a xs) := h.elim (fun h => .inl fun _ s => s.seq h) (fun h => .inr fun _ s => sqt_same s h)
/-! ### what is kept: things laid out, then made anew from the end on -/
mutual
def siz : PyData → Nat
  | .list ds => 1 + sizs ds
  | .tuple ds => 1 + sizs ds
  | _ => 1
def sizs : List PyData → Nat
  | [] => 0
  | d :: ds => siz d + sizs ds
end
theorem siz_pos : ∀ d : PyData, 1 ≤ siz d
  | .list ds => by unfold siz; omega
  | .tuple ds => by unfold siz; omega
  | .none => by unfold siz; omega
  | .bool _ => by unfold siz; omega
  | .int _ => by unfold siz; omega
  | .str _ => by unfold siz; omega
  | .dict _ => by unfold siz; omega
theorem sizs_len : ∀ ds : List PyData, ds.length ≤ sizs ds
  | [] => by unfold sizs; exact Nat.le_refl _
  | d :: ds => by
    have := siz_pos d
    have := sizs_len ds
    unfold sizs
    rw [List.length_cons]
    omega
theorem sizs_app : ∀ (a b : List PyData), sizs (a ++ b) = sizs a + sizs b
  | [], b => by
    show sizs b = sizs [] + sizs b
    have : sizs [] = 0 := by unfold sizs; rfl
    omega
  | d :: a, b => by
    have := sizs_app a b
    show sizs (d :: (a ++ b)) = sizs (d :: a) + sizs b
    have e1 : sizs (d :: (a ++ b)) = siz d + sizs (a ++ b) := by rw [sizs]
    have e2 : sizs (d :: a) = siz d + sizs a := by rw [sizs]
    omega
theorem siz_seq {d : PyData} {cs : List PyData} (h : seqD d = some cs) : siz d = 1 + sizs cs := by
  cases d with
  | list ds => cases h; rw [siz]
  | tuple ds => cases h; rw [siz]
  | _ => cases h
theorem siz_flat {d : PyData} (h : seqD d = none) : siz d = 1 := by
  cases d with
  | list ds => cases h
  | tuple ds => cases h
  | _ => simp [siz]
theorem siz_int (i : Int) : siz (.int i) ≤ 1000 := by simp [siz]
theorem siz_str (z : Str) : siz (.str z) ≤ 1000 := by simp [siz]
theorem dpa_app {K : PySem.W.Frag} {H : Hp} : ∀ (ds es : List PyData) (xs ys : List V), DpAll K H xs ds → DpAll K H ys es → DpAll K H (xs ++ ys) (ds ++ es)
  | [], _, _, _, h, g => by cases h; exact g
  | d :: ds, es, _, ys, h, g => by
    cases h with
    | cons h1 h2 => exact .cons h1 (dpa_app ds es _ ys h2 g)
theorem dpa_dropK {K : PySem.W.Frag} {H : Hp} : ∀ (n : Nat) (ds : List PyData) (xs : List V), DpAll K H xs ds → DpAll K H (xs.drop n) (ds.drop n)
  | 0, _, _, h => h
  | n + 1, [], _, h => by cases h; exact .nil
  | n + 1, d :: ds, _, h => by
    cases h with
    | cons h1 h2 => exact dpa_dropK n ds _ h2
theorem dpa_takeK {K : PySem.W.Frag} {H : Hp} : ∀ (n : Nat) (ds : List PyData) (xs : List V), DpAll K H xs ds → DpAll K H (xs.take n) (ds.take n)
  | 0, _, _, _ => .nil
  | n + 1, [], _, h => by cases h; exact .nil
  | n + 1, d :: ds, _, h => by
    cases h with
    | cons h1 h2 => exact .cons h1 (dpa_takeK n ds _ h2)
theorem dpa_setK {K : PySem.W.Frag} {H : Hp} {v : V} {d : PyData} (hv : Dp K H v d) : ∀ (n : Nat) (ds : List PyData) (xs : List V), DpAll K H xs ds → ds[n]? = some d → DpAll K H (xs.set n v) ds
  | _, [], _, h, e => by cases e
  | 0, d' :: ds, _, h, e => by
    cases e
    cases h with
    | cons h1 h2 => exact .cons hv h2
  | n + 1, d' :: ds, _, h, e => by
    cases h with
    | cons h1 h2 => exact .cons h1 (dpa_setK hv n ds _ h2 e)
/-- where the parts of each of the first ones begin -/
def LaidTo (i : Nat) (ds : List PyData) (bs : List Int) : Prop := ∀ (j : Nat) (d : PyData) (cs : List PyData), j < i → ds[j]? = some d → seqD d = some cs → ∃ b : Nat, bs[j]? = some (b : Int) ∧ (ds.drop b).take cs.length = cs
theorem laid_more {i : Nat} {ds : List PyData} {bs : List Int} (hi : i ≤ ds.length) (h : LaidTo i ds bs) (es : List PyData) : LaidTo i (ds ++ es) bs := fun j d cs hj hd hs => by
  have l : j < ds.length := by omega
  · rw [List.getElem?_append_left l] at hd
    obtain ⟨b, h1, h2⟩ := h j d cs hj hd hs
    refine ⟨b, h1, ?_⟩
    have hl : cs.length ≤ (ds.drop b).length := by
      have := congrArg List.length h2
      rw [List.length_take] at this
      omega
    by_cases hb : b ≤ ds.length
    · rw [List.drop_append_of_le_length hb, List.take_append_of_le_length hl]
      exact h2
    · have h0 : (ds.drop b).length = 0 := by rw [List.length_drop]; omega
      have : cs = [] := List.eq_nil_of_length_eq_zero (by omega)
      rw [this]
      rfl
def spRowD (K : PySem.W.Frag) : Sp := fun vs H Q _ => ∃ (v : V) (d : PyData), vs = [v] ∧ Dp K H v d ∧ ∀ H', Same H H' → Q (.bl (seqD d).isSome) H'
theorem ok_is_row (T : Top w K mg) : FnOk P w K mg base CX0 1 T.a_is_row T.fd_is_row ["thing"] (spRowD K) := by
  refine T.F_is_row.ok sc_is_row (fun vs H Q E h => ?_) (fun cdv A outer s H vs Q E hr h => ?_)
  · obtain ⟨v, d, rfl, _⟩ := h
    rfl
  · obtain ⟨v, d, rfl, hd, q⟩ := h
    refine ⟨_, (pss_one (ps_ret (pe_callB call_isiT (by rfl) T.m_isinstance (by decide +kernel) (pa_cons (pv 0) (pa_cons (pe_tup (pa_cons (pe_bltn (v := .ty "tuple") (by rfl) T.m_tuple (by decide +kernel) rfl) (pa_cons (pe_bltn (v := .ty "list") (by rfl) T.m_list (by decide +kernel) rfl) pa_nil))) pa_nil))))), ?_⟩
    obtain ⟨x, y, k1, k2, exy⟩ := kit_seq d
    refine ⟨v, rfl, by show 2 ≤ sizeLine; decide, fun tp np => ⟨v, tp, _, _, _, _, rfl, upd_same, .cons (.ty _) (.cons (.ty _) .nil), ty_dp (dp_same (same_upd np) d v hd), kit_any2 k1 k2, ?_⟩⟩
    rw [exy]
    exact q _ (same_upd np)
theorem cut_nat (xs : List V) (b n : Nat) (h : b + n ≤ xs.length) : cutV xs (some (b : Int)) (some ((b : Int) + (n : Int))) = (xs.drop b).take n := by
  unfold cutV
  have e1 : HT.sIx xs.length 0 (some (b : Int)) = b := by
    unfold HT.sIx
    simp only []
    split <;> omega
  have e2 : HT.sIx xs.length xs.length (some ((b : Int) + (n : Int))) = b + n := by
    unfold HT.sIx
    simp only []
    split <;> omega
  rw [e1, e2, Nat.add_sub_cancel_left]
theorem cut_bl (as : List Bool) (lo hi : Option Int) : ∃ cs : List Bool, cutV (as.map V.bl) lo hi = cs.map V.bl := by
  unfold cutV
  exact ⟨_, by rw [← List.map_drop, ← List.map_take]⟩
def spKept (K : PySem.W.Frag) : Sp := fun vs H Q _ => ∃ (v : V) (d : PyData), vs = [v] ∧ siz d ≤ 1000 ∧ Dp K H v d ∧ ∀ H' v', Same H H' → Dp K H' v' d → Q v' H'
def spLaid (K : PySem.W.Frag) : Sp := fun vs H Q _ => ∃ (v : V) (d : PyData), vs = [v] ∧ siz d ≤ 1000 ∧ Dp K H v d ∧
  ∀ H' r t b xs ds bs, Same H H' → H t = none → H b = none → t ≠ b → H' t = some (.lst xs) → H' b = some (.lst (bs.map V.int)) → H' r = some (.tup [.ref t, .ref b]) → DpAll K H xs ds → LaidTo ds.length ds bs → bs.length = ds.length → ds[0]? = some d → ds.length ≤ 1000 → Q (.ref r) H'
theorem ok_laid_out (T : Top w K mg) : FnOk P w K mg base CX0 2 T.a_laid_out T.fd_laid_out ["thing"] (spLaid K) := by
  have G_is_row := ok_is_row (P := P) (w := w) (base := base) T
  refine T.F_laid_out.ok sc_laid_out (fun vs H Q E h => ?_) (fun cdv A outer s H vs Q E hr h => ?_)
  · obtain ⟨v, d, rfl, _⟩ := h
    rfl
  · obtain ⟨v, d, rfl, hz, hd, q⟩ := h
    refine ⟨_, (pss_cons (ps_set (i := 1) sc_laid_out.nd rfl (.inl rfl) (pe_lst (pa_cons (pv 0) pa_nil)))
      (pss_cons (ps_set (i := 2) sc_laid_out.nd rfl (.inl rfl) (pe_lst pa_nil))
      (pss_cons (ps_while PassesOwn.never (pt_cmpR op_lt (pe_callB call_len_seq (by rfl) T.m_len (by decide +kernel) (pa_cons (pv 2) pa_nil)) (pe_callB call_len_seq (by rfl) T.m_len (by decide +kernel) (pa_cons (pv 1) pa_nil)) (nomark _)) (pss_cons (ps_set (i := 3) sc_laid_out.nd rfl (.inl rfl) (pe_ix ix_list (pv 1) (pe_callB call_len_seq (by rfl) T.m_len (by decide +kernel) (pa_cons (pv 2) pa_nil)) (fun _ _ => rfl)))
      (pss_cons (ps_expr (pe_bm PySem.F.plainAttrs_list PySem.F.slot_list_append PySem.F.type_list_append mt_append (pv 2) (pa_cons (pe_callB call_len_seq (by rfl) T.m_len (by decide +kernel) (pa_cons (pv 1) pa_nil)) pa_nil)))
      (pss_one (ps_if (pt_val (pe_call G_is_row hr (by rfl) T.g_is_row T.F_is_row.kp T.b_is_row .nil pass0 (pa_cons (pv 3) pa_nil))) (pss_one (ps_expr (pe_bm PySem.F.plainAttrs_list PySem.F.slot_list_extend PySem.F.type_list_extend mt_extend (pv 1) (pa_cons (pe_callTy call_list_of (by rfl) T.m_list (by decide +kernel) (pa_cons (pv 3) pa_nil)) pa_nil)))) pss_nil)))))
      (pss_one (ps_ret (pe_tup (pa_cons (pv 1) (pa_cons (pv 2) pa_nil)))))))), ?_⟩
    refine ⟨v, rfl, by show 1 ≤ sizeLine; decide, fun t nt => ?_⟩
    refine ⟨Nat.zero_le _, fun b nb => ?_⟩
    have s1 := same_upd (o := .lst [v]) nt
    have s2 := same_upd (o := .lst []) nb
    have tb : t ≠ b := fun z => by
      rw [← z, upd_same] at nb
      cases nb
    have nb0 : H b = none := s1.free nb
    refine ⟨fun m σ H1 => ∃ xs ds bs y, σ = [some v, some (.ref t), some (.ref b), y] ∧ Same H H1 ∧ H1 t = some (.lst xs) ∧ H1 b = some (.lst (bs.map V.int)) ∧ DpAll K H xs ds ∧ bs.length ≤ ds.length ∧ LaidTo bs.length ds bs ∧ ds[0]? = some d ∧ m = sizs (ds.drop bs.length) ∧ bs.length + m = siz d, ⟨siz d, [v], [d], [], none, rfl, s1.trans s2, s2 _ _ upd_same, upd_same, .cons hd .nil, Nat.zero_le _, (fun j d cs hj => absurd hj (Nat.not_lt_zero j)), rfl, ?_, Nat.zero_add _⟩, ?_⟩
    · show siz d = sizs [d]
      rw [sizs, sizs]
      rfl
    · rintro m σ H1 ⟨xs, ds, bs, y, rfl, sm, et, eb, ha, hl, hlaid, h0, hm, hsum⟩
      have lx := dpa_len ds xs ha
      refine ⟨.ref b, rfl, b, _, rfl, .inl (.inl (.inl eb)), .ref t, rfl, t, _, rfl, .inl (.inl (.inl et)), _, _, rfl, rfl, _, rfl, ite2 (fun e => ?_) (fun e => ?_)⟩
      · have hi : bs.length < ds.length := by
          have := of_decide_eq_true e
          rw [List.length_map] at this
          omega
        obtain ⟨di, fi⟩ : ∃ di, ds[bs.length]? = some di := ⟨_, List.getElem?_eq_getElem hi⟩
        obtain ⟨x, gx⟩ : ∃ x, xs[bs.length]? = some x := ⟨_, List.getElem?_eq_getElem (by omega)⟩
        have hx : Dp K H x di := by
          obtain ⟨d', e1, e2⟩ := dpa_at ds xs ha _ x gx
          rw [fi] at e1
          cases e1
          exact e2
        have dr : ds.drop bs.length = di :: ds.drop (bs.length + 1) := by
          obtain ⟨h1, h2⟩ := List.getElem?_eq_some_iff.mp fi
          rw [List.drop_eq_getElem_cons h1, h2]
        have m1 : m = siz di + sizs (ds.drop (bs.length + 1)) := by rw [hm, dr, sizs]
        have lds : ds.length ≤ siz d := by
          have := sizs_len (ds.drop bs.length)
          rw [List.length_drop] at this
          omega
        refine ⟨fun σ' H' => ∃ m', m' < m ∧ _, fun _ _ h => h, ?_⟩
        refine ⟨.ref t, rfl, .ref b, rfl, b, _, rfl, .inl (.inl (.inl eb)), t, xs, _, x, rfl, rfl, .inl (.inl et), atI_nat (by rw [List.length_map]; exact gx), ?_⟩
        refine ⟨.ref b, rfl, .inl ⟨rfl, _, .inl (.inl eb)⟩, .ref t, rfl, t, _, rfl, .inl (.inl (.inl et)), b, _, _, rfl, rfl, eb, small1000 (by rw [List.length_map]; omega), ?_⟩
        have sb := same_upd (o := .lst (bs.map V.int ++ [.int (xs.length : Nat)])) nb0
        have s3 : Same H (upd H1 b (.lst (bs.map V.int ++ [.int (xs.length : Nat)]))) := fun c o h => by
          rw [upd_ne (ne_of_none h nb0)]
          exact sm _ _ h
        have eb2 : (bs ++ [((xs.length : Nat) : Int)]).map V.int = bs.map V.int ++ [.int (xs.length : Nat)] := by rw [List.map_append]; rfl
        have lb2 : (bs ++ [((xs.length : Nat) : Int)]).length = bs.length + 1 := by rw [List.length_append]; rfl
        have old : ∀ es, LaidTo bs.length (ds ++ es) (bs ++ [((xs.length : Nat) : Int)]) := fun es j d' cs hj h1 h2 => by
          obtain ⟨b0, g1, g2⟩ := laid_more hl hlaid es j d' cs hj h1 h2
          exact ⟨b0, by rw [List.getElem?_append_left hj]; exact g1, g2⟩
        refine ⟨x, rfl, x, di, rfl, dp_same s3 di x hx, fun H4 s4 => ⟨_, rfl, ?_⟩⟩
        cases e : seqD di with
        | none =>
          refine iteF ⟨sizs (ds.drop (bs.length + 1)), by have := siz_pos di; omega, xs, ds, bs ++ [((xs.length : Nat) : Int)], _, rfl, s3.trans s4, s4 _ _ (by rw [upd_ne tb]; exact et), s4 _ _ (by rw [eb2]; exact upd_same), ha, by omega, fun j d' cs hj h1 h2 => ?_, h0, by rw [lb2], ?_⟩
          · rw [lb2] at hj
            by_cases ej : j = bs.length
            · rw [ej, fi] at h1
              cases h1
              rw [e] at h2
              cases h2
            · have := old [] j d' cs (by omega) (by rw [List.append_nil]; exact h1) h2
              rw [List.append_nil] at this
              exact this
          · have := siz_flat e
            omega
        | some cs =>
          obtain ⟨p, ys, rfl, hs, hc⟩ := seq_dp hx e
          have lc := dpa_len cs ys hc
          have zc := siz_seq e
          have lcs := sizs_len cs
          have ldr := sizs_len (ds.drop (bs.length + 1))
          rw [List.length_drop] at ldr
          refine iteT ⟨.ref t, rfl, .inl ⟨rfl, _, .inl (.inl (s4 _ _ (by rw [upd_ne tb]; exact et)))⟩, .ref p, rfl, p, ys, rfl, hs.elim (fun h => .inl ((s3.trans s4).seq h)) (fun h => .inr (sqt_same (s3.trans s4) h)), fun l nl => ?_⟩
          have et4 := s4 _ _ (show upd H1 b (.lst (bs.map V.int ++ [.int (xs.length : Nat)])) t = some (.lst xs) by rw [upd_ne tb]; exact et)
          have eb4 := s4 b _ upd_same
          have lt : t ≠ l := ne_of_none et4 nl
          have lb : b ≠ l := ne_of_none eb4 nl
          refine ⟨t, l, xs, ys, rfl, rfl, by rw [upd_ne lt]; exact et4, upd_same, Nat.le_of_lt (small1000 (by omega)), ?_⟩
          refine ⟨sizs ((ds ++ cs).drop (bs.length + 1)), ?_, xs ++ ys, ds ++ cs, bs ++ [((xs.length : Nat) : Int)], _, rfl, fun c o h => ?_, upd_same, ?_, dpa_app ds cs xs ys ha hc, ?_, fun j d' cs' hj h1 h2 => ?_, ?_, by rw [lb2], ?_⟩
          · rw [List.drop_append_of_le_length (by omega), sizs_app]
            omega
          · rw [upd_ne (ne_of_none h nt), upd_ne (ne_of_none ((s3.trans s4) _ _ h) nl)]
            exact (s3.trans s4) _ _ h
          · rw [upd_ne (Ne.symm tb), upd_ne lb, eb2]
            exact eb4
          · rw [lb2, List.length_append]
            omega
          · rw [lb2] at hj
            by_cases ej : j = bs.length
            · rw [ej, List.getElem?_append_left hi, fi] at h1
              cases h1
              rw [e] at h2
              cases h2
              refine ⟨ds.length, ?_, ?_⟩
              · rw [ej, List.getElem?_append_right (Nat.le_refl _), Nat.sub_self, lx]
                rfl
              · rw [List.drop_left, List.take_of_length_le (Nat.le_refl _)]
            · exact old cs j d' cs' (by omega) h1 h2
          · rw [List.getElem?_append_left (by omega)]
            exact h0
          · rw [List.drop_append_of_le_length (by omega), sizs_app]
            omega
      · have hi : bs.length = ds.length := by
          have : ¬ ((bs.map V.int).length : Int) < (xs.length : Int) := fun z => e (decide_eq_true z)
          rw [List.length_map] at this
          omega
        refine ⟨.ref t, rfl, .ref b, rfl, by show 2 ≤ sizeLine; decide, fun r nr => ?_⟩
        have sr := same_upd (o := .tup [.ref t, .ref b]) nr
        exact q _ r t b xs ds bs (sm.trans sr) nt nb0 tb (sr _ _ et) (sr _ _ eb) upd_same ha (by rw [← hi]; exact hlaid) hi h0 (by omega)
theorem ok_kept (T : Top w K mg) : FnOk P w K mg base CX0 3 T.a_kept T.fd_kept ["thing"] (spKept K) := by
  have G_is_row := ok_is_row (P := P) (w := w) (base := base) T
  have G_laid_out := ok_laid_out (P := P) (w := w) (base := base) T
  refine T.F_kept.ok sc_kept (fun vs H Q E h => ?_) (fun cdv A outer s H vs Q E hr h => ?_)
  · obtain ⟨v, d, rfl, _⟩ := h
    rfl
  · obtain ⟨v, d, rfl, hz, hd, q⟩ := h
    refine ⟨_, (pss_cons (ps_asg (pe_call G_laid_out hr (by rfl) T.g_laid_out T.F_laid_out.kp T.b_laid_out .nil pass0 (pa_cons (pv 0) pa_nil)) (pg_tup rfl (pgs_cons (pg_name (i := 1) sc_kept.nd rfl (.inl rfl)) (pgs_cons (pg_name (i := 2) sc_kept.nd rfl (.inl rfl)) pgs_nil))))
      (pss_cons (ps_set (i := 3) sc_kept.nd rfl (.inl rfl) (pe_callB call_len_seq (by rfl) T.m_len (by decide +kernel) (pa_cons (pv 1) pa_nil)))
      (pss_cons (ps_set (i := 4) sc_kept.nd rfl (.inl rfl) (pe_op op_rep (pe_lst (pa_cons pe_bl pa_nil)) (pv 3)))
      (pss_cons (ps_while PassesOwn.never (pt_cmpR op_gt (pv 3) pe_int (nomark _)) (pss_cons (ps_aug (i := 3) sc_kept.nd rfl (.inl rfl) pe_int ip_sub)
      (pss_cons (ps_set (i := 5) sc_kept.nd rfl (.inl rfl) (pe_ix ix_list (pv 1) (pv 3) (fun _ _ => rfl)))
      (pss_one (ps_if (pt_val (pe_call G_is_row (hr.mono (by decide)) (by rfl) T.g_is_row T.F_is_row.kp T.b_is_row .nil pass0 (pa_cons (pv 5) pa_nil))) (pss_cons (ps_par (i := 6) (j := 7) (by rfl) sc_kept.nd rfl rfl (by decide) rfl rfl (pa_cons (pe_ix ix_list (pv 2) (pv 3) (fun _ _ => rfl)) (pa_cons (pe_op op_add (pe_ix ix_list (pv 2) (pv 3) (fun _ _ => rfl)) (pe_callB call_len_seq (by rfl) T.m_len (by decide +kernel) (pa_cons (pv 5) pa_nil))) pa_nil)) (by rfl))
      (Evl.pss_cut (ps_asg (pe_or (pe_callB call_isi (by rfl) T.m_isinstance (by decide +kernel) (pa_cons (pv 5) (pa_cons (pe_bltn (v := .ty "list") (by rfl) T.m_list (by decide +kernel) rfl) pa_nil))) (pe_one (pe_callB (cr_any rfl) (by rfl) T.m_any (by decide +kernel) (pa_cons (pe_slice sl_list (pv 4) (po_some (pv 6)) (po_some (pv 7))) pa_nil)))) (pg_sub (pv 4) (pv 3) set_list))
      (pss_one (ps_if (pt_val (pe_ix ix_list (pv 4) (pv 3) (fun _ _ => rfl))) (pss_one (ps_asg (pe_ifExp (pt_val (pe_callB call_isi (by rfl) T.m_isinstance (by decide +kernel) (pa_cons (pv 5) (pa_cons (pe_bltn (v := .ty "list") (by rfl) T.m_list (by decide +kernel) rfl) pa_nil)))) (pe_slice sl_list (pv 1) (po_some (pv 6)) (po_some (pv 7))) (pe_callTy call_tuple_of (by rfl) T.m_tuple (by decide +kernel) (pa_cons (pe_slice sl_list (pv 1) (po_some (pv 6)) (po_some (pv 7))) pa_nil))) (pg_sub (pv 1) (pv 3) set_list))) pss_nil)))) pss_nil)))))
      (pss_one (ps_ret (pe_ix ix_list (pv 1) pe_int (fun _ _ => rfl)))))))), ?_⟩
    refine ⟨v, rfl, v, d, rfl, hz, hd, fun H1 r t b xs ds bs sm nt nb tb et eb er ha hlaid hlb h0 hl => ?_⟩
    have lx := dpa_len ds xs ha
    refine ⟨r, _, rfl, .inl (.inl er), rfl, _, _, rfl, _, _, rfl, rfl, ?_⟩
    refine ⟨.ref t, rfl, t, xs, rfl, .inl (.inl (.inl et)), ?_⟩
    have sl : xs.length ≤ sizeLine := Nat.le_of_lt (small1000 (by omega))
    refine ⟨by show 1 ≤ sizeLine; decide, fun l nl => ?_⟩
    have s1 := same_upd (o := .lst [.bl false]) nl
    refine ⟨.int (xs.length : Nat), rfl, l, _, _, rfl, rfl, upd_same, by omega, by have : sizeLine < 2 ^ 63 := by decide
                                                                                   omega, ?_, fun a na => ?_⟩
    · show 1 * (xs.length : Int).toNat ≤ sizeLine
      omega
    have s2 := same_upd (o := .lst (List.replicate (xs.length : Int).toNat [V.bl false]).flatten) na
    have ea : ∃ as : List Bool, (List.replicate (xs.length : Int).toNat [V.bl false]).flatten = as.map V.bl ∧ as.length = ds.length := ⟨List.replicate ds.length false, by simp [lx], by simp⟩
    obtain ⟨as, ea1, ea2⟩ := ea
    have ma : upd (upd H1 l (.lst [.bl false])) a (.lst (List.replicate (xs.length : Int).toNat [V.bl false]).flatten) a = some (.lst (as.map V.bl)) := by rw [upd_same, ea1]
    have ta : t ≠ a := ne_of_none (s1 _ _ et) na
    have ba : b ≠ a := ne_of_none (s1 _ _ eb) na
    have na0 : H a = none := sm.free (s1.free na)
    refine ⟨fun m σ H2 => ∃ xs as y5 y6 y7, σ = [some v, some (.ref t), some (.ref b), some (.int (m : Nat)), some (.ref a), y5, y6, y7] ∧ m ≤ ds.length ∧ Same H H2 ∧ H2 t = some (.lst xs) ∧ H2 b = some (.lst (bs.map V.int)) ∧ H2 a = some (.lst (as.map V.bl)) ∧ as.length = ds.length ∧ DpAll K (wo H2 (fun c => c = t ∨ c = b ∨ c = a)) xs ds, ⟨ds.length, xs, as, none, none, none, by rw [lx]; rfl, Nat.le_refl _, (sm.trans s1).trans s2, (s1.trans s2) _ _ et, (s1.trans s2) _ _ eb, ma, ea2, ?_⟩, ?_⟩
    · refine dpa_same (fun c o h => ?_) _ _ ha
      rw [wo_in (fun z => by
        rcases z with z | z | z
        · rw [z, nt] at h; cases h
        · rw [z, nb] at h; cases h
        · rw [z, na0] at h; cases h)]
      exact ((sm.trans s1).trans s2) _ _ h
    · rintro m σ H2 ⟨xs, as, y5, y6, y7, rfl, hm, sm2, et2, eb2, ea2, la, ha2⟩
      have lx := dpa_len ds xs ha2
      refine ⟨.int (m : Nat), rfl, _, _, rfl, rfl, _, rfl, ite2 (fun e => ?_) (fun e => ?_)⟩
      · have mp : 0 < m := by
          have := of_decide_eq_true e
          omega
        obtain ⟨j, rfl⟩ : ∃ j, m = j + 1 := ⟨m - 1, by omega⟩
        refine ⟨fun σ' H' => ∃ m', m' < j + 1 ∧ _, fun _ _ h => h, ?_⟩
        refine ⟨_, rfl, _, _, rfl, rfl, ?_⟩
        have ej : ((j + 1 : Nat) : Int) - 1 = (j : Nat) := by omega
        obtain ⟨dj, fj⟩ : ∃ dj, ds[j]? = some dj := ⟨_, List.getElem?_eq_getElem (by omega)⟩
        obtain ⟨x, gx⟩ : ∃ x, xs[j]? = some x := ⟨_, List.getElem?_eq_getElem (by omega)⟩
        have hx : Dp K (wo H2 (fun c => c = t ∨ c = b ∨ c = a)) x dj := by
          obtain ⟨d', e1, e2⟩ := dpa_at ds xs ha2 _ x gx
          rw [fj] at e1
          cases e1
          exact e2
        have hx2 := dp_same wo_same dj x hx
        have atj : ∀ {α : Type} {l : List α} {y : α}, l[j]? = some y → atI l (((j + 1 : Nat) : Int) - 1) = some y := fun h => by
          rw [ej]
          exact atI_nat h
        refine ⟨.ref t, rfl, _, rfl, t, xs, _, x, rfl, rfl, .inl (.inl et2), atj gx, ?_⟩
        refine ⟨x, rfl, x, dj, rfl, hx2, fun H3 s3 => ⟨_, rfl, ?_⟩⟩
        have keep : ∀ {H4 : Hp}, Same H2 H4 → Same (wo H2 (fun c => c = t ∨ c = b ∨ c = a)) (wo H4 (fun c => c = t ∨ c = b ∨ c = a)) := fun {H4} s4 c o h => by
          have h2 := wo_some h
          rw [wo_in h2.1]
          exact s4 _ _ h2.2
        cases e : seqD dj with
        | none => exact iteF ⟨j, Nat.lt_succ_self j, xs, as, some x, y6, y7, by rw [← ej]; rfl, by omega, sm2.trans s3, s3 _ _ et2, s3 _ _ eb2, s3 _ _ ea2, la, dpa_same (keep s3) _ _ ha2⟩
        | some cs =>
          obtain ⟨p, ys, rfl, hs, hc⟩ := seq_dp hx2 e
          have lc := dpa_len cs ys hc
          obtain ⟨b0, g1, g2⟩ := hlaid j dj cs (by omega) fj e
          have lcs : b0 + cs.length ≤ ds.length ∨ cs.length = 0 := by
            have := congrArg List.length g2
            rw [List.length_take, List.length_drop] at this
            omega
          have gb : (bs.map V.int)[j]? = some (.int (b0 : Int)) := by rw [List.getElem?_map, g1]; rfl
          have ty3 := ty_dp (dp_same s3 dj _ hx2)
          obtain ⟨x1, y1, k1, k2, exy⟩ := kit_seq dj
          refine iteT ⟨.ref b, rfl, _, rfl, b, _, _, _, rfl, rfl, .inl (.inl (s3 _ _ eb2)), atj gb, .ref b, rfl, _, rfl, b, _, _, _, rfl, rfl, .inl (.inl (s3 _ _ eb2)), atj gb, .ref p, rfl, p, ys, rfl, hs.elim (fun h => .inl (s3.seq h)) (fun h => .inr (sqt_same s3 h)), _, _, rfl, rfl, _, _, rfl, ?_⟩
          refine ⟨fun σ' H4 => ∃ as' : List Bool, σ' = [some v, some (.ref t), some (.ref b), some (.int (((j + 1 : Nat) : Int) - 1)), some (.ref a), some (.ref p), some (.int (b0 : Int)), some (.int ((b0 : Int) + (ys.length : Nat)))] ∧ as'.length = ds.length ∧ H4 a = some (.lst (as'.map V.bl)) ∧ ∀ c o, c ≠ a → H2 c = some o → H4 c = some o, ?_, ?_⟩
          · have put : ∀ (z : Bool) (H4 : Hp), Same H3 H4 → ∃ p xs k j', V.ref a = .ref p ∧ V.int (((j + 1 : Nat) : Int) - 1) = .int k ∧ H4 p = some (.lst xs) ∧ ixN xs.length k = some j' ∧ ∃ as' : List Bool, as'.length = ds.length ∧ upd H4 p (.lst (xs.set j' (.bl z))) a = some (.lst (as'.map V.bl)) ∧ ∀ c o, c ≠ a → H2 c = some o → upd H4 p (.lst (xs.set j' (.bl z))) c = some o := fun z H4 s4 => by
              refine ⟨a, as.map V.bl, _, j, rfl, rfl, s4 _ _ (s3 _ _ ea2), by rw [ej]; exact Evl.ixN_nat (by rw [List.length_map]; omega), as.set j z, by rw [List.length_set]; exact la, by rw [upd_same, List.map_set], fun c o hc h => ?_⟩
              rw [upd_ne hc]
              exact s4 _ _ (s3 _ _ h)
            refine ⟨.ref p, rfl, _, _, _, _, y1, rfl, .ty _, ty3, kit_ty k2, _, rfl, ?_⟩
            cases y1 with
            | true =>
              refine iteT ⟨.ref a, rfl, _, rfl, ?_⟩
              obtain ⟨p', xs', k', j', h1, h2, h3, h4, as', h5, h6, h7⟩ := put true H3 (Same.refl _)
              exact ⟨p', xs', k', j', h1, h2, h3, h4, as', rfl, h5, h6, h7⟩
            | false =>
              obtain ⟨cs', ec⟩ := cut_bl as (some (b0 : Int)) (some ((b0 : Int) + (ys.length : Nat)))
              refine iteF ⟨.ref a, rfl, _, rfl, _, rfl, _, rfl, _, rfl, a, _, rfl, .inl (.inl (s3 _ _ ea2)), fun c nc => ⟨c, cs', rfl, .inl (.inl (by rw [upd_same, ec])), .ref a, rfl, _, rfl, ?_⟩⟩
              obtain ⟨p', xs', k', j', h1, h2, h3, h4, as', h5, h6, h7⟩ := put (cs'.any id) _ (same_upd nc)
              exact ⟨p', xs', k', j', h1, h2, h3, h4, as', rfl, h5, h6, h7⟩
          · rintro σ' H4 ⟨as', rfl, la', ea4, k4⟩
            have na2 : H a = none := na0
            have sm4 : Same H H4 := fun c o h => k4 _ _ (ne_of_none h na0) (sm2 _ _ h)
            have et4 := k4 t _ ta et2
            have eb4 := k4 b _ ba eb2
            have keep4 : Same (wo H2 (fun c => c = t ∨ c = b ∨ c = a)) (wo H4 (fun c => c = t ∨ c = b ∨ c = a)) := fun c o h => by
              have h2 := wo_some h
              rw [wo_in h2.1]
              exact k4 _ _ (fun z => h2.1 (.inr (.inr z))) h2.2
            obtain ⟨z, gz⟩ : ∃ z, as'[j]? = some z := ⟨_, List.getElem?_eq_getElem (by omega)⟩
            refine ⟨.ref a, rfl, _, rfl, a, _, _, .bl z, rfl, rfl, .inl (.inl ea4), atj (by rw [List.getElem?_map, gz]; rfl), z, rfl, ?_⟩
            cases z with
            | false => exact iteF ⟨j, Nat.lt_succ_self j, xs, as', some (.ref p), _, _, by rw [← ej], by omega, sm4, et4, eb4, ea4, la', dpa_same keep4 _ _ ha2⟩
            | true =>
              refine iteT ⟨.ref p, rfl, _, _, _, _, y1, rfl, .ty _, ty_dp (dp_same keep4 dj _ hx |> dp_same wo_same dj _), kit_ty k2, _, rfl, ?_⟩
              have hcut : DpAll K (wo H4 (fun c => c = t ∨ c = b ∨ c = a)) (cutV xs (some (b0 : Int)) (some ((b0 : Int) + (ys.length : Nat)))) cs := by
                have h1 := dpa_takeK cs.length _ _ (dpa_dropK b0 _ _ (dpa_same keep4 _ _ ha2))
                rw [g2] at h1
                rcases lcs with h | h
                · rw [cut_nat xs b0 ys.length (by omega), lc]
                  exact h1
                · have e0 : cs = [] := List.eq_nil_of_length_eq_zero h
                  have e1 : ys.length = 0 := by omega
                  have e2 : cutV xs (some (b0 : Int)) (some ((b0 : Int) + (ys.length : Nat))) = [] := by
                    rw [e1]
                    unfold cutV
                    rw [show ((b0 : Int) + ((0 : Nat) : Int)) = (b0 : Int) by omega]
                    apply List.eq_nil_of_length_eq_zero
                    rw [List.length_take, List.length_drop]
                    unfold HT.sIx
                    simp only []
                    split <;> omega
                  rw [e2, e0]
                  exact .nil
              have fin : ∀ (H6 : Hp) (y' : V), Same H4 H6 → Dp K (wo H6 (fun c => c = t ∨ c = b ∨ c = a)) y' dj → Same H (upd H6 t (.lst (xs.set j y'))) ∧ upd H6 t (.lst (xs.set j y')) b = some (.lst (bs.map V.int)) ∧ upd H6 t (.lst (xs.set j y')) a = some (.lst (as'.map V.bl)) ∧ DpAll K (wo (upd H6 t (.lst (xs.set j y'))) (fun c => c = t ∨ c = b ∨ c = a)) (xs.set j y') ds := fun H6 y' s6 hy => by
                have k6 : Same (wo H6 (fun c => c = t ∨ c = b ∨ c = a)) (wo (upd H6 t (.lst (xs.set j y'))) (fun c => c = t ∨ c = b ∨ c = a)) := fun c o h => by
                  have h2 := wo_some h
                  rw [wo_in h2.1, upd_ne (fun z => h2.1 (.inl z))]
                  exact h2.2
                have k46 : Same (wo H4 (fun c => c = t ∨ c = b ∨ c = a)) (wo H6 (fun c => c = t ∨ c = b ∨ c = a)) := fun c o h => by
                  have h2 := wo_some h
                  rw [wo_in h2.1]
                  exact s6 _ _ h2.2
                refine ⟨fun c o h => ?_, ?_, ?_, dpa_setK (dp_same k6 dj y' hy) j ds xs (dpa_same (keep4.trans (k46.trans k6)) _ _ ha2) fj⟩
                · rw [upd_ne (ne_of_none h nt)]
                  exact s6 _ _ (sm4 _ _ h)
                · rw [upd_ne (Ne.symm tb)]
                  exact s6 _ _ eb4
                · rw [upd_ne (Ne.symm ta)]
                  exact s6 _ _ ea4
              have newX : ∀ {H6 : Hp} {c : Addr}, Same H4 H6 → H6 c = none → ¬ (c = t ∨ c = b ∨ c = a) := fun {H6 c} s6 nc z => by
                rcases z with z | z | z
                · rw [z, s6 _ _ et4] at nc; cases nc
                · rw [z, s6 _ _ eb4] at nc; cases nc
                · rw [z, s6 _ _ ea4] at nc; cases nc
              have keep6 : ∀ {H6 : Hp}, Same H4 H6 → Same (wo H4 (fun c => c = t ∨ c = b ∨ c = a)) (wo H6 (fun c => c = t ∨ c = b ∨ c = a)) := fun {H6} s6 c o h => by
                have h2 := wo_some h
                rw [wo_in h2.1]
                exact s6 _ _ h2.2
              have hk : (y1 = true → dj = .list cs) ∧ (y1 = false → dj = .tuple cs) := by
                cases dj with
                | list ds =>
                  cases e
                  have : kitB (tyD (.list cs)) "list" = some true := by show kitB "list" "list" = some true; decide +kernel
                  rw [this] at k2
                  cases k2
                  exact ⟨fun _ => rfl, fun z => by cases z⟩
                | tuple ds =>
                  cases e
                  have : kitB (tyD (.tuple cs)) "list" = some false := by show kitB "tuple" "list" = some false; decide +kernel
                  rw [this] at k2
                  cases k2
                  exact ⟨fun z => (by cases z), fun _ => rfl⟩
                | _ => cases e
              have ixj : ixN xs.length (((j + 1 : Nat) : Int) - 1) = some j := by rw [ej]; exact Evl.ixN_nat (by omega)
              cases y1 with
              | true =>
                refine iteT ⟨.ref t, rfl, _, rfl, _, rfl, _, rfl, _, rfl, t, xs, rfl, .inl (.inl et4), fun c nc => ?_⟩
                have sc := same_upd (o := .lst (cutV xs (some (b0 : Int)) (some ((b0 : Int) + (ys.length : Nat))))) nc
                obtain ⟨h1, h2, h3, h4⟩ := fin _ (.ref c) sc (by
                  rw [hk.1 rfl]
                  exact .lst (.inl (.inl (by rw [wo_in (newX (Same.refl _) nc)]; exact upd_same))) (dpa_same (keep6 sc) _ _ hcut))
                exact ⟨.ref t, rfl, _, rfl, t, xs, _, j, rfl, rfl, sc _ _ et4, ixj, j, Nat.lt_succ_self j, xs.set j (.ref c), as', some (.ref p), _, _, by rw [← ej], by omega, h1, upd_same, h2, h3, la', h4⟩
              | false =>
                refine iteF ⟨.ref t, rfl, _, rfl, _, rfl, _, rfl, _, rfl, t, xs, rfl, .inl (.inl et4), fun c nc => ⟨c, _, rfl, .inl ⟨.inl (.inl upd_same), fun l nl => ?_⟩⟩⟩
                have sc := same_upd (o := .lst (cutV xs (some (b0 : Int)) (some ((b0 : Int) + (ys.length : Nat))))) nc
                have sl := sc.trans (same_upd (o := .tup (cutV xs (some (b0 : Int)) (some ((b0 : Int) + (ys.length : Nat))))) nl)
                obtain ⟨h1, h2, h3, h4⟩ := fin _ (.ref l) sl (by
                  rw [hk.2 rfl]
                  exact .tup (.inl (.inl (by rw [wo_in (newX sc nl)]; exact upd_same))) (dpa_same (keep6 sl) _ _ hcut))
                exact ⟨.ref t, rfl, _, rfl, t, xs, _, j, rfl, rfl, sl _ _ et4, ixj, j, Nat.lt_succ_self j, xs.set j (.ref l), as', some (.ref p), _, _, by rw [← ej], by omega, h1, upd_same, h2, h3, la', h4⟩
      · have m0 : m = 0 := by
          have : ¬ (0 : Int) < (m : Int) := fun z => e (decide_eq_true z)
          omega
        subst m0
        cases xs with
        | nil => cases ha2; cases h0
        | cons x xs' =>
          obtain ⟨d', e1, e2⟩ := dpa_at ds _ ha2 0 x rfl
          rw [h0] at e1
          cases e1
          exact ⟨.ref t, rfl, t, _, 0, x, rfl, rfl, .inl (.inl et2), atI_nat (j := 0) rfl, q H2 x sm2 (dp_same wo_same _ x e2)⟩
/-! ### texts -/
abbrev SMALLs : Str := PySem.Str.ofString "abcdefghijklmnopqrstuvwxyz"
abbrev GREATs : Str := PySem.Str.ofString "ABCDEFGHIJKLMNOPQRSTUVWXYZ"
def smC (c : Nat) : Bool := decide (c ∈ SMALLs.cps.toList)
def grC (c : Nat) : Bool := decide (c ∈ GREATs.cps.toList)
def shL (cs : List Nat) : Bool := decide (1 ≤ (cs.length : Int)) && decide ((cs.length : Int) ≤ 8)
def nmL (cs : List Nat) : Bool := shL cs && cs.all smC
def loL : List Nat → Bool
  | [] => false
  | c :: r => shL (c :: r) && (grC c && r.all smC)
def nmV : V → Bool
  | .str z => nmL z.cps.toList
  | _ => false
def loV : V → Bool
  | .str z => loL z.cps.toList
  | _ => false
def sgV (v : V) : Bool := nmV v || loV v
def shV : V → Bool
  | .str z => shL z.cps.toList
  | _ => false
/-- a thing: a text that is not too long, or no text -/
def Th (K : PySem.W.Frag) (H : Hp) (v : V) : Prop := (∃ z : Str, v = .str z ∧ z.length ≤ 1000) ∨ ((∀ z, v ≠ .str z) ∧ ∃ t, TyX K H v (.type t) ∧ kitB t "str" = some false)
theorem tyx_same {K : PySem.W.Frag} {H H' : Hp} {v : V} {t : Value} (e : Same H H') (h : TyX K H v t) : TyX K H' v t := by
  cases h with
  | base b =>
    cases b with
    | non => exact .base .non
    | bl x => exact .base (.bl x)
    | int i => exact .base (.int i)
    | str x => exact .base (.str x)
    | flt x => exact .base (.flt x)
    | lst h => exact .base (.lst (e _ _ h))
    | frz h => exact .base (.frz (e _ _ h))
    | tup h => exact .base (.tup (e _ _ h))
    | dK h => exact .base (.dK (e _ _ h))
    | dT h => exact .base (.dT (e _ _ h))
    | ins h a b c d f => exact .base (.ins (e _ _ h) a b c d f)
  | byt b => exact .byt b
  | set h => exact .set (e _ _ h)
  | kList h c => exact .kList h c
  | kTuple h c => exact .kTuple h c
  | kDict h c => exact .kDict h c
  | fTuple h => exact .fTuple (e _ _ h)
  | fDict h => exact .fDict (e _ _ h)
theorem Th.same {K : PySem.W.Frag} {H H' : Hp} {v : V} (e : Same H H') (h : Th K H v) : Th K H' v := by
  rcases h with h | ⟨n, t, ty, k⟩
  · exact .inl h
  · exact .inr ⟨n, t, tyx_same e ty, k⟩
theorem nmV_no {v : V} (h : ∀ z, v ≠ .str z) : nmV v = false ∧ loV v = false ∧ shV v = false := by
  cases v with
  | str z => exact absurd rfl (h z)
  | _ => exact ⟨rfl, rfl, rfl⟩
theorem len_toList (z : Str) : z.cps.toList.length = z.length := Array.length_toList
theorem thou {n : Nat} (h : n ≤ 1000) : n ≤ sizeLine := Nat.le_trans h (by decide)
def spShort (K : PySem.W.Frag) : Sp := fun vs H Q _ => ∃ v, vs = [v] ∧ Th K H v ∧ Q (.bl (shV v)) H
theorem s0 : PySem.Str.ofString "" = (⟨#[]⟩ : Str) := by decide +kernel
theorem ok_is_short_text (T : Top w K mg) : FnOk P w K mg base CX0 1 T.a_is_short_text T.fd_is_short_text ["thing"] (spShort K) := by
  refine T.F_is_short_text.ok sc_is_short_text (fun vs H Q E h => ?_) (fun cdv A outer s H vs Q E hr h => ?_)
  · obtain ⟨v, rfl, _⟩ := h
    rfl
  · obtain ⟨v, rfl, hv, q⟩ := h
    refine ⟨_, (pss_one (ps_ret (pe_and (pe_callB call_isi (by rfl) T.m_isinstance (by decide +kernel) (pa_cons (pv 0) (pa_cons (pe_bltn (v := .ty "str") (by rfl) T.m_str (by decide +kernel) rfl) pa_nil))) (pe_one (pe_chain op_le op_le pe_int (pe_callB call_len_str (by rfl) T.m_len (by decide +kernel) (pa_cons (pv 0) pa_nil)) (pe_glob (v := .int 8) (by rfl) T.g_LONGEST.choose_spec ⟨_, rfl⟩)))))), ?_⟩
    rcases hv with ⟨z, rfl, hz⟩ | ⟨no, t, ty, k⟩
    · refine ⟨.str z, rfl, _, _, _, _, true, rfl, .ty _, .base (.str z), kit_ty (by decide +kernel), _, rfl, iteT ?_⟩
      have q' : Q (.bl (decide (1 ≤ (z.length : Int)) && decide ((z.length : Int) ≤ 8))) H := by
        have e : shV (.str z) = (decide (1 ≤ (z.length : Int)) && decide ((z.length : Int) ≤ 8)) := by
          show (decide (1 ≤ (z.cps.toList.length : Int)) && decide ((z.cps.toList.length : Int) ≤ 8)) = _
          rw [len_toList]
        rw [← e]
        exact q
      refine ⟨.str z, rfl, z, rfl, thou hz, _, _, rfl, rfl, _, rfl, ite2 (fun e => ?_) (fun e => ?_)⟩
      · refine ⟨_, _, rfl, rfl, ?_⟩
        rw [e] at q'
        exact q'
      · rw [Bool.eq_false_iff.mpr e] at q'
        exact q'
    · rw [(nmV_no no).2.2] at q
      exact ⟨v, rfl, _, _, _, _, false, rfl, .ty _, ty, kit_ty k, _, rfl, iteF q⟩
def spSmall : Sp := fun vs H Q _ => ∃ z : Str, vs = [.str z] ∧ z.length ≤ 1000 ∧ ∀ H', Same H H' → Q (.bl (z.cps.toList.all smC)) H'
theorem all_map {f : Nat → Bool} : ∀ xs : List Nat, (xs.map f).all id = xs.all f
  | [] => rfl
  | x :: r => by rw [List.map_cons, List.all_cons, List.all_cons, all_map r]; rfl
theorem ok_are_small (T : Top w K mg) : FnOk P w K mg base CX0 1 T.a_are_small T.fd_are_small ["text"] spSmall := by
  refine T.F_are_small.ok sc_are_small (fun vs H Q E h => ?_) (fun cdv A outer s H vs Q E hr h => ?_)
  · obtain ⟨z, rfl, _⟩ := h
    rfl
  · obtain ⟨z, rfl, hz, q⟩ := h
    refine ⟨_, (pss_one (ps_ret (pe_callB (cr_all rfl) (by rfl) T.m_all (by decide +kernel) (pa_cons (pe_lc (own := [("letter", 1)]) (g := gName 1) (by rfl) sc_are_small.nd (pi_str (pv 0)) (blkOk_by (own := [("letter", 1)]) (N := ["text", "letter"]) (sc := defScope s_are_small) (by decide +kernel)) (fun _ _ _ _ _ => (pg_name (i := 1) sc_are_small.nd rfl (Or.inl rfl))) (fun _ _ _ _ _ => pts_nil) (fun _ _ _ _ _ => (pe_cmpR op_in_sign (pv 1) (pe_glob (v := .str "abcdefghijklmnopqrstuvwxyz") (by rfl) T.g_SMALL.choose_spec ⟨_, rfl⟩) (by rfl)))) pa_nil)))), ?_⟩
    refine ⟨.str z, rfl, z, rfl, fun D hD => lc_it walk_str (fun i H' => Same H H' ∧ H' D = some (.lst (((z.cps.toList.take i).map smC).map V.bl))) ⟨same_upd hD, upd_same⟩ (fun _ _ _ _ => trivial) ?_ ?_⟩
    · rintro i x H1 H2 hi ⟨sm, eD⟩ ⟨rfl, c, hc, rfl⟩
      refine ⟨rfl, ?_⟩
      refine ⟨_, rfl, c, _, rfl, rfl, _, eD, ?_, ?_, ?_⟩
      · rw [List.length_map, List.length_map, List.length_take, len_toList]
        exact small1000 (by omega)
      · exact fun b' o e => by
          rw [upd_ne (ne_of_none e hD)]
          exact sm _ _ e
      · rw [upd_same, List.take_add_one, Array.getElem?_toList, hc, List.map_append, List.map_append]
        rfl
    · rintro H1 ⟨sm, eD⟩
      have e2 : z.cps.toList.take z.cps.size = z.cps.toList := List.take_of_length_le (by rw [Array.length_toList]; exact Nat.le_refl _)
      rw [e2] at eD
      refine ⟨_, z.cps.toList.map smC, rfl, .inl (.inl eD), ?_⟩
      rw [all_map]
      exact q _ sm
def spIsV (K : PySem.W.Frag) (f : V → Bool) : Sp := fun vs H Q _ => ∃ v, vs = [v] ∧ Th K H v ∧ ∀ H', Same H H' → Q (.bl (f v)) H'
theorem ok_is_name (T : Top w K mg) : FnOk P w K mg base CX0 2 T.a_is_name T.fd_is_name ["thing"] (spIsV K nmV) := by
  have G_is_short_text := ok_is_short_text (P := P) (w := w) (base := base) T
  have G_are_small := ok_are_small (P := P) (w := w) (base := base) T
  refine T.F_is_name.ok sc_is_name (fun vs H Q E h => ?_) (fun cdv A outer s H vs Q E hr h => ?_)
  · obtain ⟨v, rfl, _⟩ := h
    rfl
  · obtain ⟨v, rfl, hv, q⟩ := h
    refine ⟨_, (pss_one (ps_ret (pe_and (pe_call G_is_short_text hr (by rfl) T.g_is_short_text T.F_is_short_text.kp T.b_is_short_text .nil pass0 (pa_cons (pv 0) pa_nil)) (pe_one (pe_call G_are_small hr (by rfl) T.g_are_small T.F_are_small.kp T.b_are_small .nil pass0 (pa_cons (pv 0) pa_nil)))))), ?_⟩
    refine ⟨v, rfl, v, rfl, hv, _, rfl, ite2 (fun e => ?_) (fun e => ?_)⟩
    · rcases hv with ⟨z, rfl, hz⟩ | ⟨no, _⟩
      · refine ⟨.str z, rfl, z, rfl, hz, fun H' sm => ?_⟩
        have h := q H' sm
        have e2 : nmV (.str z) = z.cps.toList.all smC := by
          show (shV (.str z) && z.cps.toList.all smC) = _
          rw [e]
          rfl
        rw [e2] at h
        exact h
      · rw [(nmV_no no).2.2] at e
        cases e
    · have h := q H (Same.refl H)
      have e2 : nmV v = false := by
        rcases hv with ⟨z, rfl, hz⟩ | ⟨no, _⟩
        · show (shV (.str z) && z.cps.toList.all smC) = _
          rw [Bool.eq_false_iff.mpr e]
          rfl
        · exact (nmV_no no).1
      rw [e2] at h
      exact h
theorem cut_tail (c : Nat) (r : List Nat) : cutS ⟨⟨c :: r⟩⟩ (some 1) none = ⟨⟨r⟩⟩ := by
  unfold cutS
  have e1 : HT.sIx (Str.length ⟨⟨c :: r⟩⟩) 0 (some 1) = 1 := by
    rw [show HT.sIx (Str.length ⟨⟨c :: r⟩⟩) 0 (some 1) = min 1 (Str.length ⟨⟨c :: r⟩⟩) from HT.sIx_nat _ 0 1]
    show min 1 (r.length + 1) = 1
    omega
  rw [e1, HT.sIx_none]
  show (⟨(List.take ((c :: r).length - 1) r).toArray⟩ : Str) = ⟨⟨r⟩⟩
  rw [List.length_cons, Nat.add_sub_cancel, List.take_length]
theorem ok_is_lone (T : Top w K mg) : FnOk P w K mg base CX0 2 T.a_is_lone T.fd_is_lone ["thing"] (spIsV K loV) := by
  have G_is_short_text := ok_is_short_text (P := P) (w := w) (base := base) T
  have G_are_small := ok_are_small (P := P) (w := w) (base := base) T
  refine T.F_is_lone.ok sc_is_lone (fun vs H Q E h => ?_) (fun cdv A outer s H vs Q E hr h => ?_)
  · obtain ⟨v, rfl, _⟩ := h
    rfl
  · obtain ⟨v, rfl, hv, q⟩ := h
    refine ⟨_, (pss_one (ps_ret (pe_and (pe_call G_is_short_text hr (by rfl) T.g_is_short_text T.F_is_short_text.kp T.b_is_short_text .nil pass0 (pa_cons (pv 0) pa_nil)) (pe_and (pe_cmpR op_in_sign (pe_ix ix_str (pv 0) pe_int (fun _ _ => rfl)) (pe_glob (v := .str "ABCDEFGHIJKLMNOPQRSTUVWXYZ") (by rfl) T.g_GREAT.choose_spec ⟨_, rfl⟩) (by rfl)) (pe_one (pe_call G_are_small hr (by rfl) T.g_are_small T.F_are_small.kp T.b_are_small .nil pass0 (pa_cons (pe_slice sl_str (pv 0) (po_some pe_int) po_none) pa_nil))))))), ?_⟩
    refine ⟨v, rfl, v, rfl, hv, _, rfl, ite2 (fun e => ?_) (fun e => ?_)⟩
    · rcases hv with ⟨⟨⟨cs⟩⟩, rfl, hz⟩ | ⟨no, _⟩
      · match cs, hz, e, q with
        | [], _, e, _ => cases e
        | c :: r, hz, e, q =>
          have hz2 : r.length + 1 ≤ 1000 := hz
          refine ⟨_, rfl, _, 0, c, rfl, rfl, thou hz, atI_nat (j := 0) rfl, c, _, rfl, rfl, _, rfl, ite2 (fun e3 => ?_) (fun e3 => ?_)⟩
          · refine ⟨_, rfl, 1, rfl, _, rfl, thou hz, ?_⟩
            rw [cut_tail]
            refine ⟨_, rfl, by show r.length ≤ 1000; omega, fun H' sm => ?_⟩
            have h := q H' sm
            have e2 : loV (.str ⟨⟨c :: r⟩⟩) = r.all smC := by
              show (shL (c :: r) && (grC c && r.all smC)) = _
              rw [show shL (c :: r) = true from e, show grC c = true from e3]
              rfl
            rw [e2] at h
            exact h
          · have h := q H (Same.refl H)
            have e2 : loV (.str ⟨⟨c :: r⟩⟩) = false := by
              show (shL (c :: r) && (grC c && r.all smC)) = _
              rw [show grC c = false from Bool.eq_false_iff.mpr e3, Bool.false_and, Bool.and_false]
            rw [e2] at h
            exact h
      · rw [(nmV_no no).2.2] at e
        cases e
    · have h := q H (Same.refl H)
      have e2 : loV v = false := by
        rcases hv with ⟨⟨⟨cs⟩⟩, rfl, hz⟩ | ⟨no, _⟩
        · match cs, e with
          | [], _ => rfl
          | c :: r, e =>
            show (shL (c :: r) && (grC c && r.all smC)) = _
            rw [show shL (c :: r) = false from Bool.eq_false_iff.mpr e]
            rfl
        · exact (nmV_no no).2.1
      rw [e2] at h
      exact h
theorem ok_is_sign (T : Top w K mg) : FnOk P w K mg base CX0 3 T.a_is_sign T.fd_is_sign ["thing"] (spIsV K sgV) := by
  have G_is_name := ok_is_name (P := P) (w := w) (base := base) T
  have G_is_lone := ok_is_lone (P := P) (w := w) (base := base) T
  refine T.F_is_sign.ok sc_is_sign (fun vs H Q E h => ?_) (fun cdv A outer s H vs Q E hr h => ?_)
  · obtain ⟨v, rfl, _⟩ := h
    rfl
  · obtain ⟨v, rfl, hv, q⟩ := h
    refine ⟨_, (pss_one (ps_ret (pe_or (pe_call G_is_name hr (by rfl) T.g_is_name T.F_is_name.kp T.b_is_name .nil pass0 (pa_cons (pv 0) pa_nil)) (pe_one (pe_call G_is_lone hr (by rfl) T.g_is_lone T.F_is_lone.kp T.b_is_lone .nil pass0 (pa_cons (pv 0) pa_nil)))))), ?_⟩
    refine ⟨v, rfl, v, rfl, hv, fun H1 s1 => ⟨_, rfl, ite2 (fun e => ?_) (fun e => ?_)⟩⟩
    · have h := q H1 s1
      rw [show sgV v = true by unfold sgV; rw [e]; rfl] at h
      exact h
    · refine ⟨v, rfl, v, rfl, hv.same s1, fun H2 s2 => ?_⟩
      have h := q H2 (s1.trans s2)
      rw [show sgV v = loV v by unfold sgV; rw [Bool.eq_false_iff.mpr e]; rfl] at h
      exact h
/-! ### parts of entries -/
theorem units65 {k : Nat} {A : Around} (hr : Room k A) : A.units + 65 < cLine := by
  have := hr.un
  omega
def rEqA (K : PySem.W.Frag) : R2 := fun x y H Q => rEq x y H Q ∨ rEqD K x y H Q
theorem op_eqA {X : Cx} (hu : X.A.units + 64 < cLine) : OpR X (compareOp .Eq) (rEqA X.K) := by
  intro pins s σ H x y v u Q I rx ry h
  rcases h with h | h
  · exact op_eq pins s σ H x y v u Q I rx ry h
  · exact op_eqD hu pins s σ H x y v u Q I rx ry h
def rInTD (K : PySem.W.Frag) : R2 := fun x y H Q => ∃ d ds, Dp K H x d ∧ Dp K H y (.tuple ds) ∧ SeqAt.shaped d = true ∧ SeqAt.shaped (.tuple ds) = true ∧ Q (.bl (ds.any fun z => PyData.eqv z d)) H
def rInA (K : PySem.W.Frag) : R2 := fun x y H Q => rIn K false x y H Q ∨ rInTD K x y H Q
theorem op_inA {X : Cx} (hu : X.A.units + 65 < cLine) : OpR X (compareOp .In) (rInA X.K) := by
  intro pins s σ H x y v u Q I rx ry h
  rcases h with h | ⟨d, ds, hd, he, sd, se, q⟩
  · exact op_in_seq pins s σ H x y v u Q I rx ry h
  · obtain ⟨as, r1⟩ := Dp.reads I d x v hd rx
    obtain ⟨bs, r2⟩ := Dp.reads I (.tuple ds) y u he ry
    exact SeqAt.in_tuple_reads r2 r1 (SeqAt.canLay_of_shaped se) (SeqAt.canLay_of_shaped sd) (room_in_shaped sd hu) ⟨.bl _, H, I, rfl, q⟩
/-- a part of an entry: no text too long; what is nested is of the kind that can be compared -/
def gp : PyData → Bool
  | .none => true
  | .bool _ => true
  | .int _ => true
  | .str z => decide (z.length ≤ 1000)
  | .list ds => SeqAt.shaped (.list ds)
  | .tuple ds => SeqAt.shaped (.tuple ds)
  | .dict _ => false
/-- equal to a text -/
def eqS : PyData → Str → Bool
  | .str z, s => s == z
  | _, _ => false
def inW (d : PyData) (ws : List Str) : Bool := ws.any fun s => eqS d s
theorem dec_str (z s : Str) : decide (V.str z = V.str s) = (s == z) := by
  by_cases h : s = z
  · subst h
    rw [decide_eq_true rfl, beq_self_eq_true]
  · rw [decide_eq_false (fun e => h (V.str.inj e).symm), beq_eq_false_iff_ne.mpr h]
theorem eqA_of {K : PySem.W.Frag} {H : Hp} {v : V} {d : PyData} {s : Str} {Q : VK} (hd : Dp K H v d) (g : gp d = true) (hs : SeqAt.shaped (.str s) = true) (q : Q (.bl (eqS d s)) H) : rEqA K v (.str s) H Q := by
  cases hd with
  | non => exact .inl ⟨rfl, by rw [decide_eq_false (fun h => nomatch h)]; exact q⟩
  | bl b => exact .inl ⟨rfl, by rw [decide_eq_false (fun h => nomatch h)]; exact q⟩
  | int i => exact .inl ⟨rfl, by rw [decide_eq_false (fun h => nomatch h)]; exact q⟩
  | str z => exact .inl ⟨rfl, by rw [dec_str]; exact q⟩
  | lst h a => exact .inr ⟨_, _, .lst h a, .str s, g, hs, q⟩
  | tup h a => exact .inr ⟨_, _, .tup h a, .str s, g, hs, q⟩
theorem dpa_strs {K : PySem.W.Frag} {H : Hp} : ∀ ws : List Str, DpAll K H (ws.map V.str) (ws.map PyData.str)
  | [] => .nil
  | w :: r => .cons (.str w) (dpa_strs r)
theorem flat_strs : ∀ ws : List Str, (ws.map V.str).all flatV = true
  | [] => rfl
  | w :: r => by rw [List.map_cons, List.all_cons, flat_strs r]; rfl
theorem inW_flat {v : V} {d : PyData} (h : ∀ s : Str, eqV (.str s) v = eqS d s) : ∀ ws : List Str, inV v (ws.map V.str) = inW d ws
  | [] => rfl
  | w :: r => by
    have ih := inW_flat h r
    unfold inV inW at ih ⊢
    rw [List.map_cons, List.any_cons, List.any_cons, ih, h w]
theorem inW_deep {d : PyData} (h : ∀ s : Str, PyData.eqv (.str s) d = eqS d s) : ∀ ws : List Str, ((ws.map PyData.str).any fun z => PyData.eqv z d) = inW d ws
  | [] => rfl
  | w :: r => by
    have ih := inW_deep h r
    unfold inW at ih ⊢
    rw [List.map_cons, List.any_cons, List.any_cons, ih, h w]
theorem inA_of {K : PySem.W.Frag} {H : Hp} {v : V} {d : PyData} {p : Addr} {ws : List Str} {Q : VK} (hd : Dp K H v d) (g : gp d = true) (hp : SqT K H p (ws.map V.str)) (hs : SeqAt.shaped (.tuple (ws.map PyData.str)) = true) (q : Q (.bl (inW d ws)) H) : rInA K v (.ref p) H Q := by
  cases hd with
  | non => exact .inl ⟨p, _, rfl, .inr hp, rfl, flat_strs ws, by rw [← inW_flat (v := .non) (d := .none) (fun s => rfl)] at q; exact q⟩
  | bl b => exact .inl ⟨p, _, rfl, .inr hp, rfl, flat_strs ws, by rw [← inW_flat (v := .bl b) (d := .bool b) (fun s => rfl)] at q; exact q⟩
  | int i => exact .inl ⟨p, _, rfl, .inr hp, rfl, flat_strs ws, by rw [← inW_flat (v := .int i) (d := .int i) (fun s => rfl)] at q; exact q⟩
  | str z => exact .inl ⟨p, _, rfl, .inr hp, rfl, flat_strs ws, by rw [← inW_flat (v := .str z) (d := .str z) (fun s => rfl)] at q; exact q⟩
  | lst h a => exact .inr ⟨_, _, .lst h a, .tup hp (dpa_strs ws), g, hs, by rw [inW_deep (fun s => by simp [PyData.eqv, eqS])]; exact q⟩
  | tup h a => exact .inr ⟨_, _, .tup h a, .tup hp (dpa_strs ws), g, hs, by rw [inW_deep (fun s => by simp [PyData.eqv, eqS])]; exact q⟩
theorem th_dp {K : PySem.W.Frag} {H : Hp} {v : V} {d : PyData} (h : Dp K H v d) (g : gp d = true) : Th K H v := by
  cases h with
  | str z => exact .inl ⟨z, rfl, of_decide_eq_true g⟩
  | non => exact .inr ⟨(fun z e => nomatch e), _, .base .non, by decide +kernel⟩
  | bl b => exact .inr ⟨(fun z e => nomatch e), _, .base (.bl b), by decide +kernel⟩
  | int i => exact .inr ⟨(fun z e => nomatch e), _, .base (.int i), by decide +kernel⟩
  | lst h _ => exact .inr ⟨(fun z e => nomatch e), _, ty_lst h, by decide +kernel⟩
  | tup h _ => exact .inr ⟨(fun z e => nomatch e), _, ty_tup h, by decide +kernel⟩
def sgD : PyData → Bool
  | .str z => sgV (.str z)
  | _ => false
theorem sg_dp {K : PySem.W.Frag} {H : Hp} {v : V} {d : PyData} (h : Dp K H v d) : sgV v = sgD d := by
  cases h <;> rfl
/-! ### entries -/
def manyD : PyData → Bool
  | .int i => decide (1 ≤ i) && decide (i ≤ 9)
  | _ => false
abbrev lets : List Str := [PySem.Str.ofString "n", PySem.Str.ofString "e", PySem.Str.ofString "s", PySem.Str.ofString "w"]
def letD (d : PyData) : Bool := inW d lets
abbrev wAlone : List Str := [PySem.Str.ofString "left", PySem.Str.ofString "right", PySem.Str.ofString "back", PySem.Str.ofString "bump", PySem.Str.ofString "bare", PySem.Str.ofString "swap"]
abbrev wFace : List Str := [PySem.Str.ofString "left", PySem.Str.ofString "right", PySem.Str.ofString "back", PySem.Str.ofString "go", PySem.Str.ofString "bump", PySem.Str.ofString "spy"]
def pairD (w p : PyData) : Bool := if eqS w "face" = true then letD p else if eqS w "go" = true then manyD p else eqS w "sign" && sgD p
def entL : List PyData → Bool
  | [a] => inW a wAlone
  | [a, b] => pairD a b
  | [a, b, c] => eqS a "spy" && (manyD b && sgD c)
  | _ => false
def entD (d : PyData) : Bool := match seqD d with
  | some ds => entL ds
  | none => false
/-- a thing in the place of an entry -/
def ge (d : PyData) : Bool := match seqD d with
  | some ds => decide (ds.length ≤ 20) && ds.all gp
  | none => gp d
--@@SPLIT
def whD : PyData → Bool
  | .int _ => true
  | _ => false
def spWholeD (K : PySem.W.Frag) : Sp := fun vs H Q _ => ∃ (v : V) (d : PyData), vs = [v] ∧ Dp K H v d ∧ Q (.bl (whD d)) H
theorem ok_is_wholeD (T : Top w K mg) : FnOk P w K mg base CX0 1 T.a_is_whole T.fd_is_whole ["thing"] (spWholeD K) := by
  refine T.F_is_whole.ok sc_is_whole (fun vs H Q E h => ?_) (fun cdv A outer s H vs Q E hr h => ?_)
  · obtain ⟨v, d, rfl, _⟩ := h
    rfl
  · obtain ⟨v, d, rfl, hd, q⟩ := h
    refine ⟨_, (pss_one (ps_ret (pe_and (pe_callB call_isi (by rfl) T.m_isinstance (by decide +kernel) (pa_cons (pv 0) (pa_cons (pe_bltn (v := .ty "int") (by rfl) T.m_int (by decide +kernel) rfl) pa_nil))) (pe_one (pe_not (pe_callB call_isi (by rfl) T.m_isinstance (by decide +kernel) (pa_cons (pv 0) (pa_cons (pe_bltn (v := .ty "bool") (by rfl) T.m_bool (by decide +kernel) rfl) pa_nil)))))))), ?_⟩
    cases hd with
    | non => exact ⟨.non, rfl, _, _, _, _, false, rfl, .ty _, .base .non, kit_ty (by decide +kernel), _, rfl, iteF q⟩
    | bl b => exact ⟨.bl b, rfl, _, _, _, _, true, rfl, .ty _, .base (.bl b), kit_ty (by decide +kernel), _, rfl, iteT ⟨.bl b, rfl, _, _, _, _, true, rfl, .ty _, .base (.bl b), kit_ty (by decide +kernel), _, rfl, q⟩⟩
    | int i => exact ⟨.int i, rfl, _, _, _, _, true, rfl, .ty _, .base (.int i), kit_ty (by decide +kernel), _, rfl, iteT ⟨.int i, rfl, _, _, _, _, false, rfl, .ty _, .base (.int i), kit_ty (by decide +kernel), _, rfl, q⟩⟩
    | str z => exact ⟨.str z, rfl, _, _, _, _, false, rfl, .ty _, .base (.str z), kit_ty (by decide +kernel), _, rfl, iteF q⟩
    | lst h _ => exact ⟨_, rfl, _, _, _, _, false, rfl, .ty _, ty_lst h, kit_ty (by decide +kernel), _, rfl, iteF q⟩
    | tup h _ => exact ⟨_, rfl, _, _, _, _, false, rfl, .ty _, ty_tup h, kit_ty (by decide +kernel), _, rfl, iteF q⟩
/-! ### the program's reading of an entry -/
def Keys : List DictEntry → List Str → Prop
  | [], [] => True
  | e :: r, k :: ks => (∃ t, e.key = .str k t) ∧ Keys r ks
  | _, _ => False
theorem find_keys (z : Str) : ∀ (l : List DictEntry) (ks : List Str), Keys l ks → (l.find? (·.key.isStr z)).isSome = (ks.any fun s => s == z) ∧ l.any (·.refKey) = false
  | [], [], _ => ⟨rfl, rfl⟩
  | e :: r, k :: ks, h => by
    obtain ⟨⟨t, hk⟩, hr⟩ := h
    obtain ⟨i1, i2⟩ := find_keys z r ks hr
    have e1 : e.key.isStr z = (k == z) := by rw [hk]; rfl
    have e2 : e.refKey = false := by unfold DictEntry.refKey; rw [hk]
    constructor
    · rw [List.find?_cons, e1, List.any_cons]
      cases k == z with
      | true => rfl
      | false => exact i1
    · rw [List.any_cons, e2, i2]
      rfl
  | [], _ :: _, h => h.elim
  | _ :: _, [], h => h.elim
theorem ns_keys {K : PySem.W.Frag} {a : Addr} {es : Array DictEntry} {n : Nat} {ks : List Str} (h : K.lookup a = some ⟨.type "dict", none, .dict es n, #[]⟩) (hk : Keys es.toList ks) (z : Str) : ∃ r, PySem.W.nsIn K a z = some r ∧ r.isSome = (ks.any fun s => s == z) := by
  obtain ⟨i1, i2⟩ := find_keys z es.toList ks hk
  unfold PySem.W.nsIn
  rw [h]
  cases e : es.toList.find? (·.key.isStr z) with
  | some x =>
    rw [e] at i1
    refine ⟨some x.val, ?_, i1⟩
    simp only [e]
  | none =>
    rw [e] at i1
    refine ⟨none, ?_, i1⟩
    simp only [e, i2]
    rfl
def spPart (K : PySem.W.Frag) (f : PyData → Bool) : Sp := fun vs H Q _ => ∃ (v : V) (d : PyData), vs = [v] ∧ gp d = true ∧ Dp K H v d ∧ ∀ H', Same H H' → Q (.bl (f d)) H'
theorem ok_is_letter (T : Top w K mg) : FnOk P w K mg base CX0 1 T.a_is_letter T.fd_is_letter ["thing"] (spPart K letD) := by
  refine T.F_is_letter.ok sc_is_letter (fun vs H Q E h => ?_) (fun cdv A outer s H vs Q E hr h => ?_)
  · obtain ⟨v, d, rfl, _⟩ := h
    rfl
  · obtain ⟨v, d, rfl, g, hd, q⟩ := h
    refine ⟨_, (pss_one (ps_ret (pe_and (pe_callB call_isi (by rfl) T.m_isinstance (by decide +kernel) (pa_cons (pv 0) (pa_cons (pe_bltn (v := .ty "str") (by rfl) T.m_str (by decide +kernel) rfl) pa_nil))) (pe_one (pe_cmpR (op_in_kd T.kd_STEPS) (pv 0) (pe_glob (v := .ref T.a_STEPS) (by rfl) T.g_STEPS rfl) (by rfl)))))), ?_⟩
    refine ⟨v, rfl, _, _, _, _, _, rfl, .ty _, ty_dp hd, kit_ty (kit_str d), _, rfl, ?_⟩
    have q := q H (Same.refl H)
    cases hd with
    | str z =>
      obtain ⟨r, h1, h2⟩ := T.ns_STEPS z
      refine iteT ⟨.str z, rfl, z, r, rfl, rfl, h1, ?_⟩
      rw [h2]
      exact q
    | non => exact iteF q
    | bl b => exact iteF q
    | int i => exact iteF q
    | lst h _ => exact iteF q
    | tup h _ => exact iteF q
theorem ok_is_many (T : Top w K mg) : FnOk P w K mg base CX0 2 T.a_is_many T.fd_is_many ["thing"] (spPart K manyD) := by
  have G_is_whole := ok_is_wholeD (P := P) (w := w) (base := base) T
  refine T.F_is_many.ok sc_is_many (fun vs H Q E h => ?_) (fun cdv A outer s H vs Q E hr h => ?_)
  · obtain ⟨v, d, rfl, _⟩ := h
    rfl
  · obtain ⟨v, d, rfl, g, hd, q⟩ := h
    refine ⟨_, (pss_one (ps_ret (pe_and (pe_call G_is_whole hr (by rfl) T.g_is_whole T.F_is_whole.kp T.b_is_whole .nil pass0 (pa_cons (pv 0) pa_nil)) (pe_one (pe_chain op_le op_le pe_int (pv 0) pe_int))))), ?_⟩
    refine ⟨v, rfl, v, d, rfl, hd, _, rfl, ?_⟩
    have q := q H (Same.refl H)
    cases hd with
    | int i =>
      refine iteT ⟨.int i, rfl, _, _, rfl, rfl, _, rfl, ite2 (fun e => ?_) (fun e => ?_)⟩
      · refine ⟨_, _, rfl, rfl, ?_⟩
        have e2 : manyD (.int i) = decide (i ≤ 9) := by
          show (decide (1 ≤ i) && decide (i ≤ 9)) = _
          rw [e]
          rfl
        rw [e2] at q
        exact q
      · have e2 : manyD (.int i) = false := by
          show (decide (1 ≤ i) && decide (i ≤ 9)) = _
          rw [Bool.eq_false_iff.mpr e]
          rfl
        rw [e2] at q
        exact q
    | non => exact iteF q
    | bl b => exact iteF q
    | str z => exact iteF q
    | lst h _ => exact iteF q
    | tup h _ => exact iteF q
def spPair (K : PySem.W.Frag) : Sp := fun vs H Q _ => ∃ (v u : V) (d c : PyData), vs = [v, u] ∧ gp d = true ∧ gp c = true ∧ Dp K H v d ∧ Dp K H u c ∧ ∀ H', Same H H' → Q (.bl (pairD d c)) H'
theorem ok_is_pair_entry (T : Top w K mg) : FnOk P w K mg base CX0 4 T.a_is_pair_entry T.fd_is_pair_entry ["word", "part"] (spPair K) := by
  have G_is_letter := ok_is_letter (P := P) (w := w) (base := base) T
  have G_is_many := ok_is_many (P := P) (w := w) (base := base) T
  have G_is_sign := ok_is_sign (P := P) (w := w) (base := base) T
  refine T.F_is_pair_entry.ok sc_is_pair_entry (fun vs H Q E h => ?_) (fun cdv A outer s H vs Q E hr h => ?_)
  · obtain ⟨v, u, d, c, rfl, _⟩ := h
    rfl
  · obtain ⟨v, u, d, c, rfl, gd, gc, hd, hc, q⟩ := h
    refine ⟨_, (pss_cons (ps_if (pt_cmpR (op_eqA hr.units) (pv 0) pe_str (nomark _)) (pss_one (ps_ret (pe_call G_is_letter (hr.mono (by decide)) (by rfl) T.g_is_letter T.F_is_letter.kp T.b_is_letter .nil pass0 (pa_cons (pv 1) pa_nil)))) pss_nil)
      (pss_cons (ps_if (pt_cmpR (op_eqA hr.units) (pv 0) pe_str (nomark _)) (pss_one (ps_ret (pe_call G_is_many (hr.mono (by decide)) (by rfl) T.g_is_many T.F_is_many.kp T.b_is_many .nil pass0 (pa_cons (pv 1) pa_nil)))) pss_nil)
      (pss_one (ps_ret (pe_and (pe_cmpR (op_eqA hr.units) (pv 0) pe_str (nomark _)) (pe_one (pe_call G_is_sign hr (by rfl) T.g_is_sign T.F_is_sign.kp T.b_is_sign .nil pass0 (pa_cons (pv 1) pa_nil)))))))), ?_⟩
    refine ⟨v, rfl, eqA_of hd gd (by decide +kernel) ⟨_, rfl, ite2 (fun e1 => ?_) (fun e1 => ?_)⟩⟩
    · rw [show pairD d c = letD c from if_pos e1] at q
      exact ⟨u, rfl, u, c, rfl, gc, hc, q⟩
    refine ⟨v, rfl, eqA_of hd gd (by decide +kernel) ⟨_, rfl, ite2 (fun e2 => ?_) (fun e2 => ?_)⟩⟩
    · rw [show pairD d c = manyD c by unfold pairD; rw [if_neg e1, if_pos e2]] at q
      exact ⟨u, rfl, u, c, rfl, gc, hc, q⟩
    rw [show pairD d c = (eqS d "sign" && sgD c) by unfold pairD; rw [if_neg e1, if_neg e2]] at q
    refine ⟨v, rfl, eqA_of hd gd (by decide +kernel) ⟨_, rfl, ite2 (fun e3 => ?_) (fun e3 => ?_)⟩⟩
    · rw [e3] at q
      refine ⟨u, rfl, u, rfl, th_dp hc gc, fun H' sm => ?_⟩
      rw [sg_dp hc]
      exact q H' sm
    · rw [Bool.eq_false_iff.mpr e3] at q
      exact q H (Same.refl H)
theorem ge_parts {d : PyData} {ds : List PyData} (h : ge d = true) (e : seqD d = some ds) : ds.length ≤ 20 ∧ ∀ x ∈ ds, gp x = true := by
  unfold ge at h
  rw [e] at h
  obtain ⟨h1, h2⟩ := Bool.and_eq_true_iff.mp h
  exact ⟨of_decide_eq_true h1, List.all_eq_true.mp h2⟩
/-- the parts of a list or tuple, whichever it is -/
theorem len1 {α : Type} : ∀ l : List α, l.length = 1 → ∃ a, l = [a]
  | [a], _ => ⟨a, rfl⟩
  | [], h => by cases h
  | _ :: _ :: _, h => by simp at h
theorem len2 {α : Type} : ∀ l : List α, l.length = 2 → ∃ a b, l = [a, b]
  | [a, b], _ => ⟨a, b, rfl⟩
  | [], h => by cases h
  | [_], h => by simp at h
  | _ :: _ :: _ :: _, h => by simp at h
theorem len3 {α : Type} : ∀ l : List α, l.length = 3 → ∃ a b c, l = [a, b, c]
  | [a, b, c], _ => ⟨a, b, c, rfl⟩
  | [], h => by cases h
  | [_], h => by simp at h
  | [_, _], h => by simp at h
  | _ :: _ :: _ :: _ :: _, h => by simp at h
theorem ent_else : ∀ ds : List PyData, ¬ ds.length = 1 → ¬ ds.length = 2 → ¬ ds.length = 3 → entL ds = false
  | [], _, _, _ => rfl
  | [_], h, _, _ => absurd rfl h
  | [_, _], _, h, _ => absurd rfl h
  | [_, _, _], _, _, h => absurd rfl h
  | _ :: _ :: _ :: _ :: _, _, _, _ => rfl
theorem dpa1 {K : PySem.W.Frag} {H : Hp} {xs : List V} {a : PyData} (h : DpAll K H xs [a]) : ∃ x, xs = [x] ∧ Dp K H x a := by
  cases h with
  | cons h1 h2 => cases h2; exact ⟨_, rfl, h1⟩
theorem dpa2 {K : PySem.W.Frag} {H : Hp} {xs : List V} {a b : PyData} (h : DpAll K H xs [a, b]) : ∃ x y, xs = [x, y] ∧ Dp K H x a ∧ Dp K H y b := by
  cases h with
  | cons h1 h2 =>
    obtain ⟨y, rfl, h3⟩ := dpa1 h2
    exact ⟨_, y, rfl, h1, h3⟩
theorem dpa3 {K : PySem.W.Frag} {H : Hp} {xs : List V} {a b c : PyData} (h : DpAll K H xs [a, b, c]) : ∃ x y z, xs = [x, y, z] ∧ Dp K H x a ∧ Dp K H y b ∧ Dp K H z c := by
  cases h with
  | cons h1 h2 =>
    obtain ⟨y, z, rfl, h3, h4⟩ := dpa2 h2
    exact ⟨_, y, z, rfl, h1, h3, h4⟩
def spEntry (K : PySem.W.Frag) : Sp := fun vs H Q _ => ∃ (v : V) (d : PyData), vs = [v] ∧ ge d = true ∧ Dp K H v d ∧ ∀ H', Same H H' → Q (.bl (entD d)) H'
theorem ok_is_entry (T : Top w K mg) : FnOk P w K mg base CX0 5 T.a_is_entry T.fd_is_entry ["thing"] (spEntry K) := by
  have G_is_pair_entry := ok_is_pair_entry (P := P) (w := w) (base := base) T
  have G_is_many := ok_is_many (P := P) (w := w) (base := base) T
  have G_is_sign := ok_is_sign (P := P) (w := w) (base := base) T
  refine T.F_is_entry.ok sc_is_entry (fun vs H Q E h => ?_) (fun cdv A outer s H vs Q E hr h => ?_)
  · obtain ⟨v, d, rfl, _⟩ := h
    rfl
  · obtain ⟨v, d, rfl, g, hd, q⟩ := h
    refine ⟨_, (pss_cons (ps_if (pt_not (pt_val (pe_callB call_isiT (by rfl) T.m_isinstance (by decide +kernel) (pa_cons (pv 0) (pa_cons (pe_tup (pa_cons (pe_bltn (v := .ty "tuple") (by rfl) T.m_tuple (by decide +kernel) rfl) (pa_cons (pe_bltn (v := .ty "list") (by rfl) T.m_list (by decide +kernel) rfl) pa_nil))) pa_nil))))) (pss_one (ps_ret pe_bl)) pss_nil)
      (pss_cons (ps_if (pt_cmpR op_eq (pe_callB call_len_seq (by rfl) T.m_len (by decide +kernel) (pa_cons (pv 0) pa_nil)) pe_int (nomark _)) (pss_one (ps_ret (pe_cmpR (op_inA (units65 hr)) (pe_ix ix_seq (pv 0) pe_int (fun _ _ => rfl)) (pe_glob (v := .ref T.a_WORDS_ALONE) (by rfl) T.g_WORDS_ALONE rfl) (by rfl)))) pss_nil)
      (pss_cons (ps_if (pt_cmpR op_eq (pe_callB call_len_seq (by rfl) T.m_len (by decide +kernel) (pa_cons (pv 0) pa_nil)) pe_int (nomark _)) (pss_one (ps_ret (pe_call G_is_pair_entry hr (by rfl) T.g_is_pair_entry T.F_is_pair_entry.kp T.b_is_pair_entry .nil pass0 (pa_cons (pe_ix ix_seq (pv 0) pe_int (fun _ _ => rfl)) (pa_cons (pe_ix ix_seq (pv 0) pe_int (fun _ _ => rfl)) pa_nil))))) pss_nil)
      (pss_one (ps_ret (pe_and (pe_cmpR op_eq (pe_callB call_len_seq (by rfl) T.m_len (by decide +kernel) (pa_cons (pv 0) pa_nil)) pe_int (nomark _)) (pe_and (pe_cmpR (op_eqA hr.units) (pe_ix ix_seq (pv 0) pe_int (fun _ _ => rfl)) pe_str (nomark _)) (pe_and (pe_call G_is_many (hr.mono (by decide)) (by rfl) T.g_is_many T.F_is_many.kp T.b_is_many .nil pass0 (pa_cons (pe_ix ix_seq (pv 0) pe_int (fun _ _ => rfl)) pa_nil)) (pe_one (pe_call G_is_sign (hr.mono (by decide)) (by rfl) T.g_is_sign T.F_is_sign.kp T.b_is_sign .nil pass0 (pa_cons (pe_ix ix_seq (pv 0) pe_int (fun _ _ => rfl)) pa_nil))))))))))), ?_⟩
    obtain ⟨x, y, k1, k2, exy⟩ := kit_seq d
    refine ⟨v, rfl, by show 2 ≤ sizeLine; decide, fun tp np => ⟨v, tp, _, _, _, _, rfl, upd_same, .cons (.ty _) (.cons (.ty _) .nil), ty_dp (dp_same (same_upd np) d v hd), kit_any2 k1 k2, _, rfl, ?_⟩⟩
    rw [exy]
    have s0 := same_upd (o := .tup [.ty "tuple", .ty "list"]) np
    have hd0 := dp_same s0 d v hd
    cases e : seqD d with
    | none =>
      rw [show entD d = false by unfold entD; rw [e]] at q
      exact iteT (q _ s0)
    | some ds =>
      rw [show entD d = entL ds by unfold entD; rw [e]] at q
      refine iteF ?_
      obtain ⟨hlen, hgp⟩ := ge_parts g e
      obtain ⟨a, xs, rfl, hs, ha⟩ := seq_dp hd0 e
      have lx := dpa_len ds xs ha
      refine ⟨.ref a, rfl, a, xs, rfl, hs, rfl, _, rfl, ?_⟩
      by_cases n1 : ds.length = 1
      · obtain ⟨d1, rfl⟩ := len1 ds n1
        obtain ⟨x1, rfl, h1⟩ := dpa1 ha
        · refine iteDY (decide_eq_true rfl) ⟨.ref a, rfl, ixA (j := 0) hs rfl (inA_of (ws := wAlone) h1 (hgp d1 (by simp)) (T.v_WORDS_ALONE _) (by decide +kernel) (q _ s0))⟩
      refine iteDN (decide_eq_false (fun z => n1 (by have := V.int.inj z; omega))) ?_
      refine ⟨.ref a, rfl, a, xs, rfl, hs, rfl, _, rfl, ?_⟩
      by_cases n2 : ds.length = 2
      · obtain ⟨d1, d2, rfl⟩ := len2 ds n2
        obtain ⟨x1, x2, rfl, h1, h2⟩ := dpa2 ha
        · refine iteDY (decide_eq_true rfl) ⟨.ref a, rfl, ixA (j := 0) hs rfl ⟨.ref a, rfl, ixA (j := 1) hs rfl ⟨x1, x2, d1, d2, rfl, hgp d1 (by simp), hgp d2 (by simp), h1, h2, fun H' sm => q _ (s0.trans sm)⟩⟩⟩
      refine iteDN (decide_eq_false (fun z => n2 (by have := V.int.inj z; omega))) ?_
      refine ⟨.ref a, rfl, a, xs, rfl, hs, rfl, _, rfl, ?_⟩
      by_cases n3 : ds.length = 3
      · obtain ⟨d1, d2, d3, rfl⟩ := len3 ds n3
        obtain ⟨x1, x2, x3, rfl, h1, h2, h3⟩ := dpa3 ha
        · have q : ∀ H', Same H H' → Q (.bl (eqS d1 "spy" && (manyD d2 && sgD d3))) H' := q
          refine iteDY (decide_eq_true rfl) ⟨.ref a, rfl, ixA (j := 0) hs rfl (eqA_of h1 (hgp d1 (by simp)) (by decide +kernel) ⟨_, rfl, ite2 (fun e1 => ?_) (fun e1 => ?_)⟩)⟩
          · rw [e1] at q
            refine ⟨.ref a, rfl, ixA (j := 1) hs rfl ⟨x2, d2, rfl, hgp d2 (by simp), h2, fun H2 s2 => ⟨_, rfl, ite2 (fun e2 => ?_) (fun e2 => ?_)⟩⟩⟩
            · rw [e2] at q
              refine ⟨.ref a, rfl, ixA (j := 2) (hs.same s2) rfl ⟨x3, rfl, th_dp (dp_same s2 _ _ h3) (hgp d3 (by simp)), fun H3 s3 => ?_⟩⟩
              rw [sg_dp h3]
              exact q _ ((s0.trans s2).trans s3)
            · rw [Bool.eq_false_iff.mpr e2] at q
              exact q _ (s0.trans s2)
          · rw [Bool.eq_false_iff.mpr e1] at q
            exact q _ s0
      refine iteDN (decide_eq_false (fun z => n3 (by have := V.int.inj z; omega))) ?_
      rw [ent_else ds n1 n2 n3] at q
      exact q _ s0
--@@SPLIT
theorem kit_same {K : PySem.W.Frag} {C : Addr} : PySem.W.kitOne K (.ref C) (.ref C) = some true := by
  unfold PySem.W.kitOne
  rw [if_pos (beq_self_eq_true _)]
theorem kit_other {K : PySem.W.Frag} {D C : Addr} {b : Bool} (hn : (Value.ref D == Value.ref C) = false) (h1 : PySem.W.isClsIn K C = true) (h2 : PySem.W.typeIn K (.ref C) = some (.type "type")) (h3 : PySem.W.subIn K (.ref D) (.ref C) = some b) : PySem.W.kitOne K (.ref D) (.ref C) = some b := by
  unfold PySem.W.kitOne
  rw [hn, if_neg Bool.false_ne_true]
  show (if ((PySem.W.clsIn K C).isSome && PySem.W.typeIn K (.ref C) == some (.type "type")) = true then PySem.W.subIn K (.ref D) (.ref C) else none) = some b
  rw [if_pos (by rw [show (PySem.W.clsIn K C).isSome = true from h1, h2]; rfl)]
  exact h3
theorem kit_ve {K : PySem.W.Frag} {D : Addr} (h : PySem.W.subIn K (.ref D) (.type "ValueError") = some true) : PySem.W.kitOne K (.ref D) (.type "ValueError") = some true := by
  unfold PySem.W.kitOne
  rw [show (Value.ref D == Value.type "ValueError") = false from rfl, if_neg Bool.false_ne_true]
  show (if PySem.W.kitMeta "ValueError" = true then PySem.W.subIn K (.ref D) (.type "ValueError") else none) = some true
  rw [if_pos (by decide +kernel)]
  exact h
/-! ### the refusal of a log -/
def spInit (K : PySem.W.Frag) (C : Addr) : Sp := fun vs H Q _ => ∃ (a : Addr) (z : Str) (i : Int), vs = [.ref a, .str z, .int i] ∧ H a = some (exo a C none) ∧
  ∀ H' dx, (∀ b o, b ≠ a → H b = some o → H' b = some o) → H dx = none → dx ≠ a → H' a = some (exo a C (some dx)) → H' dx = some (exd dx [("at", .int i), ("name", .str z)]) → Q .non H'
theorem ok_init (T : Top w K mg) : FnOk P w K mg base CX0 4 T.a_init T.fd_init ["self", "name", "at"] (spInit K T.a_BadLog) := by
  have G_kept := ok_kept (P := P) (w := w) (base := base) T
  refine T.F_init.ok sc_init (fun vs H Q E h => ?_) (fun cdv A outer s H vs Q E hr h => ?_)
  · obtain ⟨a, z, i, rfl, _⟩ := h
    rfl
  · obtain ⟨a, z, i, rfl, ha, q⟩ := h
    refine ⟨_, (pss_cons (ps_ost (pv 0) (pe_call G_kept (hr.mono (by decide)) (by rfl) T.g_kept T.F_kept.kp T.b_kept .nil pass0 (pa_cons (pv 1) pa_nil)))
      (pss_one (ps_ost (pv 0) (pe_call G_kept (hr.mono (by decide)) (by rfl) T.g_kept T.F_kept.kp T.b_kept .nil pass0 (pa_cons (pv 2) pa_nil))))), ?_⟩
    refine ⟨_, rfl, .str z, .str z, rfl, siz_str _, .str z, fun H1 v' s1 hv' => ?_⟩
    cases hv'
    refine ⟨.ref a, rfl, a, T.a_BadLog, rfl, T.oex, T.no_name, .inl ⟨s1 _ _ ha, fun dx ndx ne => ?_⟩⟩
    refine ⟨_, rfl, .int i, .int i, rfl, siz_int _, .int i, fun H2 v' s2 hv' => ?_⟩
    cases hv'
    have ea := s2 _ _ (upd_same (H := upd H1 dx (exd dx [("name", .str z)])) (a := a) (o := exo a T.a_BadLog (some dx)))
    have ed := s2 dx (exd dx [("name", .str z)]) (by rw [upd_ne ne]; exact upd_same)
    refine ⟨.ref a, rfl, a, T.a_BadLog, rfl, T.oex, T.no_at, .inr ⟨dx, _, ea, ed, by show 1 ≤ 900; decide, ?_⟩⟩
    refine q _ dx (fun b o hb h => ?_) (s1.free ndx) ne ?_ upd_same
    · have hb2 : b ≠ dx := ne_of_none (s1 _ _ h) ndx
      rw [upd_ne hb2]
      refine s2 _ _ ?_
      rw [upd_ne hb, upd_ne hb2]
      exact s1 _ _ h
    · rw [upd_ne (Ne.symm ne)]
      exact ea
--@@SPLIT
/-! ### a log, entry by entry -/
def headL : List PyData → PyData
  | a :: _ => a
  | [] => .none
def headD (d : PyData) : PyData := match seqD d with
  | some ds => headL ds
  | none => .none
def fcD (d : PyData) : Bool := eqS (headD d) "face"
def ndD (d : PyData) : Bool := inW (headD d) wFace
def tupD (d : PyData) : PyData := match seqD d with
  | some ds => .tuple ds
  | none => d
def badAt : Bool → Nat → List PyData → Option Nat
  | _, _, [] => none
  | f, i, d :: r => if entD d = false then some i else if (ndD d && !f) = true then some i else badAt (f || fcD d) (i + 1) r
theorem ent_seq {d : PyData} (h : entD d = true) : ∃ a r, seqD d = some (a :: r) := by
  unfold entD at h
  cases e : seqD d with
  | none => rw [e] at h; cases h
  | some ds =>
    rw [e] at h
    cases ds with
    | nil => cases h
    | cons a r => exact ⟨a, r, rfl⟩
theorem seq_head {K : PySem.W.Frag} {H : Hp} {v : V} {d a : PyData} {r : List PyData} (h : Dp K H v d) (e : seqD d = some (a :: r)) : ∃ p x xs, v = .ref p ∧ SqA K H p (x :: xs) ∧ Dp K H x a ∧ DpAll K H (x :: xs) (a :: r) := by
  obtain ⟨p, xs, rfl, hs, ha⟩ := seq_dp h e
  have ha2 := ha
  cases ha2 with
  | @cons x xs' _ _ h1 h2 => exact ⟨p, x, xs', rfl, hs, h1, ha⟩
theorem head_eq {d a : PyData} {r : List PyData} (e : seqD d = some (a :: r)) : headD d = a := by
  unfold headD
  rw [e]
  rfl
theorem tup_eq {d : PyData} {ds : List PyData} (e : seqD d = some ds) : tupD d = .tuple ds := by
  unfold tupD
  rw [e]
theorem any_more {ds : List PyData} {i : Nat} {d : PyData} (h : ds[i]? = some d) : (ds.take (i + 1)).any fcD = ((ds.take i).any fcD || fcD d) := by
  rw [List.take_add_one, h, List.any_append]
  show ((ds.take i).any fcD || (fcD d || false)) = _
  rw [Bool.or_false]
theorem drop_at {ds : List PyData} {i : Nat} {d : PyData} (h : ds[i]? = some d) : ds.drop i = d :: ds.drop (i + 1) := by
  obtain ⟨hi, e⟩ := List.getElem?_eq_some_iff.mp h
  rw [List.drop_eq_getElem_cons hi, e]
def spHeld (K : PySem.W.Frag) (C : Addr) : Sp := fun vs H Q E => ∃ (e : Addr) (xs : List V) (ds : List PyData), vs = [.ref e] ∧ SqL K H e xs ∧ DpAll K H xs ds ∧ (∀ d ∈ ds, ge d = true) ∧ ds.length ≤ 200 ∧
  (badAt false 0 ds = none → ∀ H' r, Same H H' → Dp K H' (.ref r) (.tuple (ds.map tupD)) → Q (.ref r) H') ∧
  (∀ i, badAt false 0 ds = some i → ∀ H' dd, Same H H' → H dd = none → H' dd = some (.xd [("at", .int (i : Nat)), ("name", .str "")]) → E (.ref C) (some dd) H')
theorem ok_held_log (T : Top w K mg) : FnOk P w K mg base (L2.CX P w) 8 T.a_held_log T.fd_held_log ["entries"] (spHeld K T.a_BadLog) := by
  have G_is_entry := ok_is_entry (P := P) (w := w) (base := base) T
  have G_init := ok_init (P := P) (w := w) (base := base) T
  refine T.F_held_log.okX sc_held_log (fun vs H Q E h => ?_) (fun cdv A outer s H vs Q E hr h => ?_)
  · obtain ⟨e, xs, ds, rfl, _⟩ := h
    rfl
  · obtain ⟨e, xs, ds, rfl, hs, ha, hge, hlen, q, bad⟩ := h
    have lx := dpa_len ds xs ha
    refine ⟨_, (pss_cons (ps_set (i := 1) sc_held_log.nd rfl (.inl rfl) pe_bl)
      (pss_cons (ps_set (i := 2) sc_held_log.nd rfl (.inl rfl) (pe_lst pa_nil))
      (pss_cons (ps_for (passes_of rfl) rfl (pi_enum (by rfl) T.m_enumerate (pa_cons (pv 0) pa_nil)) (pg_tup rfl (pgs_cons (pg_name (i := 3) sc_held_log.nd rfl (.inl rfl)) (pgs_cons (pg_name (i := 4) sc_held_log.nd rfl (.inl rfl)) pgs_nil))) (pss_cons (ps_if (pt_not (pt_val (pe_call G_is_entry (hr.mono (by decide)) (by rfl) T.g_is_entry T.F_is_entry.kp T.b_is_entry .nil pass0 (pa_cons (pv 4) pa_nil)))) (pss_one (ps_raise rfl (takes_of rfl rfl rfl rfl) (pmk_oex T.oex T.iC T.tI G_init (hr.mono (by decide)) T.b_init .nil pass0 (by rfl) T.g_BadLog (pa_cons pe_str (pa_cons (pv 3) pa_nil))))) pss_nil)
      (Evl.pss_cut (ps_if (PW.pt (pw_and (pt_cmpR (op_inA (units65 hr)) (pe_ix ix_seq (pv 4) pe_int (fun _ _ => rfl)) (pe_glob (v := .ref T.a_WORDS_BEHIND_A_FACE) (by rfl) T.g_WORDS_BEHIND_A_FACE rfl) (by rfl)) (pw_and1 (pt_not (pt_val (pv 1)))))) (pss_one (ps_raise rfl (takes_of rfl rfl rfl rfl) (pmk_oex T.oex T.iC T.tI G_init (hr.mono (by decide)) T.b_init .nil pass0 (by rfl) T.g_BadLog (pa_cons pe_str (pa_cons (pv 3) pa_nil))))) pss_nil)
      (Evl.pss_cut (ps_set (i := 1) sc_held_log.nd rfl (.inl rfl) (pe_or (pv 1) (pe_one (pe_cmpR (op_eqA hr.units) (pe_ix ix_seq (pv 4) pe_int (fun _ _ => rfl)) pe_str (nomark _)))))
      (pss_one (ps_expr (pe_bm PySem.F.plainAttrs_list PySem.F.slot_list_append PySem.F.type_list_append mt_append (pv 2) (pa_cons (pe_callTy call_tuple_of (by rfl) T.m_tuple (by decide +kernel) (pa_cons (pv 4) pa_nil)) pa_nil))))))))
      (pss_one (ps_ret (pe_callTy call_tuple_of (by rfl) T.m_tuple (by decide +kernel) (pa_cons (pv 2) pa_nil))))))), ?_⟩
    refine ⟨Nat.zero_le _, fun L nL => ?_⟩
    have s0 := same_upd (o := .lst []) nL
    refine ⟨.ref e, rfl, e, xs, rfl, s0.seq hs, for_it (walk_enum (xs := xs)) (fun i σ H' => Same H H' ∧ ∃ y3 y4 ys, σ = [some (.ref e), some (.bl ((ds.take i).any fcD)), some (.ref L), y3, y4] ∧ H' L = some (.lst ys) ∧ ys.length = i ∧ DpAll K (wo H' (fun b => b = L)) ys ((ds.take i).map tupD) ∧ badAt false 0 ds = badAt ((ds.take i).any fcD) i (ds.drop i))
      ⟨s0, none, none, [], rfl, upd_same, rfl, .nil, rfl⟩ (fun i σ H' _ h => h.1.seq hs) ?_ ?_⟩
    · rintro i v σ H1 H2 hi ⟨sm, y3, y4, ys, rfl, eL, ly, hy, hb⟩ ⟨t, u1, u2, rfl, nt, rfl, e1, e2⟩
      cases e1
      obtain ⟨d, fd, gd⟩ := dpa_at ds xs ha i u2 e2
      have hgd := hge d (List.mem_of_getElem? fd)
      rw [drop_at fd] at hb
      have st := same_upd (o := .tup [.int (i : Nat), u2]) nt
      have sm2 := sm.trans st
      have nLt : L ≠ t := ne_of_none eL nt
      refine ⟨t, _, rfl, .inl (.inl upd_same), rfl, _, _, rfl, _, _, rfl, rfl, ?_⟩
      refine ⟨u2, rfl, u2, d, rfl, hgd, dp_same sm2 d u2 gd, fun H3 s3 => ⟨_, rfl, ?_⟩⟩
      have sm3 := sm2.trans s3
      have raise_ : badAt false 0 ds = some i → ∀ (Hx : Hp), Same H Hx → ∀ a, Hx a = none → spInit K T.a_BadLog (.ref a :: ([.str "", .int (i : Nat)] ++ [])) (upd Hx a (exo a T.a_BadLog none)) (fun v H2 => v = .non ∧ ∃ (d : Addr) (fs : List (Str × V)), H2 a = some (exo a T.a_BadLog (some d)) ∧ H2 d = some (exd d fs) ∧ Hx d = none ∧ E (.ref T.a_BadLog) (some d) (upd (del H2 a) d (.xd fs))) (fun _ _ _ => False) := fun hbi Hx sx a na =>
        ⟨a, _, _, rfl, upd_same, fun H4 dx keep ndx ne ea ed => by
          rw [upd_ne ne] at ndx
          refine ⟨rfl, dx, _, ea, ed, ndx, bad i hbi _ dx (fun b o h => ?_) (sx.free ndx) upd_same⟩
          have h2 := sx _ _ h
          have na2 : b ≠ a := ne_of_none h2 na
          rw [upd_ne (ne_of_none h2 ndx), del_ne na2]
          exact keep b o na2 (by rw [upd_ne na2]; exact h2)⟩
      cases he : entD d with
      | false =>
        have hbi : badAt false 0 ds = some i := by
          rw [hb]
          show (if entD d = false then _ else _) = _
          rw [if_pos he]
        exact iteT ⟨_, rfl, by show 2 ≤ 1000; decide, fun a na => raise_ hbi H3 sm3 a na⟩
      | true =>
        refine iteF ?_
        obtain ⟨a, r, es⟩ := ent_seq he
        have mH : Same H (wo H3 (fun b => b = L)) := fun b o h => by
          rw [wo_in (X := fun b => b = L) (ne_of_none h nL)]
          exact sm3 _ _ h
        obtain ⟨p, x, xs2, rfl, hsqW, hxW, hallW⟩ := seq_head (dp_same mH d u2 gd) es
        have hsq := hsqW.same wo_same
        have hx := dp_same wo_same _ _ hxW
        have ga : gp a = true := (ge_parts hgd es).2 a (by simp)
        have hb2 : badAt false 0 ds = if (ndD d && !((ds.take i).any fcD)) = true then some i else badAt ((ds.take i).any fcD || fcD d) (i + 1) (ds.drop (i + 1)) := by
          rw [hb]
          show (if entD d = false then _ else _) = _
          rw [if_neg (by rw [he]; decide)]
        have hnd : ndD d = inW a wFace := by unfold ndD; rw [head_eq es]
        have hfc : fcD d = eqS a "face" := by unfold fcD; rw [head_eq es]
        refine ⟨fun σ H' => H3 = H' ∧ σ = [some (.ref e), some (.bl ((ds.take i).any fcD)), some (.ref L), some (.int (i : Nat)), some (.ref p)] ∧ badAt false 0 ds = badAt ((ds.take i).any fcD || fcD d) (i + 1) (ds.drop (i + 1)), ?_, ?_⟩
        · refine ⟨.ref p, rfl, ixA (j := 0) hsq rfl (inA_of (ws := wFace) hx ga (T.v_WORDS_BEHIND_A_FACE _) (by decide +kernel) ⟨_, rfl, ite2 (fun e3 => ?_) (fun e3 => ?_)⟩)⟩
          · refine ⟨_, rfl, _, rfl, ?_⟩
            cases hf : (ds.take i).any fcD with
            | false =>
              have hbi : badAt false 0 ds = some i := by
                rw [hb2, hnd, e3, hf]
                rfl
              exact iteT ⟨_, rfl, by show 2 ≤ 1000; decide, fun a na => raise_ hbi H3 sm3 a na⟩
            | true =>
              refine iteF ⟨rfl, rfl, ?_⟩
              rw [hb2, hf, Bool.not_true, Bool.and_false, if_neg Bool.false_ne_true]
          · refine ite2 (fun z => nomatch z) (fun _ => ⟨rfl, rfl, ?_⟩)
            rw [hb2, hnd, Bool.eq_false_iff.mpr e3, Bool.false_and, if_neg Bool.false_ne_true]
        rintro σ H4 ⟨rfl, rfl, hb3⟩
        refine ⟨fun σ H' => H3 = H' ∧ σ = [some (.ref e), some (.bl ((ds.take i).any fcD || fcD d)), some (.ref L), some (.int (i : Nat)), some (.ref p)], ?_, ?_⟩
        · refine ⟨_, rfl, _, rfl, ?_⟩
          cases hf : (ds.take i).any fcD with
          | true => exact iteT ⟨rfl, by rw [Bool.true_or]; rfl⟩
          | false =>
            refine iteF ⟨.ref p, rfl, ixA (j := 0) hsq rfl (eqA_of hx ga (by decide +kernel) ⟨rfl, ?_⟩)⟩
            rw [hfc, Bool.false_or]
            rfl
        rintro σ H4 ⟨rfl, rfl⟩
        have eL3 := s3 _ _ (st _ _ eL)
        have m3 : Same (wo H1 (fun b => b = L)) (wo H3 (fun b => b = L)) := fun b o h => by
          have h2 := wo_some h
          rw [wo_in (X := fun b => b = L) h2.1]
          exact s3 _ _ (st _ _ h2.2)
        have fin : ∀ (H5 : Hp) (q : Addr), Same H3 H5 → Dp K (wo H5 (fun b => b = L)) (.ref q) (tupD d) → (Same H (upd H5 L (.lst (ys ++ [.ref q]))) ∧ ∃ y3 y4 zs, ([some (.ref e), some (.bl ((ds.take i).any fcD || fcD d)), some (.ref L), some (.int (i : Nat)), some (.ref p)] : L2.St) = [some (.ref e), some (.bl ((ds.take (i + 1)).any fcD)), some (.ref L), y3, y4] ∧ (upd H5 L (.lst (ys ++ [.ref q]))) L = some (.lst zs) ∧ zs.length = i + 1 ∧ DpAll K (wo (upd H5 L (.lst (ys ++ [.ref q]))) (fun b => b = L)) zs ((ds.take (i + 1)).map tupD) ∧ badAt false 0 ds = badAt ((ds.take (i + 1)).any fcD) (i + 1) (ds.drop (i + 1))) := fun H5 q s5 hq => by
          have m5 : Same (wo H3 (fun b => b = L)) (wo H5 (fun b => b = L)) := fun b o h => by
            have h2 := wo_some h
            rw [wo_in (X := fun b => b = L) h2.1]
            exact s5 _ _ h2.2
          have m6 : Same (wo H5 (fun b => b = L)) (wo (upd H5 L (.lst (ys ++ [.ref q]))) (fun b => b = L)) := fun b o h => by
            have h2 := wo_some h
            rw [wo_in (X := fun b => b = L) h2.1, upd_ne h2.1]
            exact h2.2
          refine ⟨fun b o h => ?_, some (.int (i : Nat)), some (.ref p), ys ++ [.ref q], ?_, upd_same, ?_, ?_, ?_⟩
          · rw [upd_ne (ne_of_none h nL)]
            exact s5 _ _ (sm3 _ _ h)
          · rw [any_more fd]
          · rw [List.length_append, ly]
            rfl
          · rw [List.take_add_one, fd, List.map_append]
            exact dpa_snoc (dp_same m6 _ _ hq) _ _ (dpa_same ((m3.trans m5).trans m6) _ _ hy)
          · rw [any_more fd]
            exact hb3
        refine ⟨.ref L, rfl, .inl ⟨rfl, _, .inl (.inl eL3)⟩, .ref p, rfl, p, x :: xs2, rfl, ?_⟩
        rcases hsqW with hl | ht
        · refine .inl ⟨wo_same.seq hl, fun r2 nr2 => ?_⟩
          have sr := same_upd (o := .tup (x :: xs2)) nr2
          refine ⟨L, ys, _, rfl, rfl, sr _ _ eL3, small1000 (by omega), fin _ r2 sr ?_⟩
          rw [tup_eq es]
          refine .tup (.inl (.inl ?_)) (dpa_same (fun b o h => ?_) _ _ hallW)
          · rw [wo_in (X := fun b => b = L) (fun z => by rw [z, eL3] at nr2; cases nr2)]
            exact upd_same
          · have h2 := wo_some h
            rw [wo_in (X := fun b => b = L) h2.1]
            exact sr _ _ h2.2
        · refine .inr ⟨sqt_same wo_same ht, ⟨L, ys, _, rfl, rfl, eL3, small1000 (by omega), fin H3 p (Same.refl _) ?_⟩⟩
          rw [tup_eq es]
          exact .tup ht hallW
    · rintro σ H1 ⟨sm, y3, y4, ys, rfl, eL, ly, hy, hb⟩
      rw [lx, List.drop_length] at hb
      rw [lx, List.take_length] at hy
      refine ⟨.ref L, rfl, L, ys, rfl, .inl ⟨.inl (.inl eL), fun r nr => ?_⟩⟩
      exact q hb _ r (sm.trans (same_upd nr)) (.tup (.inl (.inl upd_same)) (dpa_same (wo_same.trans (same_upd nr)) _ _ hy))
def spHeldT (K : PySem.W.Frag) (C : Addr) : Sp := fun vs H Q E => ∃ (e : Addr) (xs : List V) (ds : List PyData), vs = [.ref e] ∧ SqT K H e xs ∧ DpAll K H xs ds ∧ (∀ d ∈ ds, ge d = true) ∧ ds.length ≤ 200 ∧
  (badAt false 0 ds = none → ∀ H' r, Same H H' → Dp K H' (.ref r) (.tuple (ds.map tupD)) → Q (.ref r) H') ∧
  (∀ i, badAt false 0 ds = some i → ∀ H' dd, Same H H' → H dd = none → H' dd = some (.xd [("at", .int (i : Nat)), ("name", .str "")]) → E (.ref C) (some dd) H')
theorem ok_held_logT (T : Top w K mg) : FnOk P w K mg base (L2.CX P w) 8 T.a_held_log T.fd_held_log ["entries"] (spHeldT K T.a_BadLog) := by
  have G_is_entry := ok_is_entry (P := P) (w := w) (base := base) T
  have G_init := ok_init (P := P) (w := w) (base := base) T
  refine T.F_held_log.okX sc_held_log (fun vs H Q E h => ?_) (fun cdv A outer s H vs Q E hr h => ?_)
  · obtain ⟨e, xs, ds, rfl, _⟩ := h
    rfl
  · obtain ⟨e, xs, ds, rfl, hs, ha, hge, hlen, q, bad⟩ := h
    have lx := dpa_len ds xs ha
    refine ⟨_, (pss_cons (ps_set (i := 1) sc_held_log.nd rfl (.inl rfl) pe_bl)
      (pss_cons (ps_set (i := 2) sc_held_log.nd rfl (.inl rfl) (pe_lst pa_nil))
      (pss_cons (ps_for (passes_of rfl) rfl (EnumT.pi_enumT (by rfl) T.m_enumerate (pa_cons (pv 0) pa_nil)) (pg_tup rfl (pgs_cons (pg_name (i := 3) sc_held_log.nd rfl (.inl rfl)) (pgs_cons (pg_name (i := 4) sc_held_log.nd rfl (.inl rfl)) pgs_nil))) (pss_cons (ps_if (pt_not (pt_val (pe_call G_is_entry (hr.mono (by decide)) (by rfl) T.g_is_entry T.F_is_entry.kp T.b_is_entry .nil pass0 (pa_cons (pv 4) pa_nil)))) (pss_one (ps_raise rfl (takes_of rfl rfl rfl rfl) (pmk_oex T.oex T.iC T.tI G_init (hr.mono (by decide)) T.b_init .nil pass0 (by rfl) T.g_BadLog (pa_cons pe_str (pa_cons (pv 3) pa_nil))))) pss_nil)
      (Evl.pss_cut (ps_if (PW.pt (pw_and (pt_cmpR (op_inA (units65 hr)) (pe_ix ix_seq (pv 4) pe_int (fun _ _ => rfl)) (pe_glob (v := .ref T.a_WORDS_BEHIND_A_FACE) (by rfl) T.g_WORDS_BEHIND_A_FACE rfl) (by rfl)) (pw_and1 (pt_not (pt_val (pv 1)))))) (pss_one (ps_raise rfl (takes_of rfl rfl rfl rfl) (pmk_oex T.oex T.iC T.tI G_init (hr.mono (by decide)) T.b_init .nil pass0 (by rfl) T.g_BadLog (pa_cons pe_str (pa_cons (pv 3) pa_nil))))) pss_nil)
      (Evl.pss_cut (ps_set (i := 1) sc_held_log.nd rfl (.inl rfl) (pe_or (pv 1) (pe_one (pe_cmpR (op_eqA hr.units) (pe_ix ix_seq (pv 4) pe_int (fun _ _ => rfl)) pe_str (nomark _)))))
      (pss_one (ps_expr (pe_bm PySem.F.plainAttrs_list PySem.F.slot_list_append PySem.F.type_list_append mt_append (pv 2) (pa_cons (pe_callTy call_tuple_of (by rfl) T.m_tuple (by decide +kernel) (pa_cons (pv 4) pa_nil)) pa_nil))))))))
      (pss_one (ps_ret (pe_callTy call_tuple_of (by rfl) T.m_tuple (by decide +kernel) (pa_cons (pv 2) pa_nil))))))), ?_⟩
    refine ⟨Nat.zero_le _, fun L nL => ?_⟩
    have s0 := same_upd (o := .lst []) nL
    refine ⟨.ref e, rfl, e, xs, rfl, sqt_same s0 hs, for_it (EnumT.walk_enumT (xs := xs)) (fun i σ H' => Same H H' ∧ ∃ y3 y4 ys, σ = [some (.ref e), some (.bl ((ds.take i).any fcD)), some (.ref L), y3, y4] ∧ H' L = some (.lst ys) ∧ ys.length = i ∧ DpAll K (wo H' (fun b => b = L)) ys ((ds.take i).map tupD) ∧ badAt false 0 ds = badAt ((ds.take i).any fcD) i (ds.drop i))
      ⟨s0, none, none, [], rfl, upd_same, rfl, .nil, rfl⟩ (fun i σ H' _ h => sqt_same h.1 hs) ?_ ?_⟩
    · rintro i v σ H1 H2 hi ⟨sm, y3, y4, ys, rfl, eL, ly, hy, hb⟩ ⟨t, u1, u2, rfl, nt, rfl, e1, e2⟩
      cases e1
      obtain ⟨d, fd, gd⟩ := dpa_at ds xs ha i u2 e2
      have hgd := hge d (List.mem_of_getElem? fd)
      rw [drop_at fd] at hb
      have st := same_upd (o := .tup [.int (i : Nat), u2]) nt
      have sm2 := sm.trans st
      have nLt : L ≠ t := ne_of_none eL nt
      refine ⟨t, _, rfl, .inl (.inl upd_same), rfl, _, _, rfl, _, _, rfl, rfl, ?_⟩
      refine ⟨u2, rfl, u2, d, rfl, hgd, dp_same sm2 d u2 gd, fun H3 s3 => ⟨_, rfl, ?_⟩⟩
      have sm3 := sm2.trans s3
      have raise_ : badAt false 0 ds = some i → ∀ (Hx : Hp), Same H Hx → ∀ a, Hx a = none → spInit K T.a_BadLog (.ref a :: ([.str "", .int (i : Nat)] ++ [])) (upd Hx a (exo a T.a_BadLog none)) (fun v H2 => v = .non ∧ ∃ (d : Addr) (fs : List (Str × V)), H2 a = some (exo a T.a_BadLog (some d)) ∧ H2 d = some (exd d fs) ∧ Hx d = none ∧ E (.ref T.a_BadLog) (some d) (upd (del H2 a) d (.xd fs))) (fun _ _ _ => False) := fun hbi Hx sx a na =>
        ⟨a, _, _, rfl, upd_same, fun H4 dx keep ndx ne ea ed => by
          rw [upd_ne ne] at ndx
          refine ⟨rfl, dx, _, ea, ed, ndx, bad i hbi _ dx (fun b o h => ?_) (sx.free ndx) upd_same⟩
          have h2 := sx _ _ h
          have na2 : b ≠ a := ne_of_none h2 na
          rw [upd_ne (ne_of_none h2 ndx), del_ne na2]
          exact keep b o na2 (by rw [upd_ne na2]; exact h2)⟩
      cases he : entD d with
      | false =>
        have hbi : badAt false 0 ds = some i := by
          rw [hb]
          show (if entD d = false then _ else _) = _
          rw [if_pos he]
        exact iteT ⟨_, rfl, by show 2 ≤ 1000; decide, fun a na => raise_ hbi H3 sm3 a na⟩
      | true =>
        refine iteF ?_
        obtain ⟨a, r, es⟩ := ent_seq he
        have mH : Same H (wo H3 (fun b => b = L)) := fun b o h => by
          rw [wo_in (X := fun b => b = L) (ne_of_none h nL)]
          exact sm3 _ _ h
        obtain ⟨p, x, xs2, rfl, hsqW, hxW, hallW⟩ := seq_head (dp_same mH d u2 gd) es
        have hsq := hsqW.same wo_same
        have hx := dp_same wo_same _ _ hxW
        have ga : gp a = true := (ge_parts hgd es).2 a (by simp)
        have hb2 : badAt false 0 ds = if (ndD d && !((ds.take i).any fcD)) = true then some i else badAt ((ds.take i).any fcD || fcD d) (i + 1) (ds.drop (i + 1)) := by
          rw [hb]
          show (if entD d = false then _ else _) = _
          rw [if_neg (by rw [he]; decide)]
        have hnd : ndD d = inW a wFace := by unfold ndD; rw [head_eq es]
        have hfc : fcD d = eqS a "face" := by unfold fcD; rw [head_eq es]
        refine ⟨fun σ H' => H3 = H' ∧ σ = [some (.ref e), some (.bl ((ds.take i).any fcD)), some (.ref L), some (.int (i : Nat)), some (.ref p)] ∧ badAt false 0 ds = badAt ((ds.take i).any fcD || fcD d) (i + 1) (ds.drop (i + 1)), ?_, ?_⟩
        · refine ⟨.ref p, rfl, ixA (j := 0) hsq rfl (inA_of (ws := wFace) hx ga (T.v_WORDS_BEHIND_A_FACE _) (by decide +kernel) ⟨_, rfl, ite2 (fun e3 => ?_) (fun e3 => ?_)⟩)⟩
          · refine ⟨_, rfl, _, rfl, ?_⟩
            cases hf : (ds.take i).any fcD with
            | false =>
              have hbi : badAt false 0 ds = some i := by
                rw [hb2, hnd, e3, hf]
                rfl
              exact iteT ⟨_, rfl, by show 2 ≤ 1000; decide, fun a na => raise_ hbi H3 sm3 a na⟩
            | true =>
              refine iteF ⟨rfl, rfl, ?_⟩
              rw [hb2, hf, Bool.not_true, Bool.and_false, if_neg Bool.false_ne_true]
          · refine ite2 (fun z => nomatch z) (fun _ => ⟨rfl, rfl, ?_⟩)
            rw [hb2, hnd, Bool.eq_false_iff.mpr e3, Bool.false_and, if_neg Bool.false_ne_true]
        rintro σ H4 ⟨rfl, rfl, hb3⟩
        refine ⟨fun σ H' => H3 = H' ∧ σ = [some (.ref e), some (.bl ((ds.take i).any fcD || fcD d)), some (.ref L), some (.int (i : Nat)), some (.ref p)], ?_, ?_⟩
        · refine ⟨_, rfl, _, rfl, ?_⟩
          cases hf : (ds.take i).any fcD with
          | true => exact iteT ⟨rfl, by rw [Bool.true_or]; rfl⟩
          | false =>
            refine iteF ⟨.ref p, rfl, ixA (j := 0) hsq rfl (eqA_of hx ga (by decide +kernel) ⟨rfl, ?_⟩)⟩
            rw [hfc, Bool.false_or]
            rfl
        rintro σ H4 ⟨rfl, rfl⟩
        have eL3 := s3 _ _ (st _ _ eL)
        have m3 : Same (wo H1 (fun b => b = L)) (wo H3 (fun b => b = L)) := fun b o h => by
          have h2 := wo_some h
          rw [wo_in (X := fun b => b = L) h2.1]
          exact s3 _ _ (st _ _ h2.2)
        have fin : ∀ (H5 : Hp) (q : Addr), Same H3 H5 → Dp K (wo H5 (fun b => b = L)) (.ref q) (tupD d) → (Same H (upd H5 L (.lst (ys ++ [.ref q]))) ∧ ∃ y3 y4 zs, ([some (.ref e), some (.bl ((ds.take i).any fcD || fcD d)), some (.ref L), some (.int (i : Nat)), some (.ref p)] : L2.St) = [some (.ref e), some (.bl ((ds.take (i + 1)).any fcD)), some (.ref L), y3, y4] ∧ (upd H5 L (.lst (ys ++ [.ref q]))) L = some (.lst zs) ∧ zs.length = i + 1 ∧ DpAll K (wo (upd H5 L (.lst (ys ++ [.ref q]))) (fun b => b = L)) zs ((ds.take (i + 1)).map tupD) ∧ badAt false 0 ds = badAt ((ds.take (i + 1)).any fcD) (i + 1) (ds.drop (i + 1))) := fun H5 q s5 hq => by
          have m5 : Same (wo H3 (fun b => b = L)) (wo H5 (fun b => b = L)) := fun b o h => by
            have h2 := wo_some h
            rw [wo_in (X := fun b => b = L) h2.1]
            exact s5 _ _ h2.2
          have m6 : Same (wo H5 (fun b => b = L)) (wo (upd H5 L (.lst (ys ++ [.ref q]))) (fun b => b = L)) := fun b o h => by
            have h2 := wo_some h
            rw [wo_in (X := fun b => b = L) h2.1, upd_ne h2.1]
            exact h2.2
          refine ⟨fun b o h => ?_, some (.int (i : Nat)), some (.ref p), ys ++ [.ref q], ?_, upd_same, ?_, ?_, ?_⟩
          · rw [upd_ne (ne_of_none h nL)]
            exact s5 _ _ (sm3 _ _ h)
          · rw [any_more fd]
          · rw [List.length_append, ly]
            rfl
          · rw [List.take_add_one, fd, List.map_append]
            exact dpa_snoc (dp_same m6 _ _ hq) _ _ (dpa_same ((m3.trans m5).trans m6) _ _ hy)
          · rw [any_more fd]
            exact hb3
        refine ⟨.ref L, rfl, .inl ⟨rfl, _, .inl (.inl eL3)⟩, .ref p, rfl, p, x :: xs2, rfl, ?_⟩
        rcases hsqW with hl | ht
        · refine .inl ⟨wo_same.seq hl, fun r2 nr2 => ?_⟩
          have sr := same_upd (o := .tup (x :: xs2)) nr2
          refine ⟨L, ys, _, rfl, rfl, sr _ _ eL3, small1000 (by omega), fin _ r2 sr ?_⟩
          rw [tup_eq es]
          refine .tup (.inl (.inl ?_)) (dpa_same (fun b o h => ?_) _ _ hallW)
          · rw [wo_in (X := fun b => b = L) (fun z => by rw [z, eL3] at nr2; cases nr2)]
            exact upd_same
          · have h2 := wo_some h
            rw [wo_in (X := fun b => b = L) h2.1]
            exact sr _ _ h2.2
        · refine .inr ⟨sqt_same wo_same ht, ⟨L, ys, _, rfl, rfl, eL3, small1000 (by omega), fin H3 p (Same.refl _) ?_⟩⟩
          rw [tup_eq es]
          exact .tup ht hallW
    · rintro σ H1 ⟨sm, y3, y4, ys, rfl, eL, ly, hy, hb⟩
      rw [lx, List.drop_length] at hb
      rw [lx, List.take_length] at hy
      refine ⟨.ref L, rfl, L, ys, rfl, .inl ⟨.inl (.inl eL), fun r nr => ?_⟩⟩
      exact q hb _ r (sm.trans (same_upd nr)) (.tup (.inl (.inl upd_same)) (dpa_same (wo_same.trans (same_upd nr)) _ _ hy))
--@@SPLIT
/-! ### the law's own reading of names and signs -/
theorem ok_Lis_name (T : Top w K mg) : FnOk P w K mg base CX0 1 T.a_Lis_name T.fd_Lis_name ["_law_thing"] (spIsV K nmV) := by
  refine T.F_Lis_name.ok sc_Lis_name (fun vs H Q E h => ?_) (fun cdv A outer s H vs Q E hr h => ?_)
  · obtain ⟨v, rfl, _⟩ := h
    rfl
  · obtain ⟨v, rfl, hv, q⟩ := h
    refine ⟨_, (pss_cons (ps_if (PW.pt (pw_or (pt_not (pt_val (pe_callB call_isi (by rfl) T.m_isinstance (by decide +kernel) (pa_cons (pv 0) (pa_cons (pe_bltn (v := .ty "str") (by rfl) T.m_str (by decide +kernel) rfl) pa_nil))))) (pw_or1 (pt_not (pt_chain op_lt op_lt pe_int (pe_callB call_len_str (by rfl) T.m_len (by decide +kernel) (pa_cons (pv 0) pa_nil)) pe_int))))) (pss_one (ps_ret pe_bl)) pss_nil)
      (pss_one (ps_ret (pe_callB (cr_all rfl) (by rfl) T.m_all (by decide +kernel) (pa_cons (pe_lc (own := [("_law_letter", 1)]) (g := gName 1) (by rfl) sc_Lis_name.nd (pi_str (pv 0)) (blkOk_by (own := [("_law_letter", 1)]) (N := ["_law_thing", "_law_letter"]) (sc := defScope s_Lis_name) (by decide +kernel)) (fun _ _ _ _ _ => (pg_name (i := 1) sc_Lis_name.nd rfl (Or.inl rfl))) (fun _ _ _ _ _ => pts_nil) (fun _ _ _ _ _ => (pe_cmpR op_in_sign (pv 1) pe_str (by rfl)))) pa_nil))))), ?_⟩
    rcases hv with ⟨z, rfl, hz⟩ | ⟨no, t, ty, k⟩
    · refine ⟨.str z, rfl, _, _, _, _, true, rfl, .ty _, .base (.str z), kit_ty (by decide +kernel), _, rfl, iteF ?_⟩
      have e0 : shV (.str z) = (decide (0 < (z.length : Int)) && decide ((z.length : Int) < 9)) := by
        show (decide (1 ≤ (z.cps.toList.length : Int)) && decide ((z.cps.toList.length : Int) ≤ 8)) = _
        rw [len_toList]
        by_cases h1 : 0 < (z.length : Int)
        · rw [decide_eq_true h1, decide_eq_true (show 1 ≤ (z.length : Int) by omega)]
          by_cases h2 : (z.length : Int) < 9
          · rw [decide_eq_true h2, decide_eq_true (show (z.length : Int) ≤ 8 by omega)]
          · rw [decide_eq_false h2, decide_eq_false (show ¬ (z.length : Int) ≤ 8 by omega)]
        · rw [decide_eq_false h1, decide_eq_false (show ¬ 1 ≤ (z.length : Int) by omega)]
          rfl
      have no : shV (.str z) = false → Q (.bl false) H := fun e => by
        have h := q H (Same.refl H)
        rw [show nmV (.str z) = false by show (shV (.str z) && z.cps.toList.all smC) = _; rw [e]; rfl] at h
        exact h
      refine ⟨.str z, rfl, z, rfl, thou hz, _, _, rfl, rfl, _, rfl, ite2 (fun e => ?_) (fun e => ?_)⟩
      · refine ⟨_, _, rfl, rfl, _, rfl, ?_⟩
        by_cases h2 : (z.length : Int) < 9
        · refine iteDN (by rw [decide_eq_true h2]; rfl) ?_
          refine ⟨.str z, rfl, z, rfl, fun D hD => lc_it walk_str (fun i H' => Same H H' ∧ H' D = some (.lst (((z.cps.toList.take i).map smC).map V.bl))) ⟨same_upd hD, upd_same⟩ (fun _ _ _ _ => trivial) ?_ ?_⟩
          · rintro i x H1 H2 hi ⟨sm, eD⟩ ⟨rfl, c, hc, rfl⟩
            refine ⟨rfl, ?_⟩
            refine ⟨_, rfl, c, _, rfl, rfl, _, eD, ?_, ?_, ?_⟩
            · rw [List.length_map, List.length_map, List.length_take, len_toList]
              exact small1000 (by omega)
            · exact fun b' o e => by
                rw [upd_ne (ne_of_none e hD)]
                exact sm _ _ e
            · rw [upd_same, List.take_add_one, Array.getElem?_toList, hc, List.map_append, List.map_append]
              rfl
          · rintro H1 ⟨sm, eD⟩
            have e2 : z.cps.toList.take z.cps.size = z.cps.toList := List.take_of_length_le (by rw [Array.length_toList]; exact Nat.le_refl _)
            rw [e2] at eD
            refine ⟨_, z.cps.toList.map smC, rfl, .inl (.inl eD), ?_⟩
            rw [all_map]
            have h := q _ sm
            rw [show nmV (.str z) = z.cps.toList.all smC by show (shV (.str z) && z.cps.toList.all smC) = _; rw [e0, e, decide_eq_true h2]; rfl] at h
            exact h
        · refine iteDY (by rw [decide_eq_false h2]; rfl) (no ?_)
          rw [e0, decide_eq_false h2, Bool.and_false]
      · refine ⟨_, rfl, no ?_⟩
        rw [e0, Bool.eq_false_iff.mpr e]
        rfl
    · have h := q H (Same.refl H)
      rw [(nmV_no no).1] at h
      exact ⟨v, rfl, _, _, _, _, false, rfl, .ty _, ty, kit_ty k, _, rfl, iteT h⟩
theorem app_one (c : Nat) (r : List Nat) : (⟨#[c]⟩ : Str) ++ (⟨⟨r⟩⟩ : Str) = ⟨⟨c :: r⟩⟩ := by
  show (⟨#[c] ++ (⟨r⟩ : Array Nat)⟩ : Str) = ⟨⟨c :: r⟩⟩
  rw [show (#[c] ++ (⟨r⟩ : Array Nat)) = ⟨c :: r⟩ from Array.ext' (by rw [Array.toList_append]; rfl)]
theorem sm97 : smC 97 = true := by decide +kernel
theorem gr_sm : ∀ c, grC c = true → smC c = false := by
  intro c h
  have h1 : c ∈ GREATs.cps.toList := of_decide_eq_true h
  have h2 : ∀ x ∈ GREATs.cps.toList, smC x = false := by decide +kernel
  exact h2 c h1
theorem sg_cons (c : Nat) (r : List Nat) : (nmL (c :: r) || loL (c :: r)) = nmL ((if grC c = true then 97 else c) :: r) := by
  show (shL (c :: r) && (c :: r).all smC || shL (c :: r) && (grC c && r.all smC)) = (shL ((if grC c = true then 97 else c) :: r) && ((if grC c = true then 97 else c) :: r).all smC)
  by_cases h : grC c = true
  · rw [if_pos h, List.all_cons, List.all_cons, gr_sm c h, sm97, h]
    rw [Bool.false_and, Bool.and_false, Bool.false_or]
    rfl
  · rw [if_neg h, Bool.eq_false_iff.mpr h, Bool.false_and, Bool.and_false, Bool.or_false]
theorem sA : PySem.Str.ofString "a" = (⟨#[97]⟩ : Str) := by decide +kernel
theorem ok_Lis_sign (T : Top w K mg) : FnOk P w K mg base CX0 2 T.a_Lis_sign T.fd_Lis_sign ["_law_thing"] (spIsV K sgV) := by
  have G_Lis_name := ok_Lis_name (P := P) (w := w) (base := base) T
  refine T.F_Lis_sign.ok sc_Lis_sign (fun vs H Q E h => ?_) (fun cdv A outer s H vs Q E hr h => ?_)
  · obtain ⟨v, rfl, _⟩ := h
    rfl
  · obtain ⟨v, rfl, hv, q⟩ := h
    refine ⟨_, (pss_cons (ps_if (PW.pt (pw_or (pt_not (pt_val (pe_callB call_isi (by rfl) T.m_isinstance (by decide +kernel) (pa_cons (pv 0) (pa_cons (pe_bltn (v := .ty "str") (by rfl) T.m_str (by decide +kernel) rfl) pa_nil))))) (pw_or1 (pt_cmpR op_eq (pv 0) pe_str (nomark _))))) (pss_one (ps_ret pe_bl)) pss_nil)
      (pss_cons (ps_set (i := 1) sc_Lis_sign.nd rfl (.inl rfl) (pe_ix ix_str (pv 0) pe_int (fun _ _ => rfl)))
      (pss_cons (ps_if (pt_cmpR op_in_sign (pv 1) pe_str (by rfl)) (pss_one (ps_set (i := 1) sc_Lis_sign.nd rfl (.inl rfl) pe_str)) pss_nil)
      (pss_one (ps_ret (pe_call G_Lis_name hr (by rfl) T.g_Lis_name T.F_Lis_name.kp T.b_Lis_name .nil pass0 (pa_cons (pe_op op_add_str (pv 1) (pe_slice sl_str (pv 0) (po_some pe_int) po_none)) pa_nil))))))), ?_⟩
    rcases hv with ⟨⟨⟨cs⟩⟩, rfl, hz⟩ | ⟨no, t, ty, k⟩
    · refine ⟨_, rfl, _, _, _, _, true, rfl, .ty _, .base (.str _), kit_ty (by decide +kernel), _, rfl, iteF ?_⟩
      refine ⟨_, rfl, rfl, _, rfl, ?_⟩
      match cs, hz, q with
      | [], _, q =>
        refine iteDY (by rw [s0]; exact decide_eq_true rfl) (q H (Same.refl H))
      | c :: r, hz, q =>
        have hz2 : r.length + 1 ≤ 1000 := hz
        refine iteDN (decide_eq_false (by rw [s0]; intro z; cases z)) ?_
        refine ⟨_, rfl, _, 0, c, rfl, rfl, thou hz, atI_nat (j := 0) rfl, ?_⟩
        have fin : ∀ (d : Nat) (H' : Hp), Same H H' → d = (if grC c = true then 97 else c) → Q (.bl (nmL (d :: r))) H' := fun d H' sm e => by
          have h := q H' sm
          rw [show sgV (.str ⟨⟨c :: r⟩⟩) = nmL (d :: r) by rw [e]; exact sg_cons c r] at h
          exact h
        refine ⟨_, rfl, c, _, rfl, rfl, _, rfl, ite2 (fun e => ?_) (fun e => ?_)⟩
        · rw [sA]
          refine ⟨_, rfl, _, rfl, 1, rfl, _, rfl, thou hz, ?_⟩
          rw [cut_tail]
          refine ⟨_, _, rfl, rfl, thou (by show 1 + r.length ≤ 1000; omega), _, rfl, .inl ⟨_, rfl, by rw [app_one]; exact hz⟩, fun H' sm => ?_⟩
          rw [app_one]
          exact fin 97 H' sm (if_pos e).symm
        · refine ⟨_, rfl, _, rfl, 1, rfl, _, rfl, thou hz, ?_⟩
          rw [cut_tail]
          refine ⟨_, _, rfl, rfl, thou (by show 1 + r.length ≤ 1000; omega), _, rfl, .inl ⟨_, rfl, by rw [app_one]; exact hz⟩, fun H' sm => ?_⟩
          rw [app_one]
          exact fin c H' sm (if_neg e).symm
    · have h := q H (Same.refl H)
      rw [show sgV v = false by unfold sgV; rw [(nmV_no no).1, (nmV_no no).2.1]; rfl] at h
      exact ⟨v, rfl, _, _, _, _, false, rfl, .ty _, ty, kit_ty k, _, rfl, iteT h⟩
/-! ### the law's reading of an entry -/
theorem ok_LwholeD (T : Top w K mg) : FnOk P w K mg base CX0 1 T.a_Lwhole T.fd_Lwhole ["_law_thing"] (spWholeD K) := by
  refine T.F_Lwhole.ok sc_Lwhole (fun vs H Q E h => ?_) (fun cdv A outer s H vs Q E hr h => ?_)
  · obtain ⟨v, d, rfl, _⟩ := h
    rfl
  · obtain ⟨v, d, rfl, hd, q⟩ := h
    refine ⟨_, (pss_one (ps_ret (pe_and (pe_callB call_isi (by rfl) T.m_isinstance (by decide +kernel) (pa_cons (pv 0) (pa_cons (pe_bltn (v := .ty "int") (by rfl) T.m_int (by decide +kernel) rfl) pa_nil))) (pe_one (pe_not (pe_callB call_isi (by rfl) T.m_isinstance (by decide +kernel) (pa_cons (pv 0) (pa_cons (pe_bltn (v := .ty "bool") (by rfl) T.m_bool (by decide +kernel) rfl) pa_nil)))))))), ?_⟩
    cases hd with
    | non => exact ⟨.non, rfl, _, _, _, _, false, rfl, .ty _, .base .non, kit_ty (by decide +kernel), _, rfl, iteF q⟩
    | bl b => exact ⟨.bl b, rfl, _, _, _, _, true, rfl, .ty _, .base (.bl b), kit_ty (by decide +kernel), _, rfl, iteT ⟨.bl b, rfl, _, _, _, _, true, rfl, .ty _, .base (.bl b), kit_ty (by decide +kernel), _, rfl, q⟩⟩
    | int i => exact ⟨.int i, rfl, _, _, _, _, true, rfl, .ty _, .base (.int i), kit_ty (by decide +kernel), _, rfl, iteT ⟨.int i, rfl, _, _, _, _, false, rfl, .ty _, .base (.int i), kit_ty (by decide +kernel), _, rfl, q⟩⟩
    | str z => exact ⟨.str z, rfl, _, _, _, _, false, rfl, .ty _, .base (.str z), kit_ty (by decide +kernel), _, rfl, iteF q⟩
    | lst h _ => exact ⟨_, rfl, _, _, _, _, false, rfl, .ty _, ty_lst h, kit_ty (by decide +kernel), _, rfl, iteF q⟩
    | tup h _ => exact ⟨_, rfl, _, _, _, _, false, rfl, .ty _, ty_tup h, kit_ty (by decide +kernel), _, rfl, iteF q⟩
theorem many10 (i : Int) : manyD (.int i) = (decide (0 < i) && decide (i < 10)) := by
  show (decide (1 ≤ i) && decide (i ≤ 9)) = _
  by_cases h : i < 10
  · rw [decide_eq_true h, decide_eq_true (show i ≤ 9 by omega)]
    by_cases h2 : 0 < i
    · rw [decide_eq_true h2, decide_eq_true (show 1 ≤ i by omega)]
    · rw [decide_eq_false h2, decide_eq_false (show ¬ 1 ≤ i by omega)]
  · rw [decide_eq_false h, decide_eq_false (show ¬ i ≤ 9 by omega), Bool.and_false, Bool.and_false]
theorem ok_Lis_many (T : Top w K mg) : FnOk P w K mg base CX0 2 T.a_Lis_many T.fd_Lis_many ["_law_thing"] (spPart K manyD) := by
  have G_Lwhole := ok_LwholeD (P := P) (w := w) (base := base) T
  refine T.F_Lis_many.ok sc_Lis_many (fun vs H Q E h => ?_) (fun cdv A outer s H vs Q E hr h => ?_)
  · obtain ⟨v, d, rfl, _⟩ := h
    rfl
  · obtain ⟨v, d, rfl, g, hd, q⟩ := h
    refine ⟨_, (pss_one (ps_ret (pe_and (pe_call G_Lwhole hr (by rfl) T.g_Lwhole T.F_Lwhole.kp T.b_Lwhole .nil pass0 (pa_cons (pv 0) pa_nil)) (pe_one (pe_chain op_lt op_lt pe_int (pv 0) pe_int))))), ?_⟩
    refine ⟨v, rfl, v, d, rfl, hd, _, rfl, ?_⟩
    have q := q H (Same.refl H)
    cases hd with
    | int i =>
      rw [many10] at q
      refine iteT ⟨.int i, rfl, _, _, rfl, rfl, _, rfl, ite2 (fun e => ?_) (fun e => ?_)⟩
      · refine ⟨_, _, rfl, rfl, ?_⟩
        rw [e] at q
        exact q
      · rw [Bool.eq_false_iff.mpr e] at q
        exact q
    | non => exact iteF q
    | bl b => exact iteF q
    | str z => exact iteF q
    | lst h _ => exact iteF q
    | tup h _ => exact iteF q
--@@SPLIT
theorem inW_str {z : Str} {ws : List Str} (h : inW (.str z) ws = true) : z ∈ ws := by
  obtain ⟨s, hs, e⟩ := List.any_eq_true.mp h
  have e2 : s = z := beq_iff_eq.mp e
  subst e2
  exact hs
theorem eqS_str {d : PyData} {s : Str} (h : eqS d s = true) : d = .str s := by
  cases d with
  | str z =>
    have e2 : s = z := beq_iff_eq.mp h
    rw [e2]
  | _ => cases h
theorem alone_no {a : PyData} (h : inW a wAlone = true) : eqS a "face" = false ∧ eqS a "go" = false ∧ eqS a "sign" = false ∧ eqS a "spy" = false := by
  cases a with
  | str z =>
    have all : ∀ z ∈ wAlone, eqS (.str z) "face" = false ∧ eqS (.str z) "go" = false ∧ eqS (.str z) "sign" = false ∧ eqS (.str z) "spy" = false := by decide +kernel
    exact all z (inW_str h)
  | _ => exact ⟨rfl, rfl, rfl, rfl⟩
def at1 (f : PyData → Bool) : List PyData → Bool
  | [_, b] => f b
  | _ => false
def at12 (f g : PyData → Bool) : List PyData → Bool
  | [_, b, c] => f b && g c
  | _ => false
def lawE (a : PyData) (ds : List PyData) : Bool :=
  if inW a wAlone = true then decide (V.int (ds.length : Int) = V.int 1) else if eqS a "face" = true then at1 letD ds else if eqS a "go" = true then at1 manyD ds else if eqS a "sign" = true then at1 sgD ds else eqS a "spy" && at12 manyD sgD ds
theorem ent_law (a : PyData) (r : List PyData) : entL (a :: r) = lawE a (a :: r) := by
  unfold lawE
  by_cases h0 : inW a wAlone = true
  · obtain ⟨n1, n2, n3, n4⟩ := alone_no h0
    rw [if_pos h0]
    match r with
    | [] => exact h0
    | [b] => show pairD a b = false; unfold pairD; rw [n1, n2, n3]; rfl
    | [b, c] => show (eqS a "spy" && _) = false; rw [n4]; rfl
    | b :: c :: d :: e =>
      show false = _
      rw [decide_eq_false]
      intro z
      have := V.int.inj z
      simp at this
      omega
  · rw [if_neg h0]
    by_cases h1 : eqS a "face" = true
    · rw [if_pos h1]
      have e := eqS_str h1
      subst e
      match r with
      | [] => exact Bool.eq_false_iff.mpr h0
      | [b] => rfl
      | [b, c] => rfl
      | b :: c :: d :: e => rfl
    · rw [if_neg h1]
      by_cases h2 : eqS a "go" = true
      · rw [if_pos h2]
        have e := eqS_str h2
        subst e
        match r with
        | [] => exact Bool.eq_false_iff.mpr h0
        | [b] => rfl
        | [b, c] => rfl
        | b :: c :: d :: e => rfl
      · rw [if_neg h2]
        by_cases h3 : eqS a "sign" = true
        · rw [if_pos h3]
          have e := eqS_str h3
          subst e
          match r with
          | [] => exact Bool.eq_false_iff.mpr h0
          | [b] => rfl
          | [b, c] => rfl
          | b :: c :: d :: e => rfl
        · rw [if_neg h3]
          match r with
          | [] => show inW a wAlone = (eqS a "spy" && false); rw [Bool.eq_false_iff.mpr h0, Bool.and_false]
          | [b] => show pairD a b = (eqS a "spy" && false); unfold pairD; rw [Bool.eq_false_iff.mpr h1, Bool.eq_false_iff.mpr h2, Bool.eq_false_iff.mpr h3, Bool.and_false]; rfl
          | [b, c] => rfl
          | b :: c :: d :: e => show false = (eqS a "spy" && false); rw [Bool.and_false]
theorem ent_nostr {a : PyData} {r : List PyData} (h : strD a = false) : entL (a :: r) = false := by
  rw [ent_law]
  have n : ∀ s, eqS a s = false := fun s => by cases a <;> first | rfl | cases h
  have i : inW a wAlone = false := by
    show (eqS a _ || (eqS a _ || (eqS a _ || (eqS a _ || (eqS a _ || (eqS a _ || false)))))) = false
    rw [n, n, n, n, n, n]
    rfl
  unfold lawE
  rw [i, n, n, n, n]
  rfl
theorem let_str {b : PyData} (h : strD b = false) : letD b = false := by
  cases b <;> first | rfl | cases h
theorem ok_Lis_entry (T : Top w K mg) : FnOk P w K mg base CX0 3 T.a_Lis_entry T.fd_Lis_entry ["_law_thing"] (spEntry K) := by
  have G_Lis_many := ok_Lis_many (P := P) (w := w) (base := base) T
  have G_Lis_sign := ok_Lis_sign (P := P) (w := w) (base := base) T
  refine T.F_Lis_entry.ok sc_Lis_entry (fun vs H Q E h => ?_) (fun cdv A outer s H vs Q E hr h => ?_)
  · obtain ⟨v, d, rfl, _⟩ := h
    rfl
  · obtain ⟨v, d, rfl, g, hd, q⟩ := h
    refine ⟨_, (pss_cons (ps_if (PW.pt (pw_or (pt_not (pt_val (pe_callB call_isiT (by rfl) T.m_isinstance (by decide +kernel) (pa_cons (pv 0) (pa_cons (pe_tup (pa_cons (pe_bltn (v := .ty "tuple") (by rfl) T.m_tuple (by decide +kernel) rfl) (pa_cons (pe_bltn (v := .ty "list") (by rfl) T.m_list (by decide +kernel) rfl) pa_nil))) pa_nil))))) (pw_or (pt_cmpR op_eq (pe_callB call_len_seq (by rfl) T.m_len (by decide +kernel) (pa_cons (pv 0) pa_nil)) pe_int (nomark _)) (pw_or1 (pt_not (pt_val (pe_callB call_isi (by rfl) T.m_isinstance (by decide +kernel) (pa_cons (pe_ix ix_seq (pv 0) pe_int (fun _ _ => rfl)) (pa_cons (pe_bltn (v := .ty "str") (by rfl) T.m_str (by decide +kernel) rfl) pa_nil))))))))) (pss_one (ps_ret pe_bl)) pss_nil)
      (pss_cons (ps_if (pt_cmpR (op_inA (units65 hr)) (pe_ix ix_seq (pv 0) pe_int (fun _ _ => rfl)) (pe_tup (pa_cons pe_str (pa_cons pe_str (pa_cons pe_str (pa_cons pe_str (pa_cons pe_str (pa_cons pe_str pa_nil))))))) (by rfl)) (pss_one (ps_ret (pe_cmpR op_eq (pe_callB call_len_seq (by rfl) T.m_len (by decide +kernel) (pa_cons (pv 0) pa_nil)) pe_int (nomark _)))) pss_nil)
      (pss_cons (ps_if (pt_cmpR (op_eqA hr.units) (pe_ix ix_seq (pv 0) pe_int (fun _ _ => rfl)) pe_str (nomark _)) (pss_one (ps_ret (pe_and (pe_cmpR op_eq (pe_callB call_len_seq (by rfl) T.m_len (by decide +kernel) (pa_cons (pv 0) pa_nil)) pe_int (nomark _)) (pe_and (pe_callB call_isi (by rfl) T.m_isinstance (by decide +kernel) (pa_cons (pe_ix ix_seq (pv 0) pe_int (fun _ _ => rfl)) (pa_cons (pe_bltn (v := .ty "str") (by rfl) T.m_str (by decide +kernel) rfl) pa_nil))) (pe_one (pe_cmpR (op_inA (units65 hr)) (pe_ix ix_seq (pv 0) pe_int (fun _ _ => rfl)) (pe_tup (pa_cons pe_str (pa_cons pe_str (pa_cons pe_str (pa_cons pe_str pa_nil))))) (by rfl))))))) pss_nil)
      (pss_cons (ps_if (pt_cmpR (op_eqA hr.units) (pe_ix ix_seq (pv 0) pe_int (fun _ _ => rfl)) pe_str (nomark _)) (pss_one (ps_ret (pe_and (pe_cmpR op_eq (pe_callB call_len_seq (by rfl) T.m_len (by decide +kernel) (pa_cons (pv 0) pa_nil)) pe_int (nomark _)) (pe_one (pe_call G_Lis_many hr (by rfl) T.g_Lis_many T.F_Lis_many.kp T.b_Lis_many .nil pass0 (pa_cons (pe_ix ix_seq (pv 0) pe_int (fun _ _ => rfl)) pa_nil)))))) pss_nil)
      (pss_cons (ps_if (pt_cmpR (op_eqA hr.units) (pe_ix ix_seq (pv 0) pe_int (fun _ _ => rfl)) pe_str (nomark _)) (pss_one (ps_ret (pe_and (pe_cmpR op_eq (pe_callB call_len_seq (by rfl) T.m_len (by decide +kernel) (pa_cons (pv 0) pa_nil)) pe_int (nomark _)) (pe_one (pe_call G_Lis_sign hr (by rfl) T.g_Lis_sign T.F_Lis_sign.kp T.b_Lis_sign .nil pass0 (pa_cons (pe_ix ix_seq (pv 0) pe_int (fun _ _ => rfl)) pa_nil)))))) pss_nil)
      (pss_one (ps_ret (pe_and (pe_cmpR (op_eqA hr.units) (pe_ix ix_seq (pv 0) pe_int (fun _ _ => rfl)) pe_str (nomark _)) (pe_and (pe_cmpR op_eq (pe_callB call_len_seq (by rfl) T.m_len (by decide +kernel) (pa_cons (pv 0) pa_nil)) pe_int (nomark _)) (pe_and (pe_call G_Lis_many hr (by rfl) T.g_Lis_many T.F_Lis_many.kp T.b_Lis_many .nil pass0 (pa_cons (pe_ix ix_seq (pv 0) pe_int (fun _ _ => rfl)) pa_nil)) (pe_one (pe_call G_Lis_sign hr (by rfl) T.g_Lis_sign T.F_Lis_sign.kp T.b_Lis_sign .nil pass0 (pa_cons (pe_ix ix_seq (pv 0) pe_int (fun _ _ => rfl)) pa_nil))))))))))))), ?_⟩
    obtain ⟨x, y, k1, k2, exy⟩ := kit_seq d
    refine ⟨v, rfl, by show 2 ≤ sizeLine; decide, fun tp np => ⟨v, tp, _, _, _, _, rfl, upd_same, .cons (.ty _) (.cons (.ty _) .nil), ty_dp (dp_same (same_upd np) d v hd), kit_any2 k1 k2, _, rfl, ?_⟩⟩
    rw [exy]
    have s0 := same_upd (o := .tup [.ty "tuple", .ty "list"]) np
    have hd0 := dp_same s0 d v hd
    cases e : seqD d with
    | none =>
      rw [show entD d = false by unfold entD; rw [e]] at q
      exact iteT (q _ s0)
    | some ds =>
      rw [show entD d = entL ds by unfold entD; rw [e]] at q
      refine iteF ?_
      obtain ⟨hlen, hgp⟩ := ge_parts g e
      cases ds with
      | nil =>
        obtain ⟨a, xs, rfl, hs, ha⟩ := seq_dp hd0 e
        cases ha
        exact ⟨.ref a, rfl, a, _, rfl, hs, rfl, _, rfl, iteDY (decide_eq_true rfl) (q _ s0)⟩
      | cons a r =>
        obtain ⟨p, x1, xs, rfl, hs, h1, ha⟩ := seq_head hd0 e
        have lx := dpa_len _ _ ha
        have ga := hgp a (by simp)
        refine ⟨.ref p, rfl, p, _, rfl, hs, rfl, _, rfl, iteDN (decide_eq_false (fun z => by have := V.int.inj z; simp at this; omega)) ?_⟩
        refine ⟨.ref p, rfl, ixA (j := 0) hs rfl ⟨_, _, _, _, _, rfl, .ty _, ty_dp h1, kit_ty (kit_str a), _, rfl, ?_⟩⟩
        cases hst : strD a with
        | false =>
          rw [ent_nostr hst] at q
          exact iteT (q _ s0)
        | true =>
          refine iteF ?_
          rw [ent_law] at q
          unfold lawE at q
          have rl : ∀ r : List PyData, ¬ (a :: r).length = 2 → ∀ f, at1 f (a :: r) = false := fun r h f => by
            match r, h with
            | [], _ => rfl
            | [_], h => exact absurd rfl h
            | _ :: _ :: _, _ => rfl
          refine ⟨.ref p, rfl, ixA (j := 0) hs rfl ⟨by show 6 ≤ sizeLine; decide, fun t1 n1 => ?_⟩⟩
          have s1 := same_upd (o := .tup (wAlone.map V.str)) n1
          have s01 := s0.trans s1
          have hs := hs.same s1
          have h1 := dp_same s1 _ _ h1
          have ha := dpa_same s1 _ _ ha
          refine inA_of (ws := wAlone) h1 ga (.inl (.inl upd_same)) (by decide +kernel) ⟨_, rfl, ite2 (fun e0 => ?_) (fun e0 => ?_)⟩
          · rw [if_pos e0, ← lx] at q
            exact ⟨.ref p, rfl, p, _, rfl, hs, rfl, q _ s01⟩
          rw [if_neg e0] at q
          refine ⟨.ref p, rfl, ixA (j := 0) hs rfl (eqA_of h1 ga (by decide +kernel) ⟨_, rfl, ite2 (fun e1 => ?_) (fun e1 => ?_)⟩)⟩
          · rw [if_pos e1] at q
            refine ⟨.ref p, rfl, p, _, rfl, hs, rfl, _, rfl, ?_⟩
            by_cases n2 : (a :: r).length = 2
            · obtain ⟨a', b, eab⟩ := len2 _ n2
              cases eab
              obtain ⟨x', y', exy2, _, hb⟩ := dpa2 ha
              cases exy2
              have gb := hgp b (by simp)
              refine iteDY (decide_eq_true rfl) ⟨.ref p, rfl, ixA (j := 1) hs rfl ⟨_, _, _, _, _, rfl, .ty _, ty_dp hb, kit_ty (kit_str b), _, rfl, ?_⟩⟩
              cases hsb : strD b with
              | false =>
                rw [show at1 letD [a, b] = letD b from rfl, let_str hsb] at q
                exact iteF (q _ s01)
              | true =>
                refine iteT ⟨.ref p, rfl, ixA (j := 1) hs rfl ⟨by show 4 ≤ sizeLine; decide, fun t2 n2 => ?_⟩⟩
                have s2 := same_upd (o := .tup (lets.map V.str)) n2
                exact inA_of (ws := lets) (dp_same s2 _ _ hb) gb (.inl (.inl upd_same)) (by decide +kernel) (q _ (s01.trans s2))
            · rw [rl r n2] at q
              exact iteDN (decide_eq_false (fun z => n2 (by have := V.int.inj z; rw [lx] at this; omega))) (q _ s01)
          rw [if_neg e1] at q
          refine ⟨.ref p, rfl, ixA (j := 0) hs rfl (eqA_of h1 ga (by decide +kernel) ⟨_, rfl, ite2 (fun e2 => ?_) (fun e2 => ?_)⟩)⟩
          · rw [if_pos e2] at q
            refine ⟨.ref p, rfl, p, _, rfl, hs, rfl, _, rfl, ?_⟩
            by_cases n2 : (a :: r).length = 2
            · obtain ⟨a', b, eab⟩ := len2 _ n2
              cases eab
              obtain ⟨x', y', exy2, _, hb⟩ := dpa2 ha
              cases exy2
              exact iteDY (decide_eq_true rfl) ⟨.ref p, rfl, ixA (j := 1) hs rfl ⟨y', b, rfl, hgp b (by simp), hb, fun H' sm => q _ (s01.trans sm)⟩⟩
            · rw [rl r n2] at q
              exact iteDN (decide_eq_false (fun z => n2 (by have := V.int.inj z; rw [lx] at this; omega))) (q _ s01)
          rw [if_neg e2] at q
          refine ⟨.ref p, rfl, ixA (j := 0) hs rfl (eqA_of h1 ga (by decide +kernel) ⟨_, rfl, ite2 (fun e3 => ?_) (fun e3 => ?_)⟩)⟩
          · rw [if_pos e3] at q
            refine ⟨.ref p, rfl, p, _, rfl, hs, rfl, _, rfl, ?_⟩
            by_cases n2 : (a :: r).length = 2
            · obtain ⟨a', b, eab⟩ := len2 _ n2
              cases eab
              obtain ⟨x', y', exy2, _, hb⟩ := dpa2 ha
              cases exy2
              refine iteDY (decide_eq_true rfl) ⟨.ref p, rfl, ixA (j := 1) hs rfl ⟨y', rfl, th_dp hb (hgp b (by simp)), fun H' sm => ?_⟩⟩
              rw [sg_dp hb]
              exact q _ (s01.trans sm)
            · rw [rl r n2] at q
              exact iteDN (decide_eq_false (fun z => n2 (by have := V.int.inj z; rw [lx] at this; omega))) (q _ s01)
          rw [if_neg e3] at q
          refine ⟨.ref p, rfl, ixA (j := 0) hs rfl (eqA_of h1 ga (by decide +kernel) ⟨_, rfl, ite2 (fun e4 => ?_) (fun e4 => ?_)⟩)⟩
          · rw [e4, Bool.true_and] at q
            refine ⟨.ref p, rfl, p, _, rfl, hs, rfl, _, rfl, ?_⟩
            by_cases n3 : (a :: r).length = 3
            · obtain ⟨a', b, c, eab⟩ := len3 _ n3
              cases eab
              obtain ⟨x', y', z', exy2, _, hb, hc⟩ := dpa3 ha
              cases exy2
              have q : ∀ H', Same H H' → Q (.bl (manyD b && sgD c)) H' := q
              refine iteDY (decide_eq_true rfl) ⟨.ref p, rfl, ixA (j := 1) hs rfl ⟨y', b, rfl, hgp b (by simp), hb, fun H2 s2 => ⟨_, rfl, ite2 (fun e5 => ?_) (fun e5 => ?_)⟩⟩⟩
              · rw [e5, Bool.true_and] at q
                refine ⟨.ref p, rfl, ixA (j := 2) (hs.same s2) rfl ⟨z', rfl, th_dp (dp_same s2 _ _ hc) (hgp c (by simp)), fun H' sm => ?_⟩⟩
                rw [sg_dp hc]
                exact q _ ((s01.trans s2).trans sm)
              · rw [Bool.eq_false_iff.mpr e5, Bool.false_and] at q
                exact q _ (s01.trans s2)
            · have e12 : at12 manyD sgD (a :: r) = false := by
                match r, n3 with
                | [], _ => rfl
                | [_], _ => rfl
                | [_, _], h => exact absurd rfl h
                | _ :: _ :: _ :: _, _ => rfl
              rw [e12] at q
              exact iteDN (decide_eq_false (fun z => n3 (by have := V.int.inj z; rw [lx] at this; omega))) (q _ s01)
          · rw [Bool.eq_false_iff.mpr e4, Bool.false_and] at q
            exact q _ s01
--@@SPLIT
/-! ### the first thing amiss, by the law's own reading -/
def spBadAt (K : PySem.W.Frag) : Sp := fun vs H Q _ => ∃ (e : Addr) (xs : List V) (ds : List PyData), vs = [.ref e] ∧ SqT K H e xs ∧ DpAll K H xs ds ∧ (∀ d ∈ ds, ge d = true) ∧ ds.length ≤ 200 ∧
  ∀ H', Same H H' → Q (match badAt false 0 ds with | some i => .int (i : Nat) | none => .non) H'
theorem face_no {a : PyData} (h : eqS a "face" = true) : inW a wFace = false := by
  rw [eqS_str h]
  decide +kernel
theorem ok_Lbad_at (T : Top w K mg) : FnOk P w K mg base CX0 4 T.a_Lbad_at T.fd_Lbad_at ["_law_entries_here"] (spBadAt K) := by
  have G_Lis_entry := ok_Lis_entry (P := P) (w := w) (base := base) T
  refine T.F_Lbad_at.ok sc_Lbad_at (fun vs H Q E h => ?_) (fun cdv A outer s H vs Q E hr h => ?_)
  · obtain ⟨e, xs, ds, rfl, _⟩ := h
    rfl
  · obtain ⟨e, xs, ds, rfl, hs, ha, hge, hlen, q⟩ := h
    have lx := dpa_len ds xs ha
    refine ⟨_, (pss_cons (ps_set (i := 1) sc_Lbad_at.nd rfl (.inl rfl) pe_bl)
      (pss_cons (ps_for PassesOwn.never rfl (EnumT.pi_enumT (by rfl) T.m_enumerate (pa_cons (pv 0) pa_nil)) (pg_tup rfl (pgs_cons (pg_name (i := 2) sc_Lbad_at.nd rfl (.inl rfl)) (pgs_cons (pg_name (i := 3) sc_Lbad_at.nd rfl (.inl rfl)) pgs_nil))) (pss_cons (ps_if (pt_not (pt_val (pe_call G_Lis_entry hr (by rfl) T.g_Lis_entry T.F_Lis_entry.kp T.b_Lis_entry .nil pass0 (pa_cons (pv 3) pa_nil)))) (pss_one (ps_ret (pv 2))) pss_nil)
      (Evl.pss_cut (ps_set (i := 1) sc_Lbad_at.nd rfl (.inl rfl) (pe_or (pv 1) (pe_one (pe_cmpR (op_eqA hr.units) (pe_ix ix_seq (pv 3) pe_int (fun _ _ => rfl)) pe_str (nomark _)))))
      (pss_one (ps_if (PW.pt (pw_and (pt_not (pt_val (pv 1))) (pw_and1 (pt_cmpR (op_inA (units65 hr)) (pe_ix ix_seq (pv 3) pe_int (fun _ _ => rfl)) (pe_tup (pa_cons pe_str (pa_cons pe_str (pa_cons pe_str (pa_cons pe_str (pa_cons pe_str (pa_cons pe_str pa_nil))))))) (by rfl))))) (pss_one (ps_ret (pv 2))) pss_nil)))))
      (pss_one (ps_ret pe_non)))), ?_⟩
    refine ⟨.ref e, rfl, e, xs, rfl, hs, for_it (EnumT.walk_enumT (xs := xs)) (fun i σ H' => Same H H' ∧ ∃ y2 y3, σ = [some (.ref e), some (.bl ((ds.take i).any fcD)), y2, y3] ∧ badAt false 0 ds = badAt ((ds.take i).any fcD) i (ds.drop i)) ⟨Same.refl _, none, none, rfl, rfl⟩ (fun i σ H' _ h => sqt_same h.1 hs) ?_ ?_⟩
    · rintro i v σ H1 H2 hi ⟨sm, y2, y3, rfl, hb⟩ ⟨t, u1, u2, rfl, nt, rfl, e1, e2⟩
      cases e1
      obtain ⟨d, fd, gd⟩ := dpa_at ds xs ha i u2 e2
      have hgd := hge d (List.mem_of_getElem? fd)
      rw [drop_at fd] at hb
      have st := same_upd (o := .tup [.int (i : Nat), u2]) nt
      have sm2 := sm.trans st
      refine ⟨t, _, rfl, .inl (.inl upd_same), rfl, _, _, rfl, _, _, rfl, rfl, ?_⟩
      refine ⟨u2, rfl, u2, d, rfl, hgd, dp_same sm2 d u2 gd, fun H3 s3 => ⟨_, rfl, ?_⟩⟩
      have sm3 := sm2.trans s3
      cases he : entD d with
      | false =>
        have hbi : badAt false 0 ds = some i := by
          rw [hb]
          show (if entD d = false then _ else _) = _
          rw [if_pos he]
        rw [hbi] at q
        exact iteT ⟨_, rfl, q _ sm3⟩
      | true =>
        refine iteF ?_
        obtain ⟨a, r, es⟩ := ent_seq he
        obtain ⟨p, x, xs2, rfl, hsq, hx, hall⟩ := seq_head (dp_same sm3 d u2 gd) es
        have ga : gp a = true := (ge_parts hgd es).2 a (by simp)
        have hb2 : badAt false 0 ds = if (ndD d && !((ds.take i).any fcD)) = true then some i else badAt ((ds.take i).any fcD || fcD d) (i + 1) (ds.drop (i + 1)) := by
          rw [hb]
          show (if entD d = false then _ else _) = _
          rw [if_neg (by rw [he]; decide)]
        have hnd : ndD d = inW a wFace := by unfold ndD; rw [head_eq es]
        have hfc : fcD d = eqS a "face" := by unfold fcD; rw [head_eq es]
        refine ⟨fun σ H' => H3 = H' ∧ σ = [some (.ref e), some (.bl ((ds.take i).any fcD || fcD d)), some (.int (i : Nat)), some (.ref p)], ?_, ?_⟩
        · refine ⟨_, rfl, _, rfl, ?_⟩
          cases hf : (ds.take i).any fcD with
          | true => exact iteT ⟨rfl, by rw [Bool.true_or]; rfl⟩
          | false =>
            refine iteF ⟨.ref p, rfl, ixA (j := 0) hsq rfl (eqA_of hx ga (by decide +kernel) ⟨rfl, ?_⟩)⟩
            rw [hfc, Bool.false_or]
            rfl
        rintro σ H4 ⟨rfl, rfl⟩
        refine ⟨_, rfl, _, rfl, ?_⟩
        cases hg : ((ds.take i).any fcD || fcD d) with
        | true =>
          refine iteF (ite2 (fun z => nomatch z) (fun _ => ⟨sm3, _, _, by rw [any_more fd, hg], ?_⟩))
          rw [any_more fd, hb2]
          rw [if_neg]
          intro z
          obtain ⟨z1, z2⟩ := Bool.and_eq_true_iff.mp z
          rw [hnd] at z1
          have zf : (ds.take i).any fcD = false := by
            cases hq : (ds.take i).any fcD with
            | false => rfl
            | true => rw [hq] at z2; cases z2
          rw [zf, Bool.false_or, hfc] at hg
          rw [face_no hg] at z1
          cases z1
        | false =>
          obtain ⟨g1, g2⟩ := Bool.or_eq_false_iff.mp hg
          refine iteT ⟨.ref p, rfl, ixA (j := 0) hsq rfl ⟨by show 6 ≤ sizeLine; decide, fun t2 n2 => ?_⟩⟩
          have s2 := same_upd (o := .tup (wFace.map V.str)) n2
          refine inA_of (ws := wFace) (dp_same s2 _ _ hx) ga (.inl (.inl upd_same)) (by decide +kernel) ⟨_, rfl, ite2 (fun e5 => ?_) (fun e5 => ?_)⟩
          · have hbi : badAt false 0 ds = some i := by
              rw [hb2, hnd, e5, g1]
              rfl
            rw [hbi] at q
            exact ⟨_, rfl, q _ (sm3.trans s2)⟩
          · refine ⟨sm3.trans s2, _, _, by rw [any_more fd, hg], ?_⟩
            rw [any_more fd, hb2, hnd, Bool.eq_false_iff.mpr e5, Bool.false_and, if_neg Bool.false_ne_true]
    · rintro σ H1 ⟨sm, y2, y3, rfl, hb⟩
      rw [lx, List.drop_length] at hb
      rw [hb] at q
      exact q _ sm
--@@SPLIT
/-! ### of its own class alone -/
theorem count_vals {y : V} : ∀ {ys : List V} {us : List Value}, Vals ys us → ys.all flatV = true → us.countP (eqU y) = ys.countP (fun z => eqV z y)
  | _, _, .nil, _ => rfl
  | _, _, .cons r rs, h => by
    rw [List.all_cons] at h
    obtain ⟨h1, h2⟩ := Bool.and_eq_true_iff.mp h
    rw [List.countP_cons, List.countP_cons, count_vals rs h2, eqU_of r h1]
theorem mt_countV {X : Cx} : MtR X "list.count" (fun x xs H Q => ∃ (p : Addr) (ys : List V) (y : V), x = .ref p ∧ xs = [y] ∧ SqL X.K H p ys ∧ flatV y = true ∧ ys.all flatV = true ∧ Q (.int (ys.countP (fun z => eqV z y) : Nat)) H) := by
  intro pins s σ H x xs v us Q I rx rxs h
  obtain ⟨p, ys, y, rfl, rfl, hs, fy, fys, q⟩ := h
  cases rx
  obtain ⟨u, rfl, ru⟩ := rxs.one
  obtain ⟨its, rv, ⟨⟨cls, dd, data, sl⟩, n, ho, hc, hdn, hd⟩, hlen⟩ := I.list hs
  simp only at hc hd
  subst hc hd
  refine call_meets PySem.F.slot_list_count ⟨_, ho, rfl⟩ PySem.F.entry_list_count (PySem.F.args_list_count_2 _ _) (SeqAt.list_countAt p its.toArray n dd sl u (eqU y)) ⟨ho, fun z hz => mem_eqAt ru fy rv fys z (by simpa using hz), ?_⟩
  refine ⟨.int (ys.countP (fun z => eqV z y) : Nat), H, I.tok _, ⟨s.toks, ?_⟩, q⟩
  show Value.int ((its.toArray.toList.countP (eqU y) : Nat) : Int) s.toks = _
  rw [show its.toArray.toList = its from rfl, count_vals rv fys]
def spOwn (C : Addr) (a : Addr) (cls : Value) (d : Option Addr) : Sp := fun vs H Q _ => vs = [.ref a] ∧ cls = .ref C ∧ ∃ dd fs, d = some dd ∧ H dd = some (.xd fs) ∧ ∀ H', Same H H' → Q (.bl true) H'
theorem ok_Lown (T : Top w K mg) {a : Addr} {oe : Obj} {cls : Value} {d : Option Addr} (hz : Zc cls d oe) (hf : ∃ vs, oe.data = .fields vs) : ExcM.FnP P w K mg base (a, oe) 1 T.a_Lown T.fd_Lown ["_law_e"] (spOwn T.a_BadLog a cls d) := by
  refine ExcM.fun_okP T.F_Lown sc_Lown (fun vs H Q E h => ?_) (fun cdv A outer s H vs Q E hr h => ?_)
  · obtain ⟨rfl, _⟩ := h
    rfl
  · obtain ⟨rfl, rfl, dd, fs, rfl, hd, q⟩ := h
    refine ⟨_, (pss_cons (ps_set (i := 1) sc_Lown.nd rfl (.inl rfl) (pe_lst (pa_cons (pe_callB (ExcM.call_isP T.exc List.mem_cons_self hz hf) (by rfl) T.m_isinstance (by decide +kernel) (pa_cons (pv 0) (pa_cons (pe_glob (v := .ref T.a_NoLot) (by rfl) T.g_NoLot rfl) pa_nil))) (pa_cons (pe_callB (ExcM.call_isP T.exc List.mem_cons_self hz hf) (by rfl) T.m_isinstance (by decide +kernel) (pa_cons (pv 0) (pa_cons (pe_glob (v := .ref T.a_BadLog) (by rfl) T.g_BadLog rfl) pa_nil))) (pa_cons (pe_callB (ExcM.call_isP T.exc List.mem_cons_self hz hf) (by rfl) T.m_isinstance (by decide +kernel) (pa_cons (pv 0) (pa_cons (pe_glob (v := .ref T.a_NoDealing) (by rfl) T.g_NoDealing rfl) pa_nil))) (pa_cons (pe_callB (ExcM.call_isP T.exc List.mem_cons_self hz hf) (by rfl) T.m_isinstance (by decide +kernel) (pa_cons (pv 0) (pa_cons (pe_glob (v := .ref T.a_BadBox) (by rfl) T.g_BadBox rfl) pa_nil))) pa_nil))))))
      (pss_cons (ps_set (i := 1) sc_Lown.nd rfl (.inl rfl) (pe_op op_cat (pv 1) (pe_lst (pa_cons (pe_callB (ExcM.call_isP T.exc List.mem_cons_self hz hf) (by rfl) T.m_isinstance (by decide +kernel) (pa_cons (pv 0) (pa_cons (pe_glob (v := .ref T.a_NoName) (by rfl) T.g_NoName rfl) pa_nil))) (pa_cons (pe_callB (ExcM.call_isP T.exc List.mem_cons_self hz hf) (by rfl) T.m_isinstance (by decide +kernel) (pa_cons (pv 0) (pa_cons (pe_glob (v := .ref T.a_Twice) (by rfl) T.g_Twice rfl) pa_nil))) (pa_cons (pe_callB (ExcM.call_isP T.exc List.mem_cons_self hz hf) (by rfl) T.m_isinstance (by decide +kernel) (pa_cons (pv 0) (pa_cons (pe_glob (v := .ref T.a_NoWalker) (by rfl) T.g_NoWalker rfl) pa_nil))) pa_nil))))))
      (pss_one (ps_ret (pe_and (pe_cmpR op_eq (pe_bm PySem.F.plainAttrs_list PySem.F.slot_list_count PySem.F.type_list_count mt_countV (pv 1) (pa_cons pe_bl pa_nil)) pe_int (nomark _)) (pe_and (pe_callB (ExcM.call_isP T.exc List.mem_cons_self hz hf) (by rfl) T.m_isinstance (by decide +kernel) (pa_cons (pv 0) (pa_cons (pe_glob (v := .ref T.a_NeedleError) (by rfl) T.g_NeedleError rfl) pa_nil))) (pe_one (pe_callB (ExcM.call_isP T.exc List.mem_cons_self hz hf) (by rfl) T.m_isinstance (by decide +kernel) (pa_cons (pv 0) (pa_cons (pe_bltn (v := .ty "ValueError") (by rfl) T.m_ValueError (by decide +kernel) rfl) pa_nil)))))))))), ?_⟩
    have ro : ∀ {C : Addr} (u : Value), RelV (.ref C) u → u = .ref C := fun u h => h
    refine ⟨_, rfl, _, _, _, fs, rfl, ro, hd, T.kit_NoLot, _, rfl, _, _, _, fs, rfl, ro, hd, T.kit_BadLog, _, rfl, _, _, _, fs, rfl, ro, hd, T.kit_NoDealing, _, rfl, _, _, _, fs, rfl, ro, hd, T.kit_BadBox, by show 4 ≤ sizeLine; decide, fun l1 n1 => ?_⟩
    have s1 := same_upd (o := .lst [.bl false, .bl true, .bl false, .bl false]) n1
    have hd1 := s1 _ _ hd
    refine ⟨.ref l1, rfl, _, rfl, _, _, _, fs, rfl, ro, hd1, T.kit_NoName, _, rfl, _, _, _, fs, rfl, ro, hd1, T.kit_Twice, _, rfl, _, _, _, fs, rfl, ro, hd1, T.kit_NoWalker, by show 3 ≤ sizeLine; decide, fun l2 n2 => ?_⟩
    have s2 := same_upd (o := .lst [.bl false, .bl false, .bl false]) n2
    refine ⟨l1, l2, _, _, rfl, rfl, s2 _ _ upd_same, upd_same, by show 7 ≤ sizeLine; decide, fun l3 n3 => ?_⟩
    have s3 := same_upd (o := .lst ([.bl false, .bl true, .bl false, .bl false] ++ [.bl false, .bl false, .bl false])) n3
    have hd3 := s3 _ _ (s2 _ _ hd1)
    refine ⟨.ref l3, rfl, .inl ⟨rfl, _, .inl (.inl upd_same)⟩, l3, _, _, rfl, rfl, .inl (.inl upd_same), rfl, rfl, rfl, _, rfl, ite2 (fun _ => ?_) (fun z => absurd (decide_eq_true rfl) z)⟩
    refine ⟨_, rfl, _, _, _, fs, rfl, ro, hd3, T.kit_NeedleError, _, rfl, iteT ?_⟩
    exact ⟨_, rfl, _, _, _, fs, rfl, (fun u h => h), hd3, T.kit_VE, q _ ((s1.trans s2).trans s3)⟩
/-! ### the log, or the fields of the refusal -/
def dueD (ds : List PyData) : PyData := match badAt false 0 ds with
  | some i => .tuple [.str "bad", .str "", .int (i : Nat)]
  | none => .tuple [.str "log", .tuple (ds.map tupD)]
theorem due_none {ds : List PyData} (h : badAt false 0 ds = none) : dueD ds = .tuple [.str "log", .tuple (ds.map tupD)] := by
  unfold dueD
  rw [h]
theorem due_some {ds : List PyData} {i : Nat} (h : badAt false 0 ds = some i) : dueD ds = .tuple [.str "bad", .str "", .int (i : Nat)] := by
  unfold dueD
  rw [h]
theorem nm_at : (PySem.Str.ofString "name" == PySem.Str.ofString "at") = false := by decide +kernel
def spLheld (K : PySem.W.Frag) : Sp := fun vs H Q _ => ∃ (e : Addr) (xs : List V) (ds : List PyData), vs = [.ref e] ∧ SqA K H e xs ∧ DpAll K H xs ds ∧ (∀ d ∈ ds, ge d = true) ∧ ds.length ≤ 200 ∧ ∀ H' r, Same H H' → Dp K H' (.ref r) (dueD ds) → Q (.ref r) H'
theorem ok_Lheld (T : Top w K mg) : FnOk P w K mg base CX0 9 T.a_Lheld T.fd_Lheld ["_law_entries_here"] (spLheld K) := by
  refine T.F_Lheld.ok sc_Lheld (fun vs H Q E h => ?_) (fun cdv A outer s H vs Q E hr h => ?_)
  · obtain ⟨e, xs, ds, rfl, _⟩ := h
    rfl
  · obtain ⟨e, xs, ds, rfl, hs, ha, hge, hlen, q⟩ := h
    have told : ∀ H' r, Same H H' → badAt false 0 ds = none → Dp K H' (.ref r) (.tuple (ds.map tupD)) → ∀ r2, H' r2 = none → Q (.ref r2) (upd H' r2 (.tup [.str "log", .ref r])) := fun H' r sm hn hr' r2 n2 => q _ r2 (sm.trans (same_upd n2)) (by rw [due_none hn]; exact .tup (.inl (.inl upd_same)) (.cons (.str _) (.cons (dp_same (same_upd n2) _ _ hr') .nil)))
    have bad : ∀ H' (i : Nat), Same H H' → badAt false 0 ds = some i → ∀ r, H' r = none → Q (.ref r) (upd H' r (.tup [.str "bad", .str "", .int (i : Nat)])) := fun H' i sm hi r nr => q _ r (sm.trans (same_upd nr)) (by rw [due_some hi]; exact .tup (.inl (.inl upd_same)) (.cons (.str _) (.cons (.str _) (.cons (.int _) .nil))))
    rcases hs with hs | hs
    · have G_held_log := ok_held_log (P := P) (w := w) (base := base) T
      refine ⟨_, (pss_one (ps_try_as (i := 1) rfl rfl sc_Lheld.nd rfl rfl ⟨rfl, by decide, .inl T.g_BadLog⟩ takes0 (fun W pn xe tk _ => (pss_one (ps_ret (pe_tup (pa_cons pe_str (pa_cons (pe_callS G_held_log hr (by rfl) T.g_held_log T.F_held_log.kp T.b_held_log (fun σ => passAt tk σ) (pa_cons (pv 0) pa_nil)) pa_nil)))))) (fun a oe cls d pn hz hf => (pss_one (ps_ret (pe_ifExp (pt_val (ExcM.pe_callP (ok_Lown (P := P) (w := w) (base := base) T hz hf) ⟨(L2H.roomH_of (hr.mono (by decide : 1 ≤ 8))).dp, (L2H.roomH_of (hr.mono (by decide : 1 ≤ 8))).un⟩ List.mem_cons_self (by rfl) T.g_Lown T.F_Lown.kp T.b_Lown (pa_cons (pv 1) pa_nil))) (pe_tup (pa_cons pe_str (pa_cons (pe_xf T.xf T.no_name hz hf (pv 1)) (pa_cons (pe_xf T.xf T.no_at hz hf (pv 1)) pa_nil)))) (pe_tup (pa_cons pe_str pa_nil)))))))), ?_⟩
      refine ⟨.ref e, rfl, e, xs, ds, rfl, hs, ha, hge, hlen, fun hn H' r sm hr' => ?_, fun i hi H' dd sm ndd edd => ?_⟩
      · exact ⟨by show 2 ≤ sizeLine; decide, told H' r sm hn hr'⟩
      · exact ⟨true, T.exm, (fun _ a0 _ => ⟨.ref a0, rfl, rfl, rfl, dd, _, rfl, edd, fun H2 s2 => ⟨_, rfl, iteT ⟨.ref a0, rfl, rfl, rfl, dd, _, .str "", rfl, s2 _ _ edd, by simp [List.lookup, nm_at], .ref a0, rfl, rfl, rfl, dd, _, .int (i : Nat), rfl, s2 _ _ edd, by simp [List.lookup], by show 3 ≤ sizeLine; decide, bad H2 i (sm.trans s2) hi⟩⟩⟩), fun z => Bool.noConfusion z⟩
    · have G_held_log := ok_held_logT (P := P) (w := w) (base := base) T
      refine ⟨_, (pss_one (ps_try_as (i := 1) rfl rfl sc_Lheld.nd rfl rfl ⟨rfl, by decide, .inl T.g_BadLog⟩ takes0 (fun W pn xe tk _ => (pss_one (ps_ret (pe_tup (pa_cons pe_str (pa_cons (pe_callS G_held_log hr (by rfl) T.g_held_log T.F_held_log.kp T.b_held_log (fun σ => passAt tk σ) (pa_cons (pv 0) pa_nil)) pa_nil)))))) (fun a oe cls d pn hz hf => (pss_one (ps_ret (pe_ifExp (pt_val (ExcM.pe_callP (ok_Lown (P := P) (w := w) (base := base) T hz hf) ⟨(L2H.roomH_of (hr.mono (by decide : 1 ≤ 8))).dp, (L2H.roomH_of (hr.mono (by decide : 1 ≤ 8))).un⟩ List.mem_cons_self (by rfl) T.g_Lown T.F_Lown.kp T.b_Lown (pa_cons (pv 1) pa_nil))) (pe_tup (pa_cons pe_str (pa_cons (pe_xf T.xf T.no_name hz hf (pv 1)) (pa_cons (pe_xf T.xf T.no_at hz hf (pv 1)) pa_nil)))) (pe_tup (pa_cons pe_str pa_nil)))))))), ?_⟩
      refine ⟨.ref e, rfl, e, xs, ds, rfl, hs, ha, hge, hlen, fun hn H' r sm hr' => ?_, fun i hi H' dd sm ndd edd => ?_⟩
      · exact ⟨by show 2 ≤ sizeLine; decide, told H' r sm hn hr'⟩
      · exact ⟨true, T.exm, (fun _ a0 _ => ⟨.ref a0, rfl, rfl, rfl, dd, _, rfl, edd, fun H2 s2 => ⟨_, rfl, iteT ⟨.ref a0, rfl, rfl, rfl, dd, _, .str "", rfl, s2 _ _ edd, by simp [List.lookup, nm_at], .ref a0, rfl, rfl, rfl, dd, _, .int (i : Nat), rfl, s2 _ _ edd, by simp [List.lookup], by show 3 ≤ sizeLine; decide, bad H2 i (sm.trans s2) hi⟩⟩⟩), fun z => Bool.noConfusion z⟩
--@@SPLIT
/-! ### drawn texts, drawn things -/
theorem op_mulS {X : Cx} : OpR X (binaryOp .Mult) (fun x y H Q => ∃ (z : Str) (n : Int), x = .str z ∧ y = .int n ∧ z.length ≤ 16 ∧ 0 ≤ n ∧ n ≤ 1048576 ∧ ∀ z' : Str, (z'.length : Int) = (z.length : Int) * n → Q (.str z') H) := by
  intro pins s σ H x y v u Q I rx ry h
  obtain ⟨z, n, rfl, rfl, hz, h0, h1, q⟩ := h
  obtain ⟨t, rfl⟩ := rx
  obtain ⟨t', rfl⟩ := ry
  exact PySem.W.KXi.mul rfl hz (by omega) (by omega) fun t' k _ h2 => ⟨.str _, H, I.tok _, ⟨_, rfl⟩, q _ (h2 h0)⟩
theorem cut_len (z : Str) (lo hi : Option Int) : (cutS z lo hi).length ≤ z.length := by
  show (((z.cps.toList.drop (HT.sIx z.length 0 lo)).take (HT.sIx z.length z.length hi - HT.sIx z.length 0 lo)).toArray).size ≤ z.length
  rw [List.size_toArray, List.length_take, List.length_drop, len_toList]
  omega
theorem app_len (a b : Str) : (a ++ b).length = a.length + b.length := by
  show (a.cps ++ b.cps).size = _
  rw [Array.size_append]
  rfl
theorem str_at {z : Str} {i : Int} (h0 : 0 ≤ i) (h1 : i < (z.length : Int)) : ∃ c, atI z.cps.toList i = some c := by
  obtain ⟨j, rfl⟩ : ∃ j : Nat, i = j := ⟨i.toNat, by omega⟩
  have hj : j < z.cps.toList.length := by
    rw [len_toList]
    omega
  exact ⟨z.cps.toList[j], atI_nat (List.getElem?_eq_getElem hj)⟩
def spText (lo hi : Nat) : Sp := fun vs H Q _ => ∃ p, vs = [.ref p] ∧ Pool H p ∧ ∀ H' (z : Str), But p H H' → Pool H' p → lo ≤ z.length → z.length ≤ hi → (∀ c ∈ z.cps.toList, c ∈ SMALLs.cps.toList) → Q (.str z) H'
theorem app_mem {a b : Str} {c : Nat} (h : c ∈ (a ++ b).cps.toList) : c ∈ a.cps.toList ∨ c ∈ b.cps.toList := by
  have h2 : c ∈ (a.cps ++ b.cps).toList := h
  rw [Array.toList_append] at h2
  exact List.mem_append.mp h2
theorem join_mem {S : List Nat} : ∀ ys : List Str, (∀ y ∈ ys, ∀ c ∈ y.cps.toList, c ∈ S) → ∀ c ∈ (Str.join (PySem.Str.ofString "") ys).cps.toList, c ∈ S
  | [], _, c, h => by
    have h2 : c ∈ ([] : List Nat) := h
    cases h2
  | [y], hy, c, h => hy y (by simp) c h
  | y :: z :: r, hy, c, h => by
    have h2 : c ∈ ((y ++ PySem.Str.ofString "") ++ Str.join (PySem.Str.ofString "") (z :: r)).cps.toList := h
    rcases app_mem h2 with h3 | h3
    · rcases app_mem h3 with h4 | h4
      · exact hy y (by simp) c h4
      · have h5 : c ∈ ([] : List Nat) := by
          rw [show (PySem.Str.ofString "").cps.toList = [] by decide +kernel] at h4
          exact h4
        cases h5
    · exact join_mem (z :: r) (fun x hx => hy x (List.mem_cons_of_mem _ hx)) c h3
theorem ok_of_mem {z : Str} (h : ∀ c ∈ z.cps.toList, c < 0x110000) : PyData.strOk z = true := by
  show z.cps.all (fun c => decide (c < 0x110000)) = true
  rw [Array.all_eq_true_iff_forall_mem]
  intro c hc
  exact decide_eq_true (h c (Array.mem_toList_iff.mpr hc))
theorem small_ok : ∀ c ∈ SMALLs.cps.toList, c < 0x110000 := by decide +kernel
theorem cut_mem {z : Str} {lo hi : Option Int} {c : Nat} (h : c ∈ (cutS z lo hi).cps.toList) : c ∈ z.cps.toList := by
  have h2 : c ∈ (z.cps.toList.drop (HT.sIx z.length 0 lo)).take (HT.sIx z.length z.length hi - HT.sIx z.length 0 lo) := h
  exact List.mem_of_mem_drop (List.mem_of_mem_take h2)
theorem at_mem {z : Str} {i : Int} {c : Nat} (h : atI z.cps.toList i = some c) : c ∈ z.cps.toList := by
  obtain ⟨j, _, h2, _⟩ := atI_get h
  exact List.mem_of_getElem? h2
theorem join_len : ∀ ys : List Str, (∀ y ∈ ys, y.length = 1) → (Str.join (PySem.Str.ofString "") ys).length = ys.length
  | [], _ => rfl
  | [y], h => by
    show y.length = 1
    exact h y (by simp)
  | y :: z :: r, h => by
    show ((y ++ PySem.Str.ofString "") ++ Str.join (PySem.Str.ofString "") (z :: r)).length = _
    rw [app_len, app_len, join_len (z :: r) (fun x hx => h x (List.mem_cons_of_mem _ hx)), h y (by simp), s0]
    show 1 + 0 + (z :: r).length = (z :: r).length + 1
    omega
theorem sum_ones : ∀ ys : List Str, (∀ y ∈ ys, y.length = 1) → (ys.map (·.length)).sum = ys.length
  | [], _ => rfl
  | y :: r, h => by
    rw [List.map_cons, List.sum_cons, sum_ones r (fun x hx => h x (List.mem_cons_of_mem _ hx)), h y (by simp), List.length_cons]
    omega
theorem ok_Lname (T : Top w K mg) : FnOk P w K mg base CX0 2 T.a_Lname T.fd_Lname ["_law_pool_here"] (spText 1 8) := by
  have G_Ltake := ok_Ltake (P := P) (w := w) (base := base) T
  refine T.F_Lname.ok sc_Lname (fun vs H Q E h => ?_) (fun cdv A outer s H vs Q E hr h => ?_)
  · obtain ⟨p, rfl, _⟩ := h
    rfl
  · obtain ⟨p, rfl, hp, q⟩ := h
    refine ⟨_, (pss_cons (ps_set (i := 1) sc_Lname.nd rfl (.inr rfl) pe_str)
      (pss_one (ps_ret (pe_bm PySem.F.plainAttrs_str PySem.F.slot_str_join PySem.F.type_str_join mt_join pe_str (pa_cons (pe_lc (own := [("_law_k", 2)]) (g := gName 2) (by rfl) sc_Lname.nd (pi_range1 (by rfl) T.m_range (pa_cons (pe_op op_add pe_int (pe_call G_Ltake hr (by rfl) T.g_Ltake T.F_Ltake.kp T.b_Ltake .nil pass0 (pa_cons (pv 0) (pa_cons pe_int pa_nil)))) pa_nil)) (blkOk_by (own := [("_law_k", 2)]) (N := ["_law_pool_here", "_law_letters", "_law_k"]) (sc := defScope s_Lname) (by decide +kernel)) (fun _ _ _ _ _ => (pg_name (i := 2) sc_Lname.nd rfl (Or.inl rfl))) (fun _ _ _ _ _ => pts_nil) (fun _ _ _ _ _ => (pe_ix ix_str (pv 1) (pe_call G_Ltake hr (by rfl) T.g_Ltake T.F_Ltake.kp T.b_Ltake .nil pass0 (pa_cons (pv 0) (pa_cons pe_int pa_nil))) (fun _ _ => rfl)))) pa_nil))))), ?_⟩
    refine ⟨rfl, .ref p, rfl, p, 8, rfl, by decide, by decide, hp, fun H1 r b1 hp1 r0 r1 => ?_⟩
    have l26 : SMALLs.length = 26 := by decide +kernel
    refine ⟨_, _, rfl, rfl, 1 + r, rfl, by omega, by omega, fun D hD => lc_range (lo := 0) (n := (1 + r).toNat) (fun i H' => Pool H' p ∧ But p H H' ∧ ∃ ys : List Str, ys.length = i ∧ (∀ y ∈ ys, y.length = 1) ∧ (∀ y ∈ ys, ∀ c ∈ y.cps.toList, c ∈ SMALLs.cps.toList) ∧ H' D = some (.lst (ys.map V.str))) ⟨hp1.upd (hp1.ne_new hD), b1.mut (b1.free (hp1.ne_new hD) hD), [], rfl, (fun _ h => nomatch h), (fun _ h => nomatch h), upd_same⟩ ?_ ?_⟩
    · rintro i H2 hi ⟨hp2, b2, ys, hl, h1, hm, eD⟩
      have nD : D ≠ p := hp1.ne_new hD
      refine ⟨rfl, ?_⟩
      refine ⟨_, rfl, .ref p, rfl, p, 26, rfl, by decide, by decide, hp2, fun H3 k b3 hp3 k0 k1 => ?_⟩
      obtain ⟨c, hc⟩ := str_at (z := SMALLs) k0 (by rw [l26]; omega)
      refine ⟨_, k, c, rfl, rfl, by decide +kernel, hc, _, b3 _ _ nD eD, ?_, hp3.upd nD, (b2.trans b3).mut (b1.free nD hD), ys ++ [⟨#[c]⟩], ?_, ?_, ?_, ?_⟩
      · rw [List.length_map]
        exact small1000 (by omega)
      · rw [List.length_append, hl]
        rfl
      · intro y hy
        rcases List.mem_append.mp hy with h | h
        · exact h1 y h
        · rw [List.mem_singleton.mp h]
          rfl
      · intro y hy c2 hc2
        rcases List.mem_append.mp hy with h | h
        · exact hm y h c2 hc2
        · rw [List.mem_singleton.mp h] at hc2
          have h3 : c2 ∈ [c] := hc2
          rw [List.mem_singleton.mp h3]
          exact at_mem hc
      · rw [upd_same, List.map_append]
        rfl
    · rintro H2 ⟨hp2, b2, ys, hl, h1, hm, eD⟩
      have e := join_len ys h1
      refine ⟨_, D, ys, rfl, rfl, .inl (.inl (.inl eD)), ?_, ?_⟩
      · rw [sum_ones ys h1, s0]
        show ys.length + ys.length * 0 ≤ 16777216
        omega
      · rw [TL.join_eq]
        exact q H2 _ b2 hp2 (by omega) (by omega) (join_mem ys hm)
theorem up_ok : ∀ c ∈ SMALLs.cps.toList, ∀ c2 ∈ (Txt.upper ⟨#[c]⟩).cps.toList, c2 < 0x110000 := by decide +kernel
def spSign : Sp := fun vs H Q _ => ∃ (p : Addr) (b : Bool), vs = [.ref p, .bl b] ∧ Pool H p ∧ ∀ H' (z : Str), But p H H' → Pool H' p → z.length ≤ 12 → PyData.strOk z = true → Q (.str z) H'
theorem ok_Lsign (T : Top w K mg) : FnOk P w K mg base CX0 3 T.a_Lsign T.fd_Lsign ["_law_pool_here", "_law_lone"] spSign := by
  have G_Lname := ok_Lname (P := P) (w := w) (base := base) T
  refine T.F_Lsign.ok sc_Lsign (fun vs H Q E h => ?_) (fun cdv A outer s H vs Q E hr h => ?_)
  · obtain ⟨p, b, rfl, _⟩ := h
    rfl
  · obtain ⟨p, b, rfl, hp, q⟩ := h
    refine ⟨_, (pss_cons (ps_set (i := 2) sc_Lsign.nd rfl (.inl rfl) (pe_call G_Lname hr (by rfl) T.g_Lname T.F_Lname.kp T.b_Lname .nil pass0 (pa_cons (pv 0) pa_nil)))
      (pss_cons (ps_if (pt_val (pv 1)) (pss_one (ps_ret (pe_op op_add_str (pe_bm0 PySem.F.plainAttrs_str PySem.F.slot_str_upper PySem.F.type_str_upper mt_upper (pe_ix ix_str (pv 2) pe_int (fun _ _ => rfl))) (pe_slice sl_str (pv 2) (po_some pe_int) po_none)))) pss_nil)
      (pss_one (ps_ret (pv 2))))), ?_⟩
    refine ⟨.ref p, rfl, p, rfl, hp, fun H1 z b1 hp1 z0 z1 zm => ?_⟩
    refine ⟨.bl b, rfl, b, rfl, ite2 (fun e => ?_) (fun e => ?_)⟩
    · obtain ⟨c, hc⟩ := str_at (z := z) (i := 0) (by decide) (by omega)
      have hu := PyProof.Rows.len_upper (⟨#[c]⟩ : Str)
      have hu1 : (⟨#[c]⟩ : Str).length = 1 := rfl
      have hcut := cut_len z (some 1) none
      refine ⟨.str z, rfl, z, 0, c, rfl, rfl, thou (by omega), hc, rfl, _, rfl, rfl, (by rw [hu1]; decide), .str z, rfl, 1, rfl, z, rfl, thou (by omega), _, _, rfl, rfl, thou (by omega), ?_⟩
      exact q H1 _ b1 hp1 (by rw [app_len]; omega) (ok_of_mem fun c2 h2 => by
        rcases app_mem h2 with h3 | h3
        · exact up_ok c (zm c (at_mem hc)) c2 h3
        · exact small_ok c2 (zm c2 (cut_mem h3)))
    · exact ⟨.str z, rfl, q H1 z b1 hp1 (by omega) (ok_of_mem fun c2 h2 => small_ok c2 (zm c2 h2))⟩
--@@SPLIT
/-! ### entries drawn -/
/-- places that are left out of sight: the spring is one, all of them are known -/
def HX (p : Addr) (X : Addr → Prop) (H : Hp) : Prop := X p ∧ ∀ b, X b → H b ≠ none
theorem HX.same {p : Addr} {X : Addr → Prop} {H H' : Hp} (x : HX p X H) (e : Same H H') : HX p X H' := ⟨x.1, fun b h => by
  cases o : H b with
  | none => exact absurd o (x.2 b h)
  | some o' => rw [e b o' o]; exact fun z => nomatch z⟩
theorem Pool.known {H : Hp} {p : Addr} (h : Pool H p) : H p ≠ none := by
  obtain ⟨l, c, k, n, h0, h1⟩ := h
  rw [h1]
  exact fun z => nomatch z
theorem HX.but {p : Addr} {X : Addr → Prop} {H H' : Hp} (x : HX p X H) (e : But p H H') (hp : Pool H' p) : HX p X H' := ⟨x.1, fun b h => by
  by_cases eb : b = p
  · rw [eb]
    exact hp.known
  · cases o : H b with
    | none => exact absurd o (x.2 b h)
    | some o' => rw [e b o' eb o]; exact fun z => nomatch z⟩
theorem HX.fresh {p t : Addr} {X : Addr → Prop} {H : Hp} (x : HX p X H) (n : H t = none) : ¬ X t := fun z => x.2 t z n
theorem But.wo {p : Addr} {X : Addr → Prop} {H H' : Hp} (xp : X p) (e : But p H H') : Same (M.wo H X) (M.wo H' X) := fun b o h => by
  have h2 := wo_some h
  rw [wo_in (X := X) h2.1]
  exact e _ _ (fun z => h2.1 (z ▸ xp)) h2.2
theorem tupW {K : PySem.W.Frag} {H : Hp} {p t : Addr} {X : Addr → Prop} {vs : List V} {ds : List PyData} (x : HX p X H) (nt : H t = none) (h : DpAll K (wo H X) vs ds) : Dp K (wo (upd H t (.tup vs)) X) (.ref t) (.tuple ds) :=
  .tup (.inl (.inl ((wo_in (X := X) (x.fresh nt)).trans upd_same))) (dpa_same ((But.of (same_upd nt)).wo x.1) ds vs h)
theorem lstW {K : PySem.W.Frag} {H : Hp} {p t : Addr} {X : Addr → Prop} {vs : List V} {ds : List PyData} (x : HX p X H) (nt : H t = none) (h : DpAll K (wo H X) vs ds) : Dp K (wo (upd H t (.lst vs)) X) (.ref t) (.list ds) :=
  .lst (.inl (.inl ((wo_in (X := X) (x.fresh nt)).trans upd_same))) (dpa_same ((But.of (same_upd nt)).wo x.1) ds vs h)
/-- a part of an entry that was spoilt n times -/
def gpn (n : Nat) : PyData → Bool
  | .none => true
  | .bool _ => true
  | .int _ => true
  | .str z => decide (z.length ≤ 20 + 10 * n) && PyData.strOk z
  | .list _ => false
  | .tuple _ => false
  | .dict _ => false
def genL (n : Nat) (ds : List PyData) : Bool := decide (ds.length ≤ 4 + n) && ds.all (gpn n)
def gen (n : Nat) (d : PyData) : Bool := match seqD d with
  | some ds => genL n ds
  | none => gpn n d
theorem gpn_more {n m : Nat} (h : n ≤ m) : ∀ {d : PyData}, gpn n d = true → gpn m d = true
  | .none, _ => rfl
  | .bool _, _ => rfl
  | .int _, _ => rfl
  | .str z, g => by
    obtain ⟨g2, g3⟩ := Bool.and_eq_true_iff.mp g
    have g2 : z.length ≤ 20 + 10 * n := of_decide_eq_true g2
    exact Bool.and_eq_true_iff.mpr ⟨decide_eq_true (by omega), g3⟩
  | .list _, g => g
  | .tuple _, g => g
  | .dict _, g => g
theorem gpn_gp {n : Nat} (h : n ≤ 90) : ∀ {d : PyData}, gpn n d = true → gp d = true
  | .none, _ => rfl
  | .bool _, _ => rfl
  | .int _, _ => rfl
  | .str z, g => by
    obtain ⟨g2, g3⟩ := Bool.and_eq_true_iff.mp g
    have g2 : z.length ≤ 20 + 10 * n := of_decide_eq_true g2
    exact decide_eq_true (by omega)
  | .list _, g => by cases g
  | .tuple _, g => by cases g
  | .dict _, g => by cases g
theorem genL_iff {n : Nat} {ds : List PyData} : genL n ds = true ↔ ds.length ≤ 4 + n ∧ ∀ d ∈ ds, gpn n d = true := by
  unfold genL
  rw [Bool.and_eq_true_iff, decide_eq_true_iff, List.all_eq_true]
theorem gen_more {n m : Nat} (h : n ≤ m) {d : PyData} (g : gen n d = true) : gen m d = true := by
  unfold gen at g ⊢
  cases e : seqD d with
  | none =>
    rw [e] at g
    exact gpn_more h g
  | some ds =>
    rw [e] at g
    obtain ⟨g1, g2⟩ := genL_iff.mp g
    exact genL_iff.mpr ⟨by omega, fun x hx => gpn_more h (g2 x hx)⟩
theorem gen_ge {n : Nat} (h : n ≤ 16) {d : PyData} (g : gen n d = true) : ge d = true := by
  unfold gen at g
  unfold ge
  cases e : seqD d with
  | none =>
    rw [e] at g
    exact gpn_gp (by omega) g
  | some ds =>
    rw [e] at g
    obtain ⟨g1, g2⟩ := genL_iff.mp g
    exact Bool.and_eq_true_iff.mpr ⟨decide_eq_true (by omega), List.all_eq_true.mpr fun x hx => gpn_gp (by omega) (g2 x hx)⟩
theorem gen_str {z w : Str} (h : z.length ≤ 20) (hk : PyData.strOk z = true) : gen 0 (.tuple [.str w, .str z]) = gen 0 (.tuple [.str w]) := by
  show (decide (2 ≤ 4) && (gpn 0 (.str w) && ((decide (z.length ≤ 20) && PyData.strOk z) && true))) = (decide (1 ≤ 4) && (gpn 0 (.str w) && true))
  rw [decide_eq_true h, hk]
  rfl
theorem nesw_ok : ∀ c ∈ (PySem.Str.ofString "nesw").cps.toList, PyData.strOk ⟨#[c]⟩ = true := by decide +kernel
def spAnyEntry (K : PySem.W.Frag) : Sp := fun vs H Q _ => ∃ (p : Addr) (b : Bool) (X : Addr → Prop), vs = [.ref p, .bl b] ∧ Pool H p ∧ HX p X H ∧ ∀ H' t z ds, But p H H' → Pool H' p → Dp K (wo H' X) (.ref t) (.tuple (.str z :: ds)) → gen 0 (.tuple (.str z :: ds)) = true → Q (.ref t) H'
theorem ok_Lany_entry (T : Top w K mg) : FnOk P w K mg base CX0 4 T.a_Lany_entry T.fd_Lany_entry ["_law_pool_here", "_law_looks"] (spAnyEntry K) := by
  have G_Ltake := ok_Ltake (P := P) (w := w) (base := base) T
  have G_Lsign := ok_Lsign (P := P) (w := w) (base := base) T
  refine T.F_Lany_entry.ok sc_Lany_entry (fun vs H Q E h => ?_) (fun cdv A outer s H vs Q E hr h => ?_)
  · obtain ⟨p, b, X, rfl, _⟩ := h
    rfl
  · obtain ⟨p, b, X, rfl, hp, x, q⟩ := h
    refine ⟨_, (pss_cons (ps_set (i := 2) sc_Lany_entry.nd rfl (.inl rfl) (pe_call G_Ltake (hr.mono (by decide)) (by rfl) T.g_Ltake T.F_Ltake.kp T.b_Ltake .nil pass0 (pa_cons (pv 0) (pa_cons pe_int pa_nil))))
      (pss_cons (ps_set (i := 3) sc_Lany_entry.nd rfl (.inl rfl) (pe_call G_Lsign hr (by rfl) T.g_Lsign T.F_Lsign.kp T.b_Lsign .nil pass0 (pa_cons (pv 0) (pa_cons (pe_cmpR op_eq (pe_call G_Ltake (hr.mono (by decide)) (by rfl) T.g_Ltake T.F_Ltake.kp T.b_Ltake .nil pass0 (pa_cons (pv 0) (pa_cons pe_int pa_nil))) pe_int (nomark _)) pa_nil))))
      (Evl.pss_cut (ps_if (PW.pt (pw_and (pt_not (pt_val (pv 1))) (pw_and1 (pt_cmpR op_gt (pv 2) pe_int (nomark _))))) (pss_one (ps_set (i := 2) sc_Lany_entry.nd rfl (.inl rfl) (pe_op op_mod (pv 2) pe_int))) pss_nil)
      (pss_cons (ps_if (PW.pt (pw_or (pt_cmpR op_eq (pv 2) pe_int (nomark _)) (pw_or1 (pt_cmpR op_gt (pv 2) pe_int (nomark _))))) (pss_one (ps_ret (pe_tup (pa_cons pe_str (pa_cons (pe_ix ix_str pe_str (pe_call G_Ltake (hr.mono (by decide)) (by rfl) T.g_Ltake T.F_Ltake.kp T.b_Ltake .nil pass0 (pa_cons (pv 0) (pa_cons pe_int pa_nil))) (fun _ _ => rfl)) pa_nil))))) pss_nil)
      (pss_cons (ps_if (pt_cmpR op_lt (pv 2) pe_int (nomark _)) (pss_one (ps_ret (pe_ix ix_tup (pe_tup (pa_cons (pe_tup (pa_cons pe_str (pa_cons (pv 3) pa_nil))) (pa_cons (pe_tup (pa_cons pe_str pa_nil)) (pa_cons (pe_tup (pa_cons pe_str pa_nil)) pa_nil)))) (pe_op op_sub (pv 2) pe_int) (fun _ _ => rfl)))) pss_nil)
      (pss_cons (ps_if (pt_cmpR op_eq (pv 2) pe_int (nomark _)) (pss_one (ps_ret (pe_ix ix_tup (pe_tup (pa_cons (pe_tup (pa_cons pe_str pa_nil)) (pa_cons (pe_tup (pa_cons pe_str pa_nil)) (pa_cons (pe_tup (pa_cons pe_str pa_nil)) pa_nil)))) (pe_call G_Ltake (hr.mono (by decide)) (by rfl) T.g_Ltake T.F_Ltake.kp T.b_Ltake .nil pass0 (pa_cons (pv 0) (pa_cons pe_int pa_nil))) (fun _ _ => rfl)))) pss_nil)
      (pss_cons (ps_if (pt_cmpR op_eq (pv 2) pe_int (nomark _)) (pss_one (ps_ret (pe_tup (pa_cons pe_str pa_nil)))) pss_nil)
      (pss_cons (ps_if (pt_cmpR op_eq (pv 2) pe_int (nomark _)) (pss_one (ps_ret (pe_tup (pa_cons pe_str (pa_cons (pe_op op_add pe_int (pe_call G_Ltake (hr.mono (by decide)) (by rfl) T.g_Ltake T.F_Ltake.kp T.b_Ltake .nil pass0 (pa_cons (pv 0) (pa_cons pe_int pa_nil)))) (pa_cons (pv 3) pa_nil)))))) pss_nil)
      (pss_one (ps_ret (pe_tup (pa_cons pe_str (pa_cons (pe_op op_add pe_int (pe_call G_Ltake (hr.mono (by decide)) (by rfl) T.g_Ltake T.F_Ltake.kp T.b_Ltake .nil pass0 (pa_cons (pv 0) (pa_cons pe_int pa_nil)))) pa_nil))))))))))))), ?_⟩
    refine ⟨.ref p, rfl, p, 12, rfl, by decide, by decide, hp, fun H1 k b1 hp1 k0 k1 => ?_⟩
    refine ⟨.ref p, rfl, .ref p, rfl, p, 2, rfl, by decide, by decide, hp1, fun H2 j b2 hp2 _ _ => ?_⟩
    refine ⟨rfl, p, _, rfl, hp2, fun H3 z b3 hp3 hz hk => ?_⟩
    have bt := (b1.trans b2).trans b3
    have x3 := x.but bt hp3
    refine ⟨fun σ H' => H3 = H' ∧ ∃ k : Int, 0 ≤ k ∧ k ≤ 11 ∧ σ = [some (.ref p), some (.bl b), some (.int k), some (.str z)], ?_, ?_⟩
    · refine ⟨.bl b, rfl, b, rfl, ite2 (fun e => ?_) (fun e => ?_)⟩
      · refine ⟨.int k, rfl, _, _, rfl, rfl, _, rfl, ite2 (fun e => ?_) (fun e => ?_)⟩
        · exact ⟨.int k, rfl, _, _, rfl, rfl, (by show (0 : Int) < 4; decide), rfl, k % 4, Int.emod_nonneg k (by decide), (by have := Int.emod_lt_of_pos k (show (0 : Int) < 4 by decide); omega), rfl⟩
        · exact ⟨rfl, k, k0, by omega, rfl⟩
      · exact ite2 (fun z => nomatch z) (fun _ => ⟨rfl, k, k0, by omega, rfl⟩)
    rintro σ H4 ⟨rfl, k, k0, k1, rfl⟩
    have face : ∀ H5 (r : Int), But p H3 H5 → Pool H5 p → 0 ≤ r → r < 4 → ∃ c, atI (PySem.Str.ofString "nesw").cps.toList r = some c ∧ ∀ t, H5 t = none → Q (.ref t) (upd H5 t (.tup [.str "face", .str ⟨#[c]⟩])) := fun H5 r b5 hp5 r0 r1 => by
      have l4 : (PySem.Str.ofString "nesw").length = 4 := by decide +kernel
      obtain ⟨c, hc⟩ := str_at (z := PySem.Str.ofString "nesw") r0 (by rw [l4]; exact r1)
      exact ⟨c, hc, fun t nt => q _ t _ _ ((bt.trans b5).trans (But.of (same_upd nt))) (hp5.upd (hp5.ne_new nt)) (tupW (x.but (bt.trans b5) hp5) nt (.cons (.str _) (.cons (.str _) .nil))) ((gen_str (by show 1 ≤ 20; decide) (nesw_ok c (at_mem hc))).trans (by decide +kernel))⟩
    refine ⟨.int k, rfl, rfl, _, rfl, ite2 (fun e => ?_) (fun e => ?_)⟩
    · refine iteT ⟨.ref p, rfl, p, 4, rfl, by decide, by decide, hp3, fun H5 r b5 hp5 r0 r1 => ?_⟩
      obtain ⟨c, hc, qq⟩ := face H5 r b5 hp5 r0 r1
      exact ⟨_, r, c, rfl, rfl, by decide +kernel, hc, by show 2 ≤ sizeLine; decide, qq⟩
    refine ⟨.int k, rfl, _, _, rfl, rfl, _, rfl, ite2 (fun e2 => ?_) (fun e2 => ?_)⟩
    · refine ⟨.ref p, rfl, p, 4, rfl, by decide, by decide, hp3, fun H5 r b5 hp5 r0 r1 => ?_⟩
      obtain ⟨c, hc, qq⟩ := face H5 r b5 hp5 r0 r1
      exact ⟨_, r, c, rfl, rfl, by decide +kernel, hc, by show 2 ≤ sizeLine; decide, qq⟩
    have kn : k ≠ 0 := fun z => e (by rw [z]; exact decide_eq_true rfl)
    refine ⟨.int k, rfl, _, _, rfl, rfl, _, rfl, ite2 (fun e3 => ?_) (fun e3 => ?_)⟩
    · have k4 : k < 4 := of_decide_eq_true e3
      refine ⟨.str z, rfl, by show 2 ≤ sizeLine; decide, fun m1 n1 => ⟨by show 1 ≤ sizeLine; decide, fun m2 n2 => ⟨by show 1 ≤ sizeLine; decide, fun m3 n3 => ⟨by show 3 ≤ sizeLine; decide, fun t nt => ?_⟩⟩⟩⟩
      have s1 := same_upd (o := .tup [.str "sign", .str z]) n1
      have s2 := same_upd (o := .tup [.str "bare"]) n2
      have s3 := same_upd (o := .tup [.str "swap"]) n3
      have s4 := same_upd (o := .tup [.ref m1, .ref m2, .ref m3]) nt
      have d1 := tupW (K := K) (vs := [.str "sign", .str z]) (ds := [.str "sign", .str z]) x3 n1 (.cons (.str _) (.cons (.str _) .nil))
      have p1 := hp3.same s1
      have d2 := tupW (K := K) (vs := [.str "bare"]) (ds := [.str "bare"]) (x3.same s1) n2 (.cons (.str _) .nil)
      have p2 := p1.same s2
      have d3 := tupW (K := K) (vs := [.str "swap"]) (ds := [.str "swap"]) ((x3.same s1).same s2) n3 (.cons (.str _) .nil)
      have p3 := p2.same s3
      have p4 := p3.same s4
      have bz := bt.trans (But.of (((s1.trans s2).trans s3).trans s4))
      obtain rfl | rfl | rfl : k = 1 ∨ k = 2 ∨ k = 3 := by omega
      · exact ⟨_, rfl, _, _, rfl, rfl, t, _, 0, _, rfl, rfl, .inl (.inl upd_same), rfl, q _ m1 _ _ bz p4 (dp_same ((But.of ((s2.trans s3).trans s4)).wo x.1) _ _ d1) ((gen_str (by omega) hk).trans (by decide +kernel))⟩
      · exact ⟨_, rfl, _, _, rfl, rfl, t, _, 1, _, rfl, rfl, .inl (.inl upd_same), rfl, q _ m2 _ _ bz p4 (dp_same ((But.of (s3.trans s4)).wo x.1) _ _ d2) (by decide +kernel)⟩
      · exact ⟨_, rfl, _, _, rfl, rfl, t, _, 2, _, rfl, rfl, .inl (.inl upd_same), rfl, q _ m3 _ _ bz p4 (dp_same ((But.of s4).wo x.1) _ _ d3) (by decide +kernel)⟩
    refine ⟨.int k, rfl, rfl, _, rfl, ite2 (fun e4 => ?_) (fun e4 => ?_)⟩
    · refine ⟨by show 1 ≤ sizeLine; decide, fun m1 n1 => ⟨by show 1 ≤ sizeLine; decide, fun m2 n2 => ⟨by show 1 ≤ sizeLine; decide, fun m3 n3 => ⟨by show 3 ≤ sizeLine; decide, fun t nt => ?_⟩⟩⟩⟩
      have s1 := same_upd (o := .tup [.str "left"]) n1
      have s2 := same_upd (o := .tup [.str "right"]) n2
      have s3 := same_upd (o := .tup [.str "back"]) n3
      have s4 := same_upd (o := .tup [.ref m1, .ref m2, .ref m3]) nt
      have d1 := tupW (K := K) (vs := [.str "left"]) (ds := [.str "left"]) x3 n1 (.cons (.str _) .nil)
      have p1 := hp3.same s1
      have d2 := tupW (K := K) (vs := [.str "right"]) (ds := [.str "right"]) (x3.same s1) n2 (.cons (.str _) .nil)
      have p2 := p1.same s2
      have d3 := tupW (K := K) (vs := [.str "back"]) (ds := [.str "back"]) ((x3.same s1).same s2) n3 (.cons (.str _) .nil)
      have p3 := p2.same s3
      have p4 := p3.same s4
      refine ⟨.ref p, rfl, p, 3, rfl, by decide, by decide, p4, fun H5 r b5 hp5 r0 r1 => ?_⟩
      have et := b5 _ _ (p3.ne_new nt) upd_same
      have bz := (bt.trans (But.of (((s1.trans s2).trans s3).trans s4))).trans b5
      obtain rfl | rfl | rfl : r = 0 ∨ r = 1 ∨ r = 2 := by omega
      · exact ⟨t, _, 0, _, rfl, rfl, .inl (.inl et), rfl, q _ m1 _ _ bz hp5 (dp_same (((But.of ((s2.trans s3).trans s4)).trans b5).wo x.1) _ _ d1) (by decide +kernel)⟩
      · exact ⟨t, _, 1, _, rfl, rfl, .inl (.inl et), rfl, q _ m2 _ _ bz hp5 (dp_same (((But.of (s3.trans s4)).trans b5).wo x.1) _ _ d2) (by decide +kernel)⟩
      · exact ⟨t, _, 2, _, rfl, rfl, .inl (.inl et), rfl, q _ m3 _ _ bz hp5 (dp_same (((But.of s4).trans b5).wo x.1) _ _ d3) (by decide +kernel)⟩
    refine ⟨.int k, rfl, rfl, _, rfl, ite2 (fun e5 => ?_) (fun e5 => ?_)⟩
    · exact ⟨by show 1 ≤ sizeLine; decide, fun t nt => q _ t _ _ (bt.trans (But.of (same_upd nt))) (hp3.upd (hp3.ne_new nt)) (tupW x3 nt (.cons (.str _) .nil)) (by decide +kernel)⟩
    refine ⟨.int k, rfl, rfl, _, rfl, ite2 (fun e6 => ?_) (fun e6 => ?_)⟩
    · refine ⟨.ref p, rfl, p, 9, rfl, by decide, by decide, hp3, fun H5 r b5 hp5 r0 r1 => ⟨_, _, rfl, rfl, .str z, rfl, by show 3 ≤ sizeLine; decide, fun t nt => ?_⟩⟩
      exact q _ t _ _ ((bt.trans b5).trans (But.of (same_upd nt))) (hp5.upd (hp5.ne_new nt)) (tupW (x.but (bt.trans b5) hp5) nt (.cons (.str _) (.cons (.int _) (.cons (.str _) .nil)))) (by
        show (decide (3 ≤ 4) && (gpn 0 (.str "spy") && (true && ((decide (z.length ≤ 20) && PyData.strOk z) && true)))) = true
        rw [decide_eq_true (show z.length ≤ 20 by omega), hk]
        decide +kernel)
    refine ⟨.ref p, rfl, p, 9, rfl, by decide, by decide, hp3, fun H5 r b5 hp5 r0 r1 => ⟨_, _, rfl, rfl, by show 2 ≤ sizeLine; decide, fun t nt => ?_⟩⟩
    exact q _ t _ _ ((bt.trans b5).trans (But.of (same_upd nt))) (hp5.upd (hp5.ne_new nt)) (tupW (x.but (bt.trans b5) hp5) nt (.cons (.str _) (.cons (.int _) .nil))) (by
      show (decide (2 ≤ 4) && (gpn 0 (.str "go") && (true && true))) = true
      decide +kernel)
--@@SPLIT
/-! ### a log drawn -/
theorem seq_tup {K : PySem.W.Frag} {H : Hp} {t : Addr} {d : PyData} {ds : List PyData} (h : Dp K H (.ref t) (.tuple (d :: ds))) : ∃ x xs, SqT K H t (x :: xs) ∧ Dp K H x d ∧ DpAll K H (x :: xs) (d :: ds) := by
  cases h with
  | @tup _ ys _ hs ha =>
    have ha2 := ha
    cases ha2 with
    | @cons x xs _ _ h1 h2 => exact ⟨x, xs, hs, h1, ha⟩
theorem dpa_len2 {K : PySem.W.Frag} {H : Hp} {ds : List PyData} {vs : List V} (h : DpAll K H vs ds) : vs.length = ds.length := dpa_len ds vs h
/-- a tuple that was drawn -/
def gt (d : PyData) : Prop := gen 0 d = true ∧ ∃ es, d = .tuple es
def spAnyLog (K : PySem.W.Frag) : Sp := fun vs H Q _ => ∃ (p : Addr) (m s : Int) (X : Addr → Prop), vs = [.ref p, .int m, .int s] ∧ 0 ≤ m ∧ m ≤ 100 ∧ Pool H p ∧ HX p X H ∧ ∀ H' t xs ds, But p H H' → Pool H' p → SqT K (wo H' X) t xs → DpAll K (wo H' X) xs ds → (ds.length : Int) = m → (∀ d ∈ ds, gt d) → Q (.ref t) H'
theorem ok_Lany_log (T : Top w K mg) : FnOk P w K mg base CX0 5 T.a_Lany_log T.fd_Lany_log ["_law_pool_here", "_law_many", "_law_swaps"] (spAnyLog K) := by
  have G_Lany_entry := ok_Lany_entry (P := P) (w := w) (base := base) T
  refine T.F_Lany_log.ok sc_Lany_log (fun vs H Q E h => ?_) (fun cdv A outer s H vs Q E hr h => ?_)
  · obtain ⟨p, m, s, X, rfl, _⟩ := h
    rfl
  · obtain ⟨p, m, sw, X, rfl, m0, m1, hp, x, q⟩ := h
    refine ⟨_, (pss_cons (ps_set (i := 3) sc_Lany_log.nd rfl (.inl rfl) (pe_lst pa_nil))
      (pss_cons (ps_set (i := 4) sc_Lany_log.nd rfl (.inl rfl) pe_bl)
      (pss_cons (ps_set (i := 5) sc_Lany_log.nd rfl (.inl rfl) (pv 2))
      (pss_cons (ps_for PassesOwn.never rfl (pi_range1 (by rfl) T.m_range (pa_cons (pv 1) pa_nil)) (pg_name (i := 6) sc_Lany_log.nd rfl (.inl rfl)) (pss_cons (ps_set (i := 7) sc_Lany_log.nd rfl (.inl rfl) (pe_call G_Lany_entry hr (by rfl) T.g_Lany_entry T.F_Lany_entry.kp T.b_Lany_entry .nil pass0 (pa_cons (pv 0) (pa_cons (pv 4) pa_nil))))
      (Evl.pss_cut (ps_if (PW.pt (pw_and (pt_cmpR op_eq (pe_ix ix_tup (pv 7) pe_int (fun _ _ => rfl)) pe_str (nomark _)) (pw_and1 (pt_cmpR op_eq (pv 5) pe_int (nomark _))))) (pss_one (ps_set (i := 7) sc_Lany_log.nd rfl (.inl rfl) (pe_tup (pa_cons pe_str pa_nil)))) pss_nil)
      (Evl.pss_cut (ps_set (i := 5) sc_Lany_log.nd rfl (.inl rfl) (pe_op op_sub (pv 5) (pe_callTy call_int1 (by rfl) T.m_int (by decide +kernel) (pa_cons (pe_cmpR op_eq (pe_ix ix_tup (pv 7) pe_int (fun _ _ => rfl)) pe_str (nomark _)) pa_nil))))
      (Evl.pss_cut (ps_set (i := 4) sc_Lany_log.nd rfl (.inl rfl) (pe_or (pv 4) (pe_one (pe_cmpR op_eq (pe_ix ix_tup (pv 7) pe_int (fun _ _ => rfl)) pe_str (nomark _)))))
      (pss_one (ps_expr (pe_bm PySem.F.plainAttrs_list PySem.F.slot_list_append PySem.F.type_list_append mt_append (pv 3) (pa_cons (pv 7) pa_nil)))))))))
      (pss_one (ps_ret (pe_callTy call_tuple_of (by rfl) T.m_tuple (by decide +kernel) (pa_cons (pv 3) pa_nil)))))))), ?_⟩
    refine ⟨Nat.zero_le _, fun L nL => ?_⟩
    have nLp : L ≠ p := hp.ne_new nL
    have s0 := same_upd (o := .lst []) nL
    obtain ⟨n, rfl⟩ : ∃ n : Nat, m = n := ⟨m.toNat, by omega⟩
    refine ⟨_, rfl, .int n, rfl, n, rfl, by omega, by omega, for_range (n := n) (fun i σ H' => But p H H' ∧ Pool H' p ∧ ∃ (b : Bool) (l : Int) (y6 y7 : Option V) (ys : List V) (ds : List PyData), σ = [some (.ref p), some (.int n), some (.int sw), some (.ref L), some (.bl b), some (.int l), y6, y7] ∧ H' L = some (.lst ys) ∧ ds.length = i ∧ DpAll K (wo H' (fun b => X b ∨ b = L)) ys ds ∧ (∀ d ∈ ds, gt d))
      ⟨But.of s0, hp.same s0, false, sw, none, none, [], [], rfl, upd_same, rfl, .nil, fun d h => nomatch h⟩ ?_ ?_⟩
    · rintro i σ H1 hi ⟨b1, hp1, b, l, y6, y7, ys, ds, rfl, eL, hl, ha, hg⟩
      have x1 : HX p (fun b => X b ∨ b = L) H1 := ⟨.inl x.1, fun c h => by
        rcases h with h | h
        · exact (x.but b1 hp1).2 c h
        · rw [h, eL]
          exact fun z => nomatch z⟩
      refine ⟨.ref p, rfl, .bl b, rfl, p, b, _, rfl, hp1, x1, fun H2 t z es b2 hp2 hd gd => ?_⟩
      have eL2 := b2 _ _ nLp eL
      have x2 := x1.but b2 hp2
      refine ⟨fun σ H' => Same H2 H' ∧ ∃ (y6 : Option V) (t : Addr) (z : Str) (es : List PyData), σ = [some (.ref p), some (.int n), some (.int sw), some (.ref L), some (.bl b), some (.int l), y6, some (.ref t)] ∧ Dp K (wo H' (fun b => X b ∨ b = L)) (.ref t) (.tuple (.str z :: es)) ∧ gen 0 (.tuple (.str z :: es)) = true, ?_, ?_⟩
      · obtain ⟨u, us, hs, hu, _⟩ := seq_tup hd
        cases hu
        refine ⟨.ref t, rfl, t, _, 0, .str z, rfl, rfl, sqt_same wo_same hs, atI_nat (j := 0) rfl, rfl, _, rfl, ite2 (fun e => ?_) (fun e => ?_)⟩
        · refine ⟨.int l, rfl, rfl, _, rfl, ite2 (fun e2 => ?_) (fun e2 => ?_)⟩
          · exact ⟨by show 1 ≤ sizeLine; decide, fun t2 n2 => ⟨same_upd n2, _, t2, _, _, rfl, tupW x2 n2 (.cons (.str "bare") .nil), by decide +kernel⟩⟩
          · exact ⟨Same.refl _, _, t, z, es, rfl, hd, gd⟩
        · exact ite2 (fun z => nomatch z) (fun _ => ⟨Same.refl _, _, t, z, es, rfl, hd, gd⟩)
      rintro σ H3 ⟨s3, y6, t, z, es, rfl, hd, gd⟩
      obtain ⟨u, us, hs, hu, _⟩ := seq_tup hd
      cases hu
      have hs3 := sqt_same wo_same hs
      refine ⟨fun σ H' => H3 = H' ∧ ∃ (l : Int), σ = [some (.ref p), some (.int n), some (.int sw), some (.ref L), some (.bl b), some (.int l), y6, some (.ref t)], ?_, ?_⟩
      · refine ⟨.int l, rfl, .ref t, rfl, t, _, 0, .str z, rfl, rfl, hs3, atI_nat (j := 0) rfl, rfl, .inr ⟨_, rfl, _, _, rfl, rfl, rfl, _, rfl⟩⟩
      rintro σ H4 ⟨rfl, l, rfl⟩
      refine ⟨fun σ H' => H3 = H' ∧ ∃ (b : Bool), σ = [some (.ref p), some (.int n), some (.int sw), some (.ref L), some (.bl b), some (.int l), y6, some (.ref t)], ?_, ?_⟩
      · refine ⟨_, rfl, _, rfl, ?_⟩
        cases b with
        | true => exact iteT ⟨rfl, true, rfl⟩
        | false => exact iteF ⟨.ref t, rfl, t, _, 0, .str z, rfl, rfl, hs3, atI_nat (j := 0) rfl, rfl, rfl, _, rfl⟩
      rintro σ H4 ⟨rfl, b, rfl⟩
      have eL3 := s3 _ _ eL2
      have lx := dpa_len2 ha
      refine ⟨.ref L, rfl, .inl ⟨rfl, _, .inl (.inl eL3)⟩, .ref t, rfl, L, ys, _, rfl, rfl, eL3, small1000 (by omega), ?_⟩
      have b3 := b2.trans (But.of s3)
      have m6 : Same (wo H3 (fun b => X b ∨ b = L)) (wo (upd H3 L (.lst (ys ++ [.ref t]))) (fun b => X b ∨ b = L)) := fun c o h => by
        have h2 := wo_some h
        rw [wo_in (X := fun b => X b ∨ b = L) h2.1, upd_ne (fun z => h2.1 (.inr z))]
        exact h2.2
      refine ⟨(b1.trans b3).mut nL, (hp2.same s3).upd nLp, b, l, _, _, ys ++ [.ref t], ds ++ [.tuple (.str z :: es)], rfl, upd_same, ?_, ?_, ?_⟩
      · rw [List.length_append, hl]
        rfl
      · exact dpa_snoc (dp_same m6 _ _ hd) _ _ (dpa_same ((b3.wo (.inl x.1)).trans m6) _ _ ha)
      · intro d h
        rcases List.mem_append.mp h with h | h
        · exact hg d h
        · rw [List.mem_singleton.mp h]
          exact ⟨gd, _, rfl⟩
    · rintro σ H1 ⟨b1, hp1, b, l, y6, y7, ys, ds, rfl, eL, hl, ha, hg⟩
      refine ⟨.ref L, rfl, L, ys, rfl, .inl ⟨.inl (.inl eL), fun r nr => ?_⟩⟩
      have x1 := x.but b1 hp1
      have mm : Same (wo H1 (fun b => X b ∨ b = L)) (wo H1 X) := fun c o h => by
        have h2 := wo_some h
        rw [wo_in (X := X) (fun z => h2.1 (.inl z))]
        exact h2.2
      have sr := same_upd (o := .tup ys) nr
      exact q _ r ys ds (b1.trans (But.of sr)) (hp1.same sr) (.inl (.inl ((wo_in (X := X) (x1.fresh nr)).trans upd_same))) (dpa_same (mm.trans ((But.of sr).wo x.1)) _ _ ha) (by rw [hl]) hg
--@@SPLIT
/-! ### logs of any length, as lists or tuples -/
def rLstOf (K : PySem.W.Frag) : List V → Hp → VK → Prop := fun xs H Q => ∃ p ys, xs = [.ref p] ∧ (SqL K H p ys ∨ SqT K H p ys) ∧ ∀ l, H l = none → Q (.ref l) (upd H l (.lst ys))
theorem call_lstK {X : Cx} {K : PySem.W.Frag} (h : X.K = K) : CallR X (.type "list") (rLstOf K) := by
  subst h
  exact call_list_of
theorem HX.or {p L : Addr} {X : Addr → Prop} {H : Hp} (x : HX p X H) (e : H L ≠ none) : HX p (fun b => X b ∨ b = L) H := ⟨.inl x.1, fun c h => by
  rcases h with h | h
  · exact x.2 c h
  · rw [h]
    exact e⟩
theorem wo_less {X Y : Addr → Prop} {H : Hp} (h : ∀ b, X b → Y b) : Same (wo H Y) (wo H X) := fun c o h1 => by
  have h2 := wo_some h1
  rw [wo_in (X := X) (fun z => h2.1 (h c z))]
  exact h2.2
theorem wo_mut {X : Addr → Prop} {H : Hp} {L : Addr} {o : HO} (h : X L) : Same (wo H X) (wo (upd H L o) X) := fun c o h1 => by
  have h2 := wo_some h1
  have hc : c ≠ L := fun z => h2.1 (by rw [z]; exact h)
  rw [wo_in (X := X) h2.1, upd_ne hc]
  exact h2.2
/-- what was known ahead of a new place L lies outside of it -/
theorem wo_new {X : Addr → Prop} {H : Hp} {L : Addr} {o : HO} (n : H L = none) : Same (wo H X) (wo (upd H L o) (fun b => X b ∨ b = L)) := fun c o h1 => by
  have h2 := wo_some h1
  have hc : c ≠ L := ne_of_none h2.2 n
  rw [wo_in (X := fun b => X b ∨ b = L) (fun z => z.elim h2.1 hc), upd_ne hc]
  exact h2.2
theorem some_ne {H : Hp} {L : Addr} {o : HO} (h : H L = some o) : H L ≠ none := by
  rw [h]
  exact fun z => nomatch z
theorem six {r : Int} (h0 : 0 ≤ r) (h1 : r < 2) : ∃ m : Int, atI [V.int 6, V.int 41] r = some (.int m) ∧ 6 ≤ m ∧ m ≤ 41 := by
  obtain rfl | rfl : r = 0 ∨ r = 1 := by omega
  · exact ⟨6, rfl, by decide, by decide⟩
  · exact ⟨41, rfl, by decide, by decide⟩
def spEntries (K : PySem.W.Frag) : Sp := fun vs H Q _ => ∃ (p : Addr) (X : Addr → Prop), vs = [.ref p] ∧ Pool H p ∧ HX p X H ∧ ∀ H' t xs ds, But p H H' → Pool H' p → SqT K (wo H' X) t xs → DpAll K (wo H' X) xs ds → ds.length ≤ 41 → (∀ d ∈ ds, gt d) → Q (.ref t) H'
theorem ok_Lentries (T : Top w K mg) : FnOk P w K mg base CX0 6 T.a_Lentries T.fd_Lentries ["_law_pool_here"] (spEntries K) := by
  have G_Ltake := ok_Ltake (P := P) (w := w) (base := base) T
  have G_Lany_log := ok_Lany_log (P := P) (w := w) (base := base) T
  have G_Lany_entry := ok_Lany_entry (P := P) (w := w) (base := base) T
  refine T.F_Lentries.ok sc_Lentries (fun vs H Q E h => ?_) (fun cdv A outer s H vs Q E hr h => ?_)
  · obtain ⟨p, X, rfl, _⟩ := h
    rfl
  · obtain ⟨p, X, rfl, hp, x, q⟩ := h
    refine ⟨_, (pss_cons (ps_set (i := 1) sc_Lentries.nd rfl (.inl rfl) (pe_call G_Ltake (hr.mono (by decide)) (by rfl) T.g_Ltake T.F_Ltake.kp T.b_Ltake .nil pass0 (pa_cons (pv 0) (pa_cons (pe_ix ix_tup (pe_tup (pa_cons pe_int (pa_cons pe_int pa_nil))) (pe_call G_Ltake (hr.mono (by decide)) (by rfl) T.g_Ltake T.F_Ltake.kp T.b_Ltake .nil pass0 (pa_cons (pv 0) (pa_cons pe_int pa_nil))) (fun _ _ => rfl)) pa_nil))))
      (pss_cons (ps_if (pt_cmpR op_eq (pe_call G_Ltake (hr.mono (by decide)) (by rfl) T.g_Ltake T.F_Ltake.kp T.b_Ltake .nil pass0 (pa_cons (pv 0) (pa_cons pe_int pa_nil))) pe_int (nomark _)) (pss_one (ps_ret (pe_call G_Lany_log hr (by rfl) T.g_Lany_log T.F_Lany_log.kp T.b_Lany_log .nil pass0 (pa_cons (pv 0) (pa_cons (pv 1) (pa_cons pe_int pa_nil)))))) pss_nil)
      (pss_one (ps_ret (pe_callTy call_tuple_of (by rfl) T.m_tuple (by decide +kernel) (pa_cons (pe_lc (own := [("_law_k", 2)]) (g := gName 2) (by rfl) sc_Lentries.nd (pi_range1 (by rfl) T.m_range (pa_cons (pv 1) pa_nil)) (blkOk_by (own := [("_law_k", 2)]) (N := ["_law_pool_here", "_law_many", "_law_k"]) (sc := defScope s_Lentries) (by decide +kernel)) (fun _ _ _ _ _ => (pg_name (i := 2) sc_Lentries.nd rfl (Or.inl rfl))) (fun _ _ _ _ _ => pts_nil) (fun _ _ _ _ _ => (pe_call G_Lany_entry (hr.mono (by decide)) (by rfl) T.g_Lany_entry T.F_Lany_entry.kp T.b_Lany_entry .nil pass0 (pa_cons (pv 0) (pa_cons pe_bl pa_nil))))) pa_nil)))))), ?_⟩
    refine ⟨.ref p, rfl, by show 2 ≤ sizeLine; decide, fun m nm => ?_⟩
    have sm := same_upd (o := .tup [.int 6, .int 41]) nm
    refine ⟨.ref p, rfl, p, 2, rfl, by decide, by decide, hp.same sm, fun H1 r b1 hp1 r0 r1 => ?_⟩
    obtain ⟨wd, hw, w0, w1⟩ := six r0 r1
    refine ⟨m, _, r, _, rfl, rfl, .inl (.inl (b1 _ _ (hp.ne_new nm) upd_same)), hw, p, wd, rfl, by omega, by omega, hp1, fun H2 k b2 hp2 k0 k1 => ?_⟩
    refine ⟨.ref p, rfl, p, 2, rfl, by decide, by decide, hp2, fun H3 j b3 hp3 _ _ => ?_⟩
    have bt := (((But.of sm).trans b1).trans b2).trans b3
    have x3 := x.but bt hp3
    refine ⟨rfl, _, rfl, ite2 (fun e => ?_) (fun e => ?_)⟩
    · exact ⟨.ref p, rfl, .int k, rfl, p, k, 5, X, rfl, k0, by omega, hp3, x3, fun H' t xs ds b hp' hs ha hl hg => q H' t xs ds (bt.trans b) hp' hs ha (by omega) hg⟩
    · obtain ⟨n, rfl⟩ : ∃ n : Nat, k = n := ⟨k.toNat, by omega⟩
      refine ⟨.int n, rfl, n, rfl, by omega, by omega, fun D hD => lc_range (lo := 0) (n := n) (fun i H' => But p H H' ∧ Pool H' p ∧ ∃ (ys : List V) (ds : List PyData), ds.length = i ∧ DpAll K (wo H' (fun b => X b ∨ b = D)) ys ds ∧ (∀ d ∈ ds, gt d) ∧ H' D = some (.lst ys)) ⟨bt.trans (But.of (same_upd hD)), hp3.same (same_upd hD), [], [], rfl, .nil, (fun _ h => nomatch h), upd_same⟩ ?_ ?_⟩
      · rintro i H4 hi ⟨b4, hp4, ys, ds, hl, ha, hg, eD⟩
        have nD : D ≠ p := hp3.ne_new hD
        have lx := dpa_len2 ha
        refine ⟨rfl, ?_⟩
        refine ⟨.ref p, rfl, p, true, _, rfl, hp4, (x.but b4 hp4).or (some_ne eD), fun H5 t z es b5 hp5 hd gd => ?_⟩
        have m5 : Same (wo H4 (fun b => X b ∨ b = D)) (wo H5 (fun b => X b ∨ b = D)) := b5.wo (X := fun b => X b ∨ b = D) (.inl x.1)
        have m6 : Same (wo H5 (fun b => X b ∨ b = D)) (wo (upd H5 D (.lst (ys ++ [.ref t]))) (fun b => X b ∨ b = D)) := wo_mut (X := fun b => X b ∨ b = D) (.inr rfl)
        refine ⟨ys, b5 _ _ nD eD, small1000 (by omega), (b4.trans b5).mut (bt.free nD hD), hp5.upd nD, _, ds ++ [.tuple (.str z :: es)], ?_, dpa_snoc (dp_same m6 _ _ hd) _ _ (dpa_same (m5.trans m6) _ _ ha), ?_, upd_same⟩
        · rw [List.length_append, hl]
          rfl
        · intro d h
          rcases List.mem_append.mp h with h | h
          · exact hg d h
          · rw [List.mem_singleton.mp h]
            exact ⟨gd, _, rfl⟩
      · rintro H4 ⟨b4, hp4, ys, ds, hl, ha, hg, eD⟩
        refine ⟨D, ys, rfl, .inl ⟨.inl (.inl eD), fun r nr => ?_⟩⟩
        have sr := same_upd (o := .tup ys) nr
        have x4 := x.but b4 hp4
        exact q _ r ys ds (b4.trans (But.of sr)) (hp4.same sr) (.inl (.inl ((wo_in (X := X) (x4.fresh nr)).trans upd_same))) (dpa_same ((wo_less (fun b z => .inl z)).trans ((But.of sr).wo x.1)) _ _ ha) (by omega) hg
--@@SPLIT
/-! ### handed in as lists or tuples; legs -/
theorem ix_seqK {X : Cx} {K : PySem.W.Frag} (h : X.K = K) : IxR X (rIx K) := by
  subst h
  exact ix_seq
theorem wo_bn {p D : Addr} {X : Addr → Prop} {H H' : Hp} (xp : X p) (b : But p H H') (n : H D = none) : Same (wo H X) (wo H' (fun b => X b ∨ b = D)) := fun c o h1 => by
  have h2 := wo_some h1
  have hc : c ≠ D := ne_of_none h2.2 n
  rw [wo_in (X := fun b => X b ∨ b = D) (fun z => z.elim h2.1 hc)]
  exact b _ _ (fun z => h2.1 (by rw [z]; exact xp)) h2.2
theorem map_more {ds es : List PyData} {i : Nat} {d d' : PyData} (he : es.map seqD = (ds.take i).map seqD) (fd : ds[i]? = some d) (h : seqD d' = seqD d) : (es ++ [d']).map seqD = (ds.take (i + 1)).map seqD := by
  rw [List.take_add_one, fd, List.map_append, List.map_append, he]
  show _ ++ [seqD d'] = _ ++ [seqD d]
  rw [h]
def spListed (K : PySem.W.Frag) : Sp := fun vs H Q _ => ∃ (p t : Addr) (xs : List V) (ds : List PyData) (X : Addr → Prop), vs = [.ref p, .ref t] ∧ Pool H p ∧ HX p X H ∧ SqT K (wo H X) t xs ∧ DpAll K (wo H X) xs ds ∧ ds.length ≤ 41 ∧ (∀ d ∈ ds, gt d) ∧
  ∀ H' e ys es, But p H H' → Pool H' p → SqA K (wo H' X) e ys → DpAll K (wo H' X) ys es → es.map seqD = ds.map seqD → Q (.ref e) H'
theorem ok_Llisted (T : Top w K mg) : FnOk P w K mg base CX0 2 T.a_Llisted T.fd_Llisted ["_law_pool_here", "_law_log"] (spListed K) := by
  have G_Ltake := ok_Ltake (P := P) (w := w) (base := base) T
  refine T.F_Llisted.ok sc_Llisted (fun vs H Q E h => ?_) (fun cdv A outer s H vs Q E hr h => ?_)
  · obtain ⟨p, t, xs, ds, X, rfl, _⟩ := h
    rfl
  · obtain ⟨p, t, xs, ds, X, rfl, hp, x, hs, ha, hl, hg, q⟩ := h
    have lx := dpa_len2 ha
    refine ⟨_, (pss_cons (ps_setLc (i := 2) (own := [("_law_entry", 3)]) (g := gName 3) (by rfl) sc_Llisted.nd rfl rfl (sw_true rfl rfl rfl (by decide +kernel)) (pi_tup (pv 1)) (blkOk_by (own := [("_law_entry", 3)]) (N := ["_law_pool_here", "_law_log", "_law_rows", "_law_entry"]) (sc := defScope s_Llisted) (by decide +kernel)) (fun _ _ _ _ _ => (pg_name (i := 3) sc_Llisted.nd rfl (Or.inl rfl))) (fun _ _ _ _ _ => pts_nil) (fun _ _ _ _ _ => (pe_ifExp (pt_cmpR op_eq (pe_call G_Ltake hr (by rfl) T.g_Ltake T.F_Ltake.kp T.b_Ltake .nil pass0 (pa_cons (pv 0) (pa_cons pe_int pa_nil))) pe_int (nomark _)) (pe_callTy (T := "list") (r := rLstOf K) (call_lstK rfl) (by rfl) T.m_list (by decide +kernel) (pa_cons (pv 3) pa_nil)) (pv 3))))
      (pss_one (ps_ret (pe_ifExp (pt_cmpR op_eq (pe_call G_Ltake hr (by rfl) T.g_Ltake T.F_Ltake.kp T.b_Ltake .nil pass0 (pa_cons (pv 0) (pa_cons pe_int pa_nil))) pe_int (nomark _)) (pv 2) (pe_callTy call_tuple_of (by rfl) T.m_tuple (by decide +kernel) (pa_cons (pv 2) pa_nil)))))), ?_⟩
    refine ⟨.ref t, rfl, t, rfl, ⟨xs, sqt_same wo_same hs⟩, fun D hD => lc_it (walk_tup (xs := xs)) (fun i H' => But p H H' ∧ Pool H' p ∧ ∃ (ys : List V) (es : List PyData), ys.length = i ∧ es.map seqD = (ds.take i).map seqD ∧ DpAll K (wo H' (fun b => X b ∨ b = D)) ys es ∧ H' D = some (.lst ys)) ⟨But.of (same_upd hD), hp.same (same_upd hD), [], [], rfl, rfl, .nil, upd_same⟩ (fun i H' _ h => sqt_same ((h.1.wo x.1).trans wo_same) hs) ?_ ?_⟩
    · rintro i v H1 H2 hi ⟨b1, hp1, ys, es, ly, he, hy, eD⟩ ⟨rfl, hx⟩
      have nD : D ≠ p := hp.ne_new hD
      refine ⟨rfl, ?_⟩
      refine ⟨.ref p, rfl, p, 2, rfl, by decide, by decide, hp1, fun H3 j b3 hp3 _ _ => ⟨rfl, _, rfl, ?_⟩⟩
      obtain ⟨d, fd, gd⟩ := dpa_at ds xs (dpa_same (wo_bn x.1 (b1.trans b3) hD) _ _ ha) i v hx
      obtain ⟨_, es0, rfl⟩ := hg d (List.mem_of_getElem? fd)
      have eD3 := b3 _ _ nD eD
      have x3 := (x.but (b1.trans b3) hp3).or (some_ne eD3)
      have fin : ∀ (H5 : Hp) (u : V) (d' : PyData), Same H3 H5 → Dp K (wo H5 (fun b => X b ∨ b = D)) u d' → seqD d' = seqD (.tuple es0) → (But p H (upd H5 D (.lst (ys ++ [u]))) ∧ Pool (upd H5 D (.lst (ys ++ [u]))) p ∧ ∃ (zs : List V) (fs : List PyData), zs.length = i + 1 ∧ fs.map seqD = (ds.take (i + 1)).map seqD ∧ DpAll K (wo (upd H5 D (.lst (ys ++ [u]))) (fun b => X b ∨ b = D)) zs fs ∧ (upd H5 D (.lst (ys ++ [u]))) D = some (.lst zs)) := fun H5 u d' s5 hu hd' => by
        have m5 : Same (wo H2 (fun b => X b ∨ b = D)) (wo H5 (fun b => X b ∨ b = D)) := (b3.trans (But.of s5)).wo (X := fun b => X b ∨ b = D) (.inl x.1)
        have m6 : Same (wo H5 (fun b => X b ∨ b = D)) (wo (upd H5 D (.lst (ys ++ [u]))) (fun b => X b ∨ b = D)) := wo_mut (X := fun b => X b ∨ b = D) (.inr rfl)
        exact ⟨((b1.trans b3).trans (But.of s5)).mut hD, (hp3.same s5).upd nD, ys ++ [u], es ++ [d'], by rw [List.length_append, ly]; rfl, map_more he fd hd', dpa_snoc (dp_same m6 _ _ hu) _ _ (dpa_same (m5.trans m6) _ _ hy), upd_same⟩
      have gd3 := gd
      cases gd3 with
      | @tup q0 us _ hq hu =>
      refine ite2 (fun e => ?_) (fun e => ?_)
      · refine ⟨.ref q0, rfl, q0, us, rfl, .inr (sqt_same wo_same hq), fun l nl => ?_⟩
        have sl := same_upd (o := .lst us) nl
        exact ⟨ys, sl _ _ eD3, small1000 (by omega), fin _ (.ref l) (.list es0) sl (lstW x3 nl hu) rfl⟩
      · exact ⟨.ref q0, rfl, ys, eD3, small1000 (by omega), fin _ _ _ (Same.refl _) gd rfl⟩
    · rintro H4 ⟨b4, hp4, ys, es, ly, he, hy, eD⟩
      rw [lx, List.take_length] at he
      have nD : D ≠ p := hp.ne_new hD
      refine ⟨.ref p, rfl, p, 2, rfl, by decide, by decide, hp4, fun H5 j b5 hp5 _ _ => ⟨rfl, _, rfl, ?_⟩⟩
      have eD5 := b5 _ _ nD eD
      have hy5 := dpa_same (((b5.wo (X := fun b => X b ∨ b = D) (.inl x.1))).trans (wo_less (fun b z => .inl z))) _ _ hy
      refine ite2 (fun e => ?_) (fun e => ?_)
      · exact ⟨.ref D, rfl, q H5 D ys es (b4.trans b5) hp5 (.inl (.inl (.inl ((wo_in (X := X) (x.fresh hD)).trans eD5)))) hy5 he⟩
      · refine ⟨.ref D, rfl, D, ys, rfl, .inl ⟨.inl (.inl eD5), fun r nr => ?_⟩⟩
        have sr := same_upd (o := .tup ys) nr
        have x5 := x.but (b4.trans b5) hp5
        exact q _ r ys es ((b4.trans b5).trans (But.of sr)) (hp5.same sr) (.inr (.inl (.inl ((wo_in (X := X) (x5.fresh nr)).trans upd_same)))) (dpa_same ((But.of sr).wo x.1) _ _ hy5) he
--@@SPLIT
theorem bad_none : ∀ (ds : List PyData) (f : Bool) (i : Nat), badAt f i ds = none → ∀ d ∈ ds, entD d = true
  | [], _, _, _, _, h => nomatch h
  | a :: r, f, i, h, d, hd => by
    unfold badAt at h
    cases e : entD a with
    | false =>
      rw [e, if_pos rfl] at h
      cases h
    | true =>
      rw [e, if_neg Bool.noConfusion] at h
      by_cases z : (ndD a && !f) = true
      · rw [if_pos z] at h
        cases h
      · rw [if_neg z] at h
        rcases List.mem_cons.mp hd with hd | hd
        · rw [hd]
          exact e
        · exact bad_none r _ _ h d hd
theorem inW_ex {a : PyData} {ws : List Str} (h : inW a ws = true) : ∃ z, a = .str z := by
  obtain ⟨s, hs, e⟩ := List.any_eq_true.mp h
  exact ⟨s, eqS_str e⟩
theorem many_ok {b : PyData} (h : manyD b = true) : okD 0 b = true := by
  cases b with
  | int i => rfl
  | _ => cases h
theorem sg_ok {b : PyData} (h : sgD b = true) : okD 0 b = true := by
  cases b with
  | str i => rfl
  | _ => cases h
theorem eq_ok {b : PyData} {s : Str} (h : eqS b s = true) : okD 0 b = true := by
  rw [eqS_str h]
  rfl
theorem ent_flat {d : PyData} (h : entD d = true) : okD 1 (tupD d) = true := by
  obtain ⟨a, r, es⟩ := ent_seq h
  rw [tup_eq es]
  unfold entD at h
  rw [es] at h
  match r, h with
  | [], h =>
    obtain ⟨z, rfl⟩ := inW_ex h
    rfl
  | [b], h =>
    have h2 : pairD a b = true := h
    unfold pairD at h2
    have ab : okD 0 a = true ∧ okD 0 b = true := by
      by_cases e1 : eqS a "face" = true
      · rw [if_pos e1] at h2
        obtain ⟨z, rfl⟩ := inW_ex h2
        exact ⟨eq_ok e1, rfl⟩
      · rw [if_neg e1] at h2
        by_cases e2 : eqS a "go" = true
        · rw [if_pos e2] at h2
          exact ⟨eq_ok e2, many_ok h2⟩
        · rw [if_neg e2] at h2
          obtain ⟨z1, z2⟩ := Bool.and_eq_true_iff.mp h2
          exact ⟨eq_ok z1, sg_ok z2⟩
    show (true && (okD 0 a && (okD 0 b && true))) = true
    rw [ab.1, ab.2]
    rfl
  | [b, c], h =>
    have h2 : (eqS a "spy" && (manyD b && sgD c)) = true := h
    obtain ⟨z1, z2⟩ := Bool.and_eq_true_iff.mp h2
    obtain ⟨z3, z4⟩ := Bool.and_eq_true_iff.mp z2
    show (true && (okD 0 a && (okD 0 b && (okD 0 c && true)))) = true
    rw [eq_ok z1, many_ok z3, sg_ok z4]
    rfl
  | b :: c :: e :: f, h => cases h
theorem due_ok {ds : List PyData} (hl : ds.length ≤ 200) : okD 3 (dueD ds) = true := by
  cases hb : badAt false 0 ds with
  | some i =>
    rw [due_some hb]
    rfl
  | none =>
    rw [due_none hb]
    have hm : (ds.map tupD).all (fun d => okD 1 d) = true := List.all_eq_true.mpr fun y hy => by
      obtain ⟨d, hd, rfl⟩ := List.mem_map.mp hy
      exact ent_flat (bad_none ds _ _ hb d hd)
    show (true && (true && ((decide ((ds.map tupD).length ≤ 1000) && (ds.map tupD).all (fun d => okD 1 d)) && true))) = true
    rw [hm, List.length_map, decide_eq_true (show ds.length ≤ 1000 by omega)]
    rfl
/-! ### legs -/
def swS : Option (List PyData) → Bool
  | some ds => eqS (headL ds) "swap"
  | none => false
def legN (l : List (Option (List PyData))) : Nat := (l.filter swS).length
theorem leg_le (l : List (Option (List PyData))) : legN l ≤ l.length := List.length_filter_le _ _
theorem leg_more {ds : List PyData} {i : Nat} {d : PyData} (fd : ds[i]? = some d) : legN ((ds.take (i + 1)).map seqD) = legN ((ds.take i).map seqD) + (if swS (seqD d) = true then 1 else 0) := by
  unfold legN
  rw [List.take_add_one, fd, List.map_append, List.filter_append, List.length_append]
  show _ + ([seqD d].filter swS).length = _
  rw [List.filter_cons, List.filter_nil]
  split <;> rfl
theorem sw_str {z : Str} {r : List PyData} : swS (some (.str z :: r)) = (PySem.Str.ofString "swap" == z) := rfl
theorem ent_str {d a : PyData} {r : List PyData} (h : entD d = true) (es : seqD d = some (a :: r)) : ∃ z, a = .str z := by
  unfold entD at h
  rw [es] at h
  match r, h with
  | [], h => exact inW_ex h
  | [b], h =>
    have h2 : pairD a b = true := h
    unfold pairD at h2
    by_cases e1 : eqS a "face" = true
    · exact ⟨_, eqS_str e1⟩
    · rw [if_neg e1] at h2
      by_cases e2 : eqS a "go" = true
      · exact ⟨_, eqS_str e2⟩
      · rw [if_neg e2] at h2
        exact ⟨_, eqS_str (Bool.and_eq_true_iff.mp h2).1⟩
  | [b, c], h =>
    have h2 : (eqS a "spy" && (manyD b && sgD c)) = true := h
    exact ⟨_, eqS_str (Bool.and_eq_true_iff.mp h2).1⟩
  | b :: c :: e :: f, h => cases h
def spLegs (K : PySem.W.Frag) : Sp := fun vs H Q _ => ∃ (e : Addr) (xs : List V) (ds : List PyData), vs = [.ref e] ∧ SqA K H e xs ∧ DpAll K H xs ds ∧ (∀ d ∈ ds, entD d = true) ∧ ds.length ≤ 200 ∧ ∀ H', Same H H' → Q (.int (1 + (legN (ds.map seqD) : Int))) H'
theorem ok_legs_in (T : Top w K mg) : FnOk P w K mg base CX0 1 T.a_legs_in T.fd_legs_in ["log"] (spLegs K) := by
  refine T.F_legs_in.ok sc_legs_in (fun vs H Q E h => ?_) (fun cdv A outer s H vs Q E hr h => ?_)
  · obtain ⟨e, xs, ds, rfl, _⟩ := h
    rfl
  · obtain ⟨e, xs, ds, rfl, hs, ha, he, hlen, q⟩ := h
    have lx := dpa_len2 ha
    rcases hs with hs | hs
    · refine ⟨_, (pss_one (ps_ret (pe_op op_add pe_int (pe_callB call_len_seq (by rfl) T.m_len (by decide +kernel) (pa_cons (pe_lc (own := [("entry", 1)]) (g := gName 1) (by rfl) sc_legs_in.nd (pi_list (pv 0)) (blkOk_by (own := [("entry", 1)]) (N := ["log", "entry"]) (sc := defScope s_legs_in) (by decide +kernel)) (fun _ _ _ _ _ => (pg_name (i := 1) sc_legs_in.nd rfl (Or.inl rfl))) (fun _ _ _ _ _ => (pts_one (pt_cmpR op_eq (pe_ix (r := rIx K) (ix_seqK rfl) (pv 1) pe_int (fun _ _ => rfl)) pe_str (nomark _)))) (fun _ _ _ _ _ => (pv 1))) pa_nil))))), ?_⟩
      refine ⟨.ref e, rfl, e, rfl, ⟨xs, hs⟩, fun D hD => lc_it (walk_list (xs := xs)) (fun i H' => Same H H' ∧ ∃ ys : List V, ys.length = legN ((ds.take i).map seqD) ∧ H' D = some (.lst ys)) ⟨same_upd hD, [], rfl, upd_same⟩ (fun i H' _ h => h.1.seq hs) ?_ ?_⟩
      · rintro i v H1 H2 hi ⟨sm, ys, ly, eD⟩ ⟨rfl, hx⟩
        obtain ⟨d, fd, gd⟩ := dpa_at ds xs (dpa_same sm _ _ ha) i v hx
        have hd := he d (List.mem_of_getElem? fd)
        obtain ⟨a, r, es⟩ := ent_seq hd
        obtain ⟨q0, x, xs2, rfl, hsq, hx2, _⟩ := seq_head gd es
        obtain ⟨z, rfl⟩ := ent_str hd es
        cases hx2
        have lg := leg_le ((ds.take i).map seqD)
        rw [List.length_map, List.length_take] at lg
        refine ⟨rfl, ?_⟩
        refine ⟨.ref q0, rfl, ixA (j := 0) hsq rfl ⟨rfl, _, rfl, ite2 (fun e1 => ⟨.ref q0, rfl, ys, eD, small1000 (by omega), (fun b o h => ?_), _, ?_, upd_same⟩) (fun e1 => ⟨sm, ys, ?_, eD⟩)⟩⟩
        · rw [upd_ne (ne_of_none h hD)]
          exact sm _ _ h
        · rw [List.length_append, ly, leg_more fd, es, sw_str, ← dec_str, e1]
          rfl
        · rw [ly, leg_more fd, es, sw_str, ← dec_str, Bool.eq_false_iff.mpr e1]
          rfl
      · rintro H1 ⟨sm, ys, ly, eD⟩
        rw [lx, List.take_length] at ly
        refine ⟨D, ys, rfl, .inl (.inl (.inl eD)), _, _, rfl, rfl, ?_⟩
        rw [ly]
        exact q _ sm
    · refine ⟨_, (pss_one (ps_ret (pe_op op_add pe_int (pe_callB call_len_seq (by rfl) T.m_len (by decide +kernel) (pa_cons (pe_lc (own := [("entry", 1)]) (g := gName 1) (by rfl) sc_legs_in.nd (pi_tup (pv 0)) (blkOk_by (own := [("entry", 1)]) (N := ["log", "entry"]) (sc := defScope s_legs_in) (by decide +kernel)) (fun _ _ _ _ _ => (pg_name (i := 1) sc_legs_in.nd rfl (Or.inl rfl))) (fun _ _ _ _ _ => (pts_one (pt_cmpR op_eq (pe_ix (r := rIx K) (ix_seqK rfl) (pv 1) pe_int (fun _ _ => rfl)) pe_str (nomark _)))) (fun _ _ _ _ _ => (pv 1))) pa_nil))))), ?_⟩
      refine ⟨.ref e, rfl, e, rfl, ⟨xs, hs⟩, fun D hD => lc_it (walk_tup (xs := xs)) (fun i H' => Same H H' ∧ ∃ ys : List V, ys.length = legN ((ds.take i).map seqD) ∧ H' D = some (.lst ys)) ⟨same_upd hD, [], rfl, upd_same⟩ (fun i H' _ h => sqt_same h.1 hs) ?_ ?_⟩
      · rintro i v H1 H2 hi ⟨sm, ys, ly, eD⟩ ⟨rfl, hx⟩
        obtain ⟨d, fd, gd⟩ := dpa_at ds xs (dpa_same sm _ _ ha) i v hx
        have hd := he d (List.mem_of_getElem? fd)
        obtain ⟨a, r, es⟩ := ent_seq hd
        obtain ⟨q0, x, xs2, rfl, hsq, hx2, _⟩ := seq_head gd es
        obtain ⟨z, rfl⟩ := ent_str hd es
        cases hx2
        have lg := leg_le ((ds.take i).map seqD)
        rw [List.length_map, List.length_take] at lg
        refine ⟨rfl, ?_⟩
        refine ⟨.ref q0, rfl, ixA (j := 0) hsq rfl ⟨rfl, _, rfl, ite2 (fun e1 => ⟨.ref q0, rfl, ys, eD, small1000 (by omega), (fun b o h => ?_), _, ?_, upd_same⟩) (fun e1 => ⟨sm, ys, ?_, eD⟩)⟩⟩
        · rw [upd_ne (ne_of_none h hD)]
          exact sm _ _ h
        · rw [List.length_append, ly, leg_more fd, es, sw_str, ← dec_str, e1]
          rfl
        · rw [ly, leg_more fd, es, sw_str, ← dec_str, Bool.eq_false_iff.mpr e1]
          rfl
      · rintro H1 ⟨sm, ys, ly, eD⟩
        rw [lx, List.take_length] at ly
        refine ⟨D, ys, rfl, .inl (.inl (.inl eD)), _, _, rfl, rfl, ?_⟩
        rw [ly]
        exact q _ sm
theorem ok_Llegs (T : Top w K mg) : FnOk P w K mg base CX0 1 T.a_Llegs T.fd_Llegs ["_law_log"] (spLegs K) := by
  refine T.F_Llegs.ok sc_Llegs (fun vs H Q E h => ?_) (fun cdv A outer s H vs Q E hr h => ?_)
  · obtain ⟨e, xs, ds, rfl, _⟩ := h
    rfl
  · obtain ⟨e, xs, ds, rfl, hs, ha, he, hlen, q⟩ := h
    have lx := dpa_len2 ha
    rcases hs with hs | hs
    · refine ⟨_, (pss_one (ps_ret (pe_op op_add pe_int (pe_callB call_len_seq (by rfl) T.m_len (by decide +kernel) (pa_cons (pe_lc (own := [("_law_entry", 1)]) (g := gName 1) (by rfl) sc_Llegs.nd (pi_list (pv 0)) (blkOk_by (own := [("_law_entry", 1)]) (N := ["_law_log", "_law_entry"]) (sc := defScope s_Llegs) (by decide +kernel)) (fun _ _ _ _ _ => (pg_name (i := 1) sc_Llegs.nd rfl (Or.inl rfl))) (fun _ _ _ _ _ => (pts_one (pt_cmpR op_eq (pe_ix (r := rIx K) (ix_seqK rfl) (pv 1) pe_int (fun _ _ => rfl)) pe_str (nomark _)))) (fun _ _ _ _ _ => (pv 1))) pa_nil))))), ?_⟩
      refine ⟨.ref e, rfl, e, rfl, ⟨xs, hs⟩, fun D hD => lc_it (walk_list (xs := xs)) (fun i H' => Same H H' ∧ ∃ ys : List V, ys.length = legN ((ds.take i).map seqD) ∧ H' D = some (.lst ys)) ⟨same_upd hD, [], rfl, upd_same⟩ (fun i H' _ h => h.1.seq hs) ?_ ?_⟩
      · rintro i v H1 H2 hi ⟨sm, ys, ly, eD⟩ ⟨rfl, hx⟩
        obtain ⟨d, fd, gd⟩ := dpa_at ds xs (dpa_same sm _ _ ha) i v hx
        have hd := he d (List.mem_of_getElem? fd)
        obtain ⟨a, r, es⟩ := ent_seq hd
        obtain ⟨q0, x, xs2, rfl, hsq, hx2, _⟩ := seq_head gd es
        obtain ⟨z, rfl⟩ := ent_str hd es
        cases hx2
        have lg := leg_le ((ds.take i).map seqD)
        rw [List.length_map, List.length_take] at lg
        refine ⟨rfl, ?_⟩
        refine ⟨.ref q0, rfl, ixA (j := 0) hsq rfl ⟨rfl, _, rfl, ite2 (fun e1 => ⟨.ref q0, rfl, ys, eD, small1000 (by omega), (fun b o h => ?_), _, ?_, upd_same⟩) (fun e1 => ⟨sm, ys, ?_, eD⟩)⟩⟩
        · rw [upd_ne (ne_of_none h hD)]
          exact sm _ _ h
        · rw [List.length_append, ly, leg_more fd, es, sw_str, ← dec_str, e1]
          rfl
        · rw [ly, leg_more fd, es, sw_str, ← dec_str, Bool.eq_false_iff.mpr e1]
          rfl
      · rintro H1 ⟨sm, ys, ly, eD⟩
        rw [lx, List.take_length] at ly
        refine ⟨D, ys, rfl, .inl (.inl (.inl eD)), _, _, rfl, rfl, ?_⟩
        rw [ly]
        exact q _ sm
    · refine ⟨_, (pss_one (ps_ret (pe_op op_add pe_int (pe_callB call_len_seq (by rfl) T.m_len (by decide +kernel) (pa_cons (pe_lc (own := [("_law_entry", 1)]) (g := gName 1) (by rfl) sc_Llegs.nd (pi_tup (pv 0)) (blkOk_by (own := [("_law_entry", 1)]) (N := ["_law_log", "_law_entry"]) (sc := defScope s_Llegs) (by decide +kernel)) (fun _ _ _ _ _ => (pg_name (i := 1) sc_Llegs.nd rfl (Or.inl rfl))) (fun _ _ _ _ _ => (pts_one (pt_cmpR op_eq (pe_ix (r := rIx K) (ix_seqK rfl) (pv 1) pe_int (fun _ _ => rfl)) pe_str (nomark _)))) (fun _ _ _ _ _ => (pv 1))) pa_nil))))), ?_⟩
      refine ⟨.ref e, rfl, e, rfl, ⟨xs, hs⟩, fun D hD => lc_it (walk_tup (xs := xs)) (fun i H' => Same H H' ∧ ∃ ys : List V, ys.length = legN ((ds.take i).map seqD) ∧ H' D = some (.lst ys)) ⟨same_upd hD, [], rfl, upd_same⟩ (fun i H' _ h => sqt_same h.1 hs) ?_ ?_⟩
      · rintro i v H1 H2 hi ⟨sm, ys, ly, eD⟩ ⟨rfl, hx⟩
        obtain ⟨d, fd, gd⟩ := dpa_at ds xs (dpa_same sm _ _ ha) i v hx
        have hd := he d (List.mem_of_getElem? fd)
        obtain ⟨a, r, es⟩ := ent_seq hd
        obtain ⟨q0, x, xs2, rfl, hsq, hx2, _⟩ := seq_head gd es
        obtain ⟨z, rfl⟩ := ent_str hd es
        cases hx2
        have lg := leg_le ((ds.take i).map seqD)
        rw [List.length_map, List.length_take] at lg
        refine ⟨rfl, ?_⟩
        refine ⟨.ref q0, rfl, ixA (j := 0) hsq rfl ⟨rfl, _, rfl, ite2 (fun e1 => ⟨.ref q0, rfl, ys, eD, small1000 (by omega), (fun b o h => ?_), _, ?_, upd_same⟩) (fun e1 => ⟨sm, ys, ?_, eD⟩)⟩⟩
        · rw [upd_ne (ne_of_none h hD)]
          exact sm _ _ h
        · rw [List.length_append, ly, leg_more fd, es, sw_str, ← dec_str, e1]
          rfl
        · rw [ly, leg_more fd, es, sw_str, ← dec_str, Bool.eq_false_iff.mpr e1]
          rfl
      · rintro H1 ⟨sm, ys, ly, eD⟩
        rw [lx, List.take_length] at ly
        refine ⟨D, ys, rfl, .inl (.inl (.inl eD)), _, _, rfl, rfl, ?_⟩
        rw [ly]
        exact q _ sm
--@@SPLIT
/-! ### what lists and tuples of the same parts have in common -/
theorem pi_seqA {X : Cx} {tg l : Expr} {tl : TE} (hl : PE X l tl) : PI X tg l (fun σ H R => iList X.K tl σ H R ∨ iTup X.K tl σ H R) :=
  ⟨fun pins s σ H R I h => h.elim (fun h => (pi_list hl).run pins s σ H R I h) (fun h => (pi_tup hl).run pins s σ H R I h)⟩
def isTp : HO → Bool
  | .tup _ => true
  | .frz _ _ => true
  | _ => false
/-- all tuples as they were -/
def Tups (H H' : Hp) : Prop := ∀ b o, isTp o = true → H b = some o → H' b = some o
theorem Tups.of {H H' : Hp} (e : Same H H') : Tups H H' := fun b o _ h => e b o h
theorem Tups.trans {H H1 H2 : Hp} (a : Tups H H1) (b : Tups H1 H2) : Tups H H2 := fun c o z h => b c o z (a c o z h)
theorem Tups.mut {H : Hp} {a : Addr} {o : HO} {xs : List V} (e : H a = some (.lst xs)) : Tups H (upd H a o) := fun b v z h => by
  rw [upd_ne (fun y => by rw [y, e] at h; cases h; cases z)]
  exact h
theorem Tups.but {p : Addr} {H H' : Hp} (hp : Pool H p) (e : But p H H') : Tups H H' := fun b v z h => by
  obtain ⟨l, c, k, n, h0, h1⟩ := hp
  exact e b v (fun y => by rw [y, h1] at h; cases h; cases z) h
theorem tups_t {K : PySem.W.Frag} {H H' : Hp} {a : Addr} {xs : List V} (e : Tups H H') (h : SqT K H a xs) : SqT K H' a xs := by
  rcases h with (h | ⟨o, h⟩) | h
  · exact .inl (.inl (e _ _ rfl h))
  · exact .inl (.inr ⟨o, e _ _ rfl h⟩)
  · exact .inr h
mutual
theorem dp_tups {K : PySem.W.Frag} {H H' : Hp} (e : Tups H H') : ∀ (d : PyData) (n : Nat) (v : V), okD n d = true → Dp K H v d → Dp K H' v d
  | .none, _, _, _, h => by cases h; exact .non
  | .bool b, _, _, _, h => by cases h; exact .bl b
  | .int i, _, _, _, h => by cases h; exact .int i
  | .str x, _, _, _, h => by cases h; exact .str x
  | .list ds, n, _, ok, h => by cases n <;> cases ok
  | .tuple ds, n, _, ok, h => by
    cases n with
    | zero => cases ok
    | succ n =>
      cases h with
      | tup hs ha => exact .tup (tups_t e hs) (dpa_tups e ds n _ (Bool.and_eq_true_iff.mp ok).2 ha)
  | .dict _, _, _, _, h => by cases h
theorem dpa_tups {K : PySem.W.Frag} {H H' : Hp} (e : Tups H H') : ∀ (ds : List PyData) (n : Nat) (vs : List V), (ds.all fun d => okD n d) = true → DpAll K H vs ds → DpAll K H' vs ds
  | [], _, _, _, h => by cases h; exact .nil
  | d :: ds, n, _, ok, h => by
    rw [List.all_cons] at ok
    obtain ⟨o1, o2⟩ := Bool.and_eq_true_iff.mp ok
    cases h with
    | cons h1 h2 => exact .cons (dp_tups e d n _ o1 h1) (dpa_tups e ds n _ o2 h2)
end
def lstS : Option (List PyData) → PyData
  | some ds => .list ds
  | none => .none
theorem cong : ∀ (ds es : List PyData), es.map seqD = ds.map seqD → (∀ d ∈ ds, gt d) → (∀ f i, badAt f i es = badAt f i ds) ∧ es.map tupD = ds ∧ (∀ e ∈ es, ge e = true) ∧ es.length = ds.length
  | [], [], _, _ => ⟨fun _ _ => rfl, rfl, (fun _ h => nomatch h), rfl⟩
  | [], _ :: _, h, _ => by cases h
  | _ :: _, [], h, _ => by cases h
  | d :: ds, e :: es, h, hg => by
    rw [List.map_cons, List.map_cons] at h
    obtain ⟨h1, h2⟩ := List.cons.inj h
    obtain ⟨g1, a, rfl⟩ := hg d List.mem_cons_self
    have h1 : seqD e = some a := h1
    obtain ⟨i1, i2, i3, i4⟩ := cong ds es h2 (fun x hx => hg x (List.mem_cons_of_mem _ hx))
    have e1 : entD e = entD (.tuple a) := by unfold entD; rw [h1]; rfl
    have e2 : ndD e = ndD (.tuple a) := by unfold ndD headD; rw [h1]; rfl
    have e3 : fcD e = fcD (.tuple a) := by unfold fcD headD; rw [h1]; rfl
    have e4 : tupD e = .tuple a := tup_eq h1
    refine ⟨fun f i => ?_, ?_, fun x hx => ?_, ?_⟩
    · show (if entD e = false then some i else if (ndD e && !f) = true then some i else badAt (f || fcD e) (i + 1) es) = (if entD (.tuple a) = false then some i else if (ndD (.tuple a) && !f) = true then some i else badAt (f || fcD (.tuple a)) (i + 1) ds)
      rw [e1, e2, e3, i1]
    · rw [List.map_cons, e4, i2]
    · rcases List.mem_cons.mp hx with h | h
      · rw [h]
        have := gen_ge (by omega) g1
        unfold ge at this ⊢
        rw [h1]
        exact this
      · exact i3 x h
    · rw [List.length_cons, List.length_cons, i4]
theorem due_cong {ds es : List PyData} (h : es.map seqD = ds.map seqD) (hg : ∀ d ∈ ds, gt d) : dueD es = dueD ds := by
  obtain ⟨h1, h2, _⟩ := cong ds es h hg
  obtain ⟨_, g2, _⟩ := cong ds ds rfl hg
  unfold dueD
  rw [h1, h2, g2]
theorem due_log {ds : List PyData} (hg : ∀ d ∈ ds, gt d) (hb : badAt false 0 ds = none) : dueD ds = .tuple [.str "log", .tuple ds] := by
  rw [due_none hb, (cong ds ds rfl hg).2.1]
theorem ent_cong {ds es : List PyData} (h : es.map seqD = ds.map seqD) (hg : ∀ d ∈ ds, gt d) (hb : badAt false 0 ds = none) : ∀ e ∈ es, entD e = true := bad_none es _ _ (((cong ds es h hg).1 false 0).trans hb)
theorem seq_lst (ds : List PyData) (hg : ∀ d ∈ ds, gt d) : ((ds.map seqD).map lstS).map seqD = ds.map seqD := by
  rw [List.map_map, List.map_map]
  refine List.map_congr_left fun d hd => ?_
  obtain ⟨_, a, rfl⟩ := hg d hd
  rfl
theorem flat_all : ∀ ps : List PyData, (∀ y ∈ ps, gpn 0 y = true) → PyData.canLayAll0 ps = true ∧ PyData.depthAll ps = 0
  | [], _ => ⟨rfl, rfl⟩
  | y :: r, h => by
    obtain ⟨i1, i2⟩ := flat_all r (fun x hx => h x (List.mem_cons_of_mem _ hx))
    have hy := h y List.mem_cons_self
    have h0 : PyData.canLay0 y = true ∧ PyData.depth y = 0 := by
      cases y with
      | none => exact ⟨rfl, rfl⟩
      | bool b => exact ⟨rfl, rfl⟩
      | int i => exact ⟨rfl, rfl⟩
      | str z => exact ⟨(Bool.and_eq_true_iff.mp hy).2, rfl⟩
      | _ => cases hy
    refine ⟨?_, ?_⟩
    · show (PyData.canLay0 y && PyData.canLayAll0 r) = true
      rw [h0.1, i1]
      rfl
    · show max (PyData.depth y) (PyData.depthAll r) = 0
      rw [h0.2, i2]
      rfl
theorem rows_all : ∀ ds : List PyData, (∀ d ∈ ds, gt d) → PyData.canLayAll0 ((ds.map seqD).map lstS) = true ∧ PyData.depthAll ((ds.map seqD).map lstS) ≤ 1
  | [], _ => ⟨rfl, Nat.zero_le _⟩
  | d :: r, h => by
    obtain ⟨i1, i2⟩ := rows_all r (fun x hx => h x (List.mem_cons_of_mem _ hx))
    obtain ⟨g, a, rfl⟩ := h d List.mem_cons_self
    obtain ⟨f1, f2⟩ := flat_all a (genL_iff.mp g).2
    refine ⟨?_, ?_⟩
    · show (PyData.canLayAll0 a && PyData.canLayAll0 ((r.map seqD).map lstS)) = true
      rw [f1, i1]
      rfl
    · show max (PyData.depthAll a + 1) (PyData.depthAll ((r.map seqD).map lstS)) ≤ 1
      rw [f2]
      omega
theorem rows_shaped {ds : List PyData} (hg : ∀ d ∈ ds, gt d) : SeqAt.shaped (.list ((ds.map seqD).map lstS)) = true := by
  obtain ⟨h1, h2⟩ := rows_all ds hg
  refine Bool.and_eq_true_iff.mpr ⟨h1, decide_eq_true ?_⟩
  show PyData.depthAll _ + 1 ≤ 64
  omega
--@@SPLIT
/-! ### the law -/
theorem wo_up {X : Addr → Prop} {H : Hp} {c : Addr} {o : HO} (n : H c = none) : Same (wo H X) (wo (upd H c o) X) := fun b v h => by
  have h2 := wo_some h
  rw [wo_in (X := X) h2.1]
  exact same_upd n _ _ h2.2
theorem row_more {ds : List PyData} {i : Nat} {d : PyData} (fd : ds[i]? = some d) : ((ds.take (i + 1)).map seqD).map lstS = ((ds.take i).map seqD).map lstS ++ [lstS (seqD d)] := by
  rw [List.take_add_one, fd, List.map_append, List.map_append]
  rfl
theorem sq_some {ds es : List PyData} (h : es.map seqD = ds.map seqD) (hg : ∀ d ∈ ds, gt d) : ∀ e ∈ es, ∃ a, seqD e = some a := fun e he => by
  have h1 : seqD e ∈ ds.map seqD := h ▸ List.mem_map_of_mem he
  obtain ⟨d, hd, e2⟩ := List.mem_map.mp h1
  obtain ⟨_, a, rfl⟩ := hg d hd
  exact ⟨a, e2.symm⟩
def atV (ds : List PyData) : V := match badAt false 0 ds with
  | some i => .int (i : Nat)
  | none => .non
theorem at_some {ds : List PyData} {i : Nat} (h : badAt false 0 ds = some i) : atV ds = .int (i : Nat) := by
  unfold atV
  rw [h]
theorem at_none {ds : List PyData} (h : badAt false 0 ds = none) : atV ds = .non := by
  unfold atV
  rw [h]
def spLaw (K : PySem.W.Frag) : Sp := fun vs H Q _ => ∃ (a : Addr) (ns : List Int), vs = [.ref a] ∧ SqL K H a (ns.map V.int) ∧ ns.length ≤ 63 ∧ ∀ H', Q (.bl true) H'
theorem ok_law (T : Top w K mg) : FnOk P w K mg base CX0 10 T.a_law T.fd_law ["_law_script"] (spLaw K) := by
  have G_Lpool := ok_Lpool (P := P) (w := w) (base := base) T
  have G_Lentries := ok_Lentries (P := P) (w := w) (base := base) T
  have G_Lbad_at := ok_Lbad_at (P := P) (w := w) (base := base) T
  have G_Llisted := ok_Llisted (P := P) (w := w) (base := base) T
  have G_Lheld := ok_Lheld (P := P) (w := w) (base := base) T
  have G_legs_in := ok_legs_in (P := P) (w := w) (base := base) T
  have G_Llegs := ok_Llegs (P := P) (w := w) (base := base) T
  have G_Lsame := ok_Lsame (P := P) (w := w) (base := base) T 3
  refine T.F_law.ok sc_law (fun vs H Q E h => ?_) (fun cdv A outer s H vs Q E hr h => ?_)
  · obtain ⟨a, ns, rfl, _⟩ := h
    rfl
  · obtain ⟨a, ns, rfl, hS, hlen, q⟩ := h
    refine ⟨_, (pss_cons (ps_set (i := 1) sc_law.nd rfl (.inl rfl) (pe_call G_Lpool (hr.mono (by decide)) (by rfl) T.g_Lpool T.F_Lpool.kp T.b_Lpool .nil pass0 (pa_cons (pv 0) (pa_cons pe_int pa_nil))))
      (pss_cons (ps_for PassesOwn.never rfl (pi_range1 (by rfl) T.m_range (pa_cons pe_int pa_nil)) (pg_name (i := 2) sc_law.nd rfl (.inl rfl)) (pss_cons (ps_set (i := 3) sc_law.nd rfl (.inl rfl) (pe_call G_Lentries (hr.mono (by decide)) (by rfl) T.g_Lentries T.F_Lentries.kp T.b_Lentries .nil pass0 (pa_cons (pv 1) pa_nil)))
      (pss_cons (ps_set (i := 4) sc_law.nd rfl (.inl rfl) (pe_call G_Lbad_at (hr.mono (by decide)) (by rfl) T.g_Lbad_at T.F_Lbad_at.kp T.b_Lbad_at .nil pass0 (pa_cons (pv 3) pa_nil)))
      (Evl.pss_cut (ps_set (i := 5) sc_law.nd rfl (.inl rfl) (pe_ifExp (pt_cmpR op_isN (pv 4) pe_non (nomark _)) (pe_tup (pa_cons pe_str (pa_cons (pv 3) pa_nil))) (pe_tup (pa_cons pe_str (pa_cons pe_str (pa_cons (pv 4) pa_nil))))))
      (pss_cons (ps_set (i := 6) sc_law.nd rfl (.inl rfl) (pe_call G_Llisted (hr.mono (by decide)) (by rfl) T.g_Llisted T.F_Llisted.kp T.b_Llisted .nil pass0 (pa_cons (pv 1) (pa_cons (pv 3) pa_nil))))
      (pss_cons (ps_setLc (i := 7) (own := [("_law_entry", 10)]) (g := gName 10) (by rfl) sc_law.nd rfl rfl (sw_true rfl rfl rfl (by decide +kernel)) (pi_tup (pv 3)) (blkOk_by (own := [("_law_entry", 10)]) (N := ["_law_script", "_law_pool_here", "_law_k", "_law_entries_here", "_law_at", "_law_due", "_law_handed", "_law_rows", "_law_found", "_law_row", "_law_entry"]) (sc := defScope s_law) (by decide +kernel)) (fun _ _ _ _ _ => (pg_name (i := 10) sc_law.nd rfl (Or.inl rfl))) (fun _ _ _ _ _ => pts_nil) (fun _ _ _ _ _ => (pe_callTy (T := "list") (r := rLstOf K) (call_lstK rfl) (by rfl) T.m_list (by decide +kernel) (pa_cons (pv 10) pa_nil))))
      (pss_cons (ps_set (i := 8) sc_law.nd rfl (.inl rfl) (pe_call G_Lheld hr (by rfl) T.g_Lheld T.F_Lheld.kp T.b_Lheld .nil pass0 (pa_cons (pv 6) pa_nil)))
      (Evl.pss_cut (ps_if (PW.pt (pw_or (pt_not (pt_val (pe_call G_Lsame (hr.mono (by decide)) (by rfl) T.g_Lsame T.F_Lsame.kp T.b_Lsame .nil pass0 (pa_cons (pv 8) (pa_cons (pv 5) pa_nil))))) (pw_or1 (pt_cmpR (op_neD hr.units) (pe_lc (own := [("_law_entry", 10)]) (g := gName 10) (by rfl) sc_law.nd (pi_seqA (pv 6)) (blkOk_by (own := [("_law_entry", 10)]) (N := ["_law_script", "_law_pool_here", "_law_k", "_law_entries_here", "_law_at", "_law_due", "_law_handed", "_law_rows", "_law_found", "_law_row", "_law_entry"]) (sc := defScope s_law) (by decide +kernel)) (fun _ _ _ _ _ => (pg_name (i := 10) sc_law.nd rfl (Or.inl rfl))) (fun _ _ _ _ _ => pts_nil) (fun _ _ _ _ _ => (pe_callTy (T := "list") (r := rLstOf K) (call_lstK rfl) (by rfl) T.m_list (by decide +kernel) (pa_cons (pv 10) pa_nil)))) (pv 7) (nomark _))))) (pss_one (ps_ret pe_bl)) pss_nil)
      (Evl.pss_cut (ps_if (PW.pt (pw_and (pt_cmpR op_isN (pv 4) pe_non (nomark _)) (pw_and1 (pt_not (pt_val (pe_call G_Lsame (hr.mono (by decide)) (by rfl) T.g_Lsame T.F_Lsame.kp T.b_Lsame .nil pass0 (pa_cons (pe_tup (pa_cons (pe_call G_legs_in (hr.mono (by decide)) (by rfl) T.g_legs_in T.F_legs_in.kp T.b_legs_in .nil pass0 (pa_cons (pv 6) pa_nil)) (pa_cons (pe_call G_legs_in (hr.mono (by decide)) (by rfl) T.g_legs_in T.F_legs_in.kp T.b_legs_in .nil pass0 (pa_cons (pv 7) pa_nil)) pa_nil))) (pa_cons (pe_op op_repT (pe_tup (pa_cons (pe_call G_Llegs (hr.mono (by decide)) (by rfl) T.g_Llegs T.F_Llegs.kp T.b_Llegs .nil pass0 (pa_cons (pv 3) pa_nil)) pa_nil)) pe_int) pa_nil)))))))) (pss_one (ps_ret pe_bl)) pss_nil)
      (pss_cons (ps_set (i := 8) sc_law.nd rfl (.inl rfl) (pe_call G_Lheld hr (by rfl) T.g_Lheld T.F_Lheld.kp T.b_Lheld .nil pass0 (pa_cons (pv 7) pa_nil)))
      (pss_cons (ps_for PassesOwn.never rfl (pi_list (pv 7)) (pg_name (i := 9) sc_law.nd rfl (.inl rfl)) (pss_one (ps_expr (pe_bm PySem.F.plainAttrs_list PySem.F.slot_list_append PySem.F.type_list_append mt_append (pv 9) (pa_cons pe_int pa_nil)))))
      (pss_cons (ps_expr (pe_bm0 PySem.F.plainAttrs_list PySem.F.slot_list_clear PySem.F.type_list_clear mt_clear (pv 7)))
      (pss_one (ps_if (PW.pt (pw_or (pt_not (pt_val (pe_call G_Lsame (hr.mono (by decide)) (by rfl) T.g_Lsame T.F_Lsame.kp T.b_Lsame .nil pass0 (pa_cons (pv 8) (pa_cons (pv 5) pa_nil))))) (pw_or1 (PW.pt (pw_and (pt_cmpR op_isN (pv 4) pe_non (nomark _)) (pw_and1 (pt_not (pt_val (pe_call G_Lsame (hr.mono (by decide)) (by rfl) T.g_Lsame T.F_Lsame.kp T.b_Lsame .nil pass0 (pa_cons (pe_call G_legs_in (hr.mono (by decide)) (by rfl) T.g_legs_in T.F_legs_in.kp T.b_legs_in .nil pass0 (pa_cons (pe_ix ix_seq (pv 8) pe_int (fun _ _ => rfl)) pa_nil)) (pa_cons (pe_call G_Llegs (hr.mono (by decide)) (by rfl) T.g_Llegs T.F_Llegs.kp T.b_Llegs .nil pass0 (pa_cons (pv 3) pa_nil)) pa_nil))))))))))) (pss_one (ps_ret pe_bl)) pss_nil))))))))))))))
      (pss_one (ps_ret pe_bl)))), ?_⟩
    refine ⟨.ref a, rfl, a, ns, 0, rfl, hS, hlen, by decide, fun H1 p sm np hp => ?_⟩
    refine ⟨3, rfl, by decide, by decide, for_range (n := 3) (fun i σ H' => Pool H' p ∧ ∃ y2 y3 y4 y5 y6 y7 y8 y9 y10, σ = [some (.ref a), some (.ref p), y2, y3, y4, y5, y6, y7, y8, y9, y10]) ⟨hp, none, none, none, none, none, none, none, none, none, rfl⟩ ?_ (fun σ H' _ => q H')⟩
    rintro i0 σ H2 hi0 ⟨hp2, y2, y3, y4, y5, y6, y7, y8, y9, y10, rfl⟩
    refine ⟨.ref p, rfl, p, (fun b => b = p), rfl, hp2, ⟨rfl, fun b h => h ▸ hp2.known⟩, fun H3 t xs ds b3 hp3 hs ha hl hg => ?_⟩
    have lx := dpa_len2 ha
    refine ⟨.ref t, rfl, t, xs, ds, rfl, sqt_same wo_same hs, dpa_same wo_same _ _ ha, (cong ds ds rfl hg).2.2.1, by omega, fun H4 s4 => ?_⟩
    refine ⟨fun σ H' => Same H4 H' ∧ ∃ (y2 : Option V) (u : Addr), σ = [some (.ref a), some (.ref p), y2, some (.ref t), some (atV ds), some (.ref u), y6, y7, y8, y9, y10] ∧ Dp K H' (.ref u) (dueD ds), ?_, ?_⟩
    · cases hb : badAt false 0 ds with
      | some i => exact ⟨_, rfl, rfl, _, rfl, iteF ⟨_, rfl, by show 3 ≤ sizeLine; decide, fun u nu => ⟨same_upd nu, _, u, by rw [at_some hb]; rfl, by rw [due_some hb]; exact .tup (.inl (.inl upd_same)) (.cons (.str _) (.cons (.str _) (.cons (.int _) .nil)))⟩⟩⟩
      | none => exact ⟨_, rfl, rfl, _, rfl, iteT ⟨.ref t, rfl, by show 2 ≤ sizeLine; decide, fun u nu => ⟨same_upd nu, _, u, by rw [at_none hb]; rfl, by rw [due_log hg hb]; exact .tup (.inl (.inl upd_same)) (.cons (.str _) (.cons (dp_same ((wo_same.trans s4).trans (same_upd nu)) (.tuple ds) _ (.tup hs ha)) .nil))⟩⟩⟩
    rintro σ H5 ⟨s5, y2, u, rfl, hu⟩
    have b35 : But p H3 H5 := But.of (s4.trans s5)
    have hp5 := hp3.same (s4.trans s5)
    have hs5 := sqt_same (b35.wo (X := fun b => b = p) rfl) hs
    have ha5 := dpa_same (b35.wo (X := fun b => b = p) rfl) _ _ ha
    refine ⟨.ref p, rfl, .ref t, rfl, p, t, xs, ds, (fun b => b = p), rfl, hp5, ⟨rfl, fun b h => h ▸ hp5.known⟩, hs5, ha5, hl, hg, fun H6 e ys es b6 hp6 hse hye hes => ?_⟩
    obtain ⟨c1, c2, c3, c4⟩ := cong ds es hes hg
    have ly := dpa_len2 hye
    have hdue := due_cong hes hg
    have hs6 := sqt_same ((b6.wo (X := fun b => b = p) rfl).trans wo_same) hs5
    have ha6 := dpa_same ((b6.wo (X := fun b => b = p) rfl).trans wo_same) _ _ ha5
    refine ⟨.ref t, rfl, t, rfl, ⟨xs, hs6⟩, fun R hR => lc_it (walk_tup (xs := xs)) (fun i H' => Same H6 H' ∧ ∃ rs : List V, rs.length = i ∧ H' R = some (.lst rs) ∧ DpAll K (wo H' (fun b => b = R)) rs (((ds.take i).map seqD).map lstS) ∧ (∀ r ∈ rs, ∃ c us, r = .ref c ∧ H' c = some (.lst us) ∧ us.length ≤ 10 ∧ c ≠ R ∧ c ≠ p)) ⟨same_upd hR, [], rfl, upd_same, .nil, (fun _ h => nomatch h)⟩ (fun i H' _ h => sqt_same h.1 hs6) ?_ ?_⟩
    · rintro i v H7 H8 hi ⟨s7, rs, lr, eR, hr, hm⟩ ⟨rfl, hx⟩
      refine ⟨rfl, ?_⟩
      have mH : Same H6 (wo H8 (fun b => b = R)) := fun b o h => by
        rw [wo_in (X := fun b => b = R) (ne_of_none h hR)]
        exact s7 _ _ h
      obtain ⟨d, fd, gd⟩ := dpa_at ds xs (dpa_same mH _ _ ha6) i v hx
      obtain ⟨g1, a0, rfl⟩ := hg d (List.mem_of_getElem? fd)
      have ga := (genL_iff.mp g1).1
      cases gd with
      | @tup q0 us _ hq hu2 =>
      have lu := dpa_len2 hu2
      refine ⟨.ref q0, rfl, q0, us, rfl, .inr (sqt_same wo_same hq), fun c nc => ⟨rs, same_upd nc _ _ eR, small1000 (by omega), fun b o h => ?_, rs ++ [.ref c], ?_, upd_same, ?_, fun r hr3 => ?_⟩⟩
      · rw [upd_ne (ne_of_none h hR)]
        exact same_upd nc _ _ (s7 _ _ h)
      · rw [List.length_append, lr]
        rfl
      · have hcR : c ≠ R := fun z => by rw [z, eR] at nc; cases nc
        have m1 : Same (wo H8 (fun b => b = R)) (wo (upd H8 c (.lst us)) (fun b => b = R)) := wo_up nc
        have m2 : Same (wo (upd H8 c (.lst us)) (fun b => b = R)) (wo (upd (upd H8 c (.lst us)) R (.lst (rs ++ [.ref c]))) (fun b => b = R)) := wo_mut (X := fun b => b = R) rfl
        rw [row_more fd]
        exact dpa_snoc (dp_same m2 _ _ (.lst (.inl (.inl ((wo_in (X := fun b => b = R) hcR).trans upd_same))) (dpa_same m1 _ _ hu2))) _ _ (dpa_same (m1.trans m2) _ _ hr)
      · have hcR : c ≠ R := fun z => by rw [z, eR] at nc; cases nc
        rcases List.mem_append.mp hr3 with h | h
        · obtain ⟨c', us', e1, e2, e3, e4, e5⟩ := hm r h
          refine ⟨c', us', e1, ?_, e3, e4, e5⟩
          rw [upd_ne e4]
          exact same_upd nc _ _ e2
        · refine ⟨c, us, List.mem_singleton.mp h, ?_, by omega, hcR, (hp6.same s7).ne_new nc⟩
          rw [upd_ne hcR]
          exact upd_same
    rintro H7 ⟨s7, rs, lr, eR, hr, hm⟩
    rw [lx, List.take_length] at hr
    refine ⟨.ref e, rfl, e, ys, es, rfl, hse.same (wo_same.trans s7), dpa_same (wo_same.trans s7) _ _ hye, c3, by omega, fun H8 r1 s8 hr1 => ?_⟩
    rw [hdue] at hr1
    have ok := due_ok (ds := ds) (by omega)
    have tu8 : Tups H5 H8 := ((Tups.but hp5 b6).trans (Tups.of s7)).trans (Tups.of s8)
    have hu8 := dp_tups tu8 _ 3 _ ok hu
    refine ⟨fun σ H' => Same H8 H' ∧ ∃ y2 y9 y10 : Option V, σ = [some (.ref a), some (.ref p), y2, some (.ref t), some (atV ds), some (.ref u), some (.ref e), some (.ref R), some (.ref r1), y9, y10], ?_, ?_⟩
    · refine ⟨.ref r1, rfl, .ref u, rfl, _, _, dueD ds, rfl, hr1, hu8, ok, fun H9 s9 => ⟨_, rfl, iteF ?_⟩⟩
      have sq9 := hse.same (((wo_same.trans s7).trans s8).trans s9)
      refine hse.elim (fun hl2 => .inl ?_) (fun ht2 => .inr ?_)
      · have hl9 := ((((wo_same.trans s7).trans s8).trans s9)).seq hl2
        refine ⟨.ref e, rfl, e, rfl, ⟨ys, hl9⟩, fun D hD => lc_it (walk_list (xs := ys)) (fun i H' => Same H9 H' ∧ ∃ zs : List V, zs.length = i ∧ H' D = some (.lst zs) ∧ DpAll K (wo H' (fun b => b = D)) zs (((es.take i).map seqD).map lstS)) ⟨same_upd hD, [], rfl, upd_same, .nil⟩ (fun i H' _ h => h.1.seq hl9) ?_ ?_⟩
        · rintro i v H10 H11 hi ⟨s10, zs, lz, eD, hz⟩ ⟨rfl, hx⟩
          refine ⟨rfl, ?_⟩
          have mH : Same H6 (wo H11 (fun b => b = D)) := fun b o h => by
            have h9 := s9 _ _ (s8 _ _ (s7 _ _ h))
            rw [wo_in (X := fun b => b = D) (ne_of_none h9 hD)]
            exact s10 _ _ h9
          obtain ⟨d, fd, gd⟩ := dpa_at es ys (dpa_same (wo_same.trans mH) _ _ hye) i v hx
          obtain ⟨a0, hd0⟩ := sq_some hes hg d (List.mem_of_getElem? fd)
          obtain ⟨q0, us, rfl, hq, hu2⟩ := seq_dp gd hd0
          refine ⟨.ref q0, rfl, q0, us, rfl, hq.same wo_same, fun c nc => ⟨zs, same_upd nc _ _ eD, small1000 (by omega), fun b o h => ?_, zs ++ [.ref c], ?_, upd_same, ?_⟩⟩
          · rw [upd_ne (ne_of_none h hD)]
            exact same_upd nc _ _ (s10 _ _ h)
          · rw [List.length_append, lz]
            rfl
          · have hcD : c ≠ D := fun z => by rw [z, eD] at nc; cases nc
            have m1 : Same (wo H11 (fun b => b = D)) (wo (upd H11 c (.lst us)) (fun b => b = D)) := wo_up nc
            have m2 : Same (wo (upd H11 c (.lst us)) (fun b => b = D)) (wo (upd (upd H11 c (.lst us)) D (.lst (zs ++ [.ref c]))) (fun b => b = D)) := wo_mut (X := fun b => b = D) rfl
            rw [row_more fd, hd0]
            exact dpa_snoc (dp_same m2 _ _ (.lst (.inl (.inl ((wo_in (X := fun b => b = D) hcD).trans upd_same))) (dpa_same m1 _ _ hu2))) _ _ (dpa_same (m1.trans m2) _ _ hz)
        · rintro H10 ⟨s10, zs, lz, eD, hz⟩
          rw [ly, List.take_length, hes] at hz
          refine ⟨.ref R, rfl, .list ((ds.map seqD).map lstS), .list ((ds.map seqD).map lstS), .lst (.inl (.inl eD)) (dpa_same wo_same _ _ hz), .lst (.inl (.inl (s10 _ _ (s9 _ _ (s8 _ _ eR))))) (dpa_same (((wo_same.trans s8).trans s9).trans s10) _ _ hr), rows_shaped hg, rows_shaped hg, _, rfl, iteNE rfl (rows_shaped hg) ⟨s9.trans s10, _, _, _, rfl⟩⟩
      · have ht9 := sqt_same ((((wo_same.trans s7).trans s8).trans s9)) ht2
        refine ⟨.ref e, rfl, e, rfl, ⟨ys, ht9⟩, fun D hD => lc_it (walk_tup (xs := ys)) (fun i H' => Same H9 H' ∧ ∃ zs : List V, zs.length = i ∧ H' D = some (.lst zs) ∧ DpAll K (wo H' (fun b => b = D)) zs (((es.take i).map seqD).map lstS)) ⟨same_upd hD, [], rfl, upd_same, .nil⟩ (fun i H' _ h => sqt_same h.1 ht9) ?_ ?_⟩
        · rintro i v H10 H11 hi ⟨s10, zs, lz, eD, hz⟩ ⟨rfl, hx⟩
          refine ⟨rfl, ?_⟩
          have mH : Same H6 (wo H11 (fun b => b = D)) := fun b o h => by
            have h9 := s9 _ _ (s8 _ _ (s7 _ _ h))
            rw [wo_in (X := fun b => b = D) (ne_of_none h9 hD)]
            exact s10 _ _ h9
          obtain ⟨d, fd, gd⟩ := dpa_at es ys (dpa_same (wo_same.trans mH) _ _ hye) i v hx
          obtain ⟨a0, hd0⟩ := sq_some hes hg d (List.mem_of_getElem? fd)
          obtain ⟨q0, us, rfl, hq, hu2⟩ := seq_dp gd hd0
          refine ⟨.ref q0, rfl, q0, us, rfl, hq.same wo_same, fun c nc => ⟨zs, same_upd nc _ _ eD, small1000 (by omega), fun b o h => ?_, zs ++ [.ref c], ?_, upd_same, ?_⟩⟩
          · rw [upd_ne (ne_of_none h hD)]
            exact same_upd nc _ _ (s10 _ _ h)
          · rw [List.length_append, lz]
            rfl
          · have hcD : c ≠ D := fun z => by rw [z, eD] at nc; cases nc
            have m1 : Same (wo H11 (fun b => b = D)) (wo (upd H11 c (.lst us)) (fun b => b = D)) := wo_up nc
            have m2 : Same (wo (upd H11 c (.lst us)) (fun b => b = D)) (wo (upd (upd H11 c (.lst us)) D (.lst (zs ++ [.ref c]))) (fun b => b = D)) := wo_mut (X := fun b => b = D) rfl
            rw [row_more fd, hd0]
            exact dpa_snoc (dp_same m2 _ _ (.lst (.inl (.inl ((wo_in (X := fun b => b = D) hcD).trans upd_same))) (dpa_same m1 _ _ hu2))) _ _ (dpa_same (m1.trans m2) _ _ hz)
        · rintro H10 ⟨s10, zs, lz, eD, hz⟩
          rw [ly, List.take_length, hes] at hz
          refine ⟨.ref R, rfl, .list ((ds.map seqD).map lstS), .list ((ds.map seqD).map lstS), .lst (.inl (.inl eD)) (dpa_same wo_same _ _ hz), .lst (.inl (.inl (s10 _ _ (s9 _ _ (s8 _ _ eR))))) (dpa_same (((wo_same.trans s8).trans s9).trans s10) _ _ hr), rows_shaped hg, rows_shaped hg, _, rfl, iteNE rfl (rows_shaped hg) ⟨s9.trans s10, _, _, _, rfl⟩⟩
    rintro σ H9 ⟨s9, y2, y9, y10, rfl⟩
    have s79 := s8.trans s9
    have s69 := s7.trans s79
    have lrow : ((ds.map seqD).map lstS).length = ds.length := by rw [List.length_map, List.length_map]
    have hsl := seq_lst ds hg
    refine ⟨fun σ H' => Same H9 H' ∧ ∃ y2 y9 y10 : Option V, σ = [some (.ref a), some (.ref p), y2, some (.ref t), some (atV ds), some (.ref u), some (.ref e), some (.ref R), some (.ref r1), y9, y10], ?_, ?_⟩
    · cases hb : badAt false 0 ds with
      | some i =>
        refine ⟨_, rfl, rfl, _, rfl, ?_⟩
        rw [at_some hb]
        exact iteF (ite2 (fun z => nomatch z) (fun _ => ⟨Same.refl _, _, _, _, rfl⟩))
      | none =>
        refine ⟨_, rfl, rfl, _, rfl, ?_⟩
        rw [at_none hb]
        refine iteT ?_
        refine ⟨.ref e, rfl, e, ys, es, rfl, hse.same (wo_same.trans s69), dpa_same (wo_same.trans s69) _ _ hye, ent_cong hes hg hb, by omega, fun Ha sa => ?_⟩
        refine ⟨.ref R, rfl, R, rs, (ds.map seqD).map lstS, rfl, .inl (.inl (.inl (sa _ _ (s79 _ _ eR)))), dpa_same ((wo_same.trans s79).trans sa) _ _ hr, ent_cong hsl hg hb, by omega, fun Hb sb => ?_⟩
        refine ⟨by show 2 ≤ sizeLine; decide, fun t1 n1 => ?_⟩
        have st1 := same_upd (o := .tup [.int (1 + (legN (es.map seqD) : Int)), .int (1 + (legN (((ds.map seqD).map lstS).map seqD) : Int))]) n1
        have sab := (s69.trans sa).trans sb
        refine ⟨.ref t, rfl, t, xs, ds, rfl, .inr (sqt_same (sab.trans st1) hs6), dpa_same (sab.trans st1) _ _ ha6, ent_cong rfl hg hb, by omega, fun Hc sc => ?_⟩
        refine ⟨by show 1 ≤ sizeLine; decide, fun t2 n2 => ⟨t2, 2, _, rfl, rfl, .inl (.inl upd_same), (fun z => nomatch z), by decide, by decide, by show 1 ≤ 1000; decide, fun t3 n3 => ?_⟩⟩
        have st2 := (sc.trans (same_upd (o := .tup [.int (1 + (legN (ds.map seqD) : Int))]) n2)).trans (same_upd (o := .tup [.int (1 + (legN (ds.map seqD) : Int)), .int (1 + (legN (ds.map seqD) : Int))]) n3)
        refine ⟨_, _, .tuple [.int (1 + (legN (ds.map seqD) : Int)), .int (1 + (legN (ds.map seqD) : Int))], rfl, .tup (.inl (.inl (st2 _ _ upd_same))) (.cons (by rw [hes]; exact .int _) (.cons (by rw [hsl]; exact .int _) .nil)), .tup (.inl (.inl upd_same)) (.cons (.int _) (.cons (.int _) .nil)), rfl, fun Hd sd => ⟨_, rfl, ?_⟩⟩
        exact iteF ⟨((((sa.trans sb).trans st1).trans st2)).trans sd, _, _, _, rfl⟩
    rintro σ H10 ⟨s10, y2, y9, y10, rfl⟩
    have s7x := s79.trans s10
    obtain ⟨_, _, d3, d4⟩ := cong ds _ hsl hg
    refine ⟨.ref R, rfl, R, rs, (ds.map seqD).map lstS, rfl, .inl (.inl (.inl (s7x _ _ eR))), dpa_same (wo_same.trans s7x) _ _ hr, d3, by omega, fun H11 r2 s11 hr2 => ?_⟩
    rw [due_cong hsl hg] at hr2
    have s7y := s7x.trans s11
    have hpB := (hp6.same s7).same s7y
    refine ⟨.ref R, rfl, R, rfl, ⟨rs, .inl (.inl (s7y _ _ eR))⟩, for_it (walk_list (xs := rs)) (fun i σ H' => Tups H11 H' ∧ Pool H' p ∧ H' R = some (.lst rs) ∧ (∀ r ∈ rs, ∃ c us, r = .ref c ∧ H' c = some (.lst us) ∧ us.length ≤ 10 + i ∧ c ≠ R ∧ c ≠ p) ∧ ∃ y2 y9 y10 : Option V, σ = [some (.ref a), some (.ref p), y2, some (.ref t), some (atV ds), some (.ref u), some (.ref e), some (.ref R), some (.ref r2), y9, y10]) ⟨fun _ _ _ h => h, hpB, s7y _ _ eR, (fun r h => ?_), _, _, _, rfl⟩ (fun i σ H' _ h => .inl (.inl h.2.2.1)) ?_ ?_⟩
    · obtain ⟨c, us, e1, e2, e3, e4, e5⟩ := hm r h
      exact ⟨c, us, e1, s7y _ _ e2, by omega, e4, e5⟩
    · rintro i v σ Ha Hb hi ⟨tu, hpa, eRa, hma, y2, y9, y10, rfl⟩ ⟨rfl, hv⟩
      obtain ⟨c, us, rfl, ec, lc, ncR, ncp⟩ := hma v (List.mem_of_getElem? hv)
      refine ⟨.ref c, rfl, .inl ⟨rfl, _, .inl (.inl ec)⟩, c, us, _, rfl, rfl, ec, small1000 (by omega), tu.trans (Tups.mut ec), hpa.upd ncp, ?_, (fun r h => ?_), _, _, _, rfl⟩
      · rw [upd_ne (Ne.symm ncR)]
        exact eRa
      · obtain ⟨c', us', e1, e2, e3, e4, e5⟩ := hma r h
        by_cases ecc : c' = c
        · subst ecc
          refine ⟨c', _, e1, upd_same, ?_, e4, e5⟩
          rw [List.length_append]
          show us.length + 1 ≤ 10 + (i + 1)
          omega
        · refine ⟨c', us', e1, ?_, by omega, e4, e5⟩
          rw [upd_ne ecc]
          exact e2
    rintro σ Ha ⟨tu, hpa, eRa, hma, y2, y9, y10, rfl⟩
    refine ⟨.ref R, rfl, .inl ⟨rfl, _, .inl (.inl eRa)⟩, R, rs, rfl, rfl, eRa, ?_⟩
    have tuA := tu.trans (Tups.mut (o := .lst []) eRa)
    have hpZ := hpa.upd (q := R) (o := .lst []) ((hp6).ne_new hR)
    have hrZ := dp_tups tuA _ 3 _ ok hr2
    have tu5 : Tups H8 H11 := Tups.of ((s9.trans s10).trans s11)
    have huZ := dp_tups ((tu5).trans tuA) _ 3 _ ok hu8
    refine ⟨.ref r2, rfl, .ref u, rfl, _, _, dueD ds, rfl, hrZ, huZ, ok, fun Hb sb => ⟨_, rfl, iteF ?_⟩⟩
    cases hb : badAt false 0 ds with
    | some i =>
      refine ⟨_, rfl, rfl, _, rfl, ?_⟩
      rw [at_some hb]
      exact iteF (ite2 (fun z => nomatch z) (fun _ => ⟨hpZ.same sb, _, _, _, _, _, _, _, _, _, rfl⟩))
    | none =>
      refine ⟨_, rfl, rfl, _, rfl, ?_⟩
      rw [at_none hb]
      refine iteT ?_
      have hall : (ds.all fun d => okD 1 d) = true := List.all_eq_true.mpr fun d h => by
        have h2 := ent_flat (bad_none ds _ _ hb d h)
        obtain ⟨_, a0, rfl⟩ := hg d h
        exact h2
      rw [due_log hg hb] at hrZ
      cases hrZ with
      | @tup _ zs _ hz1 hz2 =>
      obtain ⟨w1, w2, rfl⟩ := len2 zs (dpa_len2 hz2)
      obtain ⟨_, f2, g2⟩ := dpa_at _ _ hz2 1 w2 rfl
      cases f2
      cases g2 with
      | @tup q1 vs1 _ hv1 hv2 =>
      refine ⟨.ref r2, rfl, ixA (j := 1) (.inr (sqt_same sb hz1)) rfl ⟨q1, vs1, ds, rfl, .inr (sqt_same sb hv1), dpa_same sb _ _ hv2, ent_cong rfl hg hb, by omega, fun Hc sc => ?_⟩⟩
      have tuT : Tups H6 Hc := (((Tups.of (s7.trans s7y)).trans tuA).trans (Tups.of sb)).trans (Tups.of sc)
      refine ⟨.ref t, rfl, t, xs, ds, rfl, .inr (tups_t tuT hs6), dpa_tups tuT ds 1 _ hall ha6, ent_cong rfl hg hb, by omega, fun Hd sd => ?_⟩
      exact ⟨_, _, .int (1 + (legN (ds.map seqD) : Int)), rfl, .int _, .int _, rfl, fun He se => ⟨_, rfl, iteF ⟨((hpZ.same sb).same sc).same sd |>.same se, _, _, _, _, _, _, _, _, _, rfl⟩⟩⟩
end
theorem all_mk {l : PySem.W.OpenLaw} {w : World} {K : PySem.W.Frag} {h : Heap} {mg : Str → Option Value} {fa : Addr} (X : K.In h) (G : h.Ns mainGlobals mg) (hfa : mg "law" = some (.ref fa))
    {f_is_whole : Addr} {od_is_whole an_is_whole : Option Addr} {sl_is_whole : Array (Option Value)} {oc_is_whole kV_is_whole dc_is_whole pm_is_whole cd_is_whole ct_is_whole : Value}
    {f_is_row : Addr} {od_is_row an_is_row : Option Addr} {sl_is_row : Array (Option Value)} {oc_is_row kV_is_row dc_is_row pm_is_row cd_is_row ct_is_row : Value}
    {f_laid_out : Addr} {od_laid_out an_laid_out : Option Addr} {sl_laid_out : Array (Option Value)} {oc_laid_out kV_laid_out dc_laid_out pm_laid_out cd_laid_out ct_laid_out : Value}
    {f_kept : Addr} {od_kept an_kept : Option Addr} {sl_kept : Array (Option Value)} {oc_kept kV_kept dc_kept pm_kept cd_kept ct_kept : Value}
    {f_is_letter : Addr} {od_is_letter an_is_letter : Option Addr} {sl_is_letter : Array (Option Value)} {oc_is_letter kV_is_letter dc_is_letter pm_is_letter cd_is_letter ct_is_letter : Value}
    {f_is_short_text : Addr} {od_is_short_text an_is_short_text : Option Addr} {sl_is_short_text : Array (Option Value)} {oc_is_short_text kV_is_short_text dc_is_short_text pm_is_short_text cd_is_short_text ct_is_short_text : Value}
    {f_are_small : Addr} {od_are_small an_are_small : Option Addr} {sl_are_small : Array (Option Value)} {oc_are_small kV_are_small dc_are_small pm_are_small cd_are_small ct_are_small : Value}
    {f_is_name : Addr} {od_is_name an_is_name : Option Addr} {sl_is_name : Array (Option Value)} {oc_is_name kV_is_name dc_is_name pm_is_name cd_is_name ct_is_name : Value}
    {f_is_lone : Addr} {od_is_lone an_is_lone : Option Addr} {sl_is_lone : Array (Option Value)} {oc_is_lone kV_is_lone dc_is_lone pm_is_lone cd_is_lone ct_is_lone : Value}
    {f_is_sign : Addr} {od_is_sign an_is_sign : Option Addr} {sl_is_sign : Array (Option Value)} {oc_is_sign kV_is_sign dc_is_sign pm_is_sign cd_is_sign ct_is_sign : Value}
    {f_is_many : Addr} {od_is_many an_is_many : Option Addr} {sl_is_many : Array (Option Value)} {oc_is_many kV_is_many dc_is_many pm_is_many cd_is_many ct_is_many : Value}
    {f_is_pair_entry : Addr} {od_is_pair_entry an_is_pair_entry : Option Addr} {sl_is_pair_entry : Array (Option Value)} {oc_is_pair_entry kV_is_pair_entry dc_is_pair_entry pm_is_pair_entry cd_is_pair_entry ct_is_pair_entry : Value}
    {f_is_entry : Addr} {od_is_entry an_is_entry : Option Addr} {sl_is_entry : Array (Option Value)} {oc_is_entry kV_is_entry dc_is_entry pm_is_entry cd_is_entry ct_is_entry : Value}
    {f_held_log : Addr} {od_held_log an_held_log : Option Addr} {sl_held_log : Array (Option Value)} {oc_held_log kV_held_log dc_held_log pm_held_log cd_held_log ct_held_log : Value}
    {f_legs_in : Addr} {od_legs_in an_legs_in : Option Addr} {sl_legs_in : Array (Option Value)} {oc_legs_in kV_legs_in dc_legs_in pm_legs_in cd_legs_in ct_legs_in : Value}
    {f_Lany_entry : Addr} {od_Lany_entry an_Lany_entry : Option Addr} {sl_Lany_entry : Array (Option Value)} {oc_Lany_entry kV_Lany_entry dc_Lany_entry pm_Lany_entry cd_Lany_entry ct_Lany_entry : Value}
    {f_Lany_log : Addr} {od_Lany_log an_Lany_log : Option Addr} {sl_Lany_log : Array (Option Value)} {oc_Lany_log kV_Lany_log dc_Lany_log pm_Lany_log cd_Lany_log ct_Lany_log : Value}
    {f_Lis_name : Addr} {od_Lis_name an_Lis_name : Option Addr} {sl_Lis_name : Array (Option Value)} {oc_Lis_name kV_Lis_name dc_Lis_name pm_Lis_name cd_Lis_name ct_Lis_name : Value}
    {f_Lis_sign : Addr} {od_Lis_sign an_Lis_sign : Option Addr} {sl_Lis_sign : Array (Option Value)} {oc_Lis_sign kV_Lis_sign dc_Lis_sign pm_Lis_sign cd_Lis_sign ct_Lis_sign : Value}
    {f_Lis_many : Addr} {od_Lis_many an_Lis_many : Option Addr} {sl_Lis_many : Array (Option Value)} {oc_Lis_many kV_Lis_many dc_Lis_many pm_Lis_many cd_Lis_many ct_Lis_many : Value}
    {f_Lis_entry : Addr} {od_Lis_entry an_Lis_entry : Option Addr} {sl_Lis_entry : Array (Option Value)} {oc_Lis_entry kV_Lis_entry dc_Lis_entry pm_Lis_entry cd_Lis_entry ct_Lis_entry : Value}
    {f_Lbad_at : Addr} {od_Lbad_at an_Lbad_at : Option Addr} {sl_Lbad_at : Array (Option Value)} {oc_Lbad_at kV_Lbad_at dc_Lbad_at pm_Lbad_at cd_Lbad_at ct_Lbad_at : Value}
    {f_Llisted : Addr} {od_Llisted an_Llisted : Option Addr} {sl_Llisted : Array (Option Value)} {oc_Llisted kV_Llisted dc_Llisted pm_Llisted cd_Llisted ct_Llisted : Value}
    {f_Lown : Addr} {od_Lown an_Lown : Option Addr} {sl_Lown : Array (Option Value)} {oc_Lown kV_Lown dc_Lown pm_Lown cd_Lown ct_Lown : Value}
    {f_Lpool : Addr} {od_Lpool an_Lpool : Option Addr} {sl_Lpool : Array (Option Value)} {oc_Lpool kV_Lpool dc_Lpool pm_Lpool cd_Lpool ct_Lpool : Value}
    {f_Ltake : Addr} {od_Ltake an_Ltake : Option Addr} {sl_Ltake : Array (Option Value)} {oc_Ltake kV_Ltake dc_Ltake pm_Ltake cd_Ltake ct_Ltake : Value}
    {f_Lwhole : Addr} {od_Lwhole an_Lwhole : Option Addr} {sl_Lwhole : Array (Option Value)} {oc_Lwhole kV_Lwhole dc_Lwhole pm_Lwhole cd_Lwhole ct_Lwhole : Value}
    {f_Lsame : Addr} {od_Lsame an_Lsame : Option Addr} {sl_Lsame : Array (Option Value)} {oc_Lsame kV_Lsame dc_Lsame pm_Lsame cd_Lsame ct_Lsame : Value}
    {f_Lname : Addr} {od_Lname an_Lname : Option Addr} {sl_Lname : Array (Option Value)} {oc_Lname kV_Lname dc_Lname pm_Lname cd_Lname ct_Lname : Value}
    {f_Lsign : Addr} {od_Lsign an_Lsign : Option Addr} {sl_Lsign : Array (Option Value)} {oc_Lsign kV_Lsign dc_Lsign pm_Lsign cd_Lsign ct_Lsign : Value}
    {f_Llegs : Addr} {od_Llegs an_Llegs : Option Addr} {sl_Llegs : Array (Option Value)} {oc_Llegs kV_Llegs dc_Llegs pm_Llegs cd_Llegs ct_Llegs : Value}
    {f_Lentries : Addr} {od_Lentries an_Lentries : Option Addr} {sl_Lentries : Array (Option Value)} {oc_Lentries kV_Lentries dc_Lentries pm_Lentries cd_Lentries ct_Lentries : Value}
    {f_Lheld : Addr} {od_Lheld an_Lheld : Option Addr} {sl_Lheld : Array (Option Value)} {oc_Lheld kV_Lheld dc_Lheld pm_Lheld cd_Lheld ct_Lheld : Value}
    {f_law : Addr} {od_law an_law : Option Addr} {sl_law : Array (Option Value)} {oc_law kV_law dc_law pm_law cd_law ct_law : Value}
    {f_STEPS : Addr}
    {es_STEPS : Array DictEntry} {n_STEPS : Nat}
    
    
    
    {q_STEPS_0 : Addr}
    {dd_STEPS_0 : Option Addr} {sl_STEPS_0 : Array (Option Value)} {nn_STEPS_0 : Nat} {tk_STEPS_0_0 : Tok} {tk_STEPS_0_1 : Tok}
    {q_STEPS_1 : Addr}
    {dd_STEPS_1 : Option Addr} {sl_STEPS_1 : Array (Option Value)} {nn_STEPS_1 : Nat} {tk_STEPS_1_0 : Tok} {tk_STEPS_1_1 : Tok}
    {q_STEPS_2 : Addr}
    {dd_STEPS_2 : Option Addr} {sl_STEPS_2 : Array (Option Value)} {nn_STEPS_2 : Nat} {tk_STEPS_2_0 : Tok} {tk_STEPS_2_1 : Tok}
    {q_STEPS_3 : Addr}
    {dd_STEPS_3 : Option Addr} {sl_STEPS_3 : Array (Option Value)} {nn_STEPS_3 : Nat} {tk_STEPS_3_0 : Tok} {tk_STEPS_3_1 : Tok}
    {t_SMALL : Tok}
    {t_GREAT : Tok}
    {t_LONGEST : Tok}
    {f_WORDS_ALONE : Addr}
    {dd_WORDS_ALONE : Option Addr} {sl_WORDS_ALONE : Array (Option Value)} {nn_WORDS_ALONE : Nat} {tk_WORDS_ALONE_0 : Tok} {tk_WORDS_ALONE_1 : Tok} {tk_WORDS_ALONE_2 : Tok} {tk_WORDS_ALONE_3 : Tok} {tk_WORDS_ALONE_4 : Tok} {tk_WORDS_ALONE_5 : Tok}
    {f_WORDS_BEHIND_A_FACE : Addr}
    {dd_WORDS_BEHIND_A_FACE : Option Addr} {sl_WORDS_BEHIND_A_FACE : Array (Option Value)} {nn_WORDS_BEHIND_A_FACE : Nat} {tk_WORDS_BEHIND_A_FACE_0 : Tok} {tk_WORDS_BEHIND_A_FACE_1 : Tok} {tk_WORDS_BEHIND_A_FACE_2 : Tok} {tk_WORDS_BEHIND_A_FACE_3 : Tok} {tk_WORDS_BEHIND_A_FACE_4 : Tok} {tk_WORDS_BEHIND_A_FACE_5 : Tok}
    {f_NoLot : Addr}
    {f_BadLog : Addr}
    {f_NoDealing : Addr}
    {f_BadBox : Addr}
    {f_NoName : Addr}
    {f_Twice : Addr}
    {f_NoWalker : Addr}
    {f_NeedleError : Addr}
    {nm_D qn_D : Str} {ns_D : Addr} {bs_D bm_D : List Value} {sn_D : List Str} {sub_D : List Value} {ab_D : Bool} {col_D : Option Bool} {dd_D : Option Addr} {m0_D m1_D m2_D m3_D m5_D : Option Value}
    {f_init : Addr} {od_init an_init : Option Addr} {sl_init : Array (Option Value)} {oc_init kV_init dc_init pm_init cd_init ct_init : Value}
    (A_is_whole : PySem.W.nsIn K mainGlobals "is_whole" = some (some (.ref f_is_whole))) (L_is_whole : K.lookup f_is_whole = some ⟨oc_is_whole, od_is_whole, .func (PySem.W.fnOf "is_whole" "is_whole" (defArgs s_is_whole) (defBody s_is_whole) (defScope s_is_whole) .none kV_is_whole dc_is_whole pm_is_whole an_is_whole cd_is_whole ct_is_whole), sl_is_whole⟩) (C_is_whole : PySem.W.codeIn K cd_is_whole "is_whole" = true) (K_is_whole : PySem.W.keepIn K (.ref f_is_whole) = true)
    (A_is_row : PySem.W.nsIn K mainGlobals "is_row" = some (some (.ref f_is_row))) (L_is_row : K.lookup f_is_row = some ⟨oc_is_row, od_is_row, .func (PySem.W.fnOf "is_row" "is_row" (defArgs s_is_row) (defBody s_is_row) (defScope s_is_row) .none kV_is_row dc_is_row pm_is_row an_is_row cd_is_row ct_is_row), sl_is_row⟩) (C_is_row : PySem.W.codeIn K cd_is_row "is_row" = true) (K_is_row : PySem.W.keepIn K (.ref f_is_row) = true)
    (A_laid_out : PySem.W.nsIn K mainGlobals "laid_out" = some (some (.ref f_laid_out))) (L_laid_out : K.lookup f_laid_out = some ⟨oc_laid_out, od_laid_out, .func (PySem.W.fnOf "laid_out" "laid_out" (defArgs s_laid_out) (defBody s_laid_out) (defScope s_laid_out) .none kV_laid_out dc_laid_out pm_laid_out an_laid_out cd_laid_out ct_laid_out), sl_laid_out⟩) (C_laid_out : PySem.W.codeIn K cd_laid_out "laid_out" = true) (K_laid_out : PySem.W.keepIn K (.ref f_laid_out) = true)
    (A_kept : PySem.W.nsIn K mainGlobals "kept" = some (some (.ref f_kept))) (L_kept : K.lookup f_kept = some ⟨oc_kept, od_kept, .func (PySem.W.fnOf "kept" "kept" (defArgs s_kept) (defBody s_kept) (defScope s_kept) .none kV_kept dc_kept pm_kept an_kept cd_kept ct_kept), sl_kept⟩) (C_kept : PySem.W.codeIn K cd_kept "kept" = true) (K_kept : PySem.W.keepIn K (.ref f_kept) = true)
    (A_is_letter : PySem.W.nsIn K mainGlobals "is_letter" = some (some (.ref f_is_letter))) (L_is_letter : K.lookup f_is_letter = some ⟨oc_is_letter, od_is_letter, .func (PySem.W.fnOf "is_letter" "is_letter" (defArgs s_is_letter) (defBody s_is_letter) (defScope s_is_letter) .none kV_is_letter dc_is_letter pm_is_letter an_is_letter cd_is_letter ct_is_letter), sl_is_letter⟩) (C_is_letter : PySem.W.codeIn K cd_is_letter "is_letter" = true) (K_is_letter : PySem.W.keepIn K (.ref f_is_letter) = true)
    (A_is_short_text : PySem.W.nsIn K mainGlobals "is_short_text" = some (some (.ref f_is_short_text))) (L_is_short_text : K.lookup f_is_short_text = some ⟨oc_is_short_text, od_is_short_text, .func (PySem.W.fnOf "is_short_text" "is_short_text" (defArgs s_is_short_text) (defBody s_is_short_text) (defScope s_is_short_text) .none kV_is_short_text dc_is_short_text pm_is_short_text an_is_short_text cd_is_short_text ct_is_short_text), sl_is_short_text⟩) (C_is_short_text : PySem.W.codeIn K cd_is_short_text "is_short_text" = true) (K_is_short_text : PySem.W.keepIn K (.ref f_is_short_text) = true)
    (A_are_small : PySem.W.nsIn K mainGlobals "are_small" = some (some (.ref f_are_small))) (L_are_small : K.lookup f_are_small = some ⟨oc_are_small, od_are_small, .func (PySem.W.fnOf "are_small" "are_small" (defArgs s_are_small) (defBody s_are_small) (defScope s_are_small) .none kV_are_small dc_are_small pm_are_small an_are_small cd_are_small ct_are_small), sl_are_small⟩) (C_are_small : PySem.W.codeIn K cd_are_small "are_small" = true) (K_are_small : PySem.W.keepIn K (.ref f_are_small) = true)
    (A_is_name : PySem.W.nsIn K mainGlobals "is_name" = some (some (.ref f_is_name))) (L_is_name : K.lookup f_is_name = some ⟨oc_is_name, od_is_name, .func (PySem.W.fnOf "is_name" "is_name" (defArgs s_is_name) (defBody s_is_name) (defScope s_is_name) .none kV_is_name dc_is_name pm_is_name an_is_name cd_is_name ct_is_name), sl_is_name⟩) (C_is_name : PySem.W.codeIn K cd_is_name "is_name" = true) (K_is_name : PySem.W.keepIn K (.ref f_is_name) = true)
    (A_is_lone : PySem.W.nsIn K mainGlobals "is_lone" = some (some (.ref f_is_lone))) (L_is_lone : K.lookup f_is_lone = some ⟨oc_is_lone, od_is_lone, .func (PySem.W.fnOf "is_lone" "is_lone" (defArgs s_is_lone) (defBody s_is_lone) (defScope s_is_lone) .none kV_is_lone dc_is_lone pm_is_lone an_is_lone cd_is_lone ct_is_lone), sl_is_lone⟩) (C_is_lone : PySem.W.codeIn K cd_is_lone "is_lone" = true) (K_is_lone : PySem.W.keepIn K (.ref f_is_lone) = true)
    (A_is_sign : PySem.W.nsIn K mainGlobals "is_sign" = some (some (.ref f_is_sign))) (L_is_sign : K.lookup f_is_sign = some ⟨oc_is_sign, od_is_sign, .func (PySem.W.fnOf "is_sign" "is_sign" (defArgs s_is_sign) (defBody s_is_sign) (defScope s_is_sign) .none kV_is_sign dc_is_sign pm_is_sign an_is_sign cd_is_sign ct_is_sign), sl_is_sign⟩) (C_is_sign : PySem.W.codeIn K cd_is_sign "is_sign" = true) (K_is_sign : PySem.W.keepIn K (.ref f_is_sign) = true)
    (A_is_many : PySem.W.nsIn K mainGlobals "is_many" = some (some (.ref f_is_many))) (L_is_many : K.lookup f_is_many = some ⟨oc_is_many, od_is_many, .func (PySem.W.fnOf "is_many" "is_many" (defArgs s_is_many) (defBody s_is_many) (defScope s_is_many) .none kV_is_many dc_is_many pm_is_many an_is_many cd_is_many ct_is_many), sl_is_many⟩) (C_is_many : PySem.W.codeIn K cd_is_many "is_many" = true) (K_is_many : PySem.W.keepIn K (.ref f_is_many) = true)
    (A_is_pair_entry : PySem.W.nsIn K mainGlobals "is_pair_entry" = some (some (.ref f_is_pair_entry))) (L_is_pair_entry : K.lookup f_is_pair_entry = some ⟨oc_is_pair_entry, od_is_pair_entry, .func (PySem.W.fnOf "is_pair_entry" "is_pair_entry" (defArgs s_is_pair_entry) (defBody s_is_pair_entry) (defScope s_is_pair_entry) .none kV_is_pair_entry dc_is_pair_entry pm_is_pair_entry an_is_pair_entry cd_is_pair_entry ct_is_pair_entry), sl_is_pair_entry⟩) (C_is_pair_entry : PySem.W.codeIn K cd_is_pair_entry "is_pair_entry" = true) (K_is_pair_entry : PySem.W.keepIn K (.ref f_is_pair_entry) = true)
    (A_is_entry : PySem.W.nsIn K mainGlobals "is_entry" = some (some (.ref f_is_entry))) (L_is_entry : K.lookup f_is_entry = some ⟨oc_is_entry, od_is_entry, .func (PySem.W.fnOf "is_entry" "is_entry" (defArgs s_is_entry) (defBody s_is_entry) (defScope s_is_entry) .none kV_is_entry dc_is_entry pm_is_entry an_is_entry cd_is_entry ct_is_entry), sl_is_entry⟩) (C_is_entry : PySem.W.codeIn K cd_is_entry "is_entry" = true) (K_is_entry : PySem.W.keepIn K (.ref f_is_entry) = true)
    (A_held_log : PySem.W.nsIn K mainGlobals "held_log" = some (some (.ref f_held_log))) (L_held_log : K.lookup f_held_log = some ⟨oc_held_log, od_held_log, .func (PySem.W.fnOf "held_log" "held_log" (defArgs s_held_log) (defBody s_held_log) (defScope s_held_log) .none kV_held_log dc_held_log pm_held_log an_held_log cd_held_log ct_held_log), sl_held_log⟩) (C_held_log : PySem.W.codeIn K cd_held_log "held_log" = true) (K_held_log : PySem.W.keepIn K (.ref f_held_log) = true)
    (A_legs_in : PySem.W.nsIn K mainGlobals "legs_in" = some (some (.ref f_legs_in))) (L_legs_in : K.lookup f_legs_in = some ⟨oc_legs_in, od_legs_in, .func (PySem.W.fnOf "legs_in" "legs_in" (defArgs s_legs_in) (defBody s_legs_in) (defScope s_legs_in) .none kV_legs_in dc_legs_in pm_legs_in an_legs_in cd_legs_in ct_legs_in), sl_legs_in⟩) (C_legs_in : PySem.W.codeIn K cd_legs_in "legs_in" = true) (K_legs_in : PySem.W.keepIn K (.ref f_legs_in) = true)
    (A_Lany_entry : PySem.W.nsIn K mainGlobals "_law_any_entry" = some (some (.ref f_Lany_entry))) (L_Lany_entry : K.lookup f_Lany_entry = some ⟨oc_Lany_entry, od_Lany_entry, .func (PySem.W.fnOf "_law_any_entry" "_law_any_entry" (defArgs s_Lany_entry) (defBody s_Lany_entry) (defScope s_Lany_entry) .none kV_Lany_entry dc_Lany_entry pm_Lany_entry an_Lany_entry cd_Lany_entry ct_Lany_entry), sl_Lany_entry⟩) (C_Lany_entry : PySem.W.codeIn K cd_Lany_entry "_law_any_entry" = true) (K_Lany_entry : PySem.W.keepIn K (.ref f_Lany_entry) = true)
    (A_Lany_log : PySem.W.nsIn K mainGlobals "_law_any_log" = some (some (.ref f_Lany_log))) (L_Lany_log : K.lookup f_Lany_log = some ⟨oc_Lany_log, od_Lany_log, .func (PySem.W.fnOf "_law_any_log" "_law_any_log" (defArgs s_Lany_log) (defBody s_Lany_log) (defScope s_Lany_log) .none kV_Lany_log dc_Lany_log pm_Lany_log an_Lany_log cd_Lany_log ct_Lany_log), sl_Lany_log⟩) (C_Lany_log : PySem.W.codeIn K cd_Lany_log "_law_any_log" = true) (K_Lany_log : PySem.W.keepIn K (.ref f_Lany_log) = true)
    (A_Lis_name : PySem.W.nsIn K mainGlobals "_law_is_name" = some (some (.ref f_Lis_name))) (L_Lis_name : K.lookup f_Lis_name = some ⟨oc_Lis_name, od_Lis_name, .func (PySem.W.fnOf "_law_is_name" "_law_is_name" (defArgs s_Lis_name) (defBody s_Lis_name) (defScope s_Lis_name) .none kV_Lis_name dc_Lis_name pm_Lis_name an_Lis_name cd_Lis_name ct_Lis_name), sl_Lis_name⟩) (C_Lis_name : PySem.W.codeIn K cd_Lis_name "_law_is_name" = true) (K_Lis_name : PySem.W.keepIn K (.ref f_Lis_name) = true)
    (A_Lis_sign : PySem.W.nsIn K mainGlobals "_law_is_sign" = some (some (.ref f_Lis_sign))) (L_Lis_sign : K.lookup f_Lis_sign = some ⟨oc_Lis_sign, od_Lis_sign, .func (PySem.W.fnOf "_law_is_sign" "_law_is_sign" (defArgs s_Lis_sign) (defBody s_Lis_sign) (defScope s_Lis_sign) .none kV_Lis_sign dc_Lis_sign pm_Lis_sign an_Lis_sign cd_Lis_sign ct_Lis_sign), sl_Lis_sign⟩) (C_Lis_sign : PySem.W.codeIn K cd_Lis_sign "_law_is_sign" = true) (K_Lis_sign : PySem.W.keepIn K (.ref f_Lis_sign) = true)
    (A_Lis_many : PySem.W.nsIn K mainGlobals "_law_is_many" = some (some (.ref f_Lis_many))) (L_Lis_many : K.lookup f_Lis_many = some ⟨oc_Lis_many, od_Lis_many, .func (PySem.W.fnOf "_law_is_many" "_law_is_many" (defArgs s_Lis_many) (defBody s_Lis_many) (defScope s_Lis_many) .none kV_Lis_many dc_Lis_many pm_Lis_many an_Lis_many cd_Lis_many ct_Lis_many), sl_Lis_many⟩) (C_Lis_many : PySem.W.codeIn K cd_Lis_many "_law_is_many" = true) (K_Lis_many : PySem.W.keepIn K (.ref f_Lis_many) = true)
    (A_Lis_entry : PySem.W.nsIn K mainGlobals "_law_is_entry" = some (some (.ref f_Lis_entry))) (L_Lis_entry : K.lookup f_Lis_entry = some ⟨oc_Lis_entry, od_Lis_entry, .func (PySem.W.fnOf "_law_is_entry" "_law_is_entry" (defArgs s_Lis_entry) (defBody s_Lis_entry) (defScope s_Lis_entry) .none kV_Lis_entry dc_Lis_entry pm_Lis_entry an_Lis_entry cd_Lis_entry ct_Lis_entry), sl_Lis_entry⟩) (C_Lis_entry : PySem.W.codeIn K cd_Lis_entry "_law_is_entry" = true) (K_Lis_entry : PySem.W.keepIn K (.ref f_Lis_entry) = true)
    (A_Lbad_at : PySem.W.nsIn K mainGlobals "_law_bad_at" = some (some (.ref f_Lbad_at))) (L_Lbad_at : K.lookup f_Lbad_at = some ⟨oc_Lbad_at, od_Lbad_at, .func (PySem.W.fnOf "_law_bad_at" "_law_bad_at" (defArgs s_Lbad_at) (defBody s_Lbad_at) (defScope s_Lbad_at) .none kV_Lbad_at dc_Lbad_at pm_Lbad_at an_Lbad_at cd_Lbad_at ct_Lbad_at), sl_Lbad_at⟩) (C_Lbad_at : PySem.W.codeIn K cd_Lbad_at "_law_bad_at" = true) (K_Lbad_at : PySem.W.keepIn K (.ref f_Lbad_at) = true)
    (A_Llisted : PySem.W.nsIn K mainGlobals "_law_listed" = some (some (.ref f_Llisted))) (L_Llisted : K.lookup f_Llisted = some ⟨oc_Llisted, od_Llisted, .func (PySem.W.fnOf "_law_listed" "_law_listed" (defArgs s_Llisted) (defBody s_Llisted) (defScope s_Llisted) .none kV_Llisted dc_Llisted pm_Llisted an_Llisted cd_Llisted ct_Llisted), sl_Llisted⟩) (C_Llisted : PySem.W.codeIn K cd_Llisted "_law_listed" = true) (K_Llisted : PySem.W.keepIn K (.ref f_Llisted) = true)
    (A_Lown : PySem.W.nsIn K mainGlobals "_law_own" = some (some (.ref f_Lown))) (L_Lown : K.lookup f_Lown = some ⟨oc_Lown, od_Lown, .func (PySem.W.fnOf "_law_own" "_law_own" (defArgs s_Lown) (defBody s_Lown) (defScope s_Lown) .none kV_Lown dc_Lown pm_Lown an_Lown cd_Lown ct_Lown), sl_Lown⟩) (C_Lown : PySem.W.codeIn K cd_Lown "_law_own" = true) (K_Lown : PySem.W.keepIn K (.ref f_Lown) = true)
    (A_Lpool : PySem.W.nsIn K mainGlobals "_law_pool" = some (some (.ref f_Lpool))) (L_Lpool : K.lookup f_Lpool = some ⟨oc_Lpool, od_Lpool, .func (PySem.W.fnOf "_law_pool" "_law_pool" (defArgs s_Lpool) (defBody s_Lpool) (defScope s_Lpool) .none kV_Lpool dc_Lpool pm_Lpool an_Lpool cd_Lpool ct_Lpool), sl_Lpool⟩) (C_Lpool : PySem.W.codeIn K cd_Lpool "_law_pool" = true) (K_Lpool : PySem.W.keepIn K (.ref f_Lpool) = true)
    (A_Ltake : PySem.W.nsIn K mainGlobals "_law_take" = some (some (.ref f_Ltake))) (L_Ltake : K.lookup f_Ltake = some ⟨oc_Ltake, od_Ltake, .func (PySem.W.fnOf "_law_take" "_law_take" (defArgs s_Ltake) (defBody s_Ltake) (defScope s_Ltake) .none kV_Ltake dc_Ltake pm_Ltake an_Ltake cd_Ltake ct_Ltake), sl_Ltake⟩) (C_Ltake : PySem.W.codeIn K cd_Ltake "_law_take" = true) (K_Ltake : PySem.W.keepIn K (.ref f_Ltake) = true)
    (A_Lwhole : PySem.W.nsIn K mainGlobals "_law_whole" = some (some (.ref f_Lwhole))) (L_Lwhole : K.lookup f_Lwhole = some ⟨oc_Lwhole, od_Lwhole, .func (PySem.W.fnOf "_law_whole" "_law_whole" (defArgs s_Lwhole) (defBody s_Lwhole) (defScope s_Lwhole) .none kV_Lwhole dc_Lwhole pm_Lwhole an_Lwhole cd_Lwhole ct_Lwhole), sl_Lwhole⟩) (C_Lwhole : PySem.W.codeIn K cd_Lwhole "_law_whole" = true) (K_Lwhole : PySem.W.keepIn K (.ref f_Lwhole) = true)
    (A_Lsame : PySem.W.nsIn K mainGlobals "_law_same" = some (some (.ref f_Lsame))) (L_Lsame : K.lookup f_Lsame = some ⟨oc_Lsame, od_Lsame, .func (PySem.W.fnOf "_law_same" "_law_same" (defArgs s_Lsame) (defBody s_Lsame) (defScope s_Lsame) .none kV_Lsame dc_Lsame pm_Lsame an_Lsame cd_Lsame ct_Lsame), sl_Lsame⟩) (C_Lsame : PySem.W.codeIn K cd_Lsame "_law_same" = true) (K_Lsame : PySem.W.keepIn K (.ref f_Lsame) = true)
    (A_Lname : PySem.W.nsIn K mainGlobals "_law_name" = some (some (.ref f_Lname))) (L_Lname : K.lookup f_Lname = some ⟨oc_Lname, od_Lname, .func (PySem.W.fnOf "_law_name" "_law_name" (defArgs s_Lname) (defBody s_Lname) (defScope s_Lname) .none kV_Lname dc_Lname pm_Lname an_Lname cd_Lname ct_Lname), sl_Lname⟩) (C_Lname : PySem.W.codeIn K cd_Lname "_law_name" = true) (K_Lname : PySem.W.keepIn K (.ref f_Lname) = true)
    (A_Lsign : PySem.W.nsIn K mainGlobals "_law_sign" = some (some (.ref f_Lsign))) (L_Lsign : K.lookup f_Lsign = some ⟨oc_Lsign, od_Lsign, .func (PySem.W.fnOf "_law_sign" "_law_sign" (defArgs s_Lsign) (defBody s_Lsign) (defScope s_Lsign) .none kV_Lsign dc_Lsign pm_Lsign an_Lsign cd_Lsign ct_Lsign), sl_Lsign⟩) (C_Lsign : PySem.W.codeIn K cd_Lsign "_law_sign" = true) (K_Lsign : PySem.W.keepIn K (.ref f_Lsign) = true)
    (A_Llegs : PySem.W.nsIn K mainGlobals "_law_legs" = some (some (.ref f_Llegs))) (L_Llegs : K.lookup f_Llegs = some ⟨oc_Llegs, od_Llegs, .func (PySem.W.fnOf "_law_legs" "_law_legs" (defArgs s_Llegs) (defBody s_Llegs) (defScope s_Llegs) .none kV_Llegs dc_Llegs pm_Llegs an_Llegs cd_Llegs ct_Llegs), sl_Llegs⟩) (C_Llegs : PySem.W.codeIn K cd_Llegs "_law_legs" = true) (K_Llegs : PySem.W.keepIn K (.ref f_Llegs) = true)
    (A_Lentries : PySem.W.nsIn K mainGlobals "_law_entries" = some (some (.ref f_Lentries))) (L_Lentries : K.lookup f_Lentries = some ⟨oc_Lentries, od_Lentries, .func (PySem.W.fnOf "_law_entries" "_law_entries" (defArgs s_Lentries) (defBody s_Lentries) (defScope s_Lentries) .none kV_Lentries dc_Lentries pm_Lentries an_Lentries cd_Lentries ct_Lentries), sl_Lentries⟩) (C_Lentries : PySem.W.codeIn K cd_Lentries "_law_entries" = true) (K_Lentries : PySem.W.keepIn K (.ref f_Lentries) = true)
    (A_Lheld : PySem.W.nsIn K mainGlobals "_law_held" = some (some (.ref f_Lheld))) (L_Lheld : K.lookup f_Lheld = some ⟨oc_Lheld, od_Lheld, .func (PySem.W.fnOf "_law_held" "_law_held" (defArgs s_Lheld) (defBody s_Lheld) (defScope s_Lheld) .none kV_Lheld dc_Lheld pm_Lheld an_Lheld cd_Lheld ct_Lheld), sl_Lheld⟩) (C_Lheld : PySem.W.codeIn K cd_Lheld "_law_held" = true) (K_Lheld : PySem.W.keepIn K (.ref f_Lheld) = true)
    (A_law : PySem.W.nsIn K mainGlobals "law" = some (some (.ref f_law))) (L_law : K.lookup f_law = some ⟨oc_law, od_law, .func (PySem.W.fnOf "law" "law" (defArgs s_law) (defBody s_law) (defScope s_law) .none kV_law dc_law pm_law an_law cd_law ct_law), sl_law⟩) (C_law : PySem.W.codeIn K cd_law "law" = true) (K_law : PySem.W.keepIn K (.ref f_law) = true)
    (A_STEPS : PySem.W.nsIn K mainGlobals "STEPS" = some (some (.ref f_STEPS)))
    (D_STEPS : K.lookup f_STEPS = some ⟨.type "dict", none, .dict es_STEPS n_STEPS, #[]⟩)
    (Y_STEPS : PySem.W.KeysLit w.params es_STEPS.toList)
    (lo_STEPS : (f_STEPS == sysModules) = false)
    (ke_STEPS : Keys es_STEPS.toList ["n", "e", "s", "w"])
    (N_STEPS_0 : PySem.W.nsIn K f_STEPS "n" = some (some (.ref q_STEPS_0)))
    (V_STEPS_0 : K.lookup q_STEPS_0 = some ⟨.type "tuple", dd_STEPS_0, .seq #[.int (0) tk_STEPS_0_0, .int (1) tk_STEPS_0_1] nn_STEPS_0, sl_STEPS_0⟩)
    (N_STEPS_1 : PySem.W.nsIn K f_STEPS "e" = some (some (.ref q_STEPS_1)))
    (V_STEPS_1 : K.lookup q_STEPS_1 = some ⟨.type "tuple", dd_STEPS_1, .seq #[.int (1) tk_STEPS_1_0, .int (0) tk_STEPS_1_1] nn_STEPS_1, sl_STEPS_1⟩)
    (N_STEPS_2 : PySem.W.nsIn K f_STEPS "s" = some (some (.ref q_STEPS_2)))
    (V_STEPS_2 : K.lookup q_STEPS_2 = some ⟨.type "tuple", dd_STEPS_2, .seq #[.int (0) tk_STEPS_2_0, .int (-1) tk_STEPS_2_1] nn_STEPS_2, sl_STEPS_2⟩)
    (N_STEPS_3 : PySem.W.nsIn K f_STEPS "w" = some (some (.ref q_STEPS_3)))
    (V_STEPS_3 : K.lookup q_STEPS_3 = some ⟨.type "tuple", dd_STEPS_3, .seq #[.int (-1) tk_STEPS_3_0, .int (0) tk_STEPS_3_1] nn_STEPS_3, sl_STEPS_3⟩)
    (A_SMALL : PySem.W.nsIn K mainGlobals "SMALL" = some (some (.str "abcdefghijklmnopqrstuvwxyz" t_SMALL)))
    (A_GREAT : PySem.W.nsIn K mainGlobals "GREAT" = some (some (.str "ABCDEFGHIJKLMNOPQRSTUVWXYZ" t_GREAT)))
    (A_LONGEST : PySem.W.nsIn K mainGlobals "LONGEST" = some (some (.int 8 t_LONGEST)))
    (A_WORDS_ALONE : PySem.W.nsIn K mainGlobals "WORDS_ALONE" = some (some (.ref f_WORDS_ALONE)))
    (V_WORDS_ALONE : K.lookup f_WORDS_ALONE = some ⟨.type "tuple", dd_WORDS_ALONE, .seq #[.str "left" tk_WORDS_ALONE_0, .str "right" tk_WORDS_ALONE_1, .str "back" tk_WORDS_ALONE_2, .str "bump" tk_WORDS_ALONE_3, .str "bare" tk_WORDS_ALONE_4, .str "swap" tk_WORDS_ALONE_5] nn_WORDS_ALONE, sl_WORDS_ALONE⟩)
    (A_WORDS_BEHIND_A_FACE : PySem.W.nsIn K mainGlobals "WORDS_BEHIND_A_FACE" = some (some (.ref f_WORDS_BEHIND_A_FACE)))
    (V_WORDS_BEHIND_A_FACE : K.lookup f_WORDS_BEHIND_A_FACE = some ⟨.type "tuple", dd_WORDS_BEHIND_A_FACE, .seq #[.str "left" tk_WORDS_BEHIND_A_FACE_0, .str "right" tk_WORDS_BEHIND_A_FACE_1, .str "back" tk_WORDS_BEHIND_A_FACE_2, .str "go" tk_WORDS_BEHIND_A_FACE_3, .str "bump" tk_WORDS_BEHIND_A_FACE_4, .str "spy" tk_WORDS_BEHIND_A_FACE_5] nn_WORDS_BEHIND_A_FACE, sl_WORDS_BEHIND_A_FACE⟩)
    (Z_abs : PySem.W.nsIn K mainGlobals "abs" = some none)
    (Z_all : PySem.W.nsIn K mainGlobals "all" = some none)
    (Z_any : PySem.W.nsIn K mainGlobals "any" = some none)
    (Z_bool : PySem.W.nsIn K mainGlobals "bool" = some none)
    (Z_enumerate : PySem.W.nsIn K mainGlobals "enumerate" = some none)
    (Z_int : PySem.W.nsIn K mainGlobals "int" = some none)
    (Z_isinstance : PySem.W.nsIn K mainGlobals "isinstance" = some none)
    (Z_len : PySem.W.nsIn K mainGlobals "len" = some none)
    (Z_list : PySem.W.nsIn K mainGlobals "list" = some none)
    (Z_range : PySem.W.nsIn K mainGlobals "range" = some none)
    (Z_str : PySem.W.nsIn K mainGlobals "str" = some none)
    (Z_tuple : PySem.W.nsIn K mainGlobals "tuple" = some none)
    (Z_zip : PySem.W.nsIn K mainGlobals "zip" = some none)
    (A_NoLot : PySem.W.nsIn K mainGlobals "NoLot" = some (some (.ref f_NoLot)))
    (A_BadLog : PySem.W.nsIn K mainGlobals "BadLog" = some (some (.ref f_BadLog)))
    (A_NoDealing : PySem.W.nsIn K mainGlobals "NoDealing" = some (some (.ref f_NoDealing)))
    (A_BadBox : PySem.W.nsIn K mainGlobals "BadBox" = some (some (.ref f_BadBox)))
    (A_NoName : PySem.W.nsIn K mainGlobals "NoName" = some (some (.ref f_NoName)))
    (A_Twice : PySem.W.nsIn K mainGlobals "Twice" = some (some (.ref f_Twice)))
    (A_NoWalker : PySem.W.nsIn K mainGlobals "NoWalker" = some (some (.ref f_NoWalker)))
    (A_NeedleError : PySem.W.nsIn K mainGlobals "NeedleError" = some (some (.ref f_NeedleError)))
    (ic_NoLot : PySem.W.isClsIn K f_NoLot = true) (ty_NoLot : PySem.W.typeIn K (.ref f_NoLot) = some (.type "type")) (su_NoLot : PySem.W.subIn K (.ref f_BadLog) (.ref f_NoLot) = some false)
    (ne_NoLot : (Value.ref f_BadLog == Value.ref f_NoLot) = false)
    (ic_BadLog : PySem.W.isClsIn K f_BadLog = true) (ty_BadLog : PySem.W.typeIn K (.ref f_BadLog) = some (.type "type")) (su_BadLog : PySem.W.subIn K (.ref f_BadLog) (.ref f_BadLog) = some true)
    (ic_NoDealing : PySem.W.isClsIn K f_NoDealing = true) (ty_NoDealing : PySem.W.typeIn K (.ref f_NoDealing) = some (.type "type")) (su_NoDealing : PySem.W.subIn K (.ref f_BadLog) (.ref f_NoDealing) = some false)
    (ne_NoDealing : (Value.ref f_BadLog == Value.ref f_NoDealing) = false)
    (ic_BadBox : PySem.W.isClsIn K f_BadBox = true) (ty_BadBox : PySem.W.typeIn K (.ref f_BadBox) = some (.type "type")) (su_BadBox : PySem.W.subIn K (.ref f_BadLog) (.ref f_BadBox) = some false)
    (ne_BadBox : (Value.ref f_BadLog == Value.ref f_BadBox) = false)
    (ic_NoName : PySem.W.isClsIn K f_NoName = true) (ty_NoName : PySem.W.typeIn K (.ref f_NoName) = some (.type "type")) (su_NoName : PySem.W.subIn K (.ref f_BadLog) (.ref f_NoName) = some false)
    (ne_NoName : (Value.ref f_BadLog == Value.ref f_NoName) = false)
    (ic_Twice : PySem.W.isClsIn K f_Twice = true) (ty_Twice : PySem.W.typeIn K (.ref f_Twice) = some (.type "type")) (su_Twice : PySem.W.subIn K (.ref f_BadLog) (.ref f_Twice) = some false)
    (ne_Twice : (Value.ref f_BadLog == Value.ref f_Twice) = false)
    (ic_NoWalker : PySem.W.isClsIn K f_NoWalker = true) (ty_NoWalker : PySem.W.typeIn K (.ref f_NoWalker) = some (.type "type")) (su_NoWalker : PySem.W.subIn K (.ref f_BadLog) (.ref f_NoWalker) = some false)
    (ne_NoWalker : (Value.ref f_BadLog == Value.ref f_NoWalker) = false)
    (ic_NeedleError : PySem.W.isClsIn K f_NeedleError = true) (ty_NeedleError : PySem.W.typeIn K (.ref f_NeedleError) = some (.type "type")) (su_NeedleError : PySem.W.subIn K (.ref f_BadLog) (.ref f_NeedleError) = some true)
    (ne_NeedleError : (Value.ref f_BadLog == Value.ref f_NeedleError) = false)
    (Z_ValueError : PySem.W.nsIn K mainGlobals "ValueError" = some none)
    (su_VE : PySem.W.subIn K (.ref f_BadLog) (.type "ValueError") = some true)
    (X_D : K.lookup f_BadLog = some (excClassObj nm_D qn_D f_BadLog ns_D bs_D bm_D true sn_D sub_D ab_D col_D dd_D m0_D m1_D m2_D m3_D m5_D "ValueError.__new__")) (bm_ok : PySem.HandSPX.refsVE bm_D = true)
    (sa_D : PySem.W.findIn K (.ref f_BadLog) "__setattr__" = some (some (.builtin "object.__setattr__"))) (ga_D : PySem.W.findIn K (.ref f_BadLog) "__getattribute__" = some (some (.builtin "BaseException.__getattribute__"))) (gg_D : PySem.W.findIn K (.ref f_BadLog) "__getattr__" = some none)
    (no_name : PySem.W.findIn K (.ref f_BadLog) "name" = some none)
    (no_at : PySem.W.findIn K (.ref f_BadLog) "at" = some none)
    (I_D : PySem.W.findIn K (.ref f_BadLog) "__init__" = some (some (.ref f_init))) (t_init : PySem.W.typeIn K (.ref f_init) = some (.type "function"))
    (L_init : K.lookup f_init = some ⟨oc_init, od_init, .func (PySem.W.fnOf "__init__" "BadLog.__init__" (defArgs s_init) (defBody s_init) (defScope s_init) .none kV_init dc_init pm_init an_init cd_init ct_init), sl_init⟩) (C_init : PySem.W.codeIn K cd_init "BadLog.__init__" = true) (K_init : PySem.W.keepIn K (.ref f_init) = true)
    (k_D : PySem.W.keepIn K (.ref f_BadLog) = true) (e_D : PySem.W.subIn K (.ref f_BadLog) (.type "BaseException") = some true) (h_D : PySem.W.hasDictIn K f_BadLog = true)
    (ca_D : PySem.W.findIn K (.ref f_BadLog) "__class__" = some (some (.builtin "object.__class__"))) (cn_D : PySem.W.specialIn K (.builtin "object.__class__") "__get__" = some (some (.builtin "getset_descriptor.__get__"))) (ct_D : PySem.W.takesIn K (.builtin "object.__class__") = some true) (cm_D : PySem.W.mroIn K f_BadLog (.type "object") = some true) :
    ∃ fd : FuncData, (∀ (s : Shared) (v : Value), BindsTo s fd ⟨[v], []⟩ [("_law_script", v)]) ∧ ∀ base : Heap, K.In base → base.Ns mainGlobals mg → FnOk l.prog w K mg base CX0 10 fa fd ["_law_script"] (spLaw K) := by
  have e := hfa.symm.trans (PySem.W.mg_of X G A_law)
  cases e
  let T : Top w K mg := {
    a_is_whole := f_is_whole, fd_is_whole := _, F_is_whole := fun_mk (st := s_is_whole) L_is_whole C_is_whole K_is_whole,
    b_is_whole := (fun_mk (st := s_is_whole) L_is_whole C_is_whole K_is_whole).binds (ps := ["thing"]) fun _ _ _ _ _ _ us hl => match us, hl with | [_], _ => rfl,
    g_is_whole := PySem.W.mg_of X G A_is_whole,
    a_is_row := f_is_row, fd_is_row := _, F_is_row := fun_mk (st := s_is_row) L_is_row C_is_row K_is_row,
    b_is_row := (fun_mk (st := s_is_row) L_is_row C_is_row K_is_row).binds (ps := ["thing"]) fun _ _ _ _ _ _ us hl => match us, hl with | [_], _ => rfl,
    g_is_row := PySem.W.mg_of X G A_is_row,
    a_laid_out := f_laid_out, fd_laid_out := _, F_laid_out := fun_mk (st := s_laid_out) L_laid_out C_laid_out K_laid_out,
    b_laid_out := (fun_mk (st := s_laid_out) L_laid_out C_laid_out K_laid_out).binds (ps := ["thing"]) fun _ _ _ _ _ _ us hl => match us, hl with | [_], _ => rfl,
    g_laid_out := PySem.W.mg_of X G A_laid_out,
    a_kept := f_kept, fd_kept := _, F_kept := fun_mk (st := s_kept) L_kept C_kept K_kept,
    b_kept := (fun_mk (st := s_kept) L_kept C_kept K_kept).binds (ps := ["thing"]) fun _ _ _ _ _ _ us hl => match us, hl with | [_], _ => rfl,
    g_kept := PySem.W.mg_of X G A_kept,
    a_is_letter := f_is_letter, fd_is_letter := _, F_is_letter := fun_mk (st := s_is_letter) L_is_letter C_is_letter K_is_letter,
    b_is_letter := (fun_mk (st := s_is_letter) L_is_letter C_is_letter K_is_letter).binds (ps := ["thing"]) fun _ _ _ _ _ _ us hl => match us, hl with | [_], _ => rfl,
    g_is_letter := PySem.W.mg_of X G A_is_letter,
    a_is_short_text := f_is_short_text, fd_is_short_text := _, F_is_short_text := fun_mk (st := s_is_short_text) L_is_short_text C_is_short_text K_is_short_text,
    b_is_short_text := (fun_mk (st := s_is_short_text) L_is_short_text C_is_short_text K_is_short_text).binds (ps := ["thing"]) fun _ _ _ _ _ _ us hl => match us, hl with | [_], _ => rfl,
    g_is_short_text := PySem.W.mg_of X G A_is_short_text,
    a_are_small := f_are_small, fd_are_small := _, F_are_small := fun_mk (st := s_are_small) L_are_small C_are_small K_are_small,
    b_are_small := (fun_mk (st := s_are_small) L_are_small C_are_small K_are_small).binds (ps := ["text"]) fun _ _ _ _ _ _ us hl => match us, hl with | [_], _ => rfl,
    g_are_small := PySem.W.mg_of X G A_are_small,
    a_is_name := f_is_name, fd_is_name := _, F_is_name := fun_mk (st := s_is_name) L_is_name C_is_name K_is_name,
    b_is_name := (fun_mk (st := s_is_name) L_is_name C_is_name K_is_name).binds (ps := ["thing"]) fun _ _ _ _ _ _ us hl => match us, hl with | [_], _ => rfl,
    g_is_name := PySem.W.mg_of X G A_is_name,
    a_is_lone := f_is_lone, fd_is_lone := _, F_is_lone := fun_mk (st := s_is_lone) L_is_lone C_is_lone K_is_lone,
    b_is_lone := (fun_mk (st := s_is_lone) L_is_lone C_is_lone K_is_lone).binds (ps := ["thing"]) fun _ _ _ _ _ _ us hl => match us, hl with | [_], _ => rfl,
    g_is_lone := PySem.W.mg_of X G A_is_lone,
    a_is_sign := f_is_sign, fd_is_sign := _, F_is_sign := fun_mk (st := s_is_sign) L_is_sign C_is_sign K_is_sign,
    b_is_sign := (fun_mk (st := s_is_sign) L_is_sign C_is_sign K_is_sign).binds (ps := ["thing"]) fun _ _ _ _ _ _ us hl => match us, hl with | [_], _ => rfl,
    g_is_sign := PySem.W.mg_of X G A_is_sign,
    a_is_many := f_is_many, fd_is_many := _, F_is_many := fun_mk (st := s_is_many) L_is_many C_is_many K_is_many,
    b_is_many := (fun_mk (st := s_is_many) L_is_many C_is_many K_is_many).binds (ps := ["thing"]) fun _ _ _ _ _ _ us hl => match us, hl with | [_], _ => rfl,
    g_is_many := PySem.W.mg_of X G A_is_many,
    a_is_pair_entry := f_is_pair_entry, fd_is_pair_entry := _, F_is_pair_entry := fun_mk (st := s_is_pair_entry) L_is_pair_entry C_is_pair_entry K_is_pair_entry,
    b_is_pair_entry := (fun_mk (st := s_is_pair_entry) L_is_pair_entry C_is_pair_entry K_is_pair_entry).binds (ps := ["word", "part"]) fun _ _ _ _ _ _ us hl => match us, hl with | [_, _], _ => rfl,
    g_is_pair_entry := PySem.W.mg_of X G A_is_pair_entry,
    a_is_entry := f_is_entry, fd_is_entry := _, F_is_entry := fun_mk (st := s_is_entry) L_is_entry C_is_entry K_is_entry,
    b_is_entry := (fun_mk (st := s_is_entry) L_is_entry C_is_entry K_is_entry).binds (ps := ["thing"]) fun _ _ _ _ _ _ us hl => match us, hl with | [_], _ => rfl,
    g_is_entry := PySem.W.mg_of X G A_is_entry,
    a_held_log := f_held_log, fd_held_log := _, F_held_log := fun_mk (st := s_held_log) L_held_log C_held_log K_held_log,
    b_held_log := (fun_mk (st := s_held_log) L_held_log C_held_log K_held_log).binds (ps := ["entries"]) fun _ _ _ _ _ _ us hl => match us, hl with | [_], _ => rfl,
    g_held_log := PySem.W.mg_of X G A_held_log,
    a_legs_in := f_legs_in, fd_legs_in := _, F_legs_in := fun_mk (st := s_legs_in) L_legs_in C_legs_in K_legs_in,
    b_legs_in := (fun_mk (st := s_legs_in) L_legs_in C_legs_in K_legs_in).binds (ps := ["log"]) fun _ _ _ _ _ _ us hl => match us, hl with | [_], _ => rfl,
    g_legs_in := PySem.W.mg_of X G A_legs_in,
    a_Lany_entry := f_Lany_entry, fd_Lany_entry := _, F_Lany_entry := fun_mk (st := s_Lany_entry) L_Lany_entry C_Lany_entry K_Lany_entry,
    b_Lany_entry := (fun_mk (st := s_Lany_entry) L_Lany_entry C_Lany_entry K_Lany_entry).binds (ps := ["_law_pool_here", "_law_looks"]) fun _ _ _ _ _ _ us hl => match us, hl with | [_, _], _ => rfl,
    g_Lany_entry := PySem.W.mg_of X G A_Lany_entry,
    a_Lany_log := f_Lany_log, fd_Lany_log := _, F_Lany_log := fun_mk (st := s_Lany_log) L_Lany_log C_Lany_log K_Lany_log,
    b_Lany_log := (fun_mk (st := s_Lany_log) L_Lany_log C_Lany_log K_Lany_log).binds (ps := ["_law_pool_here", "_law_many", "_law_swaps"]) fun _ _ _ _ _ _ us hl => match us, hl with | [_, _, _], _ => rfl,
    g_Lany_log := PySem.W.mg_of X G A_Lany_log,
    a_Lis_name := f_Lis_name, fd_Lis_name := _, F_Lis_name := fun_mk (st := s_Lis_name) L_Lis_name C_Lis_name K_Lis_name,
    b_Lis_name := (fun_mk (st := s_Lis_name) L_Lis_name C_Lis_name K_Lis_name).binds (ps := ["_law_thing"]) fun _ _ _ _ _ _ us hl => match us, hl with | [_], _ => rfl,
    g_Lis_name := PySem.W.mg_of X G A_Lis_name,
    a_Lis_sign := f_Lis_sign, fd_Lis_sign := _, F_Lis_sign := fun_mk (st := s_Lis_sign) L_Lis_sign C_Lis_sign K_Lis_sign,
    b_Lis_sign := (fun_mk (st := s_Lis_sign) L_Lis_sign C_Lis_sign K_Lis_sign).binds (ps := ["_law_thing"]) fun _ _ _ _ _ _ us hl => match us, hl with | [_], _ => rfl,
    g_Lis_sign := PySem.W.mg_of X G A_Lis_sign,
    a_Lis_many := f_Lis_many, fd_Lis_many := _, F_Lis_many := fun_mk (st := s_Lis_many) L_Lis_many C_Lis_many K_Lis_many,
    b_Lis_many := (fun_mk (st := s_Lis_many) L_Lis_many C_Lis_many K_Lis_many).binds (ps := ["_law_thing"]) fun _ _ _ _ _ _ us hl => match us, hl with | [_], _ => rfl,
    g_Lis_many := PySem.W.mg_of X G A_Lis_many,
    a_Lis_entry := f_Lis_entry, fd_Lis_entry := _, F_Lis_entry := fun_mk (st := s_Lis_entry) L_Lis_entry C_Lis_entry K_Lis_entry,
    b_Lis_entry := (fun_mk (st := s_Lis_entry) L_Lis_entry C_Lis_entry K_Lis_entry).binds (ps := ["_law_thing"]) fun _ _ _ _ _ _ us hl => match us, hl with | [_], _ => rfl,
    g_Lis_entry := PySem.W.mg_of X G A_Lis_entry,
    a_Lbad_at := f_Lbad_at, fd_Lbad_at := _, F_Lbad_at := fun_mk (st := s_Lbad_at) L_Lbad_at C_Lbad_at K_Lbad_at,
    b_Lbad_at := (fun_mk (st := s_Lbad_at) L_Lbad_at C_Lbad_at K_Lbad_at).binds (ps := ["_law_entries_here"]) fun _ _ _ _ _ _ us hl => match us, hl with | [_], _ => rfl,
    g_Lbad_at := PySem.W.mg_of X G A_Lbad_at,
    a_Llisted := f_Llisted, fd_Llisted := _, F_Llisted := fun_mk (st := s_Llisted) L_Llisted C_Llisted K_Llisted,
    b_Llisted := (fun_mk (st := s_Llisted) L_Llisted C_Llisted K_Llisted).binds (ps := ["_law_pool_here", "_law_log"]) fun _ _ _ _ _ _ us hl => match us, hl with | [_, _], _ => rfl,
    g_Llisted := PySem.W.mg_of X G A_Llisted,
    a_Lown := f_Lown, fd_Lown := _, F_Lown := fun_mk (st := s_Lown) L_Lown C_Lown K_Lown,
    b_Lown := (fun_mk (st := s_Lown) L_Lown C_Lown K_Lown).binds (ps := ["_law_e"]) fun _ _ _ _ _ _ us hl => match us, hl with | [_], _ => rfl,
    g_Lown := PySem.W.mg_of X G A_Lown,
    a_Lpool := f_Lpool, fd_Lpool := _, F_Lpool := fun_mk (st := s_Lpool) L_Lpool C_Lpool K_Lpool,
    b_Lpool := (fun_mk (st := s_Lpool) L_Lpool C_Lpool K_Lpool).binds (ps := ["_law_script", "_law_k"]) fun _ _ _ _ _ _ us hl => match us, hl with | [_, _], _ => rfl,
    g_Lpool := PySem.W.mg_of X G A_Lpool,
    a_Ltake := f_Ltake, fd_Ltake := _, F_Ltake := fun_mk (st := s_Ltake) L_Ltake C_Ltake K_Ltake,
    b_Ltake := (fun_mk (st := s_Ltake) L_Ltake C_Ltake K_Ltake).binds (ps := ["_law_pool_here", "_law_wide"]) fun _ _ _ _ _ _ us hl => match us, hl with | [_, _], _ => rfl,
    g_Ltake := PySem.W.mg_of X G A_Ltake,
    a_Lwhole := f_Lwhole, fd_Lwhole := _, F_Lwhole := fun_mk (st := s_Lwhole) L_Lwhole C_Lwhole K_Lwhole,
    b_Lwhole := (fun_mk (st := s_Lwhole) L_Lwhole C_Lwhole K_Lwhole).binds (ps := ["_law_thing"]) fun _ _ _ _ _ _ us hl => match us, hl with | [_], _ => rfl,
    g_Lwhole := PySem.W.mg_of X G A_Lwhole,
    a_Lsame := f_Lsame, fd_Lsame := _, F_Lsame := fun_mk (st := s_Lsame) L_Lsame C_Lsame K_Lsame,
    b_Lsame := (fun_mk (st := s_Lsame) L_Lsame C_Lsame K_Lsame).binds (ps := ["_law_found", "_law_due"]) fun _ _ _ _ _ _ us hl => match us, hl with | [_, _], _ => rfl,
    g_Lsame := PySem.W.mg_of X G A_Lsame,
    a_Lname := f_Lname, fd_Lname := _, F_Lname := fun_mk (st := s_Lname) L_Lname C_Lname K_Lname,
    b_Lname := (fun_mk (st := s_Lname) L_Lname C_Lname K_Lname).binds (ps := ["_law_pool_here"]) fun _ _ _ _ _ _ us hl => match us, hl with | [_], _ => rfl,
    g_Lname := PySem.W.mg_of X G A_Lname,
    a_Lsign := f_Lsign, fd_Lsign := _, F_Lsign := fun_mk (st := s_Lsign) L_Lsign C_Lsign K_Lsign,
    b_Lsign := (fun_mk (st := s_Lsign) L_Lsign C_Lsign K_Lsign).binds (ps := ["_law_pool_here", "_law_lone"]) fun _ _ _ _ _ _ us hl => match us, hl with | [_, _], _ => rfl,
    g_Lsign := PySem.W.mg_of X G A_Lsign,
    a_Llegs := f_Llegs, fd_Llegs := _, F_Llegs := fun_mk (st := s_Llegs) L_Llegs C_Llegs K_Llegs,
    b_Llegs := (fun_mk (st := s_Llegs) L_Llegs C_Llegs K_Llegs).binds (ps := ["_law_log"]) fun _ _ _ _ _ _ us hl => match us, hl with | [_], _ => rfl,
    g_Llegs := PySem.W.mg_of X G A_Llegs,
    a_Lentries := f_Lentries, fd_Lentries := _, F_Lentries := fun_mk (st := s_Lentries) L_Lentries C_Lentries K_Lentries,
    b_Lentries := (fun_mk (st := s_Lentries) L_Lentries C_Lentries K_Lentries).binds (ps := ["_law_pool_here"]) fun _ _ _ _ _ _ us hl => match us, hl with | [_], _ => rfl,
    g_Lentries := PySem.W.mg_of X G A_Lentries,
    a_Lheld := f_Lheld, fd_Lheld := _, F_Lheld := fun_mk (st := s_Lheld) L_Lheld C_Lheld K_Lheld,
    b_Lheld := (fun_mk (st := s_Lheld) L_Lheld C_Lheld K_Lheld).binds (ps := ["_law_entries_here"]) fun _ _ _ _ _ _ us hl => match us, hl with | [_], _ => rfl,
    g_Lheld := PySem.W.mg_of X G A_Lheld,
    a_law := fa, fd_law := _, F_law := fun_mk (st := s_law) L_law C_law K_law,
    b_law := (fun_mk (st := s_law) L_law C_law K_law).binds (ps := ["_law_script"]) fun _ _ _ _ _ _ us hl => match us, hl with | [_], _ => rfl,
    g_law := PySem.W.mg_of X G A_law,
    a_STEPS := f_STEPS, g_STEPS := PySem.W.mg_of X G A_STEPS,
    es_STEPS := _, n_STEPS := _, kd_STEPS := ⟨D_STEPS, Y_STEPS, lo_STEPS⟩,
    ns_STEPS := ns_keys D_STEPS ke_STEPS,
    v_STEPS_0 := ⟨_, ⟨_, _, _, D_STEPS, Y_STEPS, N_STEPS_0, rfl⟩, fun H => .inr ⟨_, _, _, V_STEPS_0, rfl, rfl, by show 2 ≤ sizeLine; decide, (.cons ⟨_, rfl⟩ (.cons ⟨_, rfl⟩ .nil))⟩⟩,
    v_STEPS_1 := ⟨_, ⟨_, _, _, D_STEPS, Y_STEPS, N_STEPS_1, rfl⟩, fun H => .inr ⟨_, _, _, V_STEPS_1, rfl, rfl, by show 2 ≤ sizeLine; decide, (.cons ⟨_, rfl⟩ (.cons ⟨_, rfl⟩ .nil))⟩⟩,
    v_STEPS_2 := ⟨_, ⟨_, _, _, D_STEPS, Y_STEPS, N_STEPS_2, rfl⟩, fun H => .inr ⟨_, _, _, V_STEPS_2, rfl, rfl, by show 2 ≤ sizeLine; decide, (.cons ⟨_, rfl⟩ (.cons ⟨_, rfl⟩ .nil))⟩⟩,
    v_STEPS_3 := ⟨_, ⟨_, _, _, D_STEPS, Y_STEPS, N_STEPS_3, rfl⟩, fun H => .inr ⟨_, _, _, V_STEPS_3, rfl, rfl, by show 2 ≤ sizeLine; decide, (.cons ⟨_, rfl⟩ (.cons ⟨_, rfl⟩ .nil))⟩⟩,
    g_SMALL := ⟨_, PySem.W.mg_of X G A_SMALL⟩,
    g_GREAT := ⟨_, PySem.W.mg_of X G A_GREAT⟩,
    g_LONGEST := ⟨_, PySem.W.mg_of X G A_LONGEST⟩,
    a_WORDS_ALONE := f_WORDS_ALONE, g_WORDS_ALONE := PySem.W.mg_of X G A_WORDS_ALONE,
    v_WORDS_ALONE := fun H => .inr ⟨_, _, _, V_WORDS_ALONE, rfl, rfl, by show 6 ≤ sizeLine; decide, (.cons ⟨_, rfl⟩ (.cons ⟨_, rfl⟩ (.cons ⟨_, rfl⟩ (.cons ⟨_, rfl⟩ (.cons ⟨_, rfl⟩ (.cons ⟨_, rfl⟩ .nil))))))⟩,
    a_WORDS_BEHIND_A_FACE := f_WORDS_BEHIND_A_FACE, g_WORDS_BEHIND_A_FACE := PySem.W.mg_of X G A_WORDS_BEHIND_A_FACE,
    v_WORDS_BEHIND_A_FACE := fun H => .inr ⟨_, _, _, V_WORDS_BEHIND_A_FACE, rfl, rfl, by show 6 ≤ sizeLine; decide, (.cons ⟨_, rfl⟩ (.cons ⟨_, rfl⟩ (.cons ⟨_, rfl⟩ (.cons ⟨_, rfl⟩ (.cons ⟨_, rfl⟩ (.cons ⟨_, rfl⟩ .nil))))))⟩,
    a_NoLot := f_NoLot,
    g_NoLot := PySem.W.mg_of X G A_NoLot,
    a_BadLog := f_BadLog,
    g_BadLog := PySem.W.mg_of X G A_BadLog,
    a_NoDealing := f_NoDealing,
    g_NoDealing := PySem.W.mg_of X G A_NoDealing,
    a_BadBox := f_BadBox,
    g_BadBox := PySem.W.mg_of X G A_BadBox,
    a_NoName := f_NoName,
    g_NoName := PySem.W.mg_of X G A_NoName,
    a_Twice := f_Twice,
    g_Twice := PySem.W.mg_of X G A_Twice,
    a_NoWalker := f_NoWalker,
    g_NoWalker := PySem.W.mg_of X G A_NoWalker,
    a_NeedleError := f_NeedleError,
    g_NeedleError := PySem.W.mg_of X G A_NeedleError,
    kit_NoLot := kit_other ne_NoLot ic_NoLot ty_NoLot su_NoLot,
    kit_BadLog := kit_same,
    kit_NoDealing := kit_other ne_NoDealing ic_NoDealing ty_NoDealing su_NoDealing,
    kit_BadBox := kit_other ne_BadBox ic_BadBox ty_BadBox su_BadBox,
    kit_NoName := kit_other ne_NoName ic_NoName ty_NoName su_NoName,
    kit_Twice := kit_other ne_Twice ic_Twice ty_Twice su_Twice,
    kit_NoWalker := kit_other ne_NoWalker ic_NoWalker ty_NoWalker su_NoWalker,
    kit_NeedleError := kit_other ne_NeedleError ic_NeedleError ty_NeedleError su_NeedleError,
    m_ValueError := PySem.W.mg_none_of X G Z_ValueError,
    kit_VE := kit_ve su_VE,
    no_name := no_name,
    no_at := no_at,
    oex := ⟨⟨_, _, _, _, _, _, _, _, _, _, _, _, _, _, _, X_D, bm_ok⟩, sa_D, e_D, ty_BadLog, k_D⟩,
    a_init := f_init,
    fd_init := _,
    F_init := fun_mk (st := s_init) L_init C_init K_init,
    b_init := (fun_mk (st := s_init) L_init C_init K_init).binds (ps := ["self", "name", "at"]) fun _ _ _ _ _ _ us hl => match us, hl with | [_, _, _], _ => rfl,
    iC := I_D,
    tI := t_init,
    xf := ⟨ga_D, gg_D, e_D, h_D⟩,
    exc := ⟨ga_D, gg_D, e_D, h_D, ca_D, cn_D, ct_D, cm_D⟩,
    exm := PySem.W.exm_ref e_D h_D ty_BadLog su_BadLog,
    m_abs := PySem.W.mg_none_of X G Z_abs, m_all := PySem.W.mg_none_of X G Z_all, m_any := PySem.W.mg_none_of X G Z_any, m_bool := PySem.W.mg_none_of X G Z_bool, m_enumerate := PySem.W.mg_none_of X G Z_enumerate, m_int := PySem.W.mg_none_of X G Z_int, m_isinstance := PySem.W.mg_none_of X G Z_isinstance, m_len := PySem.W.mg_none_of X G Z_len, m_list := PySem.W.mg_none_of X G Z_list, m_range := PySem.W.mg_none_of X G Z_range, m_str := PySem.W.mg_none_of X G Z_str, m_tuple := PySem.W.mg_none_of X G Z_tuple, m_zip := PySem.W.mg_none_of X G Z_zip }
  exact ⟨T.fd_law, fun s v => .of_eq rfl, fun base _ _ => ok_law T⟩
end M
open PySem PySem.W PyProof.Rows
set_option maxHeartbeats 0 in
theorem PySem.Challenge.cw_wayneedle_k07_logs_held_holds : PySem.Challenge.rw_wayneedle_k07_logs_held.Holds := by
  w_on; o_law; k_head; (case hw => w_witness2)
  k_fill
  refine L2.walk_of (l := PySem.Challenge.rw_wayneedle_k07_logs_held) (n := 63) (k := 10) (x := "_law_script") (CX := fun _ => L2.CX0) (sp := fun w => M.spLaw _) rfl (by decide) rfl ⟨rfl, by decide, by decide⟩ (fun w h Y => PySem.W.kIn_of Y) ?F (fun _ _ a ns hl _ hS => ⟨a, ns, rfl, hS, hl, fun _ => rfl⟩) (fun _ _ _ _ _ h => h)
  case F =>
    intro w mg fa h KX G hmg
    refine' M.all_mk KX G hmg ?A_is_whole ?L_is_whole ?C_is_whole ?K_is_whole ?A_is_row ?L_is_row ?C_is_row ?K_is_row ?A_laid_out ?L_laid_out ?C_laid_out ?K_laid_out ?A_kept ?L_kept ?C_kept ?K_kept ?A_is_letter ?L_is_letter ?C_is_letter ?K_is_letter ?A_is_short_text ?L_is_short_text ?C_is_short_text ?K_is_short_text ?A_are_small ?L_are_small ?C_are_small ?K_are_small ?A_is_name ?L_is_name ?C_is_name ?K_is_name ?A_is_lone ?L_is_lone ?C_is_lone ?K_is_lone ?A_is_sign ?L_is_sign ?C_is_sign ?K_is_sign ?A_is_many ?L_is_many ?C_is_many ?K_is_many ?A_is_pair_entry ?L_is_pair_entry ?C_is_pair_entry ?K_is_pair_entry ?A_is_entry ?L_is_entry ?C_is_entry ?K_is_entry ?A_held_log ?L_held_log ?C_held_log ?K_held_log ?A_legs_in ?L_legs_in ?C_legs_in ?K_legs_in ?A_Lany_entry ?L_Lany_entry ?C_Lany_entry ?K_Lany_entry ?A_Lany_log ?L_Lany_log ?C_Lany_log ?K_Lany_log ?A_Lis_name ?L_Lis_name ?C_Lis_name ?K_Lis_name ?A_Lis_sign ?L_Lis_sign ?C_Lis_sign ?K_Lis_sign ?A_Lis_many ?L_Lis_many ?C_Lis_many ?K_Lis_many ?A_Lis_entry ?L_Lis_entry ?C_Lis_entry ?K_Lis_entry ?A_Lbad_at ?L_Lbad_at ?C_Lbad_at ?K_Lbad_at ?A_Llisted ?L_Llisted ?C_Llisted ?K_Llisted ?A_Lown ?L_Lown ?C_Lown ?K_Lown ?A_Lpool ?L_Lpool ?C_Lpool ?K_Lpool ?A_Ltake ?L_Ltake ?C_Ltake ?K_Ltake ?A_Lwhole ?L_Lwhole ?C_Lwhole ?K_Lwhole ?A_Lsame ?L_Lsame ?C_Lsame ?K_Lsame ?A_Lname ?L_Lname ?C_Lname ?K_Lname ?A_Lsign ?L_Lsign ?C_Lsign ?K_Lsign ?A_Llegs ?L_Llegs ?C_Llegs ?K_Llegs ?A_Lentries ?L_Lentries ?C_Lentries ?K_Lentries ?A_Lheld ?L_Lheld ?C_Lheld ?K_Lheld ?A_law ?L_law ?C_law ?K_law ?A_STEPS ?D_STEPS ?Y_STEPS ?lo_STEPS ?ke_STEPS ?N_STEPS_0 ?V_STEPS_0 ?N_STEPS_1 ?V_STEPS_1 ?N_STEPS_2 ?V_STEPS_2 ?N_STEPS_3 ?V_STEPS_3 ?A_SMALL ?A_GREAT ?A_LONGEST ?A_WORDS_ALONE ?V_WORDS_ALONE ?A_WORDS_BEHIND_A_FACE ?V_WORDS_BEHIND_A_FACE ?Z_abs ?Z_all ?Z_any ?Z_bool ?Z_enumerate ?Z_int ?Z_isinstance ?Z_len ?Z_list ?Z_range ?Z_str ?Z_tuple ?Z_zip ?A_NoLot ?A_BadLog ?A_NoDealing ?A_BadBox ?A_NoName ?A_Twice ?A_NoWalker ?A_NeedleError ?ic_NoLot ?ty_NoLot ?su_NoLot ?ne_NoLot ?ic_BadLog ?ty_BadLog ?su_BadLog ?ic_NoDealing ?ty_NoDealing ?su_NoDealing ?ne_NoDealing ?ic_BadBox ?ty_BadBox ?su_BadBox ?ne_BadBox ?ic_NoName ?ty_NoName ?su_NoName ?ne_NoName ?ic_Twice ?ty_Twice ?su_Twice ?ne_Twice ?ic_NoWalker ?ty_NoWalker ?su_NoWalker ?ne_NoWalker ?ic_NeedleError ?ty_NeedleError ?su_NeedleError ?ne_NeedleError ?Z_ValueError ?su_VE ?X_D ?bm_ok ?sa_D ?ga_D ?gg_D ?no_name ?no_at ?I_D ?t_init ?L_init ?C_init ?K_init ?k_D ?e_D ?h_D ?ca_D ?cn_D ?ct_D ?cm_D
    (case A_is_whole => k_is); (case L_is_whole => k_is); (case C_is_whole => k_is); (case K_is_whole => k_is); (case A_is_row => k_is); (case L_is_row => k_is); (case C_is_row => k_is); (case K_is_row => k_is); (case A_laid_out => k_is); (case L_laid_out => k_is); (case C_laid_out => k_is); (case K_laid_out => k_is); (case A_kept => k_is); (case L_kept => k_is); (case C_kept => k_is); (case K_kept => k_is); (case A_is_letter => k_is); (case L_is_letter => k_is); (case C_is_letter => k_is); (case K_is_letter => k_is); (case A_is_short_text => k_is); (case L_is_short_text => k_is); (case C_is_short_text => k_is); (case K_is_short_text => k_is); (case A_are_small => k_is); (case L_are_small => k_is); (case C_are_small => k_is); (case K_are_small => k_is); (case A_is_name => k_is); (case L_is_name => k_is); (case C_is_name => k_is); (case K_is_name => k_is); (case A_is_lone => k_is); (case L_is_lone => k_is); (case C_is_lone => k_is); (case K_is_lone => k_is); (case A_is_sign => k_is); (case L_is_sign => k_is); (case C_is_sign => k_is); (case K_is_sign => k_is); (case A_is_many => k_is); (case L_is_many => k_is); (case C_is_many => k_is); (case K_is_many => k_is); (case A_is_pair_entry => k_is); (case L_is_pair_entry => k_is); (case C_is_pair_entry => k_is); (case K_is_pair_entry => k_is); (case A_is_entry => k_is); (case L_is_entry => k_is); (case C_is_entry => k_is); (case K_is_entry => k_is); (case A_held_log => k_is); (case L_held_log => k_is); (case C_held_log => k_is); (case K_held_log => k_is); (case A_legs_in => k_is); (case L_legs_in => k_is); (case C_legs_in => k_is); (case K_legs_in => k_is); (case A_Lany_entry => k_is); (case L_Lany_entry => k_is); (case C_Lany_entry => k_is); (case K_Lany_entry => k_is); (case A_Lany_log => k_is); (case L_Lany_log => k_is); (case C_Lany_log => k_is); (case K_Lany_log => k_is); (case A_Lis_name => k_is); (case L_Lis_name => k_is); (case C_Lis_name => k_is); (case K_Lis_name => k_is); (case A_Lis_sign => k_is); (case L_Lis_sign => k_is); (case C_Lis_sign => k_is); (case K_Lis_sign => k_is); (case A_Lis_many => k_is); (case L_Lis_many => k_is); (case C_Lis_many => k_is); (case K_Lis_many => k_is); (case A_Lis_entry => k_is); (case L_Lis_entry => k_is); (case C_Lis_entry => k_is); (case K_Lis_entry => k_is); (case A_Lbad_at => k_is); (case L_Lbad_at => k_is); (case C_Lbad_at => k_is); (case K_Lbad_at => k_is); (case A_Llisted => k_is); (case L_Llisted => k_is); (case C_Llisted => k_is); (case K_Llisted => k_is); (case A_Lown => k_is); (case L_Lown => k_is); (case C_Lown => k_is); (case K_Lown => k_is); (case A_Lpool => k_is); (case L_Lpool => k_is); (case C_Lpool => k_is); (case K_Lpool => k_is); (case A_Ltake => k_is); (case L_Ltake => k_is); (case C_Ltake => k_is); (case K_Ltake => k_is); (case A_Lwhole => k_is); (case L_Lwhole => k_is); (case C_Lwhole => k_is); (case K_Lwhole => k_is); (case A_Lsame => k_is); (case L_Lsame => k_is); (case C_Lsame => k_is); (case K_Lsame => k_is); (case A_Lname => k_is); (case L_Lname => k_is); (case C_Lname => k_is); (case K_Lname => k_is); (case A_Lsign => k_is); (case L_Lsign => k_is); (case C_Lsign => k_is); (case K_Lsign => k_is); (case A_Llegs => k_is); (case L_Llegs => k_is); (case C_Llegs => k_is); (case K_Llegs => k_is); (case A_Lentries => k_is); (case L_Lentries => k_is); (case C_Lentries => k_is); (case K_Lentries => k_is); (case A_Lheld => k_is); (case L_Lheld => k_is); (case C_Lheld => k_is); (case K_Lheld => k_is); (case A_law => k_is); (case L_law => k_is); (case C_law => k_is); (case K_law => k_is); (case A_STEPS => k_is); (case D_STEPS => k_is); (case Y_STEPS => k_keys); (case lo_STEPS => first | rfl | decide +kernel); (case ke_STEPS => exact ⟨⟨_, rfl⟩, ⟨_, rfl⟩, ⟨_, rfl⟩, ⟨_, rfl⟩, True.intro⟩); (case N_STEPS_0 => k_is); (case V_STEPS_0 => k_is); (case N_STEPS_1 => k_is); (case V_STEPS_1 => k_is); (case N_STEPS_2 => k_is); (case V_STEPS_2 => k_is); (case N_STEPS_3 => k_is); (case V_STEPS_3 => k_is); (case A_SMALL => k_is); (case A_GREAT => k_is); (case A_LONGEST => k_is); (case A_WORDS_ALONE => k_is); (case V_WORDS_ALONE => k_is); (case A_WORDS_BEHIND_A_FACE => k_is); (case V_WORDS_BEHIND_A_FACE => k_is); (case Z_abs => k_is); (case Z_all => k_is); (case Z_any => k_is); (case Z_bool => k_is); (case Z_enumerate => k_is); (case Z_int => k_is); (case Z_isinstance => k_is); (case Z_len => k_is); (case Z_list => k_is); (case Z_range => k_is); (case Z_str => k_is); (case Z_tuple => k_is); (case Z_zip => k_is); (case A_NoLot => k_is); (case A_BadLog => k_is); (case A_NoDealing => k_is); (case A_BadBox => k_is); (case A_NoName => k_is); (case A_Twice => k_is); (case A_NoWalker => k_is); (case A_NeedleError => k_is); (case ic_NoLot => k_is); (case ty_NoLot => k_is); (case su_NoLot => first | rfl | k_is); (case ne_NoLot => first | rfl | decide +kernel); (case ic_BadLog => k_is); (case ty_BadLog => k_is); (case su_BadLog => first | rfl | k_is); (case ic_NoDealing => k_is); (case ty_NoDealing => k_is); (case su_NoDealing => first | rfl | k_is); (case ne_NoDealing => first | rfl | decide +kernel); (case ic_BadBox => k_is); (case ty_BadBox => k_is); (case su_BadBox => first | rfl | k_is); (case ne_BadBox => first | rfl | decide +kernel); (case ic_NoName => k_is); (case ty_NoName => k_is); (case su_NoName => first | rfl | k_is); (case ne_NoName => first | rfl | decide +kernel); (case ic_Twice => k_is); (case ty_Twice => k_is); (case su_Twice => first | rfl | k_is); (case ne_Twice => first | rfl | decide +kernel); (case ic_NoWalker => k_is); (case ty_NoWalker => k_is); (case su_NoWalker => first | rfl | k_is); (case ne_NoWalker => first | rfl | decide +kernel); (case ic_NeedleError => k_is); (case ty_NeedleError => k_is); (case su_NeedleError => first | rfl | k_is); (case ne_NeedleError => first | rfl | decide +kernel); (case Z_ValueError => k_is); (case su_VE => k_is); (case X_D => k_is); (case bm_ok => decide +kernel); (case sa_D => k_is); (case ga_D => k_is); (case gg_D => k_is); (case no_name => k_is); (case no_at => k_is); (case I_D => k_is); (case t_init => k_is); (case L_init => k_is); (case C_init => k_is); (case K_init => k_is); (case k_D => k_is); (case e_D => k_is); (case h_D => k_is); (case ca_D => k_is); (case cn_D => k_is); (case ct_D => k_is); (case cm_D => k_is)
